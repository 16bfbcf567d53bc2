/- Where pages lead: the program's PageAddrs. -/
import Derived.Test.YtjeohndfgamiaaaGreatDoorPgA1Pk
namespace Go.Proofs.YtjeohndfgamiaaaGreatDoor.PgA
open Go.RowKit Go.Proofs.YtjeohndfgamiaaaGreatDoor.EscM Go.Proofs.YtjeohndfgamiaaaGreatDoor.St Go.Proofs.YtjeohndfgamiaaaGreatDoor.AddrM Go.Proofs.YtjeohndfgamiaaaGreatDoor.ReadM Go.Proofs.YtjeohndfgamiaaaGreatDoor.EscL Go.Proofs.YtjeohndfgamiaaaGreatDoor.Ad1 Go.Proofs.YtjeohndfgamiaaaGreatDoor.Dr Go.Proofs.YtjeohndfgamiaaaGreatDoor.Im Go.Proofs.YtjeohndfgamiaaaGreatDoor.Rd1 Go.Proofs.YtjeohndfgamiaaaGreatDoor.Door Go.Proofs.YtjeohndfgamiaaaGreatDoor.JnM Go.Proofs.YtjeohndfgamiaaaGreatDoor.Jn Go.Proofs.YtjeohndfgamiaaaGreatDoor.PgM Go.Proofs.YtjeohndfgamiaaaGreatDoor.RB Go.Proofs.YtjeohndfgamiaaaGreatDoor.Pg

set_option maxRecDepth 100000 in
set_option maxHeartbeats 6400000 in
theorem implPage_any (A : Ad) (t : ByteArray) (a0 : Option Addr) (cap : Nat) (w : World) (hM : Mx w) (hS : IsStrs w a0 cap A.parts) (hB : bulkA A ≤ 1000) (ht : t.size ≤ 4194304) (ha : asciiB t = true) :
    Calls Tryz.prog 7 #[.agg #[.string A.house, .slice a0 A.parts.length cap, .bool A.asks, .string A.ask], .string t] w fun e w' => ∃ v, e = .returned v ∧ Owns w' w.heap.size v (pageF A t) ∧ Below w.heap.size w w' := by
  obtain ⟨i0, hi, hz0, hz1, hz2⟩ := info_parts Tryz.infoS
  have hb4 : bulkA A ≤ 4194304 := by omega
  have HS : Hid (IsStrs (w.alloc (.cells #[.string A.house, .slice a0 A.parts.length cap, .bool A.asks, .string A.ask] 25)) a0 cap A.parts) := hS.keep (alloc_keep _ _)
  have HM : Hid (Mx (w.alloc (.cells #[.string A.house, .slice a0 A.parts.length cap, .bool A.asks, .string A.ask] 25))) := hM.alloc _
  have HB0 : Hid (Below w.heap.size w (w.alloc (.cells #[.string A.house, .slice a0 A.parts.length cap, .bool A.asks, .string A.ask] 25))) := (Below.refl _ w).alloc (Nat.le_refl _) _
  have HX0 : Hid (Box (w.alloc (.cells #[.string A.house, .slice a0 A.parts.length cap, .bool A.asks, .string A.ask] 25)) w.heap.size (.string A.house) (.slice a0 A.parts.length cap) (.bool A.asks) (.string A.ask)) := heap_new w _
  have htm : t.size ≤ maxLen := by unfold maxLen; omega
  have HAS : Hid _ := ha
  clear hS hM ha
  go_enter Tryz.func7, Tryz.ntmps7
  go_wp2_with fail
  refine (implOk_any A a0 cap _ HS.out hb4).mono ?_
  rintro e w1 ⟨rfl, hb1⟩
  have HS1 : Hid (IsStrs w1 a0 cap A.parts) := HS.out.below hb1
  have HM1 : Hid (Mx w1) := HM.out.below hb1
  have HB1 : Hid (Below w.heap.size w w1) := HB0.out.trans (hb1.mono HB0.out.size)
  have HX1 : Hid (Box w1 w.heap.size (.string A.house) (.slice a0 A.parts.length cap) (.bool A.asks) (.string A.ask)) := HX0.out.grown (grown_of_below none hb1) (by simp)
  clear hb1 HS HM HB0 HX0
  have hx := HX1.out
  obtain ⟨⟨c0, c1, c2, c3⟩, _⟩ := hx.cells
  clear hx
  cases hok : okB A with
  | false =>
    have HF : Hid _ := page_bad (t := t) hok
    clear hok
    go_wp2
    go_ret
    exact ⟨_, rfl, by rw [HF.out]; exact Owns.nil _ _, HB1.out⟩
  | true =>
    have HF : Hid _ := page_ok (t := t) hok
    have HBK : Hid _ := from_bulk (t := t) hok
    clear hok
    go_wp2_with fail
    refine (from_any A t a0 cap _ HM1.out HS1.out hB ht HAS.out).mono ?_
    rintro e w2 ⟨f1, g1, rfl, hS2, hb2⟩
    have HMK : Hid _ := links_ascii HAS.out
    have HLS : Hid _ := links_size t
    have hll := links_len t
    generalize fromF A t = B at *
    have HS2 : Hid (IsStrs (w2.alloc (.cells #[.string B.house, .slice f1 B.parts.length g1, .bool B.asks, .string B.ask] 25)) f1 g1 B.parts) := hS2.keep (alloc_keep _ _)
    have hba := hb2.alloc hb2.size (.cells #[.string B.house, .slice f1 B.parts.length g1, .bool B.asks, .string B.ask] 25)
    have HM2 : Hid (Mx (w2.alloc (.cells #[.string B.house, .slice f1 B.parts.length g1, .bool B.asks, .string B.ask] 25))) := HM1.out.below hba
    have HB2 : Hid (Below w.heap.size w (w2.alloc (.cells #[.string B.house, .slice f1 B.parts.length g1, .bool B.asks, .string B.ask] 25))) := HB1.out.trans (hba.mono HB1.out.size)
    have HX2 : Hid (Box (w2.alloc (.cells #[.string B.house, .slice f1 B.parts.length g1, .bool B.asks, .string B.ask] 25)) w2.heap.size (.string B.house) (.slice f1 B.parts.length g1) (.bool B.asks) (.string B.ask)) := heap_new w2 _
    have hw2 : w.heap.size ≤ w2.heap.size := Nat.le_trans HB1.out.size hb2.size
    obtain ⟨G, hG⟩ : ∃ G, w2.heap.size = G := ⟨_, rfl⟩
    rw [hG] at HX2 hw2
    clear hS2 hb2 hba c0 c1 c2 c3 HX1 HS1 HM1 HB1
    go_wp2_with fail
    refine (implLinks_any t _ htm).mono ?_
    rintro e w3 ⟨v3, rfl, hO3, hb3⟩
    obtain ⟨l1, m1, hv3, hS3⟩ := hO3.strs
    subst hv3
    have HL3 : Hid (IsStrs w3 l1 m1 (linksF t)) := hS3
    have HS3 : Hid (IsStrs w3 f1 g1 B.parts) := HS2.out.below hb3
    have HM3 : Hid (Mx w3) := HM2.out.below hb3
    have HB3 : Hid (Below w.heap.size w w3) := HB2.out.trans (hb3.mono HB2.out.size)
    have HX3 : Hid (Box w3 G (.string B.house) (.slice f1 B.parts.length g1) (.bool B.asks) (.string B.ask)) := HX2.out.grown (grown_of_below none hb3) (by simp)
    have hGw : G < w3.heap.size := HX3.out.lt
    clear hO3 hS3 hb3 HS2 HM2 HB2 HX2
    generalize linksF t = K at *
    go_wp2
    go_loopw [6, 21] (fun v i wr => ∃ k : Nat, k ≤ K.length ∧ i = .int .i64 (k : Int) ∧ Hid (Owns wr w3.heap.size v (pageL B (K.take k))) ∧ Hid (Below w3.heap.size w3 wr)) (fun _ i _ => K.length - (intOf i).toNat)
    case atStart => exact ⟨0, Nat.zero_le _, rfl, Owns.nil _ _, Below.refl _ _⟩
    case round =>
      obtain ⟨k, hk, rfl, HO, HB⟩ := hrel
      by_cases hlt : k < K.length
      · obtain ⟨lb, lo, e1, cl⟩ := (HL3.out.below HB.out).at hlt
        subst e1
        have HXr : Hid (Box wr G (.string B.house) (.slice f1 B.parts.length g1) (.bool B.asks) (.string B.ask)) := HX3.out.grown (grown_of_below none HB.out) (by simp)
        have hx := HXr.out
        obtain ⟨⟨c0, c1, c2, c3⟩, _⟩ := hx.cells
        clear hx
        have hks := HLS.out K[k] (List.getElem_mem _)
        have HKA : Hid (ascii K[k]) := HMK.out K[k] (List.getElem_mem _)
        have HSN : Hid _ := page_snoc (B := B) hlt
        have hacc : (pageL B (K.take k)).length ≤ 300 := by
          have := pageL_len B (K.take k) []
          unfold pageL
          simp at this ⊢; omega
        obtain ⟨ao, co, hv, hso⟩ := HO.out.strs
        subst hv
        clear hso
        obtain ⟨acc, hac⟩ : ∃ acc, pageL B (K.take k) = acc := ⟨_, rfl⟩
        rw [hac] at HO HSN hacc
        simp only [hac]
        clear hac
        go_wp2_with fail
        refine (implJoin_page B K[k] f1 g1 _ (HM3.out.below HB.out) (HS3.out.below HB.out) HBK.out hks HKA.out).mono ?_
        rintro e w4 ⟨C, ok, x1, y1, rfl, hans, hOC, hb4'⟩
        have HO4 : Hid (Owns (w4.alloc (.cells #[.string C.house, .slice x1 C.parts.length y1, .bool C.asks, .string C.ask] 25)) w3.heap.size (.slice ao acc.length co) acc) := Owns.keep (Owns.below HO.out hb4') (alloc_keep _ _)
        have HB4 : Hid (Below w3.heap.size w3 (w4.alloc (.cells #[.string C.house, .slice x1 C.parts.length y1, .bool C.asks, .string C.ask] 25))) := (HB.out.trans (hb4'.mono HB.out.size)).alloc (HB.out.trans (hb4'.mono HB.out.size)).size _
        have HSC : Hid (IsStrs (w4.alloc (.cells #[.string C.house, .slice x1 C.parts.length y1, .bool C.asks, .string C.ask] 25)) x1 y1 C.parts) := (Owns.strsOf hOC).keep (alloc_keep _ _)
        clear hOC hb4' c0 c1 c2 c3 cl HXr
        rcases hans with ⟨rfl, hj⟩ | ⟨rfl, hj, rfl⟩
        · have HN : Hid (pageL B (K.take (k + 1)) = putL acc (textF C)) := by show _ = _; rw [HSN.out]; unfold pageStep; rw [hj]
          have hCb : bulkA C ≤ 4194304 := Nat.le_trans (ok_sum (join_ok hj)).2 (by decide)
          clear hj HSN
          go_wp2_with fail
          refine (implAddrText_any C x1 y1 _ HSC.out hCb).mono ?_
          rintro e w5 ⟨rfl, hb5⟩
          have HO5 : Hid (Owns w5 w3.heap.size (.slice ao acc.length co) acc) := Owns.below HO4.out hb5
          have HB5 : Hid (Below w3.heap.size w3 w5) := HB4.out.trans (hb5.mono HB4.out.size)
          clear hb5 HO4 HB4 HSC
          generalize textF C = tx at *
          go_wp2_with fail
          refine (contains_any ao co acc tx _ (Owns.strsOf HO5.out) (by omega)).mono ?_
          rintro e w6 ⟨rfl, n6, hw6⟩
          have HO6 : Hid (Owns w6 w3.heap.size (.slice ao acc.length co) acc) := by rw [hw6]; exact Owns.keep HO5.out fun _ _ => rfl
          have HB6 : Hid (Below w3.heap.size w3 w6) := by rw [hw6]; exact below_drewN HB5.out n6
          clear hw6 HO5 HB5
          cases hh : hasB tx acc with
          | true =>
            have HP : Hid (putL acc tx = acc) := by show _ = _; unfold putL; rw [hh]; rfl
            clear hh
            go_wp2
            go_roundw
            case rel => exact ⟨k + 1, by omega, by go_num, by rw [HN.out, HP.out]; exact HO6, HB6⟩
            case measure => simp [intOf]; omega
          | false =>
            have HP : Hid (putL acc tx = acc ++ [tx]) := by show _ = _; unfold putL; rw [hh]; rfl
            clear hh
            go_wp2_with (at_builtin; refine wpList_append_own _ rfl _ _ 23 rfl w3.heap.size 9 i0 (.string ⟨#[]⟩) 1 16 Tryz.underlying23 hi hz0 hz1 hz2 rfl (by decide) _ _ _ rfl (World.ownsRow.alloc HO6.out _) ⟨w6.heap.size, 0, none⟩ 1 1 [.string tx] rfl rfl (cell_one_new _ _ _) ?c2 ?c3 ?c4 ?c5 ?_)
            case c2 => first | rfl | (intro u hu; simp at hu; subst hu; rfl)
            case c3 => unfold maxLen; omega
            case c4 => omega
            case c5 => have := HB6.out.size; first | omega | (simp; omega)
            intro v' w7 hown' hgrow _
            have HO' : Hid (Owns w7 w3.heap.size v' (acc ++ [tx])) := Owns.append hown'
            have HB7 : Hid (Below w3.heap.size w3 w7) := Below.grown (HB6.out.alloc HB6.out.size _) hgrow (by have := HB6.out.size; simp; omega) (Owns.block HO6.out)
            clear hown' hgrow
            go_wp2
            go_roundw
            case rel => exact ⟨k + 1, by omega, by go_num, by rw [HN.out, HP.out]; exact HO', HB7⟩
            case measure => simp [intOf]; omega
        · have HN : Hid (pageL B (K.take (k + 1)) = acc) := by show _ = _; rw [HSN.out]; unfold pageStep; rw [hj]
          clear hj HSN
          go_wp2
          go_roundw
          case rel => exact ⟨k + 1, by omega, by go_num, by rw [HN.out]; exact HO4, HB4⟩
          case measure => simp [intOf]; omega
      · have HR : Hid (pageF A t = pageL B (K.take k)) := by show _ = _; rw [List.take_of_length_le (by omega)]; exact HF.out
        go_wp2
        go_ret
        exact ⟨_, rfl, by rw [HR.out]; exact Owns.mono HO.out HB3.out.size, HB3.out.trans (HB.out.mono HB3.out.size)⟩
end Go.Proofs.YtjeohndfgamiaaaGreatDoor.PgA
