/- Where pages lead: the model's PageAddrs. -/
import Derived.Test.YtmgcdfmgmpnonaaGreatDoorPgA1Pk
namespace Go.Proofs.YtmgcdfmgmpnonaaGreatDoor.PgA
open Go.RowKit Go.Proofs.YtmgcdfmgmpnonaaGreatDoor.EscM Go.Proofs.YtmgcdfmgmpnonaaGreatDoor.St Go.Proofs.YtmgcdfmgmpnonaaGreatDoor.AddrM Go.Proofs.YtmgcdfmgmpnonaaGreatDoor.ReadM Go.Proofs.YtmgcdfmgmpnonaaGreatDoor.EscL Go.Proofs.YtmgcdfmgmpnonaaGreatDoor.Ad1 Go.Proofs.YtmgcdfmgmpnonaaGreatDoor.Dr Go.Proofs.YtmgcdfmgmpnonaaGreatDoor.Im Go.Proofs.YtmgcdfmgmpnonaaGreatDoor.Rd1 Go.Proofs.YtmgcdfmgmpnonaaGreatDoor.Door Go.Proofs.YtmgcdfmgmpnonaaGreatDoor.JnM Go.Proofs.YtmgcdfmgmpnonaaGreatDoor.Jn Go.Proofs.YtmgcdfmgmpnonaaGreatDoor.PgM Go.Proofs.YtmgcdfmgmpnonaaGreatDoor.RB Go.Proofs.YtmgcdfmgmpnonaaGreatDoor.Pg

theorem from_no {A : Ad} {t : ByteArray} (h : (baseF t).2 = false) : fromF A t = A := by unfold fromF; rw [h]; rfl
theorem from_none {A : Ad} {t : ByteArray} (h : joinF A (baseF t).1.data.toList = none) : fromF A t = A := by unfold fromF; rw [h]; split <;> rfl
theorem from_some {A B : Ad} {t : ByteArray} (h0 : (baseF t).2 = true) (h : joinF A (baseF t).1.data.toList = some B) : fromF A t = B := by unfold fromF; rw [h0, h]; rfl
theorem box_grown_row {w w' : World} {F : Nat} {x0 x1 x2 x3 : Value} {row : Option Nat} (h : Box w F x0 x1 x2 x3) (hg : w.grownBy w' row) (hne : row ≠ some F) : Box w' F x0 x1 x2 x3 := h.grown hg hne

set_option maxRecDepth 100000 in
set_option maxHeartbeats 6400000 in
theorem specPage_any (A : Ad) (t : ByteArray) (a0 : Option Addr) (cap : Nat) (w : World) (hS : IsStrs w a0 cap A.parts) (hB : bulkA A ≤ 1000) (ht : t.size ≤ 4194304) :
    Calls Tryz.prog 140 #[.agg #[.string A.house, .slice a0 A.parts.length cap, .bool A.asks, .string A.ask], .string t] w fun e w' => ∃ v, e = .returned v ∧ Owns w' w.heap.size v (pageF A t) ∧ Below w.heap.size w w' := by
  have hb4 : bulkA A ≤ 4194304 := by omega
  have hbs := base_size t
  have HSB : Hid _ := fun W => specBase_any t W ht
  have HLS : Hid _ := links_size t
  have hll := links_len t
  have HSL : Hid _ := fun W => specLinks_any t W ht
  obtain ⟨F, hF⟩ : ∃ F, w.heap.size = F := ⟨_, rfl⟩
  have hap0 : ∀ a, a0 = some a → A.parts ≠ [] → a.block < F := by
    intro a e hne
    obtain ⟨b, off, e', hc⟩ := hS.2.2.2 hne
    rw [e] at e'; injection e' with e'
    have := St.cell_block (hc 0 (by cases hp : A.parts with | nil => exact absurd hp hne | cons => simp))
    rw [e']; rw [hF] at this; exact this
  have HAP0 : Hid _ := hap0
  have HS0 : Hid (IsStrs ((w.alloc (.cells #[.string A.house, .slice a0 A.parts.length cap, .bool A.asks, .string A.ask] 41)).alloc (.cells #[] 9)) a0 cap A.parts) := hS.keep (fun k hk => by rw [alloc_keep _ _ k (by simp; omega), alloc_keep _ _ k hk])
  have HB0 : Hid (Below w.heap.size w ((w.alloc (.cells #[.string A.house, .slice a0 A.parts.length cap, .bool A.asks, .string A.ask] 41)).alloc (.cells #[] 9))) := ((Below.refl _ w).alloc (Nat.le_refl _) _).alloc (by simp) _
  have HX0 : Hid (Box ((w.alloc (.cells #[.string A.house, .slice a0 A.parts.length cap, .bool A.asks, .string A.ask] 41)).alloc (.cells #[] 9)) F (.string A.house) (.slice a0 A.parts.length cap) (.bool A.asks) (.string A.ask)) := by
    have h := heap_new w (.cells #[.string A.house, .slice a0 A.parts.length cap, .bool A.asks, .string A.ask] 41)
    rw [hF] at h
    exact Box.grown h (grown_alloc _ _ none) (by simp)
  have HO0 : Hid (Owns ((w.alloc (.cells #[.string A.house, .slice a0 A.parts.length cap, .bool A.asks, .string A.ask] 41)).alloc (.cells #[] 9)) (F + 1) (.slice (some ⟨F + 1, 0, none⟩) 0 0) []) := by
    have h := Owns.empty (w.alloc (.cells #[.string A.house, .slice a0 A.parts.length cap, .bool A.asks, .string A.ask] 41)) (F + 1) (by simp; omega)
    simp only [World.size_alloc, hF] at h
    exact h
  clear hS hap0
  go_enter Tryz.func140, Tryz.ntmps140
  go_wp2_with fail
  refine (specOk_any A a0 cap _ HS0.out hb4).mono ?_
  rintro e w1 ⟨rfl, hb⟩
  have HS1 : Hid (IsStrs w1 a0 cap A.parts) := HS0.out.below hb
  have HX1 : Hid (Box w1 F (.string A.house) (.slice a0 A.parts.length cap) (.bool A.asks) (.string A.ask)) := HX0.out.grown (grown_of_below none hb) (by simp)
  have HO1 : Hid (Owns w1 (F + 1) (.slice (some ⟨F + 1, 0, none⟩) 0 0) []) := Owns.below HO0.out hb
  have HB1 : Hid (Below w.heap.size w w1) := HB0.out.trans (hb.mono HB0.out.size)
  clear hb HS0 HX0 HO0 HB0
  cases hok : okB A with
  | false =>
    have HF : Hid _ := page_bad (t := t) hok
    clear hok
    go_wp2
    go_ret
    exact ⟨_, rfl, by rw [HF.out]; exact Owns.mono HO1.out (by omega), HB1.out⟩
  | true =>
    have HF : Hid _ := page_ok (t := t) hok
    have HBK : Hid _ := from_bulk (t := t) hok
    clear hok
    go_wp2_with fail
    refine (HSB.out _).mono ?_
    rintro e w2 ⟨rfl, hb⟩
    have HS2 : Hid (IsStrs w2 a0 cap A.parts) := HS1.out.below hb
    have HX2 : Hid (Box w2 F (.string A.house) (.slice a0 A.parts.length cap) (.bool A.asks) (.string A.ask)) := HX1.out.grown (grown_of_below none hb) (by simp)
    have HO2 : Hid (Owns w2 (F + 1) (.slice (some ⟨F + 1, 0, none⟩) 0 0) []) := Owns.below HO1.out hb
    have HB2 : Hid (Below w.heap.size w w2) := HB1.out.trans (hb.mono HB1.out.size)
    have hFw2 : F < w2.heap.size := HX2.out.lt
    have hFo2 : F + 1 < w2.heap.size := (World.ownsRow.lt HO2.out (F + 1) rfl).2
    clear hb HS1 HX1 HO1 HB1
    have hx := HX2.out
    obtain ⟨⟨c0, c1, c2, c3⟩, cz⟩ := hx.cells
    clear hx
    cases htold : (baseF t).2 with
    | false =>
      have HE : Hid (fromF A t = A) := from_no htold
      have HXz : Hid (Box w2 F (.string A.house) (.slice a0 A.parts.length cap) (.bool A.asks) (.string A.ask)) := HX2
      have HSz : Hid (IsStrs w2 a0 cap A.parts) := HS2
      have HOz : Hid (Owns w2 (F + 1) (.slice (some ⟨F + 1, 0, none⟩) 0 0) []) := HO2
      have HBz : Hid (Below w.heap.size w w2) := HB2
      have HZz : Hid (F + 1 < w2.heap.size) := hFo2
      have HAPz : Hid (∀ a, a0 = some a → A.parts ≠ [] → a.block ≠ F + 1 ∧ a.block < w2.heap.size) := fun a e hne => by have := HAP0.out a e hne; omega
      clear htold
      rw [HE.out] at HF HBK
      go_wp2_with fail
      refine (HSL.out _).mono ?_
      rintro e w4 ⟨v4, rfl, hO4, hb⟩
      obtain ⟨l1, m1, hv4, hS4⟩ := hO4.strs
      subst hv4
      have HL4 : Hid (IsStrs w4 l1 m1 (linksF t)) := hS4
      have HLO4 : Hid (∀ a, l1 = some a → linksF t ≠ [] → F + 1 < a.block ∧ a.block < w4.heap.size) := by
        intro a e hne
        obtain ⟨b, off, e', hc⟩ := hS4.2.2.2 hne
        have hg := Owns.block hO4 a.block (by rw [e]; rfl)
        have := St.cell_block (hc 0 (by cases hp : linksF t with | nil => exact absurd hp hne | cons => simp))
        rw [e] at e'; injection e' with e'
        have hz := HZz.out
        rw [e'] at hg ⊢
        exact ⟨by omega, this⟩
      have HS4 : Hid (IsStrs w4 a0 cap A.parts) := HSz.out.below hb
      have HX4 : Hid (Box w4 F (.string A.house) (.slice a0 A.parts.length cap) (.bool A.asks) (.string A.ask)) := HXz.out.grown (grown_of_below none hb) (by simp)
      have HO4 : Hid (Owns w4 (F + 1) (.slice (some ⟨F + 1, 0, none⟩) 0 0) []) := Owns.below HOz.out hb
      have HB4 : Hid (Below w.heap.size w w4) := HBz.out.trans (hb.mono HBz.out.size)
      have HAP4 : Hid (∀ a, a0 = some a → A.parts ≠ [] → a.block ≠ F + 1 ∧ a.block < w4.heap.size) := fun a e hne => ⟨(HAPz.out a e hne).1, Nat.lt_of_lt_of_le (HAPz.out a e hne).2 hb.size⟩
      clear hO4 hS4 hb HSz HXz HOz HBz HAPz
      generalize linksF t = K at *
      go_wp2
      go_loopw [5, 11] (fun v i wr => ∃ k : Nat, k ≤ K.length ∧ i = .int .i64 (k : Int) ∧ Hid (Owns wr (F + 1) v (pageL A (K.take k))) ∧ Hid (Box wr F (.string A.house) (.slice a0 A.parts.length cap) (.bool A.asks) (.string A.ask)) ∧ Hid (IsStrs wr a0 cap A.parts) ∧ Hid (IsStrs wr l1 m1 K) ∧ Hid (Below w.heap.size w wr) ∧ Hid (w4.heap.size ≤ wr.heap.size) ∧ Hid (v.ownBlock = some (F + 1) ∨ ∃ g, v.ownBlock = some g ∧ w4.heap.size ≤ g)) (fun _ i _ => K.length - (intOf i).toNat)
      case atStart => exact ⟨0, Nat.zero_le _, rfl, HO4, HX4, HS4, HL4, HB4, Nat.le_refl _, Or.inl rfl⟩
      case round =>
        obtain ⟨k, hk, rfl, HO, HX, HS, HL, HB, HSZ, HV⟩ := hrel
        by_cases hlt : k < K.length
        · obtain ⟨lb, lo, e1, cl⟩ := HL.out.at hlt
          subst e1
          have hx := HX.out
          obtain ⟨⟨c0, c1, c2, c3⟩, _⟩ := hx.cells
          clear hx
          have hks := HLS.out K[k] (List.getElem_mem _)
          have HSN : Hid _ := page_snoc (B := A) hlt
          have hacc : (pageL A (K.take k)).length ≤ 300 := by
            have := pageL_len A (K.take k) []
            unfold pageL
            simp at this ⊢; omega
          obtain ⟨acc, hac⟩ : ∃ acc, pageL A (K.take k) = acc := ⟨_, rfl⟩
          rw [hac] at HO HSN hacc
          clear hac
          have hFr : F < wr.heap.size := HX.out.lt
          have n0 : wr.drew.cell? ⟨F, 0, none⟩ = some (.string A.house) := c0
          have n1 : wr.drew.cell? ⟨F, 1, none⟩ = some (.slice a0 A.parts.length cap) := c1
          have n2 : wr.drew.cell? ⟨F, 2, none⟩ = some (.bool A.asks) := c2
          have n3 : wr.drew.cell? ⟨F, 3, none⟩ = some (.string A.ask) := c3
          have nl : wr.drew.cell? ⟨lb, lo + k, none⟩ = some (.string K[k]) := cl
          have hlr : lb < wr.heap.size := St.cell_block cl
          have hFd : F < wr.drew.heap.size := hFr
          have hld : lb < wr.drew.heap.size := hlr
          go_wp2
          go_region_with (first
            | (go_at_call 169
               first
                | (refine (specJoin_page A K[k] a0 cap wr.drew (HS.out.below ((Below.refl _ wr).drew)) HBK.out hks).mono ?_
                   rintro e w5 ⟨C, ok, x1, y1, rfl, hans, hOC, hb⟩
                   have HANS : Hid (Ans (joinF A K[k].data.toList) C ok) := hans
                   have HBD : Hid (Below wr.heap.size wr w5) := Below.trans ((Below.refl _ wr).drew) (hb.mono (by simp))
                   have hz5 := HBD.out.size
                   have HOC : Hid (Owns w5 wr.heap.size (.slice x1 C.parts.length y1) C.parts) := Owns.mono hOC (by simp)
                   clear hans hOC hb)
                | (refine (specJoin_page A K[k] a0 cap (wr.alloc (.cells #[.string ⟨#[]⟩, .slice none 0 0, .bool false, .string ⟨#[]⟩] 41)).drew (HS.out.below (((Below.refl _ wr).alloc (Nat.le_refl _) _).drew)) HBK.out hks).mono ?_
                   rintro e w5 ⟨C, ok, x1, y1, rfl, hans, hOC, hb⟩
                   have HANS : Hid (Ans (joinF A K[k].data.toList) C ok) := hans
                   have HBD : Hid (Below wr.heap.size wr w5) := Below.trans (((Below.refl _ wr).alloc (Nat.le_refl _) _).drew) (hb.mono (by simp))
                   have hz5 := HBD.out.size
                   have HOC : Hid (Owns w5 (wr.heap.size + 1) (.slice x1 C.parts.length y1) C.parts) := Owns.mono hOC (by simp)
                   have HZ5 : Hid (Box w5 wr.heap.size (.string ⟨#[]⟩) (.slice none 0 0) (.bool false) (.string ⟨#[]⟩)) := Box.grown (Box.heapEq (heap_new wr _) rfl) (grown_of_below none hb) (by simp)
                   have hpz := HZ5.out
                   obtain ⟨⟨z0', z1', z2', z3'⟩, zf⟩ := hpz.cells
                   clear hpz
                   clear hans hOC hb)
                | (refine (specJoin_page A K[k] a0 cap (wr.drew.alloc (.cells #[.string ⟨#[]⟩, .slice none 0 0, .bool false, .string ⟨#[]⟩] 41)) (HS.out.below (((Below.refl _ wr).drew).alloc (Nat.le_refl _) _)) HBK.out hks).mono ?_
                   rintro e w5 ⟨C, ok, x1, y1, rfl, hans, hOC, hb⟩
                   have HANS : Hid (Ans (joinF A K[k].data.toList) C ok) := hans
                   have HBD : Hid (Below wr.heap.size wr w5) := Below.trans (((Below.refl _ wr).drew).alloc (Nat.le_refl _) _) (hb.mono (by simp))
                   have hz5 := HBD.out.size
                   have HOC : Hid (Owns w5 (wr.heap.size + 1) (.slice x1 C.parts.length y1) C.parts) := Owns.mono hOC (by simp)
                   have HZ5 : Hid (Box w5 wr.heap.size (.string ⟨#[]⟩) (.slice none 0 0) (.bool false) (.string ⟨#[]⟩)) := Box.grown (heap_new wr.drew _) (grown_of_below none hb) (by simp)
                   have hpz := HZ5.out
                   obtain ⟨⟨z0', z1', z2', z3'⟩, zf⟩ := hpz.cells
                   clear hpz
                   clear hans hOC hb)
                | fail)
            | fail)
          all_goals (
            clear n0 n1 n2 n3 nl c0 c1 c2 c3 cl
            first
              | (have HBS : Hid (Below wr.heap.size wr ((((w5.setCell ⟨wr.heap.size, 0, none⟩ (.string C.house)).setCell ⟨wr.heap.size, 1, none⟩ (.slice x1 C.parts.length y1)).setCell ⟨wr.heap.size, 2, none⟩ (.bool C.asks)).setCell ⟨wr.heap.size, 3, none⟩ (.string C.ask))) := by
                   show Below _ _ _
                   iterate 4 refine Below.setCell ?_ (by dsimp only; omega) _
                   exact HBD.out
                 have HSC : Hid (IsStrs ((((w5.setCell ⟨wr.heap.size, 0, none⟩ (.string C.house)).setCell ⟨wr.heap.size, 1, none⟩ (.slice x1 C.parts.length y1)).setCell ⟨wr.heap.size, 2, none⟩ (.bool C.asks)).setCell ⟨wr.heap.size, 3, none⟩ (.string C.ask)) x1 y1 C.parts) := by
                   refine Owns.strsOf (base := wr.heap.size + 1) (n := C.parts.length) ?_
                   iterate 4 refine ownsRow_setCell_below ?_ (by dsimp only; omega) _
                   exact HOC.out
                 have HXC : Hid (Box ((((w5.setCell ⟨wr.heap.size, 0, none⟩ (.string C.house)).setCell ⟨wr.heap.size, 1, none⟩ (.slice x1 C.parts.length y1)).setCell ⟨wr.heap.size, 2, none⟩ (.bool C.asks)).setCell ⟨wr.heap.size, 3, none⟩ (.string C.ask)) wr.heap.size (.string C.house) (.slice x1 C.parts.length y1) (.bool C.asks) (.string C.ask)) := Box.set3 (Box.set2 (Box.set1 (Box.set0 HZ5.out _) _) _) _
                 have HO5 : Hid (Owns ((((w5.setCell ⟨wr.heap.size, 0, none⟩ (.string C.house)).setCell ⟨wr.heap.size, 1, none⟩ (.slice x1 C.parts.length y1)).setCell ⟨wr.heap.size, 2, none⟩ (.bool C.asks)).setCell ⟨wr.heap.size, 3, none⟩ (.string C.ask)) (F + 1) u5 acc) := Owns.below HO.out HBS.out
                 have HX5 : Hid (Box ((((w5.setCell ⟨wr.heap.size, 0, none⟩ (.string C.house)).setCell ⟨wr.heap.size, 1, none⟩ (.slice x1 C.parts.length y1)).setCell ⟨wr.heap.size, 2, none⟩ (.bool C.asks)).setCell ⟨wr.heap.size, 3, none⟩ (.string C.ask)) F (.string A.house) (.slice a0 A.parts.length cap) (.bool A.asks) (.string A.ask)) := HX.out.grown (grown_of_below none HBS.out) (by simp)
                 have HS5 : Hid (IsStrs ((((w5.setCell ⟨wr.heap.size, 0, none⟩ (.string C.house)).setCell ⟨wr.heap.size, 1, none⟩ (.slice x1 C.parts.length y1)).setCell ⟨wr.heap.size, 2, none⟩ (.bool C.asks)).setCell ⟨wr.heap.size, 3, none⟩ (.string C.ask)) a0 cap A.parts) := HS.out.below HBS.out
                 have HL5 : Hid (IsStrs ((((w5.setCell ⟨wr.heap.size, 0, none⟩ (.string C.house)).setCell ⟨wr.heap.size, 1, none⟩ (.slice x1 C.parts.length y1)).setCell ⟨wr.heap.size, 2, none⟩ (.bool C.asks)).setCell ⟨wr.heap.size, 3, none⟩ (.string C.ask)) (some ⟨lb, lo, none⟩) m1 K) := HL.out.below HBS.out
                 have HB5 : Hid (Below w.heap.size w ((((w5.setCell ⟨wr.heap.size, 0, none⟩ (.string C.house)).setCell ⟨wr.heap.size, 1, none⟩ (.slice x1 C.parts.length y1)).setCell ⟨wr.heap.size, 2, none⟩ (.bool C.asks)).setCell ⟨wr.heap.size, 3, none⟩ (.string C.ask))) := HB.out.trans (HBS.out.mono HB.out.size)
                 have HSZ5 : Hid (w4.heap.size ≤ (((((w5.setCell ⟨wr.heap.size, 0, none⟩ (.string C.house)).setCell ⟨wr.heap.size, 1, none⟩ (.slice x1 C.parts.length y1)).setCell ⟨wr.heap.size, 2, none⟩ (.bool C.asks)).setCell ⟨wr.heap.size, 3, none⟩ (.string C.ask))).heap.size) := Nat.le_trans HSZ.out HBS.out.size
                 have hx := HXC.out
                 obtain ⟨⟨c0, c1, c2, c3⟩, _⟩ := hx.cells
                 clear hx
                 have hpa := HANS.out
                 rcases hpa with ⟨rfl, hj⟩ | ⟨rfl, hj, rfl⟩
                 · have HN : Hid (pageL A (K.take (k + 1)) = putL acc (textF C)) := by show _ = _; rw [HSN.out]; unfold pageStep; rw [hj]
                   have hCb : bulkA C ≤ 4194304 := Nat.le_trans (ok_sum (join_ok hj)).2 (by decide)
                   clear hj
                   go_wp2_with fail
                   refine (specAddrText_any C x1 y1 _ HSC.out hCb).mono ?_
                   rintro e w6 ⟨rfl, hb⟩
                   have HO6 : Hid (Owns w6 (F + 1) u5 acc) := Owns.below HO5.out hb
                   have HX6 : Hid (Box w6 F (.string A.house) (.slice a0 A.parts.length cap) (.bool A.asks) (.string A.ask)) := HX5.out.grown (grown_of_below none hb) (by simp)
                   have HS6 : Hid (IsStrs w6 a0 cap A.parts) := HS5.out.below hb
                   have HL6 : Hid (IsStrs w6 (some ⟨lb, lo, none⟩) m1 K) := HL5.out.below hb
                   have HB6 : Hid (Below w.heap.size w w6) := HB5.out.trans (hb.mono HB5.out.size)
                   have HSZ6 : Hid (w4.heap.size ≤ w6.heap.size) := Nat.le_trans HSZ5.out hb.size
                   clear hb c0 c1 c2 c3
                   have hbd6 : F + 1 ≤ w6.heap.size := by have := HX6.out.lt; omega
                   generalize textF C = tx at *
                   go_wp2_with fail
                   refine (put_any (F + 1) u5 acc tx _ HO6.out hbd6 (by omega)).mono ?_
                   rintro e w7 ⟨v7, rfl, hO7, hg7, hv7⟩
                   have HV7 : Hid (v7.ownBlock = some (F + 1) ∨ ∃ g, v7.ownBlock = some g ∧ w4.heap.size ≤ g) := by
                     rcases hv7 with h | ⟨g, h, hg⟩
                     · rw [h]; exact HV.out
                     · exact Or.inr ⟨g, h, Nat.le_trans HSZ6.out hg⟩
                   have HO7 : Hid (Owns w7 (F + 1) v7 (putL acc tx)) := hO7
                   have HX7 : Hid (Box w7 F (.string A.house) (.slice a0 A.parts.length cap) (.bool A.asks) (.string A.ask)) := box_grown_row HX6.out hg7 (by intro e; have := Owns.block HO6.out F e; omega)
                   have HS7 : Hid (IsStrs w7 a0 cap A.parts) := by
                     by_cases hne : A.parts = []
                     · rw [hne]; have := HS6.out; rw [hne] at this; exact ⟨this.1, this.2.1, this.2.2.1, fun h => absurd rfl h⟩
                     · refine strs_apart HS6.out hg7 fun a e => ?_
                       have h1 := HAP4.out a e hne
                       rcases HV.out with h | ⟨g, h, hg⟩
                       · rw [h]; intro e'; injection e' with e'; exact h1.1 e'.symm
                       · rw [h]; intro e'; injection e' with e'; omega
                   have HL7 : Hid (IsStrs w7 (some ⟨lb, lo, none⟩) m1 K) := by
                     refine strs_apart HL6.out hg7 fun a e => ?_
                     have h1 := HLO4.out a e (by intro e'; rw [e'] at hlt; simp at hlt)
                     rcases HV.out with h | ⟨g, h, hg⟩
                     · rw [h]; intro e'; injection e' with e'; omega
                     · rw [h]; intro e'; injection e' with e'; omega
                   have HB7 : Hid (Below w.heap.size w w7) := HB6.out.trans (grown_low w.heap.size hg7 (by omega) (fun k hk => by have := Owns.block HO6.out k hk; omega))
                   have HSZ7 : Hid (w4.heap.size ≤ w7.heap.size) := Nat.le_trans HSZ6.out hg7.size
                   clear hO7 hg7 hv7
                   go_wp2
                   go_roundw
                   case rel => exact ⟨k + 1, by omega, by go_num, by rw [HN.out]; exact HO7, HX7, HS7, HL7, HB7, HSZ7, HV7⟩
                   case measure => simp [intOf]; omega
                 · have HN : Hid (pageL A (K.take (k + 1)) = acc) := by show _ = _; rw [HSN.out]; unfold pageStep; rw [hj]
                   clear hj c0 c1 c2 c3
                   go_wp2
                   go_roundw
                   case rel => exact ⟨k + 1, by omega, by go_num, by rw [HN.out]; exact HO5, HX5, HS5, HL5, HB5, HSZ5, HV⟩
                   case measure => simp [intOf]; omega)
              | (have HBS : Hid (Below wr.heap.size wr (w5.alloc (.cells #[.string C.house, .slice x1 C.parts.length y1, .bool C.asks, .string C.ask] 41))) := HBD.out.alloc HBD.out.size _
                 have HSC : Hid (IsStrs (w5.alloc (.cells #[.string C.house, .slice x1 C.parts.length y1, .bool C.asks, .string C.ask] 41)) x1 y1 C.parts) := (Owns.strsOf HOC.out).keep (alloc_keep _ _)
                 have HXC : Hid (Box (w5.alloc (.cells #[.string C.house, .slice x1 C.parts.length y1, .bool C.asks, .string C.ask] 41)) w5.heap.size (.string C.house) (.slice x1 C.parts.length y1) (.bool C.asks) (.string C.ask)) := heap_new w5 _
                 have HO5 : Hid (Owns (w5.alloc (.cells #[.string C.house, .slice x1 C.parts.length y1, .bool C.asks, .string C.ask] 41)) (F + 1) u5 acc) := Owns.below HO.out HBS.out
                 have HX5 : Hid (Box (w5.alloc (.cells #[.string C.house, .slice x1 C.parts.length y1, .bool C.asks, .string C.ask] 41)) F (.string A.house) (.slice a0 A.parts.length cap) (.bool A.asks) (.string A.ask)) := HX.out.grown (grown_of_below none HBS.out) (by simp)
                 have HS5 : Hid (IsStrs (w5.alloc (.cells #[.string C.house, .slice x1 C.parts.length y1, .bool C.asks, .string C.ask] 41)) a0 cap A.parts) := HS.out.below HBS.out
                 have HL5 : Hid (IsStrs (w5.alloc (.cells #[.string C.house, .slice x1 C.parts.length y1, .bool C.asks, .string C.ask] 41)) (some ⟨lb, lo, none⟩) m1 K) := HL.out.below HBS.out
                 have HB5 : Hid (Below w.heap.size w (w5.alloc (.cells #[.string C.house, .slice x1 C.parts.length y1, .bool C.asks, .string C.ask] 41))) := HB.out.trans (HBS.out.mono HB.out.size)
                 have HSZ5 : Hid (w4.heap.size ≤ ((w5.alloc (.cells #[.string C.house, .slice x1 C.parts.length y1, .bool C.asks, .string C.ask] 41))).heap.size) := Nat.le_trans HSZ.out HBS.out.size
                 have hx := HXC.out
                 obtain ⟨⟨c0, c1, c2, c3⟩, _⟩ := hx.cells
                 clear hx
                 have hpa := HANS.out
                 rcases hpa with ⟨rfl, hj⟩ | ⟨rfl, hj, rfl⟩
                 · have HN : Hid (pageL A (K.take (k + 1)) = putL acc (textF C)) := by show _ = _; rw [HSN.out]; unfold pageStep; rw [hj]
                   have hCb : bulkA C ≤ 4194304 := Nat.le_trans (ok_sum (join_ok hj)).2 (by decide)
                   clear hj
                   go_wp2_with fail
                   refine (specAddrText_any C x1 y1 _ HSC.out hCb).mono ?_
                   rintro e w6 ⟨rfl, hb⟩
                   have HO6 : Hid (Owns w6 (F + 1) u5 acc) := Owns.below HO5.out hb
                   have HX6 : Hid (Box w6 F (.string A.house) (.slice a0 A.parts.length cap) (.bool A.asks) (.string A.ask)) := HX5.out.grown (grown_of_below none hb) (by simp)
                   have HS6 : Hid (IsStrs w6 a0 cap A.parts) := HS5.out.below hb
                   have HL6 : Hid (IsStrs w6 (some ⟨lb, lo, none⟩) m1 K) := HL5.out.below hb
                   have HB6 : Hid (Below w.heap.size w w6) := HB5.out.trans (hb.mono HB5.out.size)
                   have HSZ6 : Hid (w4.heap.size ≤ w6.heap.size) := Nat.le_trans HSZ5.out hb.size
                   clear hb c0 c1 c2 c3
                   have hbd6 : F + 1 ≤ w6.heap.size := by have := HX6.out.lt; omega
                   generalize textF C = tx at *
                   go_wp2_with fail
                   refine (put_any (F + 1) u5 acc tx _ HO6.out hbd6 (by omega)).mono ?_
                   rintro e w7 ⟨v7, rfl, hO7, hg7, hv7⟩
                   have HV7 : Hid (v7.ownBlock = some (F + 1) ∨ ∃ g, v7.ownBlock = some g ∧ w4.heap.size ≤ g) := by
                     rcases hv7 with h | ⟨g, h, hg⟩
                     · rw [h]; exact HV.out
                     · exact Or.inr ⟨g, h, Nat.le_trans HSZ6.out hg⟩
                   have HO7 : Hid (Owns w7 (F + 1) v7 (putL acc tx)) := hO7
                   have HX7 : Hid (Box w7 F (.string A.house) (.slice a0 A.parts.length cap) (.bool A.asks) (.string A.ask)) := box_grown_row HX6.out hg7 (by intro e; have := Owns.block HO6.out F e; omega)
                   have HS7 : Hid (IsStrs w7 a0 cap A.parts) := by
                     by_cases hne : A.parts = []
                     · rw [hne]; have := HS6.out; rw [hne] at this; exact ⟨this.1, this.2.1, this.2.2.1, fun h => absurd rfl h⟩
                     · refine strs_apart HS6.out hg7 fun a e => ?_
                       have h1 := HAP4.out a e hne
                       rcases HV.out with h | ⟨g, h, hg⟩
                       · rw [h]; intro e'; injection e' with e'; exact h1.1 e'.symm
                       · rw [h]; intro e'; injection e' with e'; omega
                   have HL7 : Hid (IsStrs w7 (some ⟨lb, lo, none⟩) m1 K) := by
                     refine strs_apart HL6.out hg7 fun a e => ?_
                     have h1 := HLO4.out a e (by intro e'; rw [e'] at hlt; simp at hlt)
                     rcases HV.out with h | ⟨g, h, hg⟩
                     · rw [h]; intro e'; injection e' with e'; omega
                     · rw [h]; intro e'; injection e' with e'; omega
                   have HB7 : Hid (Below w.heap.size w w7) := HB6.out.trans (grown_low w.heap.size hg7 (by omega) (fun k hk => by have := Owns.block HO6.out k hk; omega))
                   have HSZ7 : Hid (w4.heap.size ≤ w7.heap.size) := Nat.le_trans HSZ6.out hg7.size
                   clear hO7 hg7 hv7
                   go_wp2
                   go_roundw
                   case rel => exact ⟨k + 1, by omega, by go_num, by rw [HN.out]; exact HO7, HX7, HS7, HL7, HB7, HSZ7, HV7⟩
                   case measure => simp [intOf]; omega
                 · have HN : Hid (pageL A (K.take (k + 1)) = acc) := by show _ = _; rw [HSN.out]; unfold pageStep; rw [hj]
                   clear hj c0 c1 c2 c3
                   go_wp2
                   go_roundw
                   case rel => exact ⟨k + 1, by omega, by go_num, by rw [HN.out]; exact HO5, HX5, HS5, HL5, HB5, HSZ5, HV⟩
                   case measure => simp [intOf]; omega)
              | fail)

        · have HR : Hid (pageF A t = pageL A (K.take k)) := by show _ = _; rw [List.take_of_length_le (by omega)]; exact HF.out
          go_wp2
          go_ret
          exact ⟨_, rfl, by rw [HR.out]; exact Owns.mono HO.out (by omega), HB.out⟩
    | true =>
      have HTO : Hid _ := htold
      clear htold
      go_wp2_with fail
      refine (specJoin_page A (baseF t).1 a0 cap _ HS2.out hB hbs).mono ?_
      rintro e w3 ⟨B, ok, f1, g1, rfl, hans, hO, hb⟩
      have hba := hb.alloc hb.size (.cells #[.string B.house, .slice f1 B.parts.length g1, .bool B.asks, .string B.ask] 41)
      have HX3 : Hid (Box (w3.alloc (.cells #[.string B.house, .slice f1 B.parts.length g1, .bool B.asks, .string B.ask] 41)) F (.string A.house) (.slice a0 A.parts.length cap) (.bool A.asks) (.string A.ask)) := HX2.out.grown (grown_of_below none hba) (by simp)
      have HY3 : Hid (Box (w3.alloc (.cells #[.string B.house, .slice f1 B.parts.length g1, .bool B.asks, .string B.ask] 41)) w3.heap.size (.string B.house) (.slice f1 B.parts.length g1) (.bool B.asks) (.string B.ask)) := heap_new w3 _
      have HO3 : Hid (Owns (w3.alloc (.cells #[.string B.house, .slice f1 B.parts.length g1, .bool B.asks, .string B.ask] 41)) (F + 1) (.slice (some ⟨F + 1, 0, none⟩) 0 0) []) := Owns.below HO2.out hba
      have HB3 : Hid (Below w.heap.size w (w3.alloc (.cells #[.string B.house, .slice f1 B.parts.length g1, .bool B.asks, .string B.ask] 41))) := HB2.out.trans (hba.mono HB2.out.size)
      have HSA3 : Hid (IsStrs (w3.alloc (.cells #[.string B.house, .slice f1 B.parts.length g1, .bool B.asks, .string B.ask] 41)) a0 cap A.parts) := HS2.out.below hba
      have HOB3 : Hid (Owns (w3.alloc (.cells #[.string B.house, .slice f1 B.parts.length g1, .bool B.asks, .string B.ask] 41)) w2.heap.size (.slice f1 B.parts.length g1) B.parts) := Owns.keep hO (alloc_keep _ _)
      have hz3 : w2.heap.size ≤ w3.heap.size := hb.size
      clear hb hba hO c0 c1 c2 c3 cz HX2 HO2 HB2
      have hx := HX3.out
      obtain ⟨⟨c0, c1, c2, c3⟩, cz⟩ := hx.cells
      clear hx
      have hy := HY3.out
      obtain ⟨⟨d0, d1, d2, d3⟩, _⟩ := hy.cells
      clear hy
      rcases hans with ⟨rfl, hj⟩ | ⟨rfl, hj, rfl⟩
      · have HE : Hid (fromF A t = B) := from_some HTO.out hj
        have HXz : Hid (Box (((((w3.alloc (.cells #[.string B.house, .slice f1 B.parts.length g1, .bool B.asks, .string B.ask] 41)).setCell ⟨F, 0, none⟩ (.string B.house)).setCell ⟨F, 1, none⟩ (.slice f1 B.parts.length g1)).setCell ⟨F, 2, none⟩ (.bool B.asks)).setCell ⟨F, 3, none⟩ (.string B.ask)) F (.string B.house) (.slice f1 B.parts.length g1) (.bool B.asks) (.string B.ask)) := Box.set3 (Box.set2 (Box.set1 (Box.set0 HX3.out _) _) _) _
        have HSz : Hid (IsStrs (((((w3.alloc (.cells #[.string B.house, .slice f1 B.parts.length g1, .bool B.asks, .string B.ask] 41)).setCell ⟨F, 0, none⟩ (.string B.house)).setCell ⟨F, 1, none⟩ (.slice f1 B.parts.length g1)).setCell ⟨F, 2, none⟩ (.bool B.asks)).setCell ⟨F, 3, none⟩ (.string B.ask)) f1 g1 B.parts) := by
          refine Owns.strsOf (base := w2.heap.size) (n := B.parts.length) ?_
          iterate 4 refine ownsRow_setCell_below ?_ (by dsimp only; omega) _
          exact HOB3.out
        have HOz : Hid (Owns (((((w3.alloc (.cells #[.string B.house, .slice f1 B.parts.length g1, .bool B.asks, .string B.ask] 41)).setCell ⟨F, 0, none⟩ (.string B.house)).setCell ⟨F, 1, none⟩ (.slice f1 B.parts.length g1)).setCell ⟨F, 2, none⟩ (.bool B.asks)).setCell ⟨F, 3, none⟩ (.string B.ask)) (F + 1) (.slice (some ⟨F + 1, 0, none⟩) 0 0) []) := by
          show Owns _ _ _ _
          iterate 4 refine ownsRow_setCell_below ?_ (by dsimp only; omega) _
          exact HO3.out
        have HBz : Hid (Below w.heap.size w (((((w3.alloc (.cells #[.string B.house, .slice f1 B.parts.length g1, .bool B.asks, .string B.ask] 41)).setCell ⟨F, 0, none⟩ (.string B.house)).setCell ⟨F, 1, none⟩ (.slice f1 B.parts.length g1)).setCell ⟨F, 2, none⟩ (.bool B.asks)).setCell ⟨F, 3, none⟩ (.string B.ask))) := by
          show Below _ _ _
          iterate 4 refine Below.setCell ?_ (by dsimp only; omega) _
          exact HB3.out
        have hszt : (((((w3.alloc (.cells #[.string B.house, .slice f1 B.parts.length g1, .bool B.asks, .string B.ask] 41)).setCell ⟨F, 0, none⟩ (.string B.house)).setCell ⟨F, 1, none⟩ (.slice f1 B.parts.length g1)).setCell ⟨F, 2, none⟩ (.bool B.asks)).setCell ⟨F, 3, none⟩ (.string B.ask)).heap.size = w3.heap.size + 1 := by simp [World.setCell]
        have HSZT : Hid _ := hszt
        have HZz : Hid (F + 1 < (((((w3.alloc (.cells #[.string B.house, .slice f1 B.parts.length g1, .bool B.asks, .string B.ask] 41)).setCell ⟨F, 0, none⟩ (.string B.house)).setCell ⟨F, 1, none⟩ (.slice f1 B.parts.length g1)).setCell ⟨F, 2, none⟩ (.bool B.asks)).setCell ⟨F, 3, none⟩ (.string B.ask)).heap.size) := by show _ < _; rw [hszt]; omega
        have HAPz : Hid (∀ a, f1 = some a → B.parts ≠ [] → a.block ≠ F + 1 ∧ a.block < (((((w3.alloc (.cells #[.string B.house, .slice f1 B.parts.length g1, .bool B.asks, .string B.ask] 41)).setCell ⟨F, 0, none⟩ (.string B.house)).setCell ⟨F, 1, none⟩ (.slice f1 B.parts.length g1)).setCell ⟨F, 2, none⟩ (.bool B.asks)).setCell ⟨F, 3, none⟩ (.string B.ask)).heap.size) := by
          intro a e hne
          have hg := Owns.block HOB3.out a.block (by rw [e]; rfl)
          have hl := (World.ownsRow.lt HOB3.out a.block (by rw [e]; rfl)).2
          rw [HSZT.out]
          simp at hl
          exact ⟨by omega, hl⟩
        clear hszt hj
        rw [HE.out] at HF HBK
        go_wp2_with fail
        refine (HSL.out _).mono ?_
        rintro e w4 ⟨v4, rfl, hO4, hb⟩
        obtain ⟨l1, m1, hv4, hS4⟩ := hO4.strs
        subst hv4
        have HL4 : Hid (IsStrs w4 l1 m1 (linksF t)) := hS4
        have HLO4 : Hid (∀ a, l1 = some a → linksF t ≠ [] → F + 1 < a.block ∧ a.block < w4.heap.size) := by
          intro a e hne
          obtain ⟨b, off, e', hc⟩ := hS4.2.2.2 hne
          have hg := Owns.block hO4 a.block (by rw [e]; rfl)
          have := St.cell_block (hc 0 (by cases hp : linksF t with | nil => exact absurd hp hne | cons => simp))
          rw [e] at e'; injection e' with e'
          have hz := HZz.out
          rw [e'] at hg ⊢
          exact ⟨by omega, this⟩
        have HS4 : Hid (IsStrs w4 f1 g1 B.parts) := HSz.out.below hb
        have HX4 : Hid (Box w4 F (.string B.house) (.slice f1 B.parts.length g1) (.bool B.asks) (.string B.ask)) := HXz.out.grown (grown_of_below none hb) (by simp)
        have HO4 : Hid (Owns w4 (F + 1) (.slice (some ⟨F + 1, 0, none⟩) 0 0) []) := Owns.below HOz.out hb
        have HB4 : Hid (Below w.heap.size w w4) := HBz.out.trans (hb.mono HBz.out.size)
        have HAP4 : Hid (∀ a, f1 = some a → B.parts ≠ [] → a.block ≠ F + 1 ∧ a.block < w4.heap.size) := fun a e hne => ⟨(HAPz.out a e hne).1, Nat.lt_of_lt_of_le (HAPz.out a e hne).2 hb.size⟩
        clear hO4 hS4 hb HSz HXz HOz HBz HAPz
        generalize linksF t = K at *
        go_wp2
        go_loopw [5, 11] (fun v i wr => ∃ k : Nat, k ≤ K.length ∧ i = .int .i64 (k : Int) ∧ Hid (Owns wr (F + 1) v (pageL B (K.take k))) ∧ Hid (Box wr F (.string B.house) (.slice f1 B.parts.length g1) (.bool B.asks) (.string B.ask)) ∧ Hid (IsStrs wr f1 g1 B.parts) ∧ Hid (IsStrs wr l1 m1 K) ∧ Hid (Below w.heap.size w wr) ∧ Hid (w4.heap.size ≤ wr.heap.size) ∧ Hid (v.ownBlock = some (F + 1) ∨ ∃ g, v.ownBlock = some g ∧ w4.heap.size ≤ g)) (fun _ i _ => K.length - (intOf i).toNat)
        case atStart => exact ⟨0, Nat.zero_le _, rfl, HO4, HX4, HS4, HL4, HB4, Nat.le_refl _, Or.inl rfl⟩
        case round =>
          obtain ⟨k, hk, rfl, HO, HX, HS, HL, HB, HSZ, HV⟩ := hrel
          by_cases hlt : k < K.length
          · obtain ⟨lb, lo, e1, cl⟩ := HL.out.at hlt
            subst e1
            have hx := HX.out
            obtain ⟨⟨c0, c1, c2, c3⟩, _⟩ := hx.cells
            clear hx
            have hks := HLS.out K[k] (List.getElem_mem _)
            have HSN : Hid _ := page_snoc (B := B) hlt
            have hacc : (pageL B (K.take k)).length ≤ 300 := by
              have := pageL_len B (K.take k) []
              unfold pageL
              simp at this ⊢; omega
            obtain ⟨acc, hac⟩ : ∃ acc, pageL B (K.take k) = acc := ⟨_, rfl⟩
            rw [hac] at HO HSN hacc
            clear hac
            have hFr : F < wr.heap.size := HX.out.lt
            have n0 : wr.drew.cell? ⟨F, 0, none⟩ = some (.string B.house) := c0
            have n1 : wr.drew.cell? ⟨F, 1, none⟩ = some (.slice f1 B.parts.length g1) := c1
            have n2 : wr.drew.cell? ⟨F, 2, none⟩ = some (.bool B.asks) := c2
            have n3 : wr.drew.cell? ⟨F, 3, none⟩ = some (.string B.ask) := c3
            have nl : wr.drew.cell? ⟨lb, lo + k, none⟩ = some (.string K[k]) := cl
            have hlr : lb < wr.heap.size := St.cell_block cl
            have hFd : F < wr.drew.heap.size := hFr
            have hld : lb < wr.drew.heap.size := hlr
            go_wp2
            go_region_with (first
              | (go_at_call 169
                 first
                  | (refine (specJoin_page B K[k] f1 g1 wr.drew (HS.out.below ((Below.refl _ wr).drew)) HBK.out hks).mono ?_
                     rintro e w5 ⟨C, ok, x1, y1, rfl, hans, hOC, hb⟩
                     have HANS : Hid (Ans (joinF B K[k].data.toList) C ok) := hans
                     have HBD : Hid (Below wr.heap.size wr w5) := Below.trans ((Below.refl _ wr).drew) (hb.mono (by simp))
                     have hz5 := HBD.out.size
                     have HOC : Hid (Owns w5 wr.heap.size (.slice x1 C.parts.length y1) C.parts) := Owns.mono hOC (by simp)
                     clear hans hOC hb)
                  | (refine (specJoin_page B K[k] f1 g1 (wr.alloc (.cells #[.string ⟨#[]⟩, .slice none 0 0, .bool false, .string ⟨#[]⟩] 41)).drew (HS.out.below (((Below.refl _ wr).alloc (Nat.le_refl _) _).drew)) HBK.out hks).mono ?_
                     rintro e w5 ⟨C, ok, x1, y1, rfl, hans, hOC, hb⟩
                     have HANS : Hid (Ans (joinF B K[k].data.toList) C ok) := hans
                     have HBD : Hid (Below wr.heap.size wr w5) := Below.trans (((Below.refl _ wr).alloc (Nat.le_refl _) _).drew) (hb.mono (by simp))
                     have hz5 := HBD.out.size
                     have HOC : Hid (Owns w5 (wr.heap.size + 1) (.slice x1 C.parts.length y1) C.parts) := Owns.mono hOC (by simp)
                     have HZ5 : Hid (Box w5 wr.heap.size (.string ⟨#[]⟩) (.slice none 0 0) (.bool false) (.string ⟨#[]⟩)) := Box.grown (Box.heapEq (heap_new wr _) rfl) (grown_of_below none hb) (by simp)
                     have hpz := HZ5.out
                     obtain ⟨⟨z0', z1', z2', z3'⟩, zf⟩ := hpz.cells
                     clear hpz
                     clear hans hOC hb)
                  | (refine (specJoin_page B K[k] f1 g1 (wr.drew.alloc (.cells #[.string ⟨#[]⟩, .slice none 0 0, .bool false, .string ⟨#[]⟩] 41)) (HS.out.below (((Below.refl _ wr).drew).alloc (Nat.le_refl _) _)) HBK.out hks).mono ?_
                     rintro e w5 ⟨C, ok, x1, y1, rfl, hans, hOC, hb⟩
                     have HANS : Hid (Ans (joinF B K[k].data.toList) C ok) := hans
                     have HBD : Hid (Below wr.heap.size wr w5) := Below.trans (((Below.refl _ wr).drew).alloc (Nat.le_refl _) _) (hb.mono (by simp))
                     have hz5 := HBD.out.size
                     have HOC : Hid (Owns w5 (wr.heap.size + 1) (.slice x1 C.parts.length y1) C.parts) := Owns.mono hOC (by simp)
                     have HZ5 : Hid (Box w5 wr.heap.size (.string ⟨#[]⟩) (.slice none 0 0) (.bool false) (.string ⟨#[]⟩)) := Box.grown (heap_new wr.drew _) (grown_of_below none hb) (by simp)
                     have hpz := HZ5.out
                     obtain ⟨⟨z0', z1', z2', z3'⟩, zf⟩ := hpz.cells
                     clear hpz
                     clear hans hOC hb)
                  | fail)
              | fail)
            all_goals (
              clear n0 n1 n2 n3 nl c0 c1 c2 c3 cl
              first
                | (have HBS : Hid (Below wr.heap.size wr ((((w5.setCell ⟨wr.heap.size, 0, none⟩ (.string C.house)).setCell ⟨wr.heap.size, 1, none⟩ (.slice x1 C.parts.length y1)).setCell ⟨wr.heap.size, 2, none⟩ (.bool C.asks)).setCell ⟨wr.heap.size, 3, none⟩ (.string C.ask))) := by
                     show Below _ _ _
                     iterate 4 refine Below.setCell ?_ (by dsimp only; omega) _
                     exact HBD.out
                   have HSC : Hid (IsStrs ((((w5.setCell ⟨wr.heap.size, 0, none⟩ (.string C.house)).setCell ⟨wr.heap.size, 1, none⟩ (.slice x1 C.parts.length y1)).setCell ⟨wr.heap.size, 2, none⟩ (.bool C.asks)).setCell ⟨wr.heap.size, 3, none⟩ (.string C.ask)) x1 y1 C.parts) := by
                     refine Owns.strsOf (base := wr.heap.size + 1) (n := C.parts.length) ?_
                     iterate 4 refine ownsRow_setCell_below ?_ (by dsimp only; omega) _
                     exact HOC.out
                   have HXC : Hid (Box ((((w5.setCell ⟨wr.heap.size, 0, none⟩ (.string C.house)).setCell ⟨wr.heap.size, 1, none⟩ (.slice x1 C.parts.length y1)).setCell ⟨wr.heap.size, 2, none⟩ (.bool C.asks)).setCell ⟨wr.heap.size, 3, none⟩ (.string C.ask)) wr.heap.size (.string C.house) (.slice x1 C.parts.length y1) (.bool C.asks) (.string C.ask)) := Box.set3 (Box.set2 (Box.set1 (Box.set0 HZ5.out _) _) _) _
                   have HO5 : Hid (Owns ((((w5.setCell ⟨wr.heap.size, 0, none⟩ (.string C.house)).setCell ⟨wr.heap.size, 1, none⟩ (.slice x1 C.parts.length y1)).setCell ⟨wr.heap.size, 2, none⟩ (.bool C.asks)).setCell ⟨wr.heap.size, 3, none⟩ (.string C.ask)) (F + 1) u5 acc) := Owns.below HO.out HBS.out
                   have HX5 : Hid (Box ((((w5.setCell ⟨wr.heap.size, 0, none⟩ (.string C.house)).setCell ⟨wr.heap.size, 1, none⟩ (.slice x1 C.parts.length y1)).setCell ⟨wr.heap.size, 2, none⟩ (.bool C.asks)).setCell ⟨wr.heap.size, 3, none⟩ (.string C.ask)) F (.string B.house) (.slice f1 B.parts.length g1) (.bool B.asks) (.string B.ask)) := HX.out.grown (grown_of_below none HBS.out) (by simp)
                   have HS5 : Hid (IsStrs ((((w5.setCell ⟨wr.heap.size, 0, none⟩ (.string C.house)).setCell ⟨wr.heap.size, 1, none⟩ (.slice x1 C.parts.length y1)).setCell ⟨wr.heap.size, 2, none⟩ (.bool C.asks)).setCell ⟨wr.heap.size, 3, none⟩ (.string C.ask)) f1 g1 B.parts) := HS.out.below HBS.out
                   have HL5 : Hid (IsStrs ((((w5.setCell ⟨wr.heap.size, 0, none⟩ (.string C.house)).setCell ⟨wr.heap.size, 1, none⟩ (.slice x1 C.parts.length y1)).setCell ⟨wr.heap.size, 2, none⟩ (.bool C.asks)).setCell ⟨wr.heap.size, 3, none⟩ (.string C.ask)) (some ⟨lb, lo, none⟩) m1 K) := HL.out.below HBS.out
                   have HB5 : Hid (Below w.heap.size w ((((w5.setCell ⟨wr.heap.size, 0, none⟩ (.string C.house)).setCell ⟨wr.heap.size, 1, none⟩ (.slice x1 C.parts.length y1)).setCell ⟨wr.heap.size, 2, none⟩ (.bool C.asks)).setCell ⟨wr.heap.size, 3, none⟩ (.string C.ask))) := HB.out.trans (HBS.out.mono HB.out.size)
                   have HSZ5 : Hid (w4.heap.size ≤ (((((w5.setCell ⟨wr.heap.size, 0, none⟩ (.string C.house)).setCell ⟨wr.heap.size, 1, none⟩ (.slice x1 C.parts.length y1)).setCell ⟨wr.heap.size, 2, none⟩ (.bool C.asks)).setCell ⟨wr.heap.size, 3, none⟩ (.string C.ask))).heap.size) := Nat.le_trans HSZ.out HBS.out.size
                   have hx := HXC.out
                   obtain ⟨⟨c0, c1, c2, c3⟩, _⟩ := hx.cells
                   clear hx
                   have hpa := HANS.out
                   rcases hpa with ⟨rfl, hj⟩ | ⟨rfl, hj, rfl⟩
                   · have HN : Hid (pageL B (K.take (k + 1)) = putL acc (textF C)) := by show _ = _; rw [HSN.out]; unfold pageStep; rw [hj]
                     have hCb : bulkA C ≤ 4194304 := Nat.le_trans (ok_sum (join_ok hj)).2 (by decide)
                     clear hj
                     go_wp2_with fail
                     refine (specAddrText_any C x1 y1 _ HSC.out hCb).mono ?_
                     rintro e w6 ⟨rfl, hb⟩
                     have HO6 : Hid (Owns w6 (F + 1) u5 acc) := Owns.below HO5.out hb
                     have HX6 : Hid (Box w6 F (.string B.house) (.slice f1 B.parts.length g1) (.bool B.asks) (.string B.ask)) := HX5.out.grown (grown_of_below none hb) (by simp)
                     have HS6 : Hid (IsStrs w6 f1 g1 B.parts) := HS5.out.below hb
                     have HL6 : Hid (IsStrs w6 (some ⟨lb, lo, none⟩) m1 K) := HL5.out.below hb
                     have HB6 : Hid (Below w.heap.size w w6) := HB5.out.trans (hb.mono HB5.out.size)
                     have HSZ6 : Hid (w4.heap.size ≤ w6.heap.size) := Nat.le_trans HSZ5.out hb.size
                     clear hb c0 c1 c2 c3
                     have hbd6 : F + 1 ≤ w6.heap.size := by have := HX6.out.lt; omega
                     generalize textF C = tx at *
                     go_wp2_with fail
                     refine (put_any (F + 1) u5 acc tx _ HO6.out hbd6 (by omega)).mono ?_
                     rintro e w7 ⟨v7, rfl, hO7, hg7, hv7⟩
                     have HV7 : Hid (v7.ownBlock = some (F + 1) ∨ ∃ g, v7.ownBlock = some g ∧ w4.heap.size ≤ g) := by
                       rcases hv7 with h | ⟨g, h, hg⟩
                       · rw [h]; exact HV.out
                       · exact Or.inr ⟨g, h, Nat.le_trans HSZ6.out hg⟩
                     have HO7 : Hid (Owns w7 (F + 1) v7 (putL acc tx)) := hO7
                     have HX7 : Hid (Box w7 F (.string B.house) (.slice f1 B.parts.length g1) (.bool B.asks) (.string B.ask)) := box_grown_row HX6.out hg7 (by intro e; have := Owns.block HO6.out F e; omega)
                     have HS7 : Hid (IsStrs w7 f1 g1 B.parts) := by
                       by_cases hne : B.parts = []
                       · rw [hne]; have := HS6.out; rw [hne] at this; exact ⟨this.1, this.2.1, this.2.2.1, fun h => absurd rfl h⟩
                       · refine strs_apart HS6.out hg7 fun a e => ?_
                         have h1 := HAP4.out a e hne
                         rcases HV.out with h | ⟨g, h, hg⟩
                         · rw [h]; intro e'; injection e' with e'; exact h1.1 e'.symm
                         · rw [h]; intro e'; injection e' with e'; omega
                     have HL7 : Hid (IsStrs w7 (some ⟨lb, lo, none⟩) m1 K) := by
                       refine strs_apart HL6.out hg7 fun a e => ?_
                       have h1 := HLO4.out a e (by intro e'; rw [e'] at hlt; simp at hlt)
                       rcases HV.out with h | ⟨g, h, hg⟩
                       · rw [h]; intro e'; injection e' with e'; omega
                       · rw [h]; intro e'; injection e' with e'; omega
                     have HB7 : Hid (Below w.heap.size w w7) := HB6.out.trans (grown_low w.heap.size hg7 (by omega) (fun k hk => by have := Owns.block HO6.out k hk; omega))
                     have HSZ7 : Hid (w4.heap.size ≤ w7.heap.size) := Nat.le_trans HSZ6.out hg7.size
                     clear hO7 hg7 hv7
                     go_wp2
                     go_roundw
                     case rel => exact ⟨k + 1, by omega, by go_num, by rw [HN.out]; exact HO7, HX7, HS7, HL7, HB7, HSZ7, HV7⟩
                     case measure => simp [intOf]; omega
                   · have HN : Hid (pageL B (K.take (k + 1)) = acc) := by show _ = _; rw [HSN.out]; unfold pageStep; rw [hj]
                     clear hj c0 c1 c2 c3
                     go_wp2
                     go_roundw
                     case rel => exact ⟨k + 1, by omega, by go_num, by rw [HN.out]; exact HO5, HX5, HS5, HL5, HB5, HSZ5, HV⟩
                     case measure => simp [intOf]; omega)
                | (have HBS : Hid (Below wr.heap.size wr (w5.alloc (.cells #[.string C.house, .slice x1 C.parts.length y1, .bool C.asks, .string C.ask] 41))) := HBD.out.alloc HBD.out.size _
                   have HSC : Hid (IsStrs (w5.alloc (.cells #[.string C.house, .slice x1 C.parts.length y1, .bool C.asks, .string C.ask] 41)) x1 y1 C.parts) := (Owns.strsOf HOC.out).keep (alloc_keep _ _)
                   have HXC : Hid (Box (w5.alloc (.cells #[.string C.house, .slice x1 C.parts.length y1, .bool C.asks, .string C.ask] 41)) w5.heap.size (.string C.house) (.slice x1 C.parts.length y1) (.bool C.asks) (.string C.ask)) := heap_new w5 _
                   have HO5 : Hid (Owns (w5.alloc (.cells #[.string C.house, .slice x1 C.parts.length y1, .bool C.asks, .string C.ask] 41)) (F + 1) u5 acc) := Owns.below HO.out HBS.out
                   have HX5 : Hid (Box (w5.alloc (.cells #[.string C.house, .slice x1 C.parts.length y1, .bool C.asks, .string C.ask] 41)) F (.string B.house) (.slice f1 B.parts.length g1) (.bool B.asks) (.string B.ask)) := HX.out.grown (grown_of_below none HBS.out) (by simp)
                   have HS5 : Hid (IsStrs (w5.alloc (.cells #[.string C.house, .slice x1 C.parts.length y1, .bool C.asks, .string C.ask] 41)) f1 g1 B.parts) := HS.out.below HBS.out
                   have HL5 : Hid (IsStrs (w5.alloc (.cells #[.string C.house, .slice x1 C.parts.length y1, .bool C.asks, .string C.ask] 41)) (some ⟨lb, lo, none⟩) m1 K) := HL.out.below HBS.out
                   have HB5 : Hid (Below w.heap.size w (w5.alloc (.cells #[.string C.house, .slice x1 C.parts.length y1, .bool C.asks, .string C.ask] 41))) := HB.out.trans (HBS.out.mono HB.out.size)
                   have HSZ5 : Hid (w4.heap.size ≤ ((w5.alloc (.cells #[.string C.house, .slice x1 C.parts.length y1, .bool C.asks, .string C.ask] 41))).heap.size) := Nat.le_trans HSZ.out HBS.out.size
                   have hx := HXC.out
                   obtain ⟨⟨c0, c1, c2, c3⟩, _⟩ := hx.cells
                   clear hx
                   have hpa := HANS.out
                   rcases hpa with ⟨rfl, hj⟩ | ⟨rfl, hj, rfl⟩
                   · have HN : Hid (pageL B (K.take (k + 1)) = putL acc (textF C)) := by show _ = _; rw [HSN.out]; unfold pageStep; rw [hj]
                     have hCb : bulkA C ≤ 4194304 := Nat.le_trans (ok_sum (join_ok hj)).2 (by decide)
                     clear hj
                     go_wp2_with fail
                     refine (specAddrText_any C x1 y1 _ HSC.out hCb).mono ?_
                     rintro e w6 ⟨rfl, hb⟩
                     have HO6 : Hid (Owns w6 (F + 1) u5 acc) := Owns.below HO5.out hb
                     have HX6 : Hid (Box w6 F (.string B.house) (.slice f1 B.parts.length g1) (.bool B.asks) (.string B.ask)) := HX5.out.grown (grown_of_below none hb) (by simp)
                     have HS6 : Hid (IsStrs w6 f1 g1 B.parts) := HS5.out.below hb
                     have HL6 : Hid (IsStrs w6 (some ⟨lb, lo, none⟩) m1 K) := HL5.out.below hb
                     have HB6 : Hid (Below w.heap.size w w6) := HB5.out.trans (hb.mono HB5.out.size)
                     have HSZ6 : Hid (w4.heap.size ≤ w6.heap.size) := Nat.le_trans HSZ5.out hb.size
                     clear hb c0 c1 c2 c3
                     have hbd6 : F + 1 ≤ w6.heap.size := by have := HX6.out.lt; omega
                     generalize textF C = tx at *
                     go_wp2_with fail
                     refine (put_any (F + 1) u5 acc tx _ HO6.out hbd6 (by omega)).mono ?_
                     rintro e w7 ⟨v7, rfl, hO7, hg7, hv7⟩
                     have HV7 : Hid (v7.ownBlock = some (F + 1) ∨ ∃ g, v7.ownBlock = some g ∧ w4.heap.size ≤ g) := by
                       rcases hv7 with h | ⟨g, h, hg⟩
                       · rw [h]; exact HV.out
                       · exact Or.inr ⟨g, h, Nat.le_trans HSZ6.out hg⟩
                     have HO7 : Hid (Owns w7 (F + 1) v7 (putL acc tx)) := hO7
                     have HX7 : Hid (Box w7 F (.string B.house) (.slice f1 B.parts.length g1) (.bool B.asks) (.string B.ask)) := box_grown_row HX6.out hg7 (by intro e; have := Owns.block HO6.out F e; omega)
                     have HS7 : Hid (IsStrs w7 f1 g1 B.parts) := by
                       by_cases hne : B.parts = []
                       · rw [hne]; have := HS6.out; rw [hne] at this; exact ⟨this.1, this.2.1, this.2.2.1, fun h => absurd rfl h⟩
                       · refine strs_apart HS6.out hg7 fun a e => ?_
                         have h1 := HAP4.out a e hne
                         rcases HV.out with h | ⟨g, h, hg⟩
                         · rw [h]; intro e'; injection e' with e'; exact h1.1 e'.symm
                         · rw [h]; intro e'; injection e' with e'; omega
                     have HL7 : Hid (IsStrs w7 (some ⟨lb, lo, none⟩) m1 K) := by
                       refine strs_apart HL6.out hg7 fun a e => ?_
                       have h1 := HLO4.out a e (by intro e'; rw [e'] at hlt; simp at hlt)
                       rcases HV.out with h | ⟨g, h, hg⟩
                       · rw [h]; intro e'; injection e' with e'; omega
                       · rw [h]; intro e'; injection e' with e'; omega
                     have HB7 : Hid (Below w.heap.size w w7) := HB6.out.trans (grown_low w.heap.size hg7 (by omega) (fun k hk => by have := Owns.block HO6.out k hk; omega))
                     have HSZ7 : Hid (w4.heap.size ≤ w7.heap.size) := Nat.le_trans HSZ6.out hg7.size
                     clear hO7 hg7 hv7
                     go_wp2
                     go_roundw
                     case rel => exact ⟨k + 1, by omega, by go_num, by rw [HN.out]; exact HO7, HX7, HS7, HL7, HB7, HSZ7, HV7⟩
                     case measure => simp [intOf]; omega
                   · have HN : Hid (pageL B (K.take (k + 1)) = acc) := by show _ = _; rw [HSN.out]; unfold pageStep; rw [hj]
                     clear hj c0 c1 c2 c3
                     go_wp2
                     go_roundw
                     case rel => exact ⟨k + 1, by omega, by go_num, by rw [HN.out]; exact HO5, HX5, HS5, HL5, HB5, HSZ5, HV⟩
                     case measure => simp [intOf]; omega)
                | fail)

          · have HR : Hid (pageF A t = pageL B (K.take k)) := by show _ = _; rw [List.take_of_length_le (by omega)]; exact HF.out
            go_wp2
            go_ret
            exact ⟨_, rfl, by rw [HR.out]; exact Owns.mono HO.out (by omega), HB.out⟩
      · have HE : Hid (fromF A t = A) := from_none hj
        have HXz : Hid (Box (w3.alloc (.cells #[.string zeroAd.house, .slice f1 zeroAd.parts.length g1, .bool zeroAd.asks, .string zeroAd.ask] 41)) F (.string A.house) (.slice a0 A.parts.length cap) (.bool A.asks) (.string A.ask)) := HX3
        have HSz : Hid (IsStrs (w3.alloc (.cells #[.string zeroAd.house, .slice f1 zeroAd.parts.length g1, .bool zeroAd.asks, .string zeroAd.ask] 41)) a0 cap A.parts) := HSA3
        have HOz : Hid (Owns (w3.alloc (.cells #[.string zeroAd.house, .slice f1 zeroAd.parts.length g1, .bool zeroAd.asks, .string zeroAd.ask] 41)) (F + 1) (.slice (some ⟨F + 1, 0, none⟩) 0 0) []) := HO3
        have HBz : Hid (Below w.heap.size w (w3.alloc (.cells #[.string zeroAd.house, .slice f1 zeroAd.parts.length g1, .bool zeroAd.asks, .string zeroAd.ask] 41))) := HB3
        have HZz : Hid (F + 1 < (w3.alloc (.cells #[.string zeroAd.house, .slice f1 zeroAd.parts.length g1, .bool zeroAd.asks, .string zeroAd.ask] 41)).heap.size) := by show _ < _; simp; omega
        have HAPz : Hid (∀ a, a0 = some a → A.parts ≠ [] → a.block ≠ F + 1 ∧ a.block < (w3.alloc (.cells #[.string zeroAd.house, .slice f1 zeroAd.parts.length g1, .bool zeroAd.asks, .string zeroAd.ask] 41)).heap.size) := fun a e hne => by have := HAP0.out a e hne; simp; omega
        clear hj
        rw [HE.out] at HF HBK
        go_wp2_with fail
        refine (HSL.out _).mono ?_
        rintro e w4 ⟨v4, rfl, hO4, hb⟩
        obtain ⟨l1, m1, hv4, hS4⟩ := hO4.strs
        subst hv4
        have HL4 : Hid (IsStrs w4 l1 m1 (linksF t)) := hS4
        have HLO4 : Hid (∀ a, l1 = some a → linksF t ≠ [] → F + 1 < a.block ∧ a.block < w4.heap.size) := by
          intro a e hne
          obtain ⟨b, off, e', hc⟩ := hS4.2.2.2 hne
          have hg := Owns.block hO4 a.block (by rw [e]; rfl)
          have := St.cell_block (hc 0 (by cases hp : linksF t with | nil => exact absurd hp hne | cons => simp))
          rw [e] at e'; injection e' with e'
          have hz := HZz.out
          rw [e'] at hg ⊢
          exact ⟨by omega, this⟩
        have HS4 : Hid (IsStrs w4 a0 cap A.parts) := HSz.out.below hb
        have HX4 : Hid (Box w4 F (.string A.house) (.slice a0 A.parts.length cap) (.bool A.asks) (.string A.ask)) := HXz.out.grown (grown_of_below none hb) (by simp)
        have HO4 : Hid (Owns w4 (F + 1) (.slice (some ⟨F + 1, 0, none⟩) 0 0) []) := Owns.below HOz.out hb
        have HB4 : Hid (Below w.heap.size w w4) := HBz.out.trans (hb.mono HBz.out.size)
        have HAP4 : Hid (∀ a, a0 = some a → A.parts ≠ [] → a.block ≠ F + 1 ∧ a.block < w4.heap.size) := fun a e hne => ⟨(HAPz.out a e hne).1, Nat.lt_of_lt_of_le (HAPz.out a e hne).2 hb.size⟩
        clear hO4 hS4 hb HSz HXz HOz HBz HAPz
        generalize linksF t = K at *
        go_wp2
        go_loopw [5, 11] (fun v i wr => ∃ k : Nat, k ≤ K.length ∧ i = .int .i64 (k : Int) ∧ Hid (Owns wr (F + 1) v (pageL A (K.take k))) ∧ Hid (Box wr F (.string A.house) (.slice a0 A.parts.length cap) (.bool A.asks) (.string A.ask)) ∧ Hid (IsStrs wr a0 cap A.parts) ∧ Hid (IsStrs wr l1 m1 K) ∧ Hid (Below w.heap.size w wr) ∧ Hid (w4.heap.size ≤ wr.heap.size) ∧ Hid (v.ownBlock = some (F + 1) ∨ ∃ g, v.ownBlock = some g ∧ w4.heap.size ≤ g)) (fun _ i _ => K.length - (intOf i).toNat)
        case atStart => exact ⟨0, Nat.zero_le _, rfl, HO4, HX4, HS4, HL4, HB4, Nat.le_refl _, Or.inl rfl⟩
        case round =>
          obtain ⟨k, hk, rfl, HO, HX, HS, HL, HB, HSZ, HV⟩ := hrel
          by_cases hlt : k < K.length
          · obtain ⟨lb, lo, e1, cl⟩ := HL.out.at hlt
            subst e1
            have hx := HX.out
            obtain ⟨⟨c0, c1, c2, c3⟩, _⟩ := hx.cells
            clear hx
            have hks := HLS.out K[k] (List.getElem_mem _)
            have HSN : Hid _ := page_snoc (B := A) hlt
            have hacc : (pageL A (K.take k)).length ≤ 300 := by
              have := pageL_len A (K.take k) []
              unfold pageL
              simp at this ⊢; omega
            obtain ⟨acc, hac⟩ : ∃ acc, pageL A (K.take k) = acc := ⟨_, rfl⟩
            rw [hac] at HO HSN hacc
            clear hac
            have hFr : F < wr.heap.size := HX.out.lt
            have n0 : wr.drew.cell? ⟨F, 0, none⟩ = some (.string A.house) := c0
            have n1 : wr.drew.cell? ⟨F, 1, none⟩ = some (.slice a0 A.parts.length cap) := c1
            have n2 : wr.drew.cell? ⟨F, 2, none⟩ = some (.bool A.asks) := c2
            have n3 : wr.drew.cell? ⟨F, 3, none⟩ = some (.string A.ask) := c3
            have nl : wr.drew.cell? ⟨lb, lo + k, none⟩ = some (.string K[k]) := cl
            have hlr : lb < wr.heap.size := St.cell_block cl
            have hFd : F < wr.drew.heap.size := hFr
            have hld : lb < wr.drew.heap.size := hlr
            go_wp2
            go_region_with (first
              | (go_at_call 169
                 first
                  | (refine (specJoin_page A K[k] a0 cap wr.drew (HS.out.below ((Below.refl _ wr).drew)) HBK.out hks).mono ?_
                     rintro e w5 ⟨C, ok, x1, y1, rfl, hans, hOC, hb⟩
                     have HANS : Hid (Ans (joinF A K[k].data.toList) C ok) := hans
                     have HBD : Hid (Below wr.heap.size wr w5) := Below.trans ((Below.refl _ wr).drew) (hb.mono (by simp))
                     have hz5 := HBD.out.size
                     have HOC : Hid (Owns w5 wr.heap.size (.slice x1 C.parts.length y1) C.parts) := Owns.mono hOC (by simp)
                     clear hans hOC hb)
                  | (refine (specJoin_page A K[k] a0 cap (wr.alloc (.cells #[.string ⟨#[]⟩, .slice none 0 0, .bool false, .string ⟨#[]⟩] 41)).drew (HS.out.below (((Below.refl _ wr).alloc (Nat.le_refl _) _).drew)) HBK.out hks).mono ?_
                     rintro e w5 ⟨C, ok, x1, y1, rfl, hans, hOC, hb⟩
                     have HANS : Hid (Ans (joinF A K[k].data.toList) C ok) := hans
                     have HBD : Hid (Below wr.heap.size wr w5) := Below.trans (((Below.refl _ wr).alloc (Nat.le_refl _) _).drew) (hb.mono (by simp))
                     have hz5 := HBD.out.size
                     have HOC : Hid (Owns w5 (wr.heap.size + 1) (.slice x1 C.parts.length y1) C.parts) := Owns.mono hOC (by simp)
                     have HZ5 : Hid (Box w5 wr.heap.size (.string ⟨#[]⟩) (.slice none 0 0) (.bool false) (.string ⟨#[]⟩)) := Box.grown (Box.heapEq (heap_new wr _) rfl) (grown_of_below none hb) (by simp)
                     have hpz := HZ5.out
                     obtain ⟨⟨z0', z1', z2', z3'⟩, zf⟩ := hpz.cells
                     clear hpz
                     clear hans hOC hb)
                  | (refine (specJoin_page A K[k] a0 cap (wr.drew.alloc (.cells #[.string ⟨#[]⟩, .slice none 0 0, .bool false, .string ⟨#[]⟩] 41)) (HS.out.below (((Below.refl _ wr).drew).alloc (Nat.le_refl _) _)) HBK.out hks).mono ?_
                     rintro e w5 ⟨C, ok, x1, y1, rfl, hans, hOC, hb⟩
                     have HANS : Hid (Ans (joinF A K[k].data.toList) C ok) := hans
                     have HBD : Hid (Below wr.heap.size wr w5) := Below.trans (((Below.refl _ wr).drew).alloc (Nat.le_refl _) _) (hb.mono (by simp))
                     have hz5 := HBD.out.size
                     have HOC : Hid (Owns w5 (wr.heap.size + 1) (.slice x1 C.parts.length y1) C.parts) := Owns.mono hOC (by simp)
                     have HZ5 : Hid (Box w5 wr.heap.size (.string ⟨#[]⟩) (.slice none 0 0) (.bool false) (.string ⟨#[]⟩)) := Box.grown (heap_new wr.drew _) (grown_of_below none hb) (by simp)
                     have hpz := HZ5.out
                     obtain ⟨⟨z0', z1', z2', z3'⟩, zf⟩ := hpz.cells
                     clear hpz
                     clear hans hOC hb)
                  | fail)
              | fail)
            all_goals (
              clear n0 n1 n2 n3 nl c0 c1 c2 c3 cl
              first
                | (have HBS : Hid (Below wr.heap.size wr ((((w5.setCell ⟨wr.heap.size, 0, none⟩ (.string C.house)).setCell ⟨wr.heap.size, 1, none⟩ (.slice x1 C.parts.length y1)).setCell ⟨wr.heap.size, 2, none⟩ (.bool C.asks)).setCell ⟨wr.heap.size, 3, none⟩ (.string C.ask))) := by
                     show Below _ _ _
                     iterate 4 refine Below.setCell ?_ (by dsimp only; omega) _
                     exact HBD.out
                   have HSC : Hid (IsStrs ((((w5.setCell ⟨wr.heap.size, 0, none⟩ (.string C.house)).setCell ⟨wr.heap.size, 1, none⟩ (.slice x1 C.parts.length y1)).setCell ⟨wr.heap.size, 2, none⟩ (.bool C.asks)).setCell ⟨wr.heap.size, 3, none⟩ (.string C.ask)) x1 y1 C.parts) := by
                     refine Owns.strsOf (base := wr.heap.size + 1) (n := C.parts.length) ?_
                     iterate 4 refine ownsRow_setCell_below ?_ (by dsimp only; omega) _
                     exact HOC.out
                   have HXC : Hid (Box ((((w5.setCell ⟨wr.heap.size, 0, none⟩ (.string C.house)).setCell ⟨wr.heap.size, 1, none⟩ (.slice x1 C.parts.length y1)).setCell ⟨wr.heap.size, 2, none⟩ (.bool C.asks)).setCell ⟨wr.heap.size, 3, none⟩ (.string C.ask)) wr.heap.size (.string C.house) (.slice x1 C.parts.length y1) (.bool C.asks) (.string C.ask)) := Box.set3 (Box.set2 (Box.set1 (Box.set0 HZ5.out _) _) _) _
                   have HO5 : Hid (Owns ((((w5.setCell ⟨wr.heap.size, 0, none⟩ (.string C.house)).setCell ⟨wr.heap.size, 1, none⟩ (.slice x1 C.parts.length y1)).setCell ⟨wr.heap.size, 2, none⟩ (.bool C.asks)).setCell ⟨wr.heap.size, 3, none⟩ (.string C.ask)) (F + 1) u5 acc) := Owns.below HO.out HBS.out
                   have HX5 : Hid (Box ((((w5.setCell ⟨wr.heap.size, 0, none⟩ (.string C.house)).setCell ⟨wr.heap.size, 1, none⟩ (.slice x1 C.parts.length y1)).setCell ⟨wr.heap.size, 2, none⟩ (.bool C.asks)).setCell ⟨wr.heap.size, 3, none⟩ (.string C.ask)) F (.string A.house) (.slice a0 A.parts.length cap) (.bool A.asks) (.string A.ask)) := HX.out.grown (grown_of_below none HBS.out) (by simp)
                   have HS5 : Hid (IsStrs ((((w5.setCell ⟨wr.heap.size, 0, none⟩ (.string C.house)).setCell ⟨wr.heap.size, 1, none⟩ (.slice x1 C.parts.length y1)).setCell ⟨wr.heap.size, 2, none⟩ (.bool C.asks)).setCell ⟨wr.heap.size, 3, none⟩ (.string C.ask)) a0 cap A.parts) := HS.out.below HBS.out
                   have HL5 : Hid (IsStrs ((((w5.setCell ⟨wr.heap.size, 0, none⟩ (.string C.house)).setCell ⟨wr.heap.size, 1, none⟩ (.slice x1 C.parts.length y1)).setCell ⟨wr.heap.size, 2, none⟩ (.bool C.asks)).setCell ⟨wr.heap.size, 3, none⟩ (.string C.ask)) (some ⟨lb, lo, none⟩) m1 K) := HL.out.below HBS.out
                   have HB5 : Hid (Below w.heap.size w ((((w5.setCell ⟨wr.heap.size, 0, none⟩ (.string C.house)).setCell ⟨wr.heap.size, 1, none⟩ (.slice x1 C.parts.length y1)).setCell ⟨wr.heap.size, 2, none⟩ (.bool C.asks)).setCell ⟨wr.heap.size, 3, none⟩ (.string C.ask))) := HB.out.trans (HBS.out.mono HB.out.size)
                   have HSZ5 : Hid (w4.heap.size ≤ (((((w5.setCell ⟨wr.heap.size, 0, none⟩ (.string C.house)).setCell ⟨wr.heap.size, 1, none⟩ (.slice x1 C.parts.length y1)).setCell ⟨wr.heap.size, 2, none⟩ (.bool C.asks)).setCell ⟨wr.heap.size, 3, none⟩ (.string C.ask))).heap.size) := Nat.le_trans HSZ.out HBS.out.size
                   have hx := HXC.out
                   obtain ⟨⟨c0, c1, c2, c3⟩, _⟩ := hx.cells
                   clear hx
                   have hpa := HANS.out
                   rcases hpa with ⟨rfl, hj⟩ | ⟨rfl, hj, rfl⟩
                   · have HN : Hid (pageL A (K.take (k + 1)) = putL acc (textF C)) := by show _ = _; rw [HSN.out]; unfold pageStep; rw [hj]
                     have hCb : bulkA C ≤ 4194304 := Nat.le_trans (ok_sum (join_ok hj)).2 (by decide)
                     clear hj
                     go_wp2_with fail
                     refine (specAddrText_any C x1 y1 _ HSC.out hCb).mono ?_
                     rintro e w6 ⟨rfl, hb⟩
                     have HO6 : Hid (Owns w6 (F + 1) u5 acc) := Owns.below HO5.out hb
                     have HX6 : Hid (Box w6 F (.string A.house) (.slice a0 A.parts.length cap) (.bool A.asks) (.string A.ask)) := HX5.out.grown (grown_of_below none hb) (by simp)
                     have HS6 : Hid (IsStrs w6 a0 cap A.parts) := HS5.out.below hb
                     have HL6 : Hid (IsStrs w6 (some ⟨lb, lo, none⟩) m1 K) := HL5.out.below hb
                     have HB6 : Hid (Below w.heap.size w w6) := HB5.out.trans (hb.mono HB5.out.size)
                     have HSZ6 : Hid (w4.heap.size ≤ w6.heap.size) := Nat.le_trans HSZ5.out hb.size
                     clear hb c0 c1 c2 c3
                     have hbd6 : F + 1 ≤ w6.heap.size := by have := HX6.out.lt; omega
                     generalize textF C = tx at *
                     go_wp2_with fail
                     refine (put_any (F + 1) u5 acc tx _ HO6.out hbd6 (by omega)).mono ?_
                     rintro e w7 ⟨v7, rfl, hO7, hg7, hv7⟩
                     have HV7 : Hid (v7.ownBlock = some (F + 1) ∨ ∃ g, v7.ownBlock = some g ∧ w4.heap.size ≤ g) := by
                       rcases hv7 with h | ⟨g, h, hg⟩
                       · rw [h]; exact HV.out
                       · exact Or.inr ⟨g, h, Nat.le_trans HSZ6.out hg⟩
                     have HO7 : Hid (Owns w7 (F + 1) v7 (putL acc tx)) := hO7
                     have HX7 : Hid (Box w7 F (.string A.house) (.slice a0 A.parts.length cap) (.bool A.asks) (.string A.ask)) := box_grown_row HX6.out hg7 (by intro e; have := Owns.block HO6.out F e; omega)
                     have HS7 : Hid (IsStrs w7 a0 cap A.parts) := by
                       by_cases hne : A.parts = []
                       · rw [hne]; have := HS6.out; rw [hne] at this; exact ⟨this.1, this.2.1, this.2.2.1, fun h => absurd rfl h⟩
                       · refine strs_apart HS6.out hg7 fun a e => ?_
                         have h1 := HAP4.out a e hne
                         rcases HV.out with h | ⟨g, h, hg⟩
                         · rw [h]; intro e'; injection e' with e'; exact h1.1 e'.symm
                         · rw [h]; intro e'; injection e' with e'; omega
                     have HL7 : Hid (IsStrs w7 (some ⟨lb, lo, none⟩) m1 K) := by
                       refine strs_apart HL6.out hg7 fun a e => ?_
                       have h1 := HLO4.out a e (by intro e'; rw [e'] at hlt; simp at hlt)
                       rcases HV.out with h | ⟨g, h, hg⟩
                       · rw [h]; intro e'; injection e' with e'; omega
                       · rw [h]; intro e'; injection e' with e'; omega
                     have HB7 : Hid (Below w.heap.size w w7) := HB6.out.trans (grown_low w.heap.size hg7 (by omega) (fun k hk => by have := Owns.block HO6.out k hk; omega))
                     have HSZ7 : Hid (w4.heap.size ≤ w7.heap.size) := Nat.le_trans HSZ6.out hg7.size
                     clear hO7 hg7 hv7
                     go_wp2
                     go_roundw
                     case rel => exact ⟨k + 1, by omega, by go_num, by rw [HN.out]; exact HO7, HX7, HS7, HL7, HB7, HSZ7, HV7⟩
                     case measure => simp [intOf]; omega
                   · have HN : Hid (pageL A (K.take (k + 1)) = acc) := by show _ = _; rw [HSN.out]; unfold pageStep; rw [hj]
                     clear hj c0 c1 c2 c3
                     go_wp2
                     go_roundw
                     case rel => exact ⟨k + 1, by omega, by go_num, by rw [HN.out]; exact HO5, HX5, HS5, HL5, HB5, HSZ5, HV⟩
                     case measure => simp [intOf]; omega)
                | (have HBS : Hid (Below wr.heap.size wr (w5.alloc (.cells #[.string C.house, .slice x1 C.parts.length y1, .bool C.asks, .string C.ask] 41))) := HBD.out.alloc HBD.out.size _
                   have HSC : Hid (IsStrs (w5.alloc (.cells #[.string C.house, .slice x1 C.parts.length y1, .bool C.asks, .string C.ask] 41)) x1 y1 C.parts) := (Owns.strsOf HOC.out).keep (alloc_keep _ _)
                   have HXC : Hid (Box (w5.alloc (.cells #[.string C.house, .slice x1 C.parts.length y1, .bool C.asks, .string C.ask] 41)) w5.heap.size (.string C.house) (.slice x1 C.parts.length y1) (.bool C.asks) (.string C.ask)) := heap_new w5 _
                   have HO5 : Hid (Owns (w5.alloc (.cells #[.string C.house, .slice x1 C.parts.length y1, .bool C.asks, .string C.ask] 41)) (F + 1) u5 acc) := Owns.below HO.out HBS.out
                   have HX5 : Hid (Box (w5.alloc (.cells #[.string C.house, .slice x1 C.parts.length y1, .bool C.asks, .string C.ask] 41)) F (.string A.house) (.slice a0 A.parts.length cap) (.bool A.asks) (.string A.ask)) := HX.out.grown (grown_of_below none HBS.out) (by simp)
                   have HS5 : Hid (IsStrs (w5.alloc (.cells #[.string C.house, .slice x1 C.parts.length y1, .bool C.asks, .string C.ask] 41)) a0 cap A.parts) := HS.out.below HBS.out
                   have HL5 : Hid (IsStrs (w5.alloc (.cells #[.string C.house, .slice x1 C.parts.length y1, .bool C.asks, .string C.ask] 41)) (some ⟨lb, lo, none⟩) m1 K) := HL.out.below HBS.out
                   have HB5 : Hid (Below w.heap.size w (w5.alloc (.cells #[.string C.house, .slice x1 C.parts.length y1, .bool C.asks, .string C.ask] 41))) := HB.out.trans (HBS.out.mono HB.out.size)
                   have HSZ5 : Hid (w4.heap.size ≤ ((w5.alloc (.cells #[.string C.house, .slice x1 C.parts.length y1, .bool C.asks, .string C.ask] 41))).heap.size) := Nat.le_trans HSZ.out HBS.out.size
                   have hx := HXC.out
                   obtain ⟨⟨c0, c1, c2, c3⟩, _⟩ := hx.cells
                   clear hx
                   have hpa := HANS.out
                   rcases hpa with ⟨rfl, hj⟩ | ⟨rfl, hj, rfl⟩
                   · have HN : Hid (pageL A (K.take (k + 1)) = putL acc (textF C)) := by show _ = _; rw [HSN.out]; unfold pageStep; rw [hj]
                     have hCb : bulkA C ≤ 4194304 := Nat.le_trans (ok_sum (join_ok hj)).2 (by decide)
                     clear hj
                     go_wp2_with fail
                     refine (specAddrText_any C x1 y1 _ HSC.out hCb).mono ?_
                     rintro e w6 ⟨rfl, hb⟩
                     have HO6 : Hid (Owns w6 (F + 1) u5 acc) := Owns.below HO5.out hb
                     have HX6 : Hid (Box w6 F (.string A.house) (.slice a0 A.parts.length cap) (.bool A.asks) (.string A.ask)) := HX5.out.grown (grown_of_below none hb) (by simp)
                     have HS6 : Hid (IsStrs w6 a0 cap A.parts) := HS5.out.below hb
                     have HL6 : Hid (IsStrs w6 (some ⟨lb, lo, none⟩) m1 K) := HL5.out.below hb
                     have HB6 : Hid (Below w.heap.size w w6) := HB5.out.trans (hb.mono HB5.out.size)
                     have HSZ6 : Hid (w4.heap.size ≤ w6.heap.size) := Nat.le_trans HSZ5.out hb.size
                     clear hb c0 c1 c2 c3
                     have hbd6 : F + 1 ≤ w6.heap.size := by have := HX6.out.lt; omega
                     generalize textF C = tx at *
                     go_wp2_with fail
                     refine (put_any (F + 1) u5 acc tx _ HO6.out hbd6 (by omega)).mono ?_
                     rintro e w7 ⟨v7, rfl, hO7, hg7, hv7⟩
                     have HV7 : Hid (v7.ownBlock = some (F + 1) ∨ ∃ g, v7.ownBlock = some g ∧ w4.heap.size ≤ g) := by
                       rcases hv7 with h | ⟨g, h, hg⟩
                       · rw [h]; exact HV.out
                       · exact Or.inr ⟨g, h, Nat.le_trans HSZ6.out hg⟩
                     have HO7 : Hid (Owns w7 (F + 1) v7 (putL acc tx)) := hO7
                     have HX7 : Hid (Box w7 F (.string A.house) (.slice a0 A.parts.length cap) (.bool A.asks) (.string A.ask)) := box_grown_row HX6.out hg7 (by intro e; have := Owns.block HO6.out F e; omega)
                     have HS7 : Hid (IsStrs w7 a0 cap A.parts) := by
                       by_cases hne : A.parts = []
                       · rw [hne]; have := HS6.out; rw [hne] at this; exact ⟨this.1, this.2.1, this.2.2.1, fun h => absurd rfl h⟩
                       · refine strs_apart HS6.out hg7 fun a e => ?_
                         have h1 := HAP4.out a e hne
                         rcases HV.out with h | ⟨g, h, hg⟩
                         · rw [h]; intro e'; injection e' with e'; exact h1.1 e'.symm
                         · rw [h]; intro e'; injection e' with e'; omega
                     have HL7 : Hid (IsStrs w7 (some ⟨lb, lo, none⟩) m1 K) := by
                       refine strs_apart HL6.out hg7 fun a e => ?_
                       have h1 := HLO4.out a e (by intro e'; rw [e'] at hlt; simp at hlt)
                       rcases HV.out with h | ⟨g, h, hg⟩
                       · rw [h]; intro e'; injection e' with e'; omega
                       · rw [h]; intro e'; injection e' with e'; omega
                     have HB7 : Hid (Below w.heap.size w w7) := HB6.out.trans (grown_low w.heap.size hg7 (by omega) (fun k hk => by have := Owns.block HO6.out k hk; omega))
                     have HSZ7 : Hid (w4.heap.size ≤ w7.heap.size) := Nat.le_trans HSZ6.out hg7.size
                     clear hO7 hg7 hv7
                     go_wp2
                     go_roundw
                     case rel => exact ⟨k + 1, by omega, by go_num, by rw [HN.out]; exact HO7, HX7, HS7, HL7, HB7, HSZ7, HV7⟩
                     case measure => simp [intOf]; omega
                   · have HN : Hid (pageL A (K.take (k + 1)) = acc) := by show _ = _; rw [HSN.out]; unfold pageStep; rw [hj]
                     clear hj c0 c1 c2 c3
                     go_wp2
                     go_roundw
                     case rel => exact ⟨k + 1, by omega, by go_num, by rw [HN.out]; exact HO5, HX5, HS5, HL5, HB5, HSZ5, HV⟩
                     case measure => simp [intOf]; omega)
                | fail)

          · have HR : Hid (pageF A t = pageL A (K.take k)) := by show _ = _; rw [List.take_of_length_le (by omega)]; exact HF.out
            go_wp2
            go_ret
            exact ⟨_, rfl, by rw [HR.out]; exact Owns.mono HO.out (by omega), HB.out⟩
end Go.Proofs.YtmgcdfmgmpnonaaGreatDoor.PgA
