/- The program's AddrJoin, by a text of ASCII bytes. -/
import Derived.Test.YtboncolbijicfaaGreatDoorAnyBPk
import Derived.Test.YtboncolbijicfaaGreatDoorDraw5Pk
namespace Go.Proofs.YtboncolbijicfaaGreatDoor.Im
open Go.RowKit Go.Proofs.YtboncolbijicfaaGreatDoor.EscM Go.Proofs.YtboncolbijicfaaGreatDoor.AddrM Go.Proofs.YtboncolbijicfaaGreatDoor.ReadM Go.Proofs.YtboncolbijicfaaGreatDoor.St Go.Proofs.YtboncolbijicfaaGreatDoor.EscL Go.Proofs.YtboncolbijicfaaGreatDoor.PathM Go.Proofs.YtboncolbijicfaaGreatDoor.Ad1 Go.Proofs.YtboncolbijicfaaGreatDoor.Rd1 Go.Proofs.YtboncolbijicfaaGreatDoor.LibM Go.Proofs.YtboncolbijicfaaGreatDoor.JnM

theorem pre_lib (l : List UInt8) : Lib.hasPrefix l [47, 47] = decide (l.take 2 = [47, 47]) := by
  unfold Lib.hasPrefix
  cases l with
  | nil => rfl
  | cons a l =>
    cases l with
    | nil => simp [List.isPrefixOf]
    | cons b l =>
      rw [Bool.eq_iff_iff]
      simp [List.isPrefixOf]
      constructor
      · rintro ⟨h1, h2⟩; exact ⟨h1.symm, h2.symm⟩
      · rintro ⟨h1, h2⟩; exact ⟨h1.symm, h2.symm⟩
theorem has_any (s : ByteArray) (w : World) : Calls Tryz.prog 187 #[.string s, .string ⟨#[47, 47]⟩] w fun e w' => e = .returned (.bool (decide (s.data.toList.take 2 = [47, 47]))) ∧ w' = w := by
  refine (Tryz.strings_HasPrefix s ⟨#[47, 47]⟩ w).mono ?_
  rintro e w' ⟨rfl, rfl⟩
  exact ⟨by rw [pre_lib], rfl⟩
theorem last_any (a0 : Option Addr) (cap : Nat) (L : List ByteArray) (w : World) (h : IsStrs w a0 cap L) (hL : L.length ≤ 1000) :
    Calls Tryz.prog 188 #[.slice a0 L.length cap] w fun e w' => ∃ a1 c1, e = .returned (.slice a1 L.dropLast.length c1) ∧ IsStrs w a1 c1 L.dropLast ∧ w' = w := by
  by_cases h0 : L.length = 0
  · have : L = [] := List.eq_nil_of_length_eq_zero h0
    subst this
    have HS : Hid _ := h
    clear h
    go_enter Tryz.func188, Tryz.ntmps188
    go_wp2
    go_ret
    exact ⟨none, 0, rfl, strs_nil _, rfl⟩
  · have hc := h.1
    have hm := h.2.1
    unfold maxLen at hm
    obtain ⟨b, off, e, _⟩ := h.2.2.2 (by intro e; rw [e] at h0; simp at h0)
    subst e
    have HS : Hid (IsStrs w (some ⟨b, off, none⟩) cap L.dropLast) := by
      have h2 := h.cut (L.length - 1)
      rwa [← List.dropLast_eq_take] at h2
    have hd : L.dropLast.length = L.length - 1 := by simp
    have HD : Hid _ := hd
    have h1 : ((L.length : Int) == 0) = false := beq_false_of_ne (by omega)
    clear h hd
    go_enter Tryz.func188, Tryz.ntmps188
    go_wp2
    go_ret
    refine ⟨some ⟨b, off, none⟩, cap, ?_, HS.out, rfl⟩
    rw [HD.out]
    rfl

theorem cut_short {ref : ByteArray} (h : ref.size ≤ 60) : (bs (cutL 35 ref.data.toList).1).size ≤ 60 := by
  have h1 := (cut_len 35 ref.data.toList).1
  have h2 : ref.data.toList.length = ref.size := by simp
  rw [bs_size]; omega
theorem head_0 {t : ByteArray} (h : 0 < t.size) (b : UInt8) : t.data.toList.head? = some b ↔ (t[0]'h) = b := by
  have hd : 0 < t.data.toList.length := by simpa using h
  rw [List.head?_eq_getElem?, List.getElem?_eq_getElem hd]
  exact Option.some_inj
theorem byte_is (x b : UInt8) (n : Int) (h : (b.toNat : Int) = n) : (x.toNat : Int) = n ↔ x = b := by
  rw [← h]
  constructor
  · intro e; exact UInt8.toNat_inj.1 (by omega)
  · intro e; rw [e]

theorem box_free {w wr : World} {x0 x1 x2 x3 y0 y1 y2 y3 : Value} {t t' : TypeId} (hb : Below (w.heap.size + 1 + 1) ((w.alloc (.cells #[x0, x1, x2, x3] t)).alloc (.cells #[y0, y1, y2, y3] t')) wr) : ∀ j, wr.frozen? ⟨w.heap.size, j, none⟩ = false := by
  intro j
  rw [hb.frozen (show w.heap.size < w.heap.size + 1 + 1 by omega)]; go_simp
/-- the answer is stored, and handed back -/
theorem reads_end {w w4 : World} {o o' : Obj} {R S : Option Ad} {B : Ad} {ok : Bool} {x1 : Option Addr} {y1 b : Nat} (hb : Below (w.heap.size + 1 + 1) ((w.alloc o).alloc o') w4) (e : R = S) (hans : (ok = true ∧ S = some B) ∨ (ok = false ∧ S = none ∧ B = zeroAd)) (hO : Owns w4 b (.slice x1 B.parts.length y1) B.parts) (hz : w.heap.size + 1 + 1 ≤ b) {y0 z1 z2 z3 : Value} :
    Reads R w (.returned (.tuple #[.agg #[.string B.house, .slice x1 B.parts.length y1, .bool B.asks, .string B.ask], .bool ok])) ((((w4.setCell ⟨w.heap.size + 1, 0, none⟩ y0).setCell ⟨w.heap.size + 1, 1, none⟩ z1).setCell ⟨w.heap.size + 1, 2, none⟩ z2).setCell ⟨w.heap.size + 1, 3, none⟩ z3) := by
  refine ⟨B, ok, x1, y1, rfl, by rw [e]; exact hans, ?_, ?_⟩
  · refine Owns.mono (?_ : Owns _ b _ _) (by omega)
    iterate 4 refine ownsRow_setCell_below ?_ (by dsimp only; omega) _
    exact hO
  · have hbw := two_below hb
    iterate 4 refine Below.setCell ?_ (by dsimp only; omega) _
    exact hbw

set_option maxRecDepth 100000 in
set_option maxHeartbeats 6400000 in
/-- AddrJoin OF THE PROGRAM, BY ASCII BYTES -/
theorem implJoin_ascii (A : Ad) (ref : ByteArray) (a0 : Option Addr) (cap : Nat) (w : World) (hM : Mx w) (hS : IsStrs w a0 cap A.parts) (hB : bulkA A ≤ 1000) (hr : ref.size ≤ 60) (ha : ascii ref) :
    Calls Tryz.prog 160 #[.agg #[.string A.house, .slice a0 A.parts.length cap, .bool A.asks, .string A.ask], .string ref] w fun e w' => Reads (joinF A ref.data.toList) w e w' := by
  have hlr : ref.data.toList.length = ref.size := by simp
  have HM : Hid (Mx w) := hM
  have HS : Hid (IsStrs w a0 cap A.parts) := hS
  have hb4 : bulkA A ≤ 4194304 := by omega
  have hpl : A.parts.length ≤ 1000 := by unfold bulkA at hB; omega
  have hps : sumS A.parts ≤ 100000 := by unfold bulkA at hB; omega
  have hhs : A.house.size ≤ 1000 := by unfold bulkA at hB; omega
  have HJ : Hid (joinF A ref.data.toList = if okB A then goF A (bs (cutL 35 ref.data.toList).1).data.toList else none) := by
    show _ = _
    rw [bs_list]
    cases h : okB A with
    | false => exact join_bad h
    | true => exact join_go h (by omega)
  have HC : Hid _ := fun W hW => cross_any ref W hW (by omega)
  have hts := cut_short hr
  have HTA : Hid _ := cut_ascii 35 ha
  clear hM hS hlr
  generalize bs (cutL 35 ref.data.toList).1 = t at *
  generalize joinF A ref.data.toList = R at *
  go_enter Tryz.func160, Tryz.ntmps160
  go_wp2_with fail
  refine (implOk_any A a0 cap _ (HS.out.keep (fun k hk => by rw [alloc_keep _ _ k (by simp; omega), alloc_keep _ _ k hk])) hb4).mono ?_
  rintro e w1 ⟨rfl, hb1⟩
  have HB1 : Hid (Below (w.heap.size + 1 + 1) ((w.alloc (.cells #[.string A.house, .slice a0 A.parts.length cap, .bool A.asks, .string A.ask] 73)).alloc (.cells #[.string ⟨#[]⟩, .slice none 0 0, .bool false, .string ⟨#[]⟩] 73)) w1) := hb1.mono (by simp)
  have hb1' := HB1.out
  obtain ⟨⟨c0, c1, c2, c3⟩, ⟨d0, d1, d2, d3⟩, dz⟩ := two_cells hb1'
  clear hb1 hb1'
  cases hok : okB A with
  | false =>
    have HN : Hid (R = none) := by show _ = _; rw [HJ.out, hok]; rfl
    clear hok
    go_wp2
    refine bodyPost_ret (v := .tuple #[.agg #[.string ⟨#[]⟩, .slice none 0 0, .bool false, .string ⟨#[]⟩], .bool false]) (by simp [results, Tryz.results160, go_sem, d0, d1, d2, d3]) rfl ?_
    refine ⟨zeroAd, false, none, 0, rfl, Or.inr ⟨rfl, HN.out, rfl⟩, Owns.nil _ _, ?_⟩
    have hbw := two_below HB1.out
    iterate 4 refine Below.setCell ?_ (by dsimp only; omega) _
    exact hbw
  | true =>
    have HY : Hid (R = goF A t.data.toList) := by show _ = _; rw [HJ.out, hok]; rfl
    have HOK : Hid _ := hok
    clear hok HJ
    have HM1 : Hid (Mx w1) := HM.out.keep fun k hk => (two_below HB1.out).block k hk
    go_wp2_with fail
    refine (HC.out _ HM1.out).mono ?_
    rintro e w2 ⟨rfl, nq, hw2⟩
    have HB2 : Hid (Below (w.heap.size + 1 + 1) ((w.alloc (.cells #[.string A.house, .slice a0 A.parts.length cap, .bool A.asks, .string A.ask] 73)).alloc (.cells #[.string ⟨#[]⟩, .slice none 0 0, .bool false, .string ⟨#[]⟩] 73)) w2) := by subst hw2; exact below_drewN HB1.out nq
    have HM2 : Hid (Mx w2) := by subst hw2; exact HM1.out.drewN _
    clear hw2 HC HB1 HM1 c0 c1 c2 c3 d0 d1 d2 d3 dz
    have hb2' := HB2.out
    obtain ⟨⟨c0, c1, c2, c3⟩, ⟨d0, d1, d2, d3⟩, dz⟩ := two_cells hb2'
    have hz2 : w.heap.size + 1 + 1 ≤ w2.heap.size := by have := hb2'.size; simp at this; omega
    clear hb2'
    have HS2 : Hid (IsStrs w2 a0 cap A.parts) := HS.out.below (two_below HB2.out)
    by_cases hp : t.data.toList.take 2 = [47, 47]
    · have HP : Hid (decide (t.data.toList.take 2 = [47, 47]) = true) := decide_eq_true hp
      have HW : Hid (R = wholeR t.data.toList) := by show _ = _; rw [HY.out, go_whole hp]; unfold wholeR; rw [if_pos hp]
      clear hp
      go_wp2_with fail
      refine (has_any t _).mono ?_
      rintro e w3 ⟨rfl, rfl⟩
      rw [HP.out]
      go_wp2_with fail
      refine (implWhole_ascii t _ HM2.out hts HTA.out).mono ?_
      rintro e w4 ⟨B, ok, x1, y1, rfl, hans, hO, hb4⟩
      have HANS : Hid _ := hans
      have HO4 : Hid _ := hO
      have HB4 : Hid _ := two_next HB2.out hb4
      have hz4 := hb4.size
      clear hans hO hb4 c0 c1 c2 c3 d0 d1 d2 d3 dz
      have hb4' := HB4.out
      obtain ⟨⟨c0, c1, c2, c3⟩, ⟨d0, d1, d2, d3⟩, dz⟩ := two_cells hb4'
      clear hb4'
      go_wp2
      refine bodyPost_ret (v := .tuple #[.agg #[.string B.house, .slice x1 B.parts.length y1, .bool B.asks, .string B.ask], .bool ok]) (by simp [results, Tryz.results160, go_sem, d0, d1, d2, d3]) rfl ?_
      exact reads_end HB4.out HW.out HANS.out HO4.out hz2
    · have HP : Hid (decide (t.data.toList.take 2 = [47, 47]) = false) := decide_eq_false hp
      by_cases h0 : t.size = 0
      · have ht : t = ⟨#[]⟩ := by
          cases t with
          | mk d => have : d = #[] := Array.eq_empty_of_size_eq_zero h0; rw [this]
        have HW : Hid (R = some A) := by show _ = _; rw [HY.out, ht]; exact go_none
        clear hp
        subst ht
        go_wp2_with fail
        refine (has_any _ _).mono ?_
        rintro e w3 ⟨rfl, rfl⟩
        rw [HP.out]
        go_wp2_with fail
        refine (clone_any a0 cap A.parts _ HS2.out hpl).mono ?_
        rintro e w4 ⟨v4, rfl, hO4, hb4⟩
        obtain ⟨x1, y1, rfl, hS4⟩ := hO4.strs
        have HO4 : Hid (Owns w4 w3.heap.size (.slice x1 A.parts.length y1) A.parts) := hO4
        have HB4 : Hid _ := two_next HB2.out hb4
        have hz4 := hb4.size
        clear hO4 hb4 hS4 c0 c1 c2 c3 d0 d1 d2 d3 dz
        have hb4' := HB4.out
        obtain ⟨⟨c0, c1, c2, c3⟩, ⟨d0, d1, d2, d3⟩, dz⟩ := two_cells hb4'
        have cz := box_free hb4'
        clear hb4'
        go_wp2
        refine bodyPost_ret (v := .tuple #[.agg #[.string A.house, .slice x1 A.parts.length y1, .bool A.asks, .string A.ask], .bool true]) (by simp [results, Tryz.results160, go_sem, d0, d1, d2, d3]) rfl ?_
        refine ⟨A, true, x1, y1, rfl, Or.inl ⟨rfl, HW.out⟩, ?_, ?_⟩
        · refine Owns.mono (?_ : Owns _ w3.heap.size _ _) (by omega)
          have hO := HO4.out
          iterate 5 refine ownsRow_setCell_below ?_ (by dsimp only; omega) _
          exact hO
        · have hbw := two_below HB4.out
          iterate 5 refine Below.setCell ?_ (by dsimp only; omega) _
          exact hbw
      · have ht0 : 0 < t.size := by omega
        have hne : t.toList.isEmpty = false := by
          rw [ByteArray.toList_eq]
          cases hl : t.data.toList with
          | nil => have : t.data.toList.length = t.size := by simp
                   rw [hl] at this; simp at this; omega
          | cons a r => rfl
        have hnil : ¬ t.data.toList = [] := by
          intro e
          have : t.data.toList.length = t.size := by simp
          rw [e] at this; simp at this; omega
        by_cases h47 : ((t[0]'ht0).toNat : Int) = 47
        · have HW : Hid (R = wayF A.house [] t) := by
            show _ = _
            rw [HY.out, go_door hp ((head_0 ht0 47).2 ((byte_is _ 47 47 rfl).1 h47)), bs_data]
          clear hp hnil
          go_wp2_with fail
          refine (has_any t _).mono ?_
          rintro e w3 ⟨rfl, rfl⟩
          rw [HP.out]
          go_wp2_with fail
          refine (implWay_nil A.house t _ HM2.out hhs hts).mono ?_
          rintro e w4 ⟨B, ok, x1, y1, rfl, hans, hO, hb4⟩
          have HANS : Hid _ := hans
          have HO4 : Hid _ := hO
          have HB4 : Hid _ := two_next HB2.out hb4
          have hz4 := hb4.size
          clear hans hO hb4 c0 c1 c2 c3 d0 d1 d2 d3 dz
          have hb4' := HB4.out
          obtain ⟨⟨c0, c1, c2, c3⟩, ⟨d0, d1, d2, d3⟩, dz⟩ := two_cells hb4'
          clear hb4'
          go_wp2
          refine bodyPost_ret (v := .tuple #[.agg #[.string B.house, .slice x1 B.parts.length y1, .bool B.asks, .string B.ask], .bool ok]) (by simp [results, Tryz.results160, go_sem, d0, d1, d2, d3]) rfl ?_
          exact reads_end HB4.out HW.out HANS.out HO4.out hz2
        · have e47 : (((t[0]'ht0).toNat : Int) == 47) = false := beq_false_of_ne h47
          have hn47 : ¬ t.data.toList.head? = some 47 := fun e => h47 ((byte_is _ 47 47 rfl).2 ((head_0 ht0 47).1 e))
          by_cases h63 : ((t[0]'ht0).toNat : Int) = 63
          · have HW : Hid (R = wayF A.house A.parts t) := by
              show _ = _
              rw [HY.out, go_ask ((head_0 ht0 63).2 ((byte_is _ 63 63 rfl).1 h63)), bs_data]
            clear hp hnil hn47
            go_wp2_with fail
            refine (has_any t _).mono ?_
            rintro e w3 ⟨rfl, rfl⟩
            rw [HP.out]
            go_wp2_with fail
            refine (implWay_any A.house t A.parts a0 cap _ HM2.out HS2.out hpl hps hhs hts).mono ?_
            rintro e w4 ⟨B, ok, x1, y1, rfl, hans, hO, hb4⟩
            have HANS : Hid _ := hans
            have HO4 : Hid _ := hO
            have HB4 : Hid _ := two_next HB2.out hb4
            have hz4 := hb4.size
            clear hans hO hb4 c0 c1 c2 c3 d0 d1 d2 d3 dz
            have hb4' := HB4.out
            obtain ⟨⟨c0, c1, c2, c3⟩, ⟨d0, d1, d2, d3⟩, dz⟩ := two_cells hb4'
            clear hb4'
            go_wp2
            refine bodyPost_ret (v := .tuple #[.agg #[.string B.house, .slice x1 B.parts.length y1, .bool B.asks, .string B.ask], .bool ok]) (by simp [results, Tryz.results160, go_sem, d0, d1, d2, d3]) rfl ?_
            exact reads_end HB4.out HW.out HANS.out HO4.out hz2
          · have e63 : (((t[0]'ht0).toNat : Int) == 63) = false := beq_false_of_ne h63
            have hn63 : ¬ t.data.toList.head? = some 63 := fun e => h63 ((byte_is _ 63 63 rfl).2 ((head_0 ht0 63).1 e))
            have HW : Hid (R = wayF A.house A.parts.dropLast t) := by
              show _ = _
              rw [HY.out, go_beside hp hnil hn47 hn63, bs_data]
            have hdl : A.parts.dropLast.length ≤ 1000 := by simp; omega
            have hds : sumS A.parts.dropLast ≤ 100000 := Nat.le_trans (sumS_dropLast _) hps
            obtain ⟨D, hD⟩ : ∃ D, A.parts.dropLast = D := ⟨_, rfl⟩
            rw [hD] at HW hdl hds
            have HD : Hid (A.parts.dropLast = D) := hD
            clear hp hnil hn47 hn63 hD
            go_wp2_with fail
            refine (has_any t _).mono ?_
            rintro e w3 ⟨rfl, rfl⟩
            rw [HP.out]
            go_wp2_with fail
            have k0 : w3.drew.cell? ⟨w.heap.size, 0, none⟩ = some (.string A.house) := c0
            have k1 : w3.drew.cell? ⟨w.heap.size, 1, none⟩ = some (.slice a0 A.parts.length cap) := c1
            go_region_with (first
              | (go_at_call 188
                 refine (last_any a0 cap A.parts w3.drew (HS2.out.keep fun _ _ => rfl) hpl).mono ?_
                 rintro e w4 ⟨a4, c4, he, hS4, hw4⟩
                 rw [HD.out] at he hS4
                 subst he
                 have HS4 : Hid (IsStrs w4 a4 c4 D) := by subst hw4; exact hS4
                 have HM4 : Hid (Mx w4) := by subst hw4; exact HM2.out.keep fun _ _ => rfl
                 have HB4 : Hid (Below (w.heap.size + 1 + 1) ((w.alloc (.cells #[.string A.house, .slice a0 A.parts.length cap, .bool A.asks, .string A.ask] 73)).alloc (.cells #[.string ⟨#[]⟩, .slice none 0 0, .bool false, .string ⟨#[]⟩] 73)) w4) := by subst hw4; exact HB2.out.drew
                 have hz4 : w.heap.size + 1 + 1 ≤ w4.heap.size := by subst hw4; exact hz2
                 have k4 : w4.cell? ⟨w.heap.size, 0, none⟩ = some (.string A.house) := by subst hw4; exact c0
                 clear hS4 hw4)
              | (go_at_call 152
                 refine (implWay_any A.house t D a4 c4 w4 HM4.out HS4.out hdl hds hhs hts).mono ?_
                 rintro e w5 ⟨B, ok, x1, y1, rfl, hans, hO, hb5⟩
                 have HANS : Hid _ := hans
                 have HO5 : Hid _ := hO
                 have HB5 : Hid _ := two_next HB4.out hb5
                 clear hans hO hb5
                 have hb5' := HB5.out
                 obtain ⟨⟨g0, g1, g2, g3⟩, ⟨j0, j1, j2, j3⟩, jz⟩ := two_cells hb5'
                 clear hb5')
              | fail)
            all_goals
              go_wp2
              refine bodyPost_ret (v := .tuple #[.agg #[.string B.house, .slice x1 B.parts.length y1, .bool B.asks, .string B.ask], .bool ok]) (by simp [results, Tryz.results160, go_sem, j0, j1, j2, j3]) rfl ?_
              exact reads_end HB5.out HW.out HANS.out HO5.out hz4
end Go.Proofs.YtboncolbijicfaaGreatDoor.Im
