/- Step by step: the laws' own reading of a pattern. -/
import Derived.Test.YtemobclefdodjaaDoorHasDoor
namespace Go.Proofs.YtemobclefdodjaaDoor.Ha
open Go.RowKit Go.Proofs.YtemobclefdodjaaDoor.EscM Go.Proofs.YtemobclefdodjaaDoor.EscL Go.Proofs.YtemobclefdodjaaDoor.RuleM Go.Proofs.YtemobclefdodjaaDoor.Ru1 Go.Proofs.YtemobclefdodjaaDoor.ReadM Go.Proofs.YtemobclefdodjaaDoor.HasM Go.Proofs.YtemobclefdodjaaDoor.St Go.Proofs.YtemobclefdodjaaDoor.Rd1

theorem emp_of {s : ByteArray} (h : s.data.toList = []) : s.toList.isEmpty = true := by rw [ByteArray.toList_eq, h]; rfl
theorem emp_no {s : ByteArray} {a : UInt8} {t : List UInt8} (h : s.data.toList = a :: t) : s.toList.isEmpty = false := by rw [ByteArray.toList_eq, h]; rfl
theorem size_cons {s : ByteArray} {a : UInt8} {t : List UInt8} (h : s.data.toList = a :: t) : s.size = t.length + 1 := by rw [← len_eq, h]; rfl
theorem zero_at {s : ByteArray} {a : UInt8} {t : List UInt8} (h : s.data.toList = a :: t) (h0 : 0 < s.size) : s[0]'h0 = a := by
  rw [getElem_eq]
  have : s.data.toList[0]'(by rw [len_eq]; exact h0) = (a :: t)[0] := by congr 1
  rw [this]; rfl
theorem tail_ext {s : ByteArray} {a : UInt8} {t : List UInt8} (h : s.data.toList = a :: t) : (s.extract 1 s.size).data.toList = t := by
  rw [Rd1.ext_drop, bs_list, h]; rfl
theorem tail_size {s : ByteArray} (_h : 0 < s.size) : (s.extract 1 s.size).size = s.size - 1 := by simp
theorem byte_beq (x y : UInt8) : ((x.toNat : Int) == (y.toNat : Int)) = decide (x = y) := by
  rw [Bool.eq_iff_iff, beq_iff_eq, decide_eq_true_eq]; constructor
  · intro h; exact UInt8.toNat.inj (by omega)
  · rintro rfl; rfl

set_option maxRecDepth 100000 in
set_option maxHeartbeats 6400000 in
theorem match_any : ∀ (n : Nat) (p s : ByteArray) (w : World), p.size + s.size < n → p.size ≤ 100 → s.size ≤ 100 →
    Calls Tryd.prog 16 #[.string p, .string s] w fun e w' => e = .returned (.bool (matchL p.data.toList s.data.toList)) ∧ ∃ k, w' = w.drewN k := by
  intro n
  induction n with
  | zero => intro p s w h; omega
  | succ n ih =>
    intro p s w hn hp hs
    have IH : Hid _ := ih
    clear ih
    cases hpl : p.data.toList with
    | nil =>
      have hpe := emp_of hpl
      clear hpl
      go_enter Tryd.func16, Tryd.ntmps16
      go_wp2
      go_ret
      exact ⟨rfl, 0, rfl⟩
    | cons c q =>
      have hpe := emp_no hpl
      have hpz := size_cons hpl
      have hp0 : 0 < p.size := by omega
      have hc0 := zero_at hpl hp0
      have HPT : Hid _ := tail_ext hpl
      have HPL0 : Hid _ := hpl
      have hpt := tail_size hp0
      by_cases hd : c = 36 ∧ q = []
      · have hpd : (p.toList == [36]) = true := by rw [ByteArray.toList_eq, hpl, hd.1, hd.2]; rfl
        have HM : Hid (matchL (c :: q) s.data.toList = s.toList.isEmpty) := by
          show _ = _
          rw [hd.1, hd.2, match_dollar, ByteArray.toList_eq]
        clear hpl hd
        go_enter Tryd.func16, Tryd.ntmps16
        go_wp2
        go_ret
        exact ⟨ret_bool HM.out.symm, 0, rfl⟩
      · have hpd : (p.toList == [36]) = false := by
          rw [ByteArray.toList_eq, hpl]
          apply beq_false_of_ne
          intro e
          injection e with e1 e2
          exact hd ⟨e1, e2⟩
        by_cases hst : c = 42
        · subst hst
          have h42 : (((p[0]'hp0).toNat : Int) == 42) = true := by rw [hc0]; rfl
          have HMS : Hid _ := match_star q s.data.toList
          have HMT : Hid _ := fun r => (match_star q r).symm
          have hpn : (p.extract 1 p.size).size + s.size < n := by rw [hpt]; omega
          have hp1 : (p.extract 1 p.size).size ≤ 100 := by rw [hpt]; omega
          have HPZ : Hid _ := hpz
          clear hpl hd hc0 hpz hpt
          cases hb : matchL q s.data.toList with
          | true =>
            have HB : Hid _ := hb
            have HR : Hid (matchL (42 :: q) s.data.toList = true) := by
              show _ = _
              rw [HMS.out, anyTail_iff]; exact ⟨_, List.suffix_refl _, hb⟩
            clear hb
            go_enter Tryd.func16, Tryd.ntmps16
            go_wp2_with fail
            refine (IH.out _ _ _ hpn hp1 hs).mono ?_
            rintro e w1 ⟨rfl, k, rfl⟩
            rw [HPT.out, HB.out]
            go_wp2
            go_ret
            exact ⟨ret_bool HR.out.symm, k, rfl⟩
          | false =>
            have HB : Hid _ := hb
            cases hsl : s.data.toList with
            | nil =>
              have hse := emp_of hsl
              have HR : Hid (matchL (42 :: q) [] = false) := by
                show _ = _
                rw [match_star]
                rw [hsl] at hb
                exact hb
              rw [hsl] at HB
              have HSL : Hid _ := hsl
              clear hb hsl
              go_enter Tryd.func16, Tryd.ntmps16
              go_wp2_with fail
              refine (IH.out _ _ _ hpn hp1 hs).mono ?_
              rintro e w1 ⟨rfl, k, rfl⟩
              rw [HPT.out, HSL.out, HB.out]
              go_wp2
              go_ret
              exact ⟨ret_bool HR.out.symm, k, rfl⟩
            | cons b r =>
              have hse := emp_no hsl
              have hsz := size_cons hsl
              have hs0 : 0 < s.size := by omega
              have HST : Hid _ := tail_ext hsl
              have hstz := tail_size hs0
              have hsn : p.size + (s.extract 1 s.size).size < n := by rw [hstz]; omega
              have hs1 : (s.extract 1 s.size).size ≤ 100 := by rw [hstz]; omega
              have HR : Hid (matchL (42 :: q) (b :: r) = matchL (42 :: q) r) := by
                show _ = _
                rw [match_star, match_star]
                rw [hsl] at hb
                conv => lhs; unfold anyTail
                rw [hb, Bool.false_or]
              rw [hsl] at HB
              have HSL : Hid _ := hsl
              have HPL : Hid _ := HPL0.out
              clear hb hsl hsz hstz
              go_enter Tryd.func16, Tryd.ntmps16
              go_wp2_with fail
              refine (IH.out _ _ _ hpn hp1 hs).mono ?_
              rintro e w1 ⟨rfl, k, rfl⟩
              rw [HPT.out, HSL.out, HB.out]
              go_wp2_with fail
              refine (IH.out _ _ _ hsn hp hs1).mono ?_
              rintro e w2 ⟨rfl, k2, rfl⟩
              rw [HST.out, HPL.out]
              go_wp2
              go_ret
              exact ⟨ret_bool HR.out.symm, _, rfl⟩
        · have h42 : (((p[0]'hp0).toNat : Int) == 42) = false := by
            rw [hc0]
            apply beq_false_of_ne
            intro e
            exact hst (UInt8.toNat.inj (by show c.toNat = 42; omega))
          cases hsl : s.data.toList with
          | nil =>
            have hse := emp_of hsl
            have HM : Hid (matchL (c :: q) [] = false) := match_nil' hd hst
            clear hpl hsl hd hst hc0 hpz hpt
            go_enter Tryd.func16, Tryd.ntmps16
            go_wp2
            go_quiet (fail)
            go_wp2
            go_ret
            exact ⟨ret_bool HM.out.symm, nq, rfl⟩
          | cons b r =>
            have hse := emp_no hsl
            have hsz := size_cons hsl
            have hs0 : 0 < s.size := by omega
            have hb0 := zero_at hsl hs0
            have HST : Hid _ := tail_ext hsl
            have hstz := tail_size hs0
            have HM : Hid _ := match_cons' hd hst b r
            have hbe : (((s[0]'hs0).toNat : Int) == ((p[0]'hp0).toNat : Int)) = decide (b = c) := by rw [hb0, hc0, byte_beq]
            have hpn : (p.extract 1 p.size).size + (s.extract 1 s.size).size < n := by rw [hpt, hstz]; omega
            have hp1 : (p.extract 1 p.size).size ≤ 100 := by rw [hpt]; omega
            have hs1 : (s.extract 1 s.size).size ≤ 100 := by rw [hstz]; omega
            clear hpl hsl hd hst hc0 hpz hpt hb0 hsz hstz
            by_cases hbc : b = c
            · rw [decide_eq_true hbc] at hbe
              have HR : Hid (matchL (c :: q) (b :: r) = matchL q r) := by show _ = _; rw [HM.out, decide_eq_true hbc, Bool.true_and]
              clear hbc HM
              go_enter Tryd.func16, Tryd.ntmps16
              go_wp2
              go_region_with (go_at_call 16; refine (IH.out _ _ _ hpn hp1 hs1).mono ?_; rintro e w1 ⟨rfl, k, rfl⟩; rw [HPT.out, HST.out])
              all_goals
                go_wp2
                go_ret
                exact ⟨ret_bool HR.out.symm, _, rfl⟩
            · rw [decide_eq_false hbc] at hbe
              have HR : Hid (matchL (c :: q) (b :: r) = false) := by show _ = _; rw [HM.out, decide_eq_false hbc, Bool.false_and]
              clear hbc HM
              go_enter Tryd.func16, Tryd.ntmps16
              go_wp2
              go_quiet (fail)
              go_wp2
              go_ret
              exact ⟨ret_bool HR.out.symm, nq, rfl⟩
end Go.Proofs.YtemobclefdodjaaDoor.Ha
