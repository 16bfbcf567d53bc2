/- Is an address ok, and how is it written: of the program and of the model. The leaves. -/
import Derived.Test.YtemobclefdodjaaDoorAddrMath
import Derived.Test.YtemobclefdodjaaDoorEscLaws
import Derived.Test.YtemobclefdodjaaDoorEscSpec
import Derived.Test.YtemobclefdodjaaDoorCmp
import Derived.Test.YtemobclefdodjaaDoorShelf
namespace Go.Proofs.YtemobclefdodjaaDoor.Ad1
open Go.RowKit Go.Proofs.YtemobclefdodjaaDoor.EscM Go.Proofs.YtemobclefdodjaaDoor.AddrM Go.Proofs.YtemobclefdodjaaDoor.St Go.Proofs.YtemobclefdodjaaDoor.EscL

theorem small_take (s : ByteArray) (k : Nat) (h : k < s.size) (hp : (s.data.toList.take k).all (fun b => decide (97 ≤ (b.toNat : Int) ∧ (b.toNat : Int) ≤ 122)) = true) (h1 : 97 ≤ ((s[k]'h).toNat : Int)) (h2 : ((s[k]'h).toNat : Int) ≤ 122) :
    (s.data.toList.take (k + 1)).all (fun b => decide (97 ≤ (b.toNat : Int) ∧ (b.toNat : Int) ≤ 122)) = true := by
  rw [List.take_succ_eq_append_getElem (by simpa using h), List.all_append, hp]
  have : s.data.toList[k]'(by simpa using h) = s[k]'h := rfl
  simp only [List.all_cons, List.all_nil, this, Bool.true_and, Bool.and_true]
  exact decide_eq_true ⟨h1, h2⟩
theorem small_not (s : ByteArray) (k : Nat) (h : k < s.size) (hn : ¬ (97 ≤ ((s[k]'h).toNat : Int) ∧ ((s[k]'h).toNat : Int) ≤ 122)) : smallB s = false := by
  cases hs : smallB s with
  | false => rfl
  | true =>
    have := List.all_eq_true.1 hs (s[k]'h) (by rw [getElem_eq]; exact List.getElem_mem _)
    exact absurd (of_decide_eq_true this) hn

theorem in_any (n a b : Int) (w : World) :
    Calls Tryd.prog 64 #[.int .i64 n, .int .i64 a, .int .i64 b] w fun e w' => e = .returned (.bool (decide (a ≤ n) && decide (n ≤ b))) ∧ w' = w := by
  by_cases h1 : a ≤ n
  · go_enter Tryd.func64, Tryd.ntmps64
    go_wp2
    go_ret
    exact ⟨ret_bool (by rw [decide_eq_true h1]; simp), rfl⟩
  · have h1' : decide (a ≤ n) = false := decide_eq_false h1
    go_enter Tryd.func64, Tryd.ntmps64
    go_wp2
    go_ret
    exact ⟨ret_bool rfl, rfl⟩

set_option maxRecDepth 100000 in
set_option maxHeartbeats 800000 in
theorem specHouse_any (s : ByteArray) (w : World) (hs : s.size ≤ maxLen) :
    Calls Tryd.prog 54 #[.string s] w fun e w' => e = .returned (.bool (houseB s)) ∧ w' = w := by
  unfold maxLen at hs
  go_enter Tryd.func54, Tryd.ntmps54
  go_wp2
  go_loopw [3] (fun i wr => ∃ k : Nat, k ≤ s.size ∧ i = .int .i64 (k : Int) ∧ wr = w ∧ Hid ((s.data.toList.take k).all (fun b => decide (97 ≤ (b.toNat : Int) ∧ (b.toNat : Int) ≤ 122)) = true)) (fun i _ => s.size - (intOf i).toNat)
  case atStart => exact ⟨0, Nat.zero_le _, rfl, rfl, by show _ = _; simp⟩
  case round =>
    obtain ⟨k, hk, rfl, rfl, HP⟩ := hrel
    by_cases hlt : k < s.size
    · by_cases h1 : (97 : Int) ≤ (s[k]'hlt).toNat
      · by_cases h2 : ((s[k]'hlt).toNat : Int) ≤ 122
        · have HN : Hid _ := small_take s k hlt HP.out h1 h2
          go_wp2
          go_roundw
          case rel => exact ⟨k + 1, by omega, by go_num, by trivial, HN.out⟩
          case measure => simp [intOf]; omega
        · have HN : Hid (houseB s = false) := by show _ = _; unfold houseB; rw [small_not s k hlt (by omega)]; simp
          go_wp2
          go_ret
          exact ⟨ret_bool HN.out.symm, rfl⟩
      · have HN : Hid (houseB s = false) := by show _ = _; unfold houseB; rw [small_not s k hlt (by omega)]; simp
        go_wp2
        go_ret
        exact ⟨ret_bool HN.out.symm, rfl⟩
    · have HS : Hid (houseB s = (decide ((1 : Int) ≤ (s.size : Int)) && decide ((s.size : Int) ≤ 5))) := by
        show _ = _
        have hall : smallB s = true := by
          have := HP.out
          rwa [List.take_of_length_le (by simp; omega)] at this
        unfold houseB
        rw [hall, Bool.and_true, Bool.eq_iff_iff]; simp; omega
      go_wp2_with (go_at_call 64; refine (in_any _ _ _ _).mono ?_; rintro e w1 ⟨rfl, rfl⟩)
      go_ret
      exact ⟨ret_bool HS.out.symm, rfl⟩

theorem specNorm_any (s : ByteArray) (w : World) (hs : s.size ≤ maxLen) :
    Calls Tryd.prog 55 #[.string s] w fun e w' => e = .returned (.bool (normB s)) ∧ Below w.heap.size w w' := by
  cases hb : escB s with
  | true =>
    have HB : Hid _ := hb
    have HN : Hid (normB s = ((escS s).toList == s.toList)) := by show _ = _; unfold normB; rw [hb]; rfl
    clear hb
    go_enter Tryd.func55, Tryd.ntmps55
    go_wp2_with (go_at_call 62; refine (specEsc_any s _ hs).mono ?_; rintro e w1 ⟨rfl, hb1⟩; rw [HB.out])
    go_ret
    exact ⟨ret_bool HN.out.symm, hb1⟩
  | false =>
    have HB : Hid _ := hb
    have HN : Hid (normB s = false) := by show _ = _; unfold normB; rw [hb]; rfl
    clear hb
    go_enter Tryd.func55, Tryd.ntmps55
    go_wp2_with (go_at_call 62; refine (specEsc_any s _ hs).mono ?_; rintro e w1 ⟨rfl, hb1⟩; rw [HB.out])
    go_ret
    exact ⟨ret_bool HN.out.symm, hb1⟩

end Go.Proofs.YtemobclefdodjaaDoor.Ad1
