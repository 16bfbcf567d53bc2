/- Names of callers: of the program and of the model. -/
import Derived.Test.YtmgcdfmgmpnonaaGreatDoorAddrMath
import Derived.Test.YtmgcdfmgmpnonaaGreatDoorEscLeafPk
import Derived.Test.YtmgcdfmgmpnonaaGreatDoorDraw1Pk
namespace Go.Proofs.YtmgcdfmgmpnonaaGreatDoor.Nm
open Go.RowKit Go.Proofs.YtmgcdfmgmpnonaaGreatDoor.EscM Go.Proofs.YtmgcdfmgmpnonaaGreatDoor.AddrM Go.Proofs.YtmgcdfmgmpnonaaGreatDoor.St Go.Proofs.YtmgcdfmgmpnonaaGreatDoor.EscL

def nameB (s : ByteArray) : Bool := decide (1 ≤ s.size ∧ s.size ≤ 8) && smallB s
/-- may a text stand among the names of a group? -/
def callB (s : ByteArray) : Bool := (s.toList == [42]) || nameB s

theorem small_take (s : ByteArray) (k : Nat) (h : k < s.size) (hp : (s.data.toList.take k).all (fun b => decide (97 ≤ (b.toNat : Int) ∧ (b.toNat : Int) ≤ 122)) = true) (h1 : 97 ≤ ((s[k]'h).toNat : Int)) (h2 : ((s[k]'h).toNat : Int) ≤ 122) :
    (s.data.toList.take (k + 1)).all (fun b => decide (97 ≤ (b.toNat : Int) ∧ (b.toNat : Int) ≤ 122)) = true := by
  rw [List.take_succ_eq_append_getElem (by simpa using h), List.all_append, hp]
  have : s.data.toList[k]'(by simpa using h) = s[k]'h := rfl
  simp only [List.all_cons, List.all_nil, this, Bool.true_and, Bool.and_true]
  exact decide_eq_true ⟨h1, h2⟩
theorem small_not (s : ByteArray) (k : Nat) (h : k < s.size) (hn : ¬ (97 ≤ ((s[k]'h).toNat : Int) ∧ ((s[k]'h).toNat : Int) ≤ 122)) : smallB s = false := by
  cases hs : smallB s with
  | false => rfl
  | true =>
    have := List.all_eq_true.1 hs (s[k]'h) (by rw [getElem_eq]; exact List.getElem_mem _)
    exact absurd (of_decide_eq_true this) hn
theorem small_all {s : ByteArray} {k : Nat} (hk : s.size ≤ k) (hp : (s.data.toList.take k).all (fun b => decide (97 ≤ (b.toNat : Int) ∧ (b.toNat : Int) ≤ 122)) = true) : smallB s = true := by
  rwa [List.take_of_length_le (by simp; omega)] at hp

set_option maxRecDepth 100000 in
set_option maxHeartbeats 800000 in
theorem in_any (n a b : Int) (w : World) :
    Calls Tryz.prog 61 #[.int .i64 n, .int .i64 a, .int .i64 b] w fun e w' => e = .returned (.bool (decide (a ≤ n) && decide (n ≤ b))) ∧ w' = w := by
  by_cases h1 : a ≤ n
  · go_enter Tryz.func61, Tryz.ntmps61
    go_wp2
    go_ret
    exact ⟨ret_bool (by rw [decide_eq_true h1]; simp), rfl⟩
  · have h1' : decide (a ≤ n) = false := decide_eq_false h1
    go_enter Tryz.func61, Tryz.ntmps61
    go_wp2
    go_ret
    exact ⟨ret_bool rfl, rfl⟩

set_option maxRecDepth 100000 in
set_option maxHeartbeats 800000 in
theorem specName_any (s : ByteArray) (w : World) (hs : s.size ≤ maxLen) :
    Calls Tryz.prog 44 #[.string s] w fun e w' => e = .returned (.bool (nameB s)) ∧ w' = w := by
  unfold maxLen at hs
  go_enter Tryz.func44, Tryz.ntmps44
  go_wp2
  go_loopw [3] (fun i wr => ∃ k : Nat, k ≤ s.size ∧ i = .int .i64 (k : Int) ∧ wr = w ∧ Hid ((s.data.toList.take k).all (fun b => decide (97 ≤ (b.toNat : Int) ∧ (b.toNat : Int) ≤ 122)) = true)) (fun i _ => s.size - (intOf i).toNat)
  case atStart => exact ⟨0, Nat.zero_le _, rfl, rfl, by show _ = _; simp⟩
  case round =>
    obtain ⟨k, hk, rfl, rfl, HP⟩ := hrel
    by_cases hlt : k < s.size
    · by_cases h1 : (97 : Int) ≤ (s[k]'hlt).toNat
      · by_cases h2 : ((s[k]'hlt).toNat : Int) ≤ 122
        · have HN : Hid _ := small_take s k hlt HP.out h1 h2
          go_wp2
          go_roundw
          case rel => exact ⟨k + 1, by omega, by go_num, by trivial, HN.out⟩
          case measure => simp [intOf]; omega
        · have HN : Hid (nameB s = false) := by show _ = _; unfold nameB; rw [small_not s k hlt (by omega)]; simp
          go_wp2
          go_ret
          exact ⟨ret_bool HN.out.symm, rfl⟩
      · have HN : Hid (nameB s = false) := by show _ = _; unfold nameB; rw [small_not s k hlt (by omega)]; simp
        go_wp2
        go_ret
        exact ⟨ret_bool HN.out.symm, rfl⟩
    · have HS : Hid (nameB s = (decide ((1 : Int) ≤ (s.size : Int)) && decide ((s.size : Int) ≤ 8))) := by
        show _ = _
        unfold nameB
        rw [small_all (by omega) HP.out, Bool.and_true, Bool.eq_iff_iff]; simp; omega
      go_wp2_with (go_at_call 61; refine (in_any _ _ _ _).mono ?_; rintro e w1 ⟨rfl, rfl⟩)
      go_ret
      exact ⟨ret_bool HS.out.symm, rfl⟩

set_option maxRecDepth 100000 in
set_option maxHeartbeats 800000 in
theorem implSmall8_any (s : ByteArray) (w : World) (hs : s.size ≤ maxLen) :
    Calls Tryz.prog 39 #[.string s, .int .i64 8] w fun e w' => e = .returned (.bool (nameB s)) ∧ w' = w := by
  unfold maxLen at hs
  by_cases h1 : s.size < 1
  · have HN : Hid (nameB s = false) := by show _ = _; unfold nameB; rw [decide_eq_false (by omega)]; simp
    go_enter Tryz.func39, Tryz.ntmps39
    go_wp2
    go_ret
    exact ⟨ret_bool HN.out.symm, rfl⟩
  by_cases h5 : 8 < s.size
  · have HN : Hid (nameB s = false) := by show _ = _; unfold nameB; rw [decide_eq_false (by omega)]; simp
    go_enter Tryz.func39, Tryz.ntmps39
    go_wp2
    go_ret
    exact ⟨ret_bool HN.out.symm, rfl⟩
  go_enter Tryz.func39, Tryz.ntmps39
  go_wp2
  go_loop [5] (fun i => ∃ k : Nat, k ≤ s.size ∧ i = .int .i64 (k : Int) ∧ Hid ((s.data.toList.take k).all (fun b => decide (97 ≤ (b.toNat : Int) ∧ (b.toNat : Int) ≤ 122)) = true)) (fun i => s.size - (intOf i).toNat)
  case atStart => exact ⟨0, Nat.zero_le _, rfl, by show _ = _; simp⟩
  case round =>
    obtain ⟨k, hk, rfl, HP⟩ := hrel
    by_cases hlt : k < s.size
    · by_cases h1 : (97 : Int) ≤ (s[k]'hlt).toNat
      · by_cases h2 : ((s[k]'hlt).toNat : Int) ≤ 122
        · have HN : Hid _ := small_take s k hlt HP.out h1 h2
          go_wp2
          go_round
          case rel => exact ⟨k + 1, by omega, by go_num, HN.out⟩
          case measure => simp [intOf]; omega
        · have HN : Hid (nameB s = false) := by show _ = _; unfold nameB; rw [small_not s k hlt (by omega)]; simp
          go_wp2
          go_ret
          exact ⟨ret_bool HN.out.symm, rfl⟩
      · have HN : Hid (nameB s = false) := by show _ = _; unfold nameB; rw [small_not s k hlt (by omega)]; simp
        go_wp2
        go_ret
        exact ⟨ret_bool HN.out.symm, rfl⟩
    · have HS : Hid (nameB s = true) := by
        show _ = _
        unfold nameB
        rw [small_all (by omega) HP.out, decide_eq_true (by omega)]; rfl
      go_wp2
      go_ret
      exact ⟨ret_bool HS.out.symm, rfl⟩

theorem implName_any (s : ByteArray) (w : World) (hs : s.size ≤ maxLen) :
    Calls Tryz.prog 40 #[.string s] w fun e w' => e = .returned (.bool (nameB s)) ∧ w' = w := by
  go_enter Tryz.func40, Tryz.ntmps40
  go_wp2_with fail
  refine (implSmall8_any s _ hs).mono ?_
  rintro e w1 ⟨rfl, rfl⟩
  go_wp2
  go_ret
  exact ⟨rfl, rfl⟩

theorem implCall_any (s : ByteArray) (w : World) (hs : s.size ≤ maxLen) :
    Calls Tryz.prog 85 #[.string s] w fun e w' => e = .returned (.bool (callB s)) ∧ w' = w := by
  cases h : (s.toList == [42]) with
  | true =>
    have HN : Hid (callB s = true) := by show _ = _; unfold callB; rw [h]; rfl
    go_enter Tryz.func85, Tryz.ntmps85
    go_wp2
    go_ret
    exact ⟨ret_bool HN.out.symm, rfl⟩
  | false =>
    have HN : Hid (callB s = nameB s) := by show _ = _; unfold callB; rw [h]; rfl
    go_enter Tryz.func85, Tryz.ntmps85
    go_wp2_with (go_at_call 40; refine (implName_any s _ hs).mono ?_; rintro e w1 ⟨rfl, rfl⟩)
    go_ret
    exact ⟨ret_bool HN.out.symm, rfl⟩
end Go.Proofs.YtmgcdfmgmpnonaaGreatDoor.Nm
