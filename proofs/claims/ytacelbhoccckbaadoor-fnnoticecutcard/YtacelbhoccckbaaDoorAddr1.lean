/- Is an address ok, and how is it written: of the program and of the model. The leaves. -/
import Derived.Test.YtacelbhoccckbaaDoorAddrMath
import Derived.Test.YtacelbhoccckbaaDoorEscLeafPk
import Derived.Test.YtacelbhoccckbaaDoorStrsPk
import Derived.Test.YtacelbhoccckbaaDoorShelf
namespace Go.Proofs.YtacelbhoccckbaaDoor.Ad1
open Go.RowKit Go.Proofs.YtacelbhoccckbaaDoor.EscM Go.Proofs.YtacelbhoccckbaaDoor.AddrM Go.Proofs.YtacelbhoccckbaaDoor.St Go.Proofs.YtacelbhoccckbaaDoor.EscL

theorem small_take (s : ByteArray) (k : Nat) (h : k < s.size) (hp : (s.data.toList.take k).all (fun b => decide (97 ≤ (b.toNat : Int) ∧ (b.toNat : Int) ≤ 122)) = true) (h1 : 97 ≤ ((s[k]'h).toNat : Int)) (h2 : ((s[k]'h).toNat : Int) ≤ 122) :
    (s.data.toList.take (k + 1)).all (fun b => decide (97 ≤ (b.toNat : Int) ∧ (b.toNat : Int) ≤ 122)) = true := by
  rw [List.take_succ_eq_append_getElem (by simpa using h), List.all_append, hp]
  have : s.data.toList[k]'(by simpa using h) = s[k]'h := rfl
  simp only [List.all_cons, List.all_nil, this, Bool.true_and, Bool.and_true]
  exact decide_eq_true ⟨h1, h2⟩
theorem small_not (s : ByteArray) (k : Nat) (h : k < s.size) (hn : ¬ (97 ≤ ((s[k]'h).toNat : Int) ∧ ((s[k]'h).toNat : Int) ≤ 122)) : smallB s = false := by
  cases hs : smallB s with
  | false => rfl
  | true =>
    have := List.all_eq_true.1 hs (s[k]'h) (by rw [getElem_eq]; exact List.getElem_mem _)
    exact absurd (of_decide_eq_true this) hn

theorem in_any (n a b : Int) (w : World) :
    Calls Tryd.prog 23 #[.int .i64 n, .int .i64 a, .int .i64 b] w fun e w' => e = .returned (.bool (decide (a ≤ n) && decide (n ≤ b))) ∧ w' = w := by
  by_cases h1 : a ≤ n
  · go_enter Tryd.func23, Tryd.ntmps23
    go_wp2
    go_ret
    exact ⟨ret_bool (by rw [decide_eq_true h1]; simp), rfl⟩
  · have h1' : decide (a ≤ n) = false := decide_eq_false h1
    go_enter Tryd.func23, Tryd.ntmps23
    go_wp2
    go_ret
    exact ⟨ret_bool rfl, rfl⟩

set_option maxRecDepth 100000 in
set_option maxHeartbeats 800000 in
theorem implSmall_any (s : ByteArray) (w : World) (hs : s.size ≤ maxLen) :
    Calls Tryd.prog 63 #[.string s, .int .i64 5] w fun e w' => e = .returned (.bool (houseB s)) ∧ w' = w := by
  unfold maxLen at hs
  by_cases h1 : s.size < 1
  · have HN : Hid (houseB s = false) := by show _ = _; unfold houseB; rw [decide_eq_false (by omega)]; simp
    go_enter Tryd.func63, Tryd.ntmps63
    go_wp2
    go_ret
    exact ⟨ret_bool HN.out.symm, rfl⟩
  by_cases h5 : 5 < s.size
  · have HN : Hid (houseB s = false) := by show _ = _; unfold houseB; rw [decide_eq_false (by omega)]; simp
    go_enter Tryd.func63, Tryd.ntmps63
    go_wp2
    go_ret
    exact ⟨ret_bool HN.out.symm, rfl⟩
  go_enter Tryd.func63, Tryd.ntmps63
  go_wp2
  go_loop [5] (fun i => ∃ k : Nat, k ≤ s.size ∧ i = .int .i64 (k : Int) ∧ Hid ((s.data.toList.take k).all (fun b => decide (97 ≤ (b.toNat : Int) ∧ (b.toNat : Int) ≤ 122)) = true)) (fun i => s.size - (intOf i).toNat)
  case atStart => exact ⟨0, Nat.zero_le _, rfl, by show _ = _; simp⟩
  case round =>
    obtain ⟨k, hk, rfl, HP⟩ := hrel
    by_cases hlt : k < s.size
    · by_cases h1 : (97 : Int) ≤ (s[k]'hlt).toNat
      · by_cases h2 : ((s[k]'hlt).toNat : Int) ≤ 122
        · have HN : Hid _ := small_take s k hlt HP.out h1 h2
          go_wp2
          go_round
          case rel => exact ⟨k + 1, by omega, by go_num, HN.out⟩
          case measure => simp [intOf]; omega
        · have HN : Hid (houseB s = false) := by show _ = _; unfold houseB; rw [small_not s k hlt (by omega)]; simp
          go_wp2
          go_ret
          exact ⟨ret_bool HN.out.symm, rfl⟩
      · have HN : Hid (houseB s = false) := by show _ = _; unfold houseB; rw [small_not s k hlt (by omega)]; simp
        go_wp2
        go_ret
        exact ⟨ret_bool HN.out.symm, rfl⟩
    · have HS : Hid (houseB s = true) := by
        show _ = _
        have hall : smallB s = true := by
          have := HP.out
          rwa [List.take_of_length_le (by simp; omega)] at this
        unfold houseB
        rw [hall, decide_eq_true (by omega)]; rfl
      go_wp2
      go_ret
      exact ⟨ret_bool HS.out.symm, rfl⟩

end Go.Proofs.YtacelbhoccckbaaDoor.Ad1
