/- Whose a house is: of the program and of the model. -/
import Derived.Test.YtifhdpbidapoaaaAddrMath
import Derived.Test.YtifhdpbidapoaaaEscLeaf
import Derived.Test.YtifhdpbidapoaaaCmp
import Derived.Test.YtifhdpbidapoaaaNm1
namespace Go.Proofs.Ytifhdpbidapoaaa.Hs
open Go.RowKit Go.Proofs.Ytifhdpbidapoaaa.EscM Go.Proofs.Ytifhdpbidapoaaa.AddrM Go.Proofs.Ytifhdpbidapoaaa.St Go.Proofs.Ytifhdpbidapoaaa.EscL
open Go.Proofs.Ytifhdpbidapoaaa.Nm (small_take small_not small_all in_any)

set_option maxHeartbeats 800000 in
theorem specHouse_any (s : ByteArray) (w : World) (hs : s.size ≤ maxLen) :
    Calls Try.prog 13 #[.string s] w fun e w' => e = .returned (.bool (houseB s)) ∧ w' = w := by
  unfold maxLen at hs
  go_enter Try.func13, Try.ntmps13
  go_wp2
  go_loopw [3] (fun i wr => ∃ k : Nat, k ≤ s.size ∧ i = .int .i64 (k : Int) ∧ wr = w ∧ Hid ((s.data.toList.take k).all (fun b => decide (97 ≤ (b.toNat : Int) ∧ (b.toNat : Int) ≤ 122)) = true)) (fun i _ => s.size - (intOf i).toNat)
  case atStart => exact ⟨0, Nat.zero_le _, rfl, rfl, by show _ = _; simp⟩
  case round =>
    obtain ⟨k, hk, rfl, rfl, HP⟩ := hrel
    by_cases hlt : k < s.size
    · by_cases h1 : (97 : Int) ≤ (s[k]'hlt).toNat
      · by_cases h2 : ((s[k]'hlt).toNat : Int) ≤ 122
        · have HN : Hid _ := small_take s k hlt HP.out h1 h2
          go_wp2
          go_roundw
          case rel => exact ⟨k + 1, by omega, by go_num, by trivial, HN.out⟩
          case measure => simp [intOf]; omega
        · have HN : Hid (houseB s = false) := by show _ = _; unfold houseB; rw [small_not s k hlt (by omega)]; simp
          go_wp2
          go_ret
          exact ⟨ret_bool HN.out.symm, rfl⟩
      · have HN : Hid (houseB s = false) := by show _ = _; unfold houseB; rw [small_not s k hlt (by omega)]; simp
        go_wp2
        go_ret
        exact ⟨ret_bool HN.out.symm, rfl⟩
    · have HS : Hid (houseB s = (decide ((1 : Int) ≤ (s.size : Int)) && decide ((s.size : Int) ≤ 5))) := by
        show _ = _
        unfold houseB
        rw [small_all (by omega) HP.out, Bool.and_true, Bool.eq_iff_iff]; simp; omega
      go_wp2_with (go_at_call 14; refine (in_any _ _ _ _).mono ?_; rintro e w1 ⟨rfl, rfl⟩)
      go_ret
      exact ⟨ret_bool HS.out.symm, rfl⟩

set_option maxHeartbeats 800000 in
theorem implSmall_any (s : ByteArray) (w : World) (hs : s.size ≤ maxLen) :
    Calls Try.prog 11 #[.string s, .int .i64 5] w fun e w' => e = .returned (.bool (houseB s)) ∧ w' = w := by
  unfold maxLen at hs
  by_cases h1 : s.size < 1
  · have HN : Hid (houseB s = false) := by show _ = _; unfold houseB; rw [decide_eq_false (by omega)]; simp
    go_enter Try.func11, Try.ntmps11
    go_wp2
    go_ret
    exact ⟨ret_bool HN.out.symm, rfl⟩
  by_cases h5 : 5 < s.size
  · have HN : Hid (houseB s = false) := by show _ = _; unfold houseB; rw [decide_eq_false (by omega)]; simp
    go_enter Try.func11, Try.ntmps11
    go_wp2
    go_ret
    exact ⟨ret_bool HN.out.symm, rfl⟩
  go_enter Try.func11, Try.ntmps11
  go_wp2
  go_loop [5] (fun i => ∃ k : Nat, k ≤ s.size ∧ i = .int .i64 (k : Int) ∧ Hid ((s.data.toList.take k).all (fun b => decide (97 ≤ (b.toNat : Int) ∧ (b.toNat : Int) ≤ 122)) = true)) (fun i => s.size - (intOf i).toNat)
  case atStart => exact ⟨0, Nat.zero_le _, rfl, by show _ = _; simp⟩
  case round =>
    obtain ⟨k, hk, rfl, HP⟩ := hrel
    by_cases hlt : k < s.size
    · by_cases h1 : (97 : Int) ≤ (s[k]'hlt).toNat
      · by_cases h2 : ((s[k]'hlt).toNat : Int) ≤ 122
        · have HN : Hid _ := small_take s k hlt HP.out h1 h2
          go_wp2
          go_round
          case rel => exact ⟨k + 1, by omega, by go_num, HN.out⟩
          case measure => simp [intOf]; omega
        · have HN : Hid (houseB s = false) := by show _ = _; unfold houseB; rw [small_not s k hlt (by omega)]; simp
          go_wp2
          go_ret
          exact ⟨ret_bool HN.out.symm, rfl⟩
      · have HN : Hid (houseB s = false) := by show _ = _; unfold houseB; rw [small_not s k hlt (by omega)]; simp
        go_wp2
        go_ret
        exact ⟨ret_bool HN.out.symm, rfl⟩
    · have HS : Hid (houseB s = true) := by
        show _ = _
        unfold houseB
        rw [small_all (by omega) HP.out, decide_eq_true (by omega)]; rfl
      go_wp2
      go_ret
      exact ⟨ret_bool HS.out.symm, rfl⟩

/-- all bytes together -/
def sumL (L : List UInt8) : Nat := L.foldl (fun n b => n + b.toNat) 0
theorem sum_take (s : ByteArray) (k : Nat) (h : k < s.size) : sumL (s.data.toList.take (k + 1)) = sumL (s.data.toList.take k) + (s[k]'h).toNat := by
  rw [List.take_succ_eq_append_getElem (by simpa using h)]
  unfold sumL
  rw [List.foldl_append]; rfl
theorem sum_le (L : List UInt8) : ∀ n, L.foldl (fun n b => n + b.toNat) n ≤ n + 255 * L.length := by
  induction L with
  | nil => intro n; simp
  | cons a l ih =>
    intro n
    have := ih (n + a.toNat)
    have ha : a.toNat < 256 := a.toNat_lt
    simp only [List.foldl_cons, List.length_cons]
    omega
theorem sum_bd (s : ByteArray) (k : Nat) (hk : k ≤ s.size) : sumL (s.data.toList.take k) ≤ 255 * k := by
  have := sum_le (s.data.toList.take k) 0
  have h2 : (s.data.toList.take k).length ≤ k := by simp; omega
  unfold sumL
  omega
/-- whose a house is, of so many -/
def shareI (s : ByteArray) (n : Int) : Int := if houseB s = true ∧ 1 ≤ n ∧ n ≤ 3 then ((sumL s.data.toList : Nat) : Int) % n else -1

set_option maxHeartbeats 800000 in
theorem implMany_any (n : Int) (w : World) :
    Calls Try.prog 12 #[.int .i64 n] w fun e w' => e = .returned (.bool (decide (1 ≤ n) && decide (n ≤ 3))) ∧ w' = w := by
  by_cases h1 : 1 ≤ n
  · go_enter Try.func12, Try.ntmps12
    go_wp2
    go_ret
    exact ⟨ret_bool (by rw [decide_eq_true h1]; simp), rfl⟩
  · have h1' : decide (1 ≤ n) = false := decide_eq_false h1
    go_enter Try.func12, Try.ntmps12
    go_wp2
    go_ret
    exact ⟨ret_bool rfl, rfl⟩

theorem house_size {s : ByteArray} (h : houseB s = true) : s.size ≤ 5 := by
  unfold houseB at h
  rw [Bool.and_eq_true] at h
  have := of_decide_eq_true h.1
  omega

set_option maxHeartbeats 800000 in
theorem specOf_any (s : ByteArray) (n : Int) (w : World) (hs : s.size ≤ 5) (h1 : 1 ≤ n) (h3 : n ≤ 3) :
    Calls Try.prog 15 #[.string s, .int .i64 n] w fun e w' => e = .returned (.int .i64 (((sumL s.data.toList : Nat) : Int) % n)) ∧ w' = w := by
  go_enter Try.func15, Try.ntmps15
  go_wp2
  go_loop [5, 6] (fun m i => ∃ k : Nat, k ≤ s.size ∧ i = .int .i64 (k : Int) ∧ m = .int .i64 ((sumL (s.data.toList.take k) : Nat) : Int)) (fun _ i => s.size - (intOf i).toNat)
  case atStart => exact ⟨0, Nat.zero_le _, rfl, rfl⟩
  case round =>
    obtain ⟨k, hk, rfl, rfl⟩ := hrel
    have hbd := sum_bd s k hk
    by_cases hlt : k < s.size
    · have HE : Hid (sumL (s.data.toList.take (k + 1)) = _) := sum_take s k hlt
      have hb : (s[k]'hlt).toNat < 256 := (s[k]'hlt).toNat_lt
      generalize sumL (s.data.toList.take k) = y at hbd HE
      go_wp2
      go_round
      case rel => exact ⟨k + 1, by omega, by go_num, by rw [HE.out]; go_num⟩
      case measure => simp [intOf]; omega
    · have HE : Hid (sumL (s.data.toList.take k) = sumL s.data.toList) := by show _ = _; rw [List.take_of_length_le (by simp; omega)]
      rw [HE.out] at hbd
      rw [HE.out]
      obtain ⟨y, hy⟩ : ∃ y, sumL s.data.toList = y := ⟨_, rfl⟩
      have HY : Hid (sumL s.data.toList = y) := hy
      rw [hy] at hbd ⊢
      clear hy HE
      obtain rfl | rfl | rfl : n = 1 ∨ n = 2 ∨ n = 3 := by omega
      all_goals
        go_wp2
        go_ret
        exact ⟨by first | rfl | (rw [HY.out]; rfl), rfl⟩

set_option maxHeartbeats 800000 in
theorem specShare_any (s : ByteArray) (n : Int) (w : World) (hs : s.size ≤ maxLen) :
    Calls Try.prog 7 #[.string s, .int .i64 n] w fun e w' => e = .returned (.int .i64 (shareI s n)) ∧ w' = w := by
  cases hh : houseB s with
  | false =>
    have HN : Hid (shareI s n = -1) := by show _ = _; unfold shareI; rw [hh]; simp
    go_enter Try.func7, Try.ntmps7
    go_wp2_with fail
    refine (specHouse_any s _ hs).mono ?_
    rintro e w1 ⟨rfl, rfl⟩
    rw [hh]
    go_wp2
    go_ret
    exact ⟨by rw [HN.out]; rfl, rfl⟩
  | true =>
    have hs5 := house_size hh
    by_cases hn : 1 ≤ n ∧ n ≤ 3
    · have HN : Hid (shareI s n = ((sumL s.data.toList : Nat) : Int) % n) := by show _ = _; unfold shareI; rw [if_pos ⟨hh, hn⟩]
      obtain ⟨hn1, hn3⟩ := hn
      have hb : (decide (1 ≤ n) && decide (n ≤ 3)) = true := by simp; omega
      go_enter Try.func7, Try.ntmps7
      go_wp2_with fail
      refine (specHouse_any s _ hs).mono ?_
      rintro e w1 ⟨rfl, rfl⟩
      rw [hh]
      go_wp2_with fail
      refine (in_any _ _ _ _).mono ?_
      rintro e w2 ⟨rfl, rfl⟩
      rw [hb]
      go_wp2_with fail
      refine (specOf_any s n _ hs5 hn1 hn3).mono ?_
      rintro e w3 ⟨rfl, rfl⟩
      go_wp2
      go_ret
      exact ⟨by rw [HN.out]; rfl, rfl⟩
    · have HN : Hid (shareI s n = -1) := by show _ = _; unfold shareI; rw [if_neg (fun h => hn h.2)]
      have hb : (decide (1 ≤ n) && decide (n ≤ 3)) = false := by simp; omega
      go_enter Try.func7, Try.ntmps7
      go_wp2_with fail
      refine (specHouse_any s _ hs).mono ?_
      rintro e w1 ⟨rfl, rfl⟩
      rw [hh]
      go_wp2_with fail
      refine (in_any _ _ _ _).mono ?_
      rintro e w2 ⟨rfl, rfl⟩
      rw [hb]
      go_wp2
      go_ret
      exact ⟨by rw [HN.out]; rfl, rfl⟩

set_option maxHeartbeats 800000 in
theorem implShare_any (s : ByteArray) (n : Int) (w : World) (hs : s.size ≤ maxLen) :
    Calls Try.prog 6 #[.string s, .int .i64 n] w fun e w' => e = .returned (.int .i64 (shareI s n)) ∧ w' = w := by
  cases hh : houseB s with
  | false =>
    have HN : Hid (shareI s n = -1) := by show _ = _; unfold shareI; rw [hh]; simp
    go_enter Try.func6, Try.ntmps6
    go_wp2_with fail
    refine (implSmall_any s _ hs).mono ?_
    rintro e w1 ⟨rfl, rfl⟩
    rw [hh]
    go_wp2
    go_ret
    exact ⟨by rw [HN.out]; rfl, rfl⟩
  | true =>
    have hs5 := house_size hh
    by_cases hn : 1 ≤ n ∧ n ≤ 3
    · have HN : Hid (shareI s n = ((sumL s.data.toList : Nat) : Int) % n) := by show _ = _; unfold shareI; rw [if_pos ⟨hh, hn⟩]
      obtain ⟨hn1, hn3⟩ := hn
      have hb : (decide (1 ≤ n) && decide (n ≤ 3)) = true := by simp; omega
      go_enter Try.func6, Try.ntmps6
      go_wp2_with fail
      refine (implSmall_any s _ hs).mono ?_
      rintro e w1 ⟨rfl, rfl⟩
      rw [hh]
      go_wp2_with fail
      refine (implMany_any _ _).mono ?_
      rintro e w2 ⟨rfl, rfl⟩
      rw [hb]
      go_wp2
      go_loop [5, 17] (fun m i => ∃ k : Nat, k ≤ s.size ∧ i = .int .i64 (k : Int) ∧ m = .int .i64 ((sumL (s.data.toList.take k) : Nat) : Int)) (fun _ i => s.size - (intOf i).toNat)
      case atStart => exact ⟨0, Nat.zero_le _, rfl, rfl⟩
      case round =>
        obtain ⟨k, hk, rfl, rfl⟩ := hrel
        have hbd := sum_bd s k hk
        by_cases hlt : k < s.size
        · have HE : Hid (sumL (s.data.toList.take (k + 1)) = _) := sum_take s k hlt
          have hb : (s[k]'hlt).toNat < 256 := (s[k]'hlt).toNat_lt
          generalize sumL (s.data.toList.take k) = y at hbd HE
          go_wp2
          go_round
          case rel => exact ⟨k + 1, by omega, by go_num, by rw [HE.out]; go_num⟩
          case measure => simp [intOf]; omega
        · have HE : Hid (sumL (s.data.toList.take k) = sumL s.data.toList) := by show _ = _; rw [List.take_of_length_le (by simp; omega)]
          rw [HE.out] at hbd
          rw [HE.out]
          generalize sumL s.data.toList = y at hbd HN
          obtain rfl | rfl | rfl : n = 1 ∨ n = 2 ∨ n = 3 := by omega
          all_goals
            go_wp2
            go_ret
            exact ⟨by rw [HN.out]; first | rfl | (rw [Int.emod_one]; rfl), rfl⟩
    · have HN : Hid (shareI s n = -1) := by show _ = _; unfold shareI; rw [if_neg (fun h => hn h.2)]
      have hb : (decide (1 ≤ n) && decide (n ≤ 3)) = false := by simp; omega
      go_enter Try.func6, Try.ntmps6
      go_wp2_with fail
      refine (implSmall_any s _ hs).mono ?_
      rintro e w1 ⟨rfl, rfl⟩
      rw [hh]
      go_wp2_with fail
      refine (implMany_any _ _).mono ?_
      rintro e w2 ⟨rfl, rfl⟩
      rw [hb]
      go_wp2
      go_ret
      exact ⟨by rw [HN.out]; rfl, rfl⟩
end Go.Proofs.Ytifhdpbidapoaaa.Hs
