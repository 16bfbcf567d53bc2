/- Several texts in one: Addr1, Addr2, Addr3, Addr4. -/
import Derived.Test.YtboncolbijicfaaGreatDoorAddrMathPk
import Derived.Test.YtboncolbijicfaaGreatDoorEscLaws
import Derived.Test.YtboncolbijicfaaGreatDoorEscMeantPk
import Derived.Test.YtboncolbijicfaaGreatDoorCmp
import Derived.Test.YtboncolbijicfaaGreatDoorShelf
/- Is an address ok, and how is it written: of the program and of the model. The leaves. -/
namespace Go.Proofs.YtboncolbijicfaaGreatDoor.Ad1
open Go.RowKit Go.Proofs.YtboncolbijicfaaGreatDoor.EscM Go.Proofs.YtboncolbijicfaaGreatDoor.AddrM Go.Proofs.YtboncolbijicfaaGreatDoor.St Go.Proofs.YtboncolbijicfaaGreatDoor.EscL

theorem small_take (s : ByteArray) (k : Nat) (h : k < s.size) (hp : (s.data.toList.take k).all (fun b => decide (97 ≤ (b.toNat : Int) ∧ (b.toNat : Int) ≤ 122)) = true) (h1 : 97 ≤ ((s[k]'h).toNat : Int)) (h2 : ((s[k]'h).toNat : Int) ≤ 122) :
    (s.data.toList.take (k + 1)).all (fun b => decide (97 ≤ (b.toNat : Int) ∧ (b.toNat : Int) ≤ 122)) = true := by
  rw [List.take_succ_eq_append_getElem (by simpa using h), List.all_append, hp]
  have : s.data.toList[k]'(by simpa using h) = s[k]'h := rfl
  simp only [List.all_cons, List.all_nil, this, Bool.true_and, Bool.and_true]
  exact decide_eq_true ⟨h1, h2⟩
theorem small_not (s : ByteArray) (k : Nat) (h : k < s.size) (hn : ¬ (97 ≤ ((s[k]'h).toNat : Int) ∧ ((s[k]'h).toNat : Int) ≤ 122)) : smallB s = false := by
  cases hs : smallB s with
  | false => rfl
  | true =>
    have := List.all_eq_true.1 hs (s[k]'h) (by rw [getElem_eq]; exact List.getElem_mem _)
    exact absurd (of_decide_eq_true this) hn

theorem in_any (n a b : Int) (w : World) :
    Calls Tryz.prog 64 #[.int .i64 n, .int .i64 a, .int .i64 b] w fun e w' => e = .returned (.bool (decide (a ≤ n) && decide (n ≤ b))) ∧ w' = w := by
  by_cases h1 : a ≤ n
  · go_enter Tryz.func64, Tryz.ntmps64
    go_wp2
    go_ret
    exact ⟨ret_bool (by rw [decide_eq_true h1]; simp), rfl⟩
  · have h1' : decide (a ≤ n) = false := decide_eq_false h1
    go_enter Tryz.func64, Tryz.ntmps64
    go_wp2
    go_ret
    exact ⟨ret_bool rfl, rfl⟩

set_option maxRecDepth 100000 in
set_option maxHeartbeats 800000 in
theorem specHouse_any (s : ByteArray) (w : World) (hs : s.size ≤ maxLen) :
    Calls Tryz.prog 101 #[.string s] w fun e w' => e = .returned (.bool (houseB s)) ∧ w' = w := by
  unfold maxLen at hs
  go_enter Tryz.func101, Tryz.ntmps101
  go_wp2
  go_loopw [3] (fun i wr => ∃ k : Nat, k ≤ s.size ∧ i = .int .i64 (k : Int) ∧ wr = w ∧ Hid ((s.data.toList.take k).all (fun b => decide (97 ≤ (b.toNat : Int) ∧ (b.toNat : Int) ≤ 122)) = true)) (fun i _ => s.size - (intOf i).toNat)
  case atStart => exact ⟨0, Nat.zero_le _, rfl, rfl, by show _ = _; simp⟩
  case round =>
    obtain ⟨k, hk, rfl, rfl, HP⟩ := hrel
    by_cases hlt : k < s.size
    · by_cases h1 : (97 : Int) ≤ (s[k]'hlt).toNat
      · by_cases h2 : ((s[k]'hlt).toNat : Int) ≤ 122
        · have HN : Hid _ := small_take s k hlt HP.out h1 h2
          go_wp2
          go_roundw
          case rel => exact ⟨k + 1, by omega, by go_num, by trivial, HN.out⟩
          case measure => simp [intOf]; omega
        · have HN : Hid (houseB s = false) := by show _ = _; unfold houseB; rw [small_not s k hlt (by omega)]; simp
          go_wp2
          go_ret
          exact ⟨ret_bool HN.out.symm, rfl⟩
      · have HN : Hid (houseB s = false) := by show _ = _; unfold houseB; rw [small_not s k hlt (by omega)]; simp
        go_wp2
        go_ret
        exact ⟨ret_bool HN.out.symm, rfl⟩
    · have HS : Hid (houseB s = (decide ((1 : Int) ≤ (s.size : Int)) && decide ((s.size : Int) ≤ 5))) := by
        show _ = _
        have hall : smallB s = true := by
          have := HP.out
          rwa [List.take_of_length_le (by simp; omega)] at this
        unfold houseB
        rw [hall, Bool.and_true, Bool.eq_iff_iff]; simp; omega
      go_wp2_with (go_at_call 64; refine (in_any _ _ _ _).mono ?_; rintro e w1 ⟨rfl, rfl⟩)
      go_ret
      exact ⟨ret_bool HS.out.symm, rfl⟩

set_option maxRecDepth 100000 in
set_option maxHeartbeats 800000 in
theorem implSmall_any (s : ByteArray) (w : World) (hs : s.size ≤ maxLen) :
    Calls Tryz.prog 90 #[.string s, .int .i64 5] w fun e w' => e = .returned (.bool (houseB s)) ∧ w' = w := by
  unfold maxLen at hs
  by_cases h1 : s.size < 1
  · have HN : Hid (houseB s = false) := by show _ = _; unfold houseB; rw [decide_eq_false (by omega)]; simp
    go_enter Tryz.func90, Tryz.ntmps90
    go_wp2
    go_ret
    exact ⟨ret_bool HN.out.symm, rfl⟩
  by_cases h5 : 5 < s.size
  · have HN : Hid (houseB s = false) := by show _ = _; unfold houseB; rw [decide_eq_false (by omega)]; simp
    go_enter Tryz.func90, Tryz.ntmps90
    go_wp2
    go_ret
    exact ⟨ret_bool HN.out.symm, rfl⟩
  go_enter Tryz.func90, Tryz.ntmps90
  go_wp2
  go_loop [5] (fun i => ∃ k : Nat, k ≤ s.size ∧ i = .int .i64 (k : Int) ∧ Hid ((s.data.toList.take k).all (fun b => decide (97 ≤ (b.toNat : Int) ∧ (b.toNat : Int) ≤ 122)) = true)) (fun i => s.size - (intOf i).toNat)
  case atStart => exact ⟨0, Nat.zero_le _, rfl, by show _ = _; simp⟩
  case round =>
    obtain ⟨k, hk, rfl, HP⟩ := hrel
    by_cases hlt : k < s.size
    · by_cases h1 : (97 : Int) ≤ (s[k]'hlt).toNat
      · by_cases h2 : ((s[k]'hlt).toNat : Int) ≤ 122
        · have HN : Hid _ := small_take s k hlt HP.out h1 h2
          go_wp2
          go_round
          case rel => exact ⟨k + 1, by omega, by go_num, HN.out⟩
          case measure => simp [intOf]; omega
        · have HN : Hid (houseB s = false) := by show _ = _; unfold houseB; rw [small_not s k hlt (by omega)]; simp
          go_wp2
          go_ret
          exact ⟨ret_bool HN.out.symm, rfl⟩
      · have HN : Hid (houseB s = false) := by show _ = _; unfold houseB; rw [small_not s k hlt (by omega)]; simp
        go_wp2
        go_ret
        exact ⟨ret_bool HN.out.symm, rfl⟩
    · have HS : Hid (houseB s = true) := by
        show _ = _
        have hall : smallB s = true := by
          have := HP.out
          rwa [List.take_of_length_le (by simp; omega)] at this
        unfold houseB
        rw [hall, decide_eq_true (by omega)]; rfl
      go_wp2
      go_ret
      exact ⟨ret_bool HS.out.symm, rfl⟩

theorem specNorm_any (s : ByteArray) (w : World) (hs : s.size ≤ maxLen) :
    Calls Tryz.prog 145 #[.string s] w fun e w' => e = .returned (.bool (normB s)) ∧ Below w.heap.size w w' := by
  cases hb : escB s with
  | true =>
    have HB : Hid _ := hb
    have HN : Hid (normB s = ((escS s).toList == s.toList)) := by show _ = _; unfold normB; rw [hb]; rfl
    clear hb
    go_enter Tryz.func145, Tryz.ntmps145
    go_wp2_with (go_at_call 171; refine (specEsc_any s _ hs).mono ?_; rintro e w1 ⟨rfl, hb1⟩; rw [HB.out])
    go_ret
    exact ⟨ret_bool HN.out.symm, hb1⟩
  | false =>
    have HB : Hid _ := hb
    have HN : Hid (normB s = false) := by show _ = _; unfold normB; rw [hb]; rfl
    clear hb
    go_enter Tryz.func145, Tryz.ntmps145
    go_wp2_with (go_at_call 171; refine (specEsc_any s _ hs).mono ?_; rintro e w1 ⟨rfl, hb1⟩; rw [HB.out])
    go_ret
    exact ⟨ret_bool HN.out.symm, hb1⟩

theorem implNorm_any (s : ByteArray) (w : World) (hs : s.size ≤ maxLen) :
    Calls Tryz.prog 156 #[.string s] w fun e w' => e = .returned (.bool (normB s)) ∧ Below w.heap.size w w' := by
  cases hb : escB s with
  | true =>
    have HB : Hid _ := hb
    have HN : Hid (normB s = ((escS s).toList == s.toList)) := by show _ = _; unfold normB; rw [hb]; rfl
    clear hb
    go_enter Tryz.func156, Tryz.ntmps156
    go_wp2_with (go_at_call 178; refine (implEsc_any s _ hs).mono ?_; rintro e w1 ⟨rfl, hb1⟩; rw [HB.out])
    go_ret
    exact ⟨ret_bool HN.out.symm, hb1⟩
  | false =>
    have HB : Hid _ := hb
    have HN : Hid (normB s = false) := by show _ = _; unfold normB; rw [hb]; rfl
    clear hb
    go_enter Tryz.func156, Tryz.ntmps156
    go_wp2_with (go_at_call 178; refine (implEsc_any s _ hs).mono ?_; rintro e w1 ⟨rfl, hb1⟩; rw [HB.out])
    go_ret
    exact ⟨ret_bool HN.out.symm, hb1⟩

theorem implPart_any (s : ByteArray) (w : World) (hs : s.size ≤ maxLen) :
    Calls Tryz.prog 155 #[.string s] w fun e w' => e = .returned (.bool (partB s)) ∧ Below w.heap.size w w' := by
  cases h1 : s.toList.isEmpty with
  | true =>
    have HN : Hid (partB s = false) := by show _ = _; unfold partB; rw [h1]; rfl
    go_enter Tryz.func155, Tryz.ntmps155
    go_wp2
    go_ret
    exact ⟨ret_bool HN.out.symm, Below.refl _ _⟩
  | false =>
    cases h2 : (s.toList == [46]) with
    | true =>
      have HN : Hid (partB s = false) := by show _ = _; unfold partB; rw [h1, h2]; rfl
      go_enter Tryz.func155, Tryz.ntmps155
      go_wp2
      go_ret
      exact ⟨ret_bool HN.out.symm, Below.refl _ _⟩
    | false =>
      cases h3 : (s.toList == [46, 46]) with
      | true =>
        have HN : Hid (partB s = false) := by show _ = _; unfold partB; rw [h1, h2, h3]; rfl
        go_enter Tryz.func155, Tryz.ntmps155
        go_wp2
        go_ret
        exact ⟨ret_bool HN.out.symm, Below.refl _ _⟩
      | false =>
        have HN : Hid (partB s = normB s) := by show _ = _; unfold partB; rw [h1, h2, h3]; rfl
        go_enter Tryz.func155, Tryz.ntmps155
        go_wp2_with (go_at_call 156; refine (implNorm_any s _ hs).mono ?_; rintro e w1 ⟨rfl, hb1⟩)
        go_ret
        exact ⟨ret_bool HN.out.symm, hb1⟩
end Go.Proofs.YtboncolbijicfaaGreatDoor.Ad1
/- How an address is written: of the program and of the model. -/
namespace Go.Proofs.YtboncolbijicfaaGreatDoor.Ad1
open Go.RowKit Go.Proofs.YtboncolbijicfaaGreatDoor.EscM Go.Proofs.YtboncolbijicfaaGreatDoor.AddrM Go.Proofs.YtboncolbijicfaaGreatDoor.St Go.Proofs.YtboncolbijicfaaGreatDoor.EscL

theorem size_mk (l : List UInt8) : (⟨l.toArray⟩ : ByteArray).size = l.length := by show l.toArray.size = _; simp
theorem app_mk (l : List UInt8) (s : ByteArray) : (⟨l.toArray⟩ : ByteArray) ++ s = ⟨(l ++ s.data.toList).toArray⟩ := by apply ByteArray.ext; simp
theorem app_mk' (s : ByteArray) (l : List UInt8) : s ++ (⟨l.toArray⟩ : ByteArray) = ⟨(s.data.toList ++ l).toArray⟩ := by apply ByteArray.ext; simp

theorem path_step (L : List ByteArray) (k : Nat) (hk : k < L.length) (h0 : 0 < k) : 47 :: joinL (L.take (k + 1)) = ((47 :: joinL (L.take k)) ++ [47]) ++ L[k].data.toList := by
  rw [List.take_succ_eq_append_getElem hk, joinL_snoc _ _ (by intro e; have := congrArg List.length e; rw [List.length_take] at this; simp only [List.length_nil] at this; omega)]
  simp
theorem path_zero (L : List ByteArray) (k : Nat) (hk : k < L.length) (h0 : k = 0) : 47 :: joinL (L.take (k + 1)) = (47 :: joinL (L.take k)) ++ L[k].data.toList := by
  subst h0
  rw [List.take_succ_eq_append_getElem hk]; simp [joinL]
theorem sum_take (L : List ByteArray) (k : Nat) : sumS (L.take k) ≤ sumS L := by
  induction L generalizing k with
  | nil => simp [sumS]
  | cons x r ih =>
    cases k with
    | zero => simp [sumS]
    | succ k => have := ih k; simp only [List.take_succ_cons, sumS]; omega

set_option maxRecDepth 100000 in
set_option maxHeartbeats 1600000 in
theorem specPathW_any (A : Ad) (a0 : Option Addr) (cap : Nat) (w : World) (hS : IsStrs w a0 cap A.parts) (hB : bulkA A ≤ 4194304) :
    Calls Tryz.prog 146 #[.agg #[.string A.house, .slice a0 A.parts.length cap, .bool A.asks, .string A.ask]] w fun e w' => e = .returned (.string (pathS A)) ∧ Below w.heap.size w w' := by
  have HS : Hid (IsStrs (w.alloc (.cells #[.string A.house, .slice a0 A.parts.length cap, .bool A.asks, .string A.ask] 73)) a0 cap A.parts) := hS.keep (alloc_keep _ _)
  have hB2 : A.house.size + sumS A.parts + A.parts.length + A.ask.size ≤ 4194304 := hB
  have hpl := pathL_len A
  have hc := hS.1
  have hm := hS.2.1
  unfold maxLen at hm
  have HE : Hid (pathL A = (47 :: joinL A.parts) ++ if A.asks then [63] ++ A.ask.data.toList else []) := by show _ = _; unfold pathL; simp
  have hjl := joinL_len A.parts
  unfold pathS
  clear hS
  obtain ⟨house, parts, asks, ask⟩ := A
  dsimp only at *
  go_enter Tryz.func146, Tryz.ntmps146
  go_wp2
  go_loop [3, 4] (fun v i => ∃ k : Nat, k ≤ parts.length ∧ i = .int .i64 (k : Int) ∧ v = .string ⟨(47 :: joinL (parts.take k)).toArray⟩) (fun _ i => parts.length - (intOf i).toNat)
  case atStart => exact ⟨0, Nat.zero_le _, rfl, rfl⟩
  case round =>
    obtain ⟨k, hk, rfl, rfl⟩ := hrel
    have hjk := joinL_len (parts.take k)
    have hst := sum_take parts k
    have hjn : (joinL (parts.take k)).length ≤ 8400000 := by rw [List.length_take] at hjk; omega
    clear hjk hst
    by_cases hlt : k < parts.length
    · obtain ⟨b, o, e, c⟩ := HS.out.at hlt
      have hps := sum_mem (List.getElem_mem hlt)
      subst e
      by_cases hk0 : 0 < k
      · have HT : Hid _ := path_step parts k hlt hk0
        generalize parts[k] = p at *
        go_wp2
        go_round
        case rel => exact ⟨k + 1, by omega, by go_num, val_str (by rw [HT.out, show (⟨#[47]⟩ : ByteArray) = ⟨[47].toArray⟩ from rfl, str_app, app_mk])⟩
        case measure => simp [intOf]; omega
      · have HT : Hid _ := path_zero parts k hlt (by omega)
        generalize parts[k] = p at *
        go_wp2
        go_round
        case rel => exact ⟨k + 1, by omega, by go_num, val_str (by rw [HT.out, app_mk])⟩
        case measure => simp [intOf]; omega
    · have e1 : parts.take k = parts := List.take_of_length_le (by omega)
      rw [e1] at hjn ⊢
      cases asks with
      | true =>
        clear e1
        go_wp2
        go_ret
        refine ⟨ret_str ?_, (Below.refl _ _).alloc (Nat.le_refl _) _⟩
        rw [HE.out, show (⟨#[63]⟩ : ByteArray) = ⟨[63].toArray⟩ from rfl, str_app, app_mk]
        simp
      | false =>
        clear e1
        go_wp2
        go_ret
        refine ⟨ret_str ?_, (Below.refl _ _).alloc (Nat.le_refl _) _⟩
        rw [HE.out]; simp

set_option maxRecDepth 100000 in
set_option maxHeartbeats 1600000 in
theorem implPathW_any (A : Ad) (a0 : Option Addr) (cap : Nat) (w : World) (hS : IsStrs w a0 cap A.parts) (hB : bulkA A ≤ 4194304) :
    Calls Tryz.prog 157 #[.agg #[.string A.house, .slice a0 A.parts.length cap, .bool A.asks, .string A.ask]] w fun e w' => e = .returned (.string (pathS A)) ∧ Below w.heap.size w w' := by
  have HS : Hid (IsStrs (w.alloc (.cells #[.string A.house, .slice a0 A.parts.length cap, .bool A.asks, .string A.ask] 73)) a0 cap A.parts) := hS.keep (alloc_keep _ _)
  have hB2 : A.house.size + sumS A.parts + A.parts.length + A.ask.size ≤ 4194304 := hB
  have hc := hS.1
  have hm := hS.2.1
  unfold maxLen at hm
  have HE : Hid (pathL A = (47 :: joinL A.parts) ++ if A.asks then [63] ++ A.ask.data.toList else []) := by show _ = _; unfold pathL; simp
  have hjl := joinL_len A.parts
  unfold pathS
  clear hS
  obtain ⟨house, parts, asks, ask⟩ := A
  dsimp only at *
  have HJ : Hid (Calls Tryz.prog 183 #[.slice a0 parts.length cap, .string ⟨#[47]⟩] (w.alloc (.cells #[.string house, .slice a0 parts.length cap, .bool asks, .string ask] 73)) fun e w' => e = .returned (.string ⟨(joinL parts).toArray⟩) ∧ Below (w.heap.size + 1) (w.alloc (.cells #[.string house, .slice a0 parts.length cap, .bool asks, .string ask] 73)) w') := by
    show Calls _ _ _ _ _
    by_cases hne : parts = []
    · subst hne
      refine (Tryz.strings_Join_none a0 cap ⟨#[47]⟩ _).mono ?_
      rintro e w' ⟨rfl, rfl⟩
      exact ⟨rfl, Below.refl _ _⟩
    · obtain ⟨b, o, e, hcell⟩ := HS.out.2.2.2 hne
      subst e
      have hblk := cell_block (hcell 0 (List.length_pos_iff.2 hne))
      have hlen : (Lib.join (parts.map (·.data.toList)) (⟨#[47]⟩ : ByteArray).data.toList).length ≤ 140737488355328 := by
        rw [show (⟨#[47]⟩ : ByteArray).data.toList = [47] from rfl, join_eq]; omega
      refine (Tryz.strings_Join b o cap parts ⟨#[47]⟩ _ ?_ hblk (by omega) hc hlen).mono ?_
      · intro j x hj
        have hj' := (List.getElem?_eq_some_iff.1 hj)
        rw [hcell j hj'.1, hj'.2]
      · rintro e w' ⟨rfl, hb⟩
        refine ⟨?_, by simpa using hb⟩
        rw [show (⟨#[47]⟩ : ByteArray).data.toList = [47] from rfl, join_eq]
  go_enter Tryz.func157, Tryz.ntmps157
  go_wp2_with fail
  refine HJ.out.mono ?_
  rintro e w1 ⟨rfl, hb1⟩
  have hc1 : ∀ j, w1.cell? ⟨w.heap.size, j, none⟩ = (w.alloc (.cells #[.string house, .slice a0 parts.length cap, .bool asks, .string ask] 73)).cell? ⟨w.heap.size, j, none⟩ := fun j => hb1.cell (by show w.heap.size < _; omega)
  have c2 : w1.cell? ⟨w.heap.size, 2, none⟩ = some (.bool asks) := by rw [hc1]; simp
  have c3 : w1.cell? ⟨w.heap.size, 3, none⟩ = some (.string ask) := by rw [hc1]; simp
  have hbw : Below w.heap.size w w1 := ((Below.refl _ _).alloc (Nat.le_refl _) _).trans (hb1.mono (by omega))
  clear hc1 HJ HS hb1
  cases asks with
  | true =>
    go_wp2
    go_ret
    refine ⟨ret_str ?_, hbw⟩
    rw [HE.out, show (⟨#[47]⟩ : ByteArray) = ⟨[47].toArray⟩ from rfl, show (⟨#[63]⟩ : ByteArray) = ⟨[63].toArray⟩ from rfl, str_app, app_mk, str_app]
    simp
  | false =>
    go_wp2
    go_ret
    refine ⟨ret_str ?_, hbw⟩
    rw [HE.out, show (⟨#[47]⟩ : ByteArray) = ⟨[47].toArray⟩ from rfl, str_app]
    simp
end Go.Proofs.YtboncolbijicfaaGreatDoor.Ad1
/- An address's text, and whether it is ok: of the program and of the model. -/
namespace Go.Proofs.YtboncolbijicfaaGreatDoor.Ad1
open Go.RowKit Go.Proofs.YtboncolbijicfaaGreatDoor.EscM Go.Proofs.YtboncolbijicfaaGreatDoor.AddrM Go.Proofs.YtboncolbijicfaaGreatDoor.St Go.Proofs.YtboncolbijicfaaGreatDoor.EscL

theorem text_eq (A : Ad) : (⟨#[47, 47]⟩ : ByteArray) ++ A.house ++ pathS A = textS A := by
  unfold pathS textS textL
  apply ByteArray.ext; simp

set_option maxRecDepth 100000 in
set_option maxHeartbeats 1600000 in
theorem specText_any (A : Ad) (a0 : Option Addr) (cap : Nat) (w : World) (hS : IsStrs w a0 cap A.parts) (hB : bulkA A ≤ 4194304) :
    Calls Tryz.prog 117 #[.agg #[.string A.house, .slice a0 A.parts.length cap, .bool A.asks, .string A.ask]] w fun e w' => e = .returned (.string (textS A)) ∧ Below w.heap.size w w' := by
  have HS : Hid (IsStrs (w.alloc (.cells #[.string A.house, .slice a0 A.parts.length cap, .bool A.asks, .string A.ask] 73)).drew a0 cap A.parts) := hS.keep (alloc_keep _ _)
  have HT : Hid _ := text_eq A
  have hps : (pathS A).size ≤ 4194307 := by unfold pathS; rw [size_mk]; have := pathL_len A; omega
  have hhs : A.house.size ≤ 4194304 := by unfold bulkA at hB; omega
  clear hS
  go_enter Tryz.func117, Tryz.ntmps117
  go_wp2
  go_region_with (go_at_call 146; refine (specPathW_any A a0 cap _ HS.out hB).mono ?_; rintro e w1 ⟨rfl, hb1⟩; have cw : w1.cell? ⟨w.heap.size, 0, none⟩ = some (.string A.house) := (hb1.cell (by show w.heap.size < _; simp)).trans (by simp))
  all_goals
    go_wp2
    go_ret
    exact ⟨ret_str HT.out, (((Below.refl _ _).alloc (Nat.le_refl _) _).drew).trans (hb1.mono (by simp))⟩

set_option maxRecDepth 100000 in
set_option maxHeartbeats 1600000 in
theorem implText_any (A : Ad) (a0 : Option Addr) (cap : Nat) (w : World) (hS : IsStrs w a0 cap A.parts) (hB : bulkA A ≤ 4194304) :
    Calls Tryz.prog 125 #[.agg #[.string A.house, .slice a0 A.parts.length cap, .bool A.asks, .string A.ask]] w fun e w' => e = .returned (.string (textS A)) ∧ Below w.heap.size w w' := by
  have HS : Hid (IsStrs (w.alloc (.cells #[.string A.house, .slice a0 A.parts.length cap, .bool A.asks, .string A.ask] 73)).drew a0 cap A.parts) := hS.keep (alloc_keep _ _)
  have HT : Hid _ := text_eq A
  have hps : (pathS A).size ≤ 4194307 := by unfold pathS; rw [size_mk]; have := pathL_len A; omega
  have hhs : A.house.size ≤ 4194304 := by unfold bulkA at hB; omega
  clear hS
  go_enter Tryz.func125, Tryz.ntmps125
  go_wp2
  go_region_with (go_at_call 157; refine (implPathW_any A a0 cap _ HS.out hB).mono ?_; rintro e w1 ⟨rfl, hb1⟩; have cw : w1.cell? ⟨w.heap.size, 0, none⟩ = some (.string A.house) := (hb1.cell (by show w.heap.size < _; simp)).trans (by simp))
  all_goals
    go_wp2
    go_ret
    exact ⟨ret_str HT.out, (((Below.refl _ _).alloc (Nat.le_refl _) _).drew).trans (hb1.mono (by simp))⟩
end Go.Proofs.YtboncolbijicfaaGreatDoor.Ad1
/- Whether an address is ok: of the program and of the model. -/
namespace Go.Proofs.YtboncolbijicfaaGreatDoor.Ad1
open Go.RowKit Go.Proofs.YtboncolbijicfaaGreatDoor.EscM Go.Proofs.YtboncolbijicfaaGreatDoor.AddrM Go.Proofs.YtboncolbijicfaaGreatDoor.St Go.Proofs.YtboncolbijicfaaGreatDoor.EscL

theorem box_cells {w wr : World} {x0 x1 x2 x3 : Value} {t : TypeId} (hb : Below (w.heap.size + 1) (w.alloc (.cells #[x0, x1, x2, x3] t)) wr) :
    wr.cell? ⟨w.heap.size, 0, none⟩ = some x0 ∧ wr.cell? ⟨w.heap.size, 1, none⟩ = some x1 ∧ wr.cell? ⟨w.heap.size, 2, none⟩ = some x2 ∧ wr.cell? ⟨w.heap.size, 3, none⟩ = some x3 := by
  have h : ∀ j, wr.cell? ⟨w.heap.size, j, none⟩ = (w.alloc (.cells #[x0, x1, x2, x3] t)).cell? ⟨w.heap.size, j, none⟩ := fun j => hb.cell (by show w.heap.size < _; omega)
  exact ⟨by rw [h]; simp, by rw [h]; simp, by rw [h]; simp, by rw [h]; simp⟩
theorem box_below {w wr : World} {o : Obj} (hb : Below (w.heap.size + 1) (w.alloc o) wr) : Below w.heap.size w wr := ((Below.refl _ _).alloc (Nat.le_refl _) _).trans (hb.mono (by omega))
theorem box_strs {w wr : World} {o : Obj} {a0 : Option Addr} {cap : Nat} {L : List ByteArray} (hS : IsStrs w a0 cap L) (hb : Below (w.heap.size + 1) (w.alloc o) wr) : IsStrs wr a0 cap L := hS.below (box_below hb)
theorem box_next {w wr w1 : World} {o : Obj} (hb : Below (w.heap.size + 1) (w.alloc o) wr) (h1 : Below wr.heap.size wr w1) : Below (w.heap.size + 1) (w.alloc o) w1 := hb.trans (h1.mono (by have := hb.size; simp at this; omega))

theorem ok_house {A : Ad} (h : houseB A.house = false) : okB A = false := by unfold okB; rw [h]; simp
theorem ok_long {A : Ad} (h : ¬ A.parts.length ≤ 5) : okB A = false := by unfold okB; rw [decide_eq_false h]; simp
theorem ok_norm {A : Ad} (h : normB A.ask = false) : okB A = false := by unfold okB; rw [h]; simp
theorem ok_ask {A : Ad} (h1 : A.asks = false) (h2 : A.ask.toList.isEmpty = false) : okB A = false := by unfold okB; rw [h1, h2]; simp
theorem ok_part {A : Ad} {p : ByteArray} (hp : p ∈ A.parts) (h : partB p = false) : okB A = false := by
  unfold okB
  have : A.parts.all partB = false := by
    rw [List.all_eq_false]; exact ⟨p, hp, by simp [h]⟩
  rw [this]; simp
theorem ok_rest {A : Ad} (h1 : houseB A.house = true) (h2 : A.parts.length ≤ 5) (h3 : A.parts.all partB = true) (h4 : (A.asks || A.ask.toList.isEmpty) = true) (h5 : normB A.ask = true) : okB A = decide (((textS A).size : Int) ≤ 60) := by
  unfold okB textS
  rw [h1, decide_eq_true h2, h3, h4, h5, size_mk]; simp; omega
theorem all_take {L : List ByteArray} {k : Nat} (hk : k < L.length) (h : (L.take k).all partB = true) (hp : partB L[k] = true) : (L.take (k + 1)).all partB = true := by
  rw [List.take_succ_eq_append_getElem hk, List.all_append, h]; simp [hp]
theorem part_norm {s : ByteArray} (h : normB s = false) : partB s = false := by unfold partB; rw [h]; simp
theorem part_empty {s : ByteArray} (h : s.toList.isEmpty = true) : partB s = false := by unfold partB; rw [h]; simp
theorem part_dot {s : ByteArray} (h : (s.toList == [46]) = true) : partB s = false := by unfold partB; rw [h]; simp
theorem part_up {s : ByteArray} (h : (s.toList == [46, 46]) = true) : partB s = false := by unfold partB; rw [h]; simp
theorem part_ok {s : ByteArray} (h0 : normB s = true) (h1 : s.toList.isEmpty = false) (h2 : (s.toList == [46]) = false) (h3 : (s.toList == [46, 46]) = false) : partB s = true := by unfold partB; rw [h0, h1, h2, h3]; rfl

theorem implText_q (A : Ad) (q : Bool) (a0 : Option Addr) (cap : Nat) (w : World) (hq : A.asks = q) (hS : IsStrs w a0 cap A.parts) (hB : bulkA A ≤ 4194304) :
    Calls Tryz.prog 125 #[.agg #[.string A.house, .slice a0 A.parts.length cap, .bool q, .string A.ask]] w fun e w' => e = .returned (.string (textS A)) ∧ Below w.heap.size w w' := by
  subst hq; exact implText_any A a0 cap w hS hB
theorem specText_q (A : Ad) (q : Bool) (a0 : Option Addr) (cap : Nat) (w : World) (hq : A.asks = q) (hS : IsStrs w a0 cap A.parts) (hB : bulkA A ≤ 4194304) :
    Calls Tryz.prog 117 #[.agg #[.string A.house, .slice a0 A.parts.length cap, .bool q, .string A.ask]] w fun e w' => e = .returned (.string (textS A)) ∧ Below w.heap.size w w' := by
  subst hq; exact specText_any A a0 cap w hS hB

set_option maxRecDepth 100000 in
set_option maxHeartbeats 1600000 in
theorem implOk_any (A : Ad) (a0 : Option Addr) (cap : Nat) (w : World) (hS : IsStrs w a0 cap A.parts) (hB : bulkA A ≤ 4194304) :
    Calls Tryz.prog 124 #[.agg #[.string A.house, .slice a0 A.parts.length cap, .bool A.asks, .string A.ask]] w fun e w' => e = .returned (.bool (okB A)) ∧ Below w.heap.size w w' := by
  have hB2 : A.house.size + sumS A.parts + A.parts.length + A.ask.size ≤ 4194304 := hB
  have hhm : A.house.size ≤ maxLen := by unfold maxLen; omega
  have ham : A.ask.size ≤ maxLen := by unfold maxLen; omega
  have hc := hS.1
  have hm := hS.2.1
  unfold maxLen at hm
  have HS : Hid (IsStrs w a0 cap A.parts) := hS
  clear hS
  cases hh : houseB A.house with
  | false =>
    have HN : Hid _ := ok_house hh
    go_enter Tryz.func124, Tryz.ntmps124
    go_wp2_with (go_at_call 90; refine (implSmall_any _ _ hhm).mono ?_; rintro e w1 ⟨rfl, rfl⟩)
    go_ret
    exact ⟨ret_bool HN.out.symm, (Below.refl _ _).alloc (Nat.le_refl _) _⟩
  | true =>
  by_cases h5 : A.parts.length ≤ 5
  case neg =>
    have HN : Hid _ := ok_long h5
    go_enter Tryz.func124, Tryz.ntmps124
    go_wp2_with (go_at_call 90; refine (implSmall_any _ _ hhm).mono ?_; rintro e w1 ⟨rfl, rfl⟩)
    go_ret
    exact ⟨ret_bool HN.out.symm, (Below.refl _ _).alloc (Nat.le_refl _) _⟩
  case pos =>
  have HH : Hid (houseB A.house = true) := hh
  go_enter Tryz.func124, Tryz.ntmps124
  go_wp2_with (go_at_call 90; refine (implSmall_any _ _ hhm).mono ?_; rintro e w1 ⟨rfl, rfl⟩)
  go_loopw [18] (fun i wr => ∃ k : Nat, k ≤ A.parts.length ∧ i = .int .i64 (k : Int) ∧ Hid ((A.parts.take k).all partB = true) ∧ Below (w.heap.size + 1) (w.alloc (.cells #[.string A.house, .slice a0 A.parts.length cap, .bool A.asks, .string A.ask] 73)) wr) (fun i _ => A.parts.length - (intOf i).toNat)
  case atStart => exact ⟨0, Nat.zero_le _, rfl, by show _ = _; simp, Below.refl _ _⟩
  case round =>
    obtain ⟨k, hk, rfl, HP, hb⟩ := hrel
    obtain ⟨c0, c1, c2, c3⟩ := box_cells hb
    by_cases hlt : k < A.parts.length
    · obtain ⟨b, o, e, c⟩ := (box_strs HS.out hb).at hlt
      have hps := sum_mem (List.getElem_mem hlt)
      have hpm : A.parts[k].size ≤ maxLen := by unfold maxLen; omega
      subst e
      cases hp : partB A.parts[k] with
      | false =>
        have HN : Hid _ := ok_part (List.getElem_mem hlt) hp
        go_wp2_with (go_at_call 155; refine (implPart_any _ _ hpm).mono ?_; rintro e w1 ⟨rfl, hb1⟩)
        go_ret
        exact ⟨ret_bool HN.out.symm, box_below (box_next hb hb1)⟩
      | true =>
        have HN : Hid _ := all_take hlt HP.out hp
        go_wp2_with (go_at_call 155; refine (implPart_any _ _ hpm).mono ?_; rintro e w1 ⟨rfl, hb1⟩)
        go_roundw
        case rel => exact ⟨k + 1, by omega, by go_num, HN.out, box_next hb hb1⟩
        case measure => simp [intOf]; omega
    · have HA : Hid (A.parts.all partB = true) := by
        show _ = _
        have := HP.out
        rwa [List.take_of_length_le (by omega)] at this
      cases hq : A.asks with
      | false =>
        have HQ : Hid (A.asks = false) := hq
        rw [hq] at c2
        clear hq
        cases he : A.ask.toList.isEmpty with
        | false =>
          have HN : Hid _ := ok_ask HQ.out he
          go_wp2
          go_ret
          exact ⟨ret_bool HN.out.symm, box_below hb⟩
        | true =>
          cases hn : normB A.ask with
          | false =>
            have HN : Hid _ := ok_norm hn
            go_wp2_with (go_at_call 156; refine (implNorm_any _ _ ham).mono ?_; rintro e w1 ⟨rfl, hb1⟩)
            go_ret
            exact ⟨ret_bool HN.out.symm, box_below (box_next hb hb1)⟩
          | true =>
            have HN : Hid _ := ok_rest HH.out h5 HA.out (by rw [HQ.out, he]; rfl) hn
            go_wp2_with fail
            refine (implNorm_any _ _ ham).mono ?_
            rintro e w1 ⟨rfl, hb1⟩
            have hb2 := box_next hb hb1
            obtain ⟨d0, d1, d2, d3⟩ := box_cells hb2
            rw [HQ.out] at d2
            clear c0 c1 c2 c3 hb hb1
            go_wp2_with fail
            refine (implText_q A false a0 cap _ HQ.out (box_strs HS.out hb2) hB).mono ?_
            rintro e w2 ⟨rfl, hb3⟩
            go_wp2
            go_ret
            exact ⟨ret_bool HN.out.symm, box_below (box_next hb2 hb3)⟩
      | true =>
        have HQ : Hid (A.asks = true) := hq
        rw [hq] at c2
        clear hq
        cases hn : normB A.ask with
        | false =>
          have HN : Hid _ := ok_norm hn
          go_wp2_with (go_at_call 156; refine (implNorm_any _ _ ham).mono ?_; rintro e w1 ⟨rfl, hb1⟩)
          go_ret
          exact ⟨ret_bool HN.out.symm, box_below (box_next hb hb1)⟩
        | true =>
          have HN : Hid _ := ok_rest HH.out h5 HA.out (by rw [HQ.out]; rfl) hn
          go_wp2_with fail
          refine (implNorm_any _ _ ham).mono ?_
          rintro e w1 ⟨rfl, hb1⟩
          have hb2 := box_next hb hb1
          obtain ⟨d0, d1, d2, d3⟩ := box_cells hb2
          rw [HQ.out] at d2
          clear c0 c1 c2 c3 hb hb1
          go_wp2_with fail
          refine (implText_q A true a0 cap _ HQ.out (box_strs HS.out hb2) hB).mono ?_
          rintro e w2 ⟨rfl, hb3⟩
          go_wp2
          go_ret
          exact ⟨ret_bool HN.out.symm, box_below (box_next hb2 hb3)⟩

set_option maxRecDepth 100000 in
set_option maxHeartbeats 3200000 in
theorem specOk_any (A : Ad) (a0 : Option Addr) (cap : Nat) (w : World) (hS : IsStrs w a0 cap A.parts) (hB : bulkA A ≤ 4194304) :
    Calls Tryz.prog 116 #[.agg #[.string A.house, .slice a0 A.parts.length cap, .bool A.asks, .string A.ask]] w fun e w' => e = .returned (.bool (okB A)) ∧ Below w.heap.size w w' := by
  have hB2 : A.house.size + sumS A.parts + A.parts.length + A.ask.size ≤ 4194304 := hB
  have hhm : A.house.size ≤ maxLen := by unfold maxLen; omega
  have ham : A.ask.size ≤ maxLen := by unfold maxLen; omega
  have hc := hS.1
  have hm := hS.2.1
  unfold maxLen at hm
  have HS : Hid (IsStrs w a0 cap A.parts) := hS
  clear hS
  cases hh : houseB A.house with
  | false =>
    have HN : Hid _ := ok_house hh
    go_enter Tryz.func116, Tryz.ntmps116
    go_wp2_with (go_at_call 101; refine (specHouse_any _ _ hhm).mono ?_; rintro e w1 ⟨rfl, rfl⟩)
    go_ret
    exact ⟨ret_bool HN.out.symm, (Below.refl _ _).alloc (Nat.le_refl _) _⟩
  | true =>
  by_cases h5 : A.parts.length ≤ 5
  case neg =>
    have HN : Hid _ := ok_long h5
    go_enter Tryz.func116, Tryz.ntmps116
    go_wp2_with (go_at_call 101; refine (specHouse_any _ _ hhm).mono ?_; rintro e w1 ⟨rfl, rfl⟩)
    go_ret
    exact ⟨ret_bool HN.out.symm, (Below.refl _ _).alloc (Nat.le_refl _) _⟩
  case pos =>
  have HH : Hid (houseB A.house = true) := hh
  go_enter Tryz.func116, Tryz.ntmps116
  go_wp2_with fail
  refine (specHouse_any _ _ hhm).mono ?_
  rintro e w1 ⟨rfl, rfl⟩
  cases hn : normB A.ask with
  | false =>
    have HN : Hid _ := ok_norm hn
    go_wp2_with (go_at_call 145; refine (specNorm_any _ _ ham).mono ?_; rintro e w1 ⟨rfl, hb1⟩)
    go_ret
    exact ⟨ret_bool HN.out.symm, box_below (box_next (Below.refl _ _) hb1)⟩
  | true =>
    have HNORM : Hid _ := hn
    go_wp2_with fail
    refine (specNorm_any _ _ ham).mono ?_
    rintro e w1 ⟨rfl, hb1⟩
    have hb2 : Below (w.heap.size + 1) (w.alloc (.cells #[.string A.house, .slice a0 A.parts.length cap, .bool A.asks, .string A.ask] 73)) w1 := box_next (Below.refl _ _) hb1
    obtain ⟨c0, c1, c2, c3⟩ := box_cells hb2
    clear hb1 hh
    cases hq : A.asks with
    | false =>
      have HQ : Hid (A.asks = false) := hq
      rw [hq] at c2
      clear hq
      cases he : A.ask.toList.isEmpty with
      | false =>
        have HN : Hid _ := ok_ask HQ.out he
        go_wp2
        go_ret
        exact ⟨ret_bool HN.out.symm, box_below hb2⟩
      | true =>
        have HE : Hid (A.ask.toList.isEmpty = true) := he
        go_wp2
        clear c0 c1 c2 c3
        go_loopw [3] (fun i wr => ∃ k : Nat, k ≤ A.parts.length ∧ i = .int .i64 (k : Int) ∧ Hid ((A.parts.take k).all partB = true) ∧ Below (w.heap.size + 1) (w.alloc (.cells #[.string A.house, .slice a0 A.parts.length cap, .bool A.asks, .string A.ask] 73)) wr) (fun i _ => A.parts.length - (intOf i).toNat)
        case atStart => exact ⟨0, Nat.zero_le _, rfl, by show _ = _; simp, hb2⟩
        case round =>
          obtain ⟨k, hk, rfl, HP, hb⟩ := hrel
          obtain ⟨c0, c1, c2, c3⟩ := box_cells hb
          rw [HQ.out] at c2
          clear hb2
          by_cases hlt : k < A.parts.length
          · obtain ⟨b, o, e, c⟩ := (box_strs HS.out hb).at hlt
            have hps := sum_mem (List.getElem_mem hlt)
            have hpm : A.parts[k].size ≤ maxLen := by unfold maxLen; omega
            have HM : Hid (A.parts[k] ∈ A.parts) := List.getElem_mem hlt
            subst e
            cases h0 : normB A.parts[k] with
            | false =>
              have HN : Hid _ := ok_part HM.out (part_norm h0)
              go_wp2_with (go_at_call 145; refine (specNorm_any _ _ hpm).mono ?_; rintro e w1 ⟨rfl, hb1⟩)
              go_ret
              exact ⟨ret_bool HN.out.symm, box_below (box_next hb hb1)⟩
            | true =>
              have HT : Hid (partB A.parts[k] = true → (A.parts.take (k + 1)).all partB = true) := fun hp => all_take hlt HP.out hp
              go_wp2_with fail
              refine (specNorm_any _ _ hpm).mono ?_
              rintro e w1 ⟨rfl, hb1⟩
              have hb3 := box_next hb hb1
              obtain ⟨d0, d1, d2, d3⟩ := box_cells hb3
              obtain ⟨b', o', e', c'⟩ := (box_strs HS.out hb3).at hlt
              injection e' with e'
              injection e' with e1 e2 _
              subst e1; subst e2
              have H0 : Hid _ := h0
              clear c0 c1 c2 c3 c hb hb1 h0
              generalize hp : A.parts[k] = p at *
              cases h1 : p.toList.isEmpty with
              | true =>
                have HN : Hid _ := ok_part HM.out (part_empty h1)
                go_wp2
                go_ret
                exact ⟨ret_bool HN.out.symm, box_below hb3⟩
              | false =>
                cases h2 : (p.toList == [46]) with
                | true =>
                  have HN : Hid _ := ok_part HM.out (part_dot h2)
                  go_wp2
                  go_ret
                  exact ⟨ret_bool HN.out.symm, box_below hb3⟩
                | false =>
                  cases h3 : (p.toList == [46, 46]) with
                  | true =>
                    have HN : Hid _ := ok_part HM.out (part_up h3)
                    go_wp2
                    go_ret
                    exact ⟨ret_bool HN.out.symm, box_below hb3⟩
                  | false =>
                    have HN : Hid _ := HT.out (part_ok H0.out h1 h2 h3)
                    go_wp2
                    go_roundw
                    case rel => exact ⟨k + 1, by omega, by go_num, HN.out, hb3⟩
                    case measure => simp [intOf]; omega
          · have HA : Hid (A.parts.all partB = true) := by
              show _ = _
              have := HP.out
              rwa [List.take_of_length_le (by omega)] at this
            have HN : Hid _ := ok_rest HH.out h5 HA.out (by rw [HQ.out, HE.out]; rfl) HNORM.out
            go_wp2_with fail
            refine (specText_q A false a0 cap _ HQ.out (box_strs HS.out hb) hB).mono ?_
            rintro e w2 ⟨rfl, hb3⟩
            go_wp2
            go_ret
            exact ⟨ret_bool HN.out.symm, box_below (box_next hb hb3)⟩
    | true =>
      have HQ : Hid (A.asks = true) := hq
      rw [hq] at c2
      clear hq
      go_wp2
      clear c0 c1 c2 c3
      go_loopw [3] (fun i wr => ∃ k : Nat, k ≤ A.parts.length ∧ i = .int .i64 (k : Int) ∧ Hid ((A.parts.take k).all partB = true) ∧ Below (w.heap.size + 1) (w.alloc (.cells #[.string A.house, .slice a0 A.parts.length cap, .bool A.asks, .string A.ask] 73)) wr) (fun i _ => A.parts.length - (intOf i).toNat)
      case atStart => exact ⟨0, Nat.zero_le _, rfl, by show _ = _; simp, hb2⟩
      case round =>
        obtain ⟨k, hk, rfl, HP, hb⟩ := hrel
        obtain ⟨c0, c1, c2, c3⟩ := box_cells hb
        rw [HQ.out] at c2
        clear hb2
        by_cases hlt : k < A.parts.length
        · obtain ⟨b, o, e, c⟩ := (box_strs HS.out hb).at hlt
          have hps := sum_mem (List.getElem_mem hlt)
          have hpm : A.parts[k].size ≤ maxLen := by unfold maxLen; omega
          have HM : Hid (A.parts[k] ∈ A.parts) := List.getElem_mem hlt
          subst e
          cases h0 : normB A.parts[k] with
          | false =>
            have HN : Hid _ := ok_part HM.out (part_norm h0)
            go_wp2_with (go_at_call 145; refine (specNorm_any _ _ hpm).mono ?_; rintro e w1 ⟨rfl, hb1⟩)
            go_ret
            exact ⟨ret_bool HN.out.symm, box_below (box_next hb hb1)⟩
          | true =>
            have HT : Hid (partB A.parts[k] = true → (A.parts.take (k + 1)).all partB = true) := fun hp => all_take hlt HP.out hp
            go_wp2_with fail
            refine (specNorm_any _ _ hpm).mono ?_
            rintro e w1 ⟨rfl, hb1⟩
            have hb3 := box_next hb hb1
            obtain ⟨d0, d1, d2, d3⟩ := box_cells hb3
            obtain ⟨b', o', e', c'⟩ := (box_strs HS.out hb3).at hlt
            injection e' with e'
            injection e' with e1 e2 _
            subst e1; subst e2
            have H0 : Hid _ := h0
            clear c0 c1 c2 c3 c hb hb1 h0
            generalize hp : A.parts[k] = p at *
            cases h1 : p.toList.isEmpty with
            | true =>
              have HN : Hid _ := ok_part HM.out (part_empty h1)
              go_wp2
              go_ret
              exact ⟨ret_bool HN.out.symm, box_below hb3⟩
            | false =>
              cases h2 : (p.toList == [46]) with
              | true =>
                have HN : Hid _ := ok_part HM.out (part_dot h2)
                go_wp2
                go_ret
                exact ⟨ret_bool HN.out.symm, box_below hb3⟩
              | false =>
                cases h3 : (p.toList == [46, 46]) with
                | true =>
                  have HN : Hid _ := ok_part HM.out (part_up h3)
                  go_wp2
                  go_ret
                  exact ⟨ret_bool HN.out.symm, box_below hb3⟩
                | false =>
                  have HN : Hid _ := HT.out (part_ok H0.out h1 h2 h3)
                  go_wp2
                  go_roundw
                  case rel => exact ⟨k + 1, by omega, by go_num, HN.out, hb3⟩
                  case measure => simp [intOf]; omega
        · have HA : Hid (A.parts.all partB = true) := by
            show _ = _
            have := HP.out
            rwa [List.take_of_length_le (by omega)] at this
          have HN : Hid _ := ok_rest HH.out h5 HA.out (by rw [HQ.out]; rfl) HNORM.out
          go_wp2_with fail
          refine (specText_q A true a0 cap _ HQ.out (box_strs HS.out hb) hB).mono ?_
          rintro e w2 ⟨rfl, hb3⟩
          go_wp2
          go_ret
          exact ⟨ret_bool HN.out.symm, box_below (box_next hb hb3)⟩
end Go.Proofs.YtboncolbijicfaaGreatDoor.Ad1
