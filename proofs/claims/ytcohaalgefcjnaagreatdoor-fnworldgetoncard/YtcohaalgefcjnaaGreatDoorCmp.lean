/- The laws' comparisons of lists of strings, and the drawn parts of a way. -/
import Derived.Test.YtcohaalgefcjnaaGreatDoorStrs
namespace Go.Proofs.YtcohaalgefcjnaaGreatDoor.St
open Go.RowKit

theorem str_eq_iff (a b : ByteArray) : (a.toList == b.toList) = decide (a = b) := by
  rw [Bool.eq_iff_iff]
  simp only [beq_iff_eq, decide_eq_true_eq, ByteArray.toList_eq]
  constructor
  · intro h; apply ByteArray.ext; exact Array.toList_inj.1 h
  · intro h; rw [h]

def hasB (x : ByteArray) (A : List ByteArray) : Bool := A.any fun y => decide (y = x)
theorem hasB_iff {x : ByteArray} {A : List ByteArray} : hasB x A = true ↔ x ∈ A := by
  simp [hasB]
theorem hasB_no {x : ByteArray} {A : List ByteArray} : hasB x A = false ↔ x ∉ A := by
  rw [← hasB_iff]; simp

theorem IsStrs.at {w : World} {a0 : Option Addr} {cap : Nat} {L : List ByteArray} (h : IsStrs w a0 cap L) {k : Nat} (hk : k < L.length) : ∃ b off, a0 = some ⟨b, off, none⟩ ∧ w.cell? ⟨b, off + k, none⟩ = some (.string L[k]) := by
  obtain ⟨b, off, e, hc⟩ := h.2.2.2 (by intro e; rw [e] at hk; simp at hk)
  exact ⟨b, off, e, hc k hk⟩

theorem take_ne {A B : List ByteArray} {k : Nat} (h : A.take k = B.take k) (hA : k < A.length) (hB : k < B.length) (he : A[k] = B[k]) : A.take (k + 1) = B.take (k + 1) := by
  rw [List.take_succ_eq_append_getElem hA, List.take_succ_eq_append_getElem hB, h, he]

set_option maxRecDepth 100000 in
set_option maxHeartbeats 1600000 in
theorem lpTexts_any (a0 : Option Addr) (cap : Nat) (A : List ByteArray) (b0 : Option Addr) (dap : Nat) (B : List ByteArray) (w : World) (hA : IsStrs w a0 cap A) (hB : IsStrs w b0 dap B) (hl : A.length ≤ 4194304) (hl2 : B.length ≤ 4194304) :
    Calls Tryz.prog 19 #[.slice a0 A.length cap, .slice b0 B.length dap] w fun e w' => e = .returned (.bool (decide (A = B))) ∧ ∃ n, w' = w.drewN n := by
  have HA : Hid (IsStrs w a0 cap A) := hA
  have HB : Hid (IsStrs w b0 dap B) := hB
  clear hA hB
  by_cases hlen : A.length = B.length
  · have hlb : ((A.length : Int) != (B.length : Int)) = false := by simp; omega
    have hl3 : A.length ≤ B.length := by omega
    have hl4 : B.length ≤ A.length := by omega
    have HL : Hid _ := hlen
    clear hlen
    go_enter Tryz.func19, Tryz.ntmps19
    go_wp2
    go_loopw [5] (fun i wr => ∃ k n : Nat, k ≤ A.length ∧ i = .int .i64 (k : Int) ∧ wr = w.drewN n ∧ Hid (A.take k = B.take k)) (fun i _ => A.length - (intOf i).toNat)
    case atStart => exact ⟨0, 0, Nat.zero_le _, rfl, rfl, rfl⟩
    case round =>
      obtain ⟨k, n, hk, rfl, rfl, HT⟩ := hrel
      by_cases hlt : k < A.length
      · have hltB : k < B.length := by omega
        obtain ⟨b1, o1, e1, c1⟩ := HA.out.at hlt
        obtain ⟨b2, o2, e2, c2⟩ := HB.out.at hltB
        subst e1 e2
        have c1' : (w.drewN n).cell? ⟨b1, o1 + k, none⟩ = some (.string A[k]) := c1
        have c2' : (w.drewN n).cell? ⟨b2, o2 + k, none⟩ = some (.string B[k]) := c2
        have hi1 : (k : Int) < (A.length : Int) := by omega
        have hi2 : (k : Int) < (B.length : Int) := by omega
        cases he : (A[k].toList == B[k].toList) with
        | true =>
          have he' : A[k] = B[k] := by rw [str_eq_iff] at he; exact of_decide_eq_true he
          have HE : Hid _ := he'
          clear he'
          go_wp2
          go_quiet (fail)
          go_wp2
          go_roundw
          case rel => exact ⟨k + 1, n + nq, by omega, by go_num, rfl, take_ne HT.out hlt hltB HE.out⟩
          case measure => simp [intOf]; omega
        | false =>
          have he' : A[k] ≠ B[k] := by rw [str_eq_iff] at he; exact of_decide_eq_false he
          have hAB : decide (A = B) = false := by
            apply decide_eq_false
            intro e; subst e; exact he' rfl
          have HAB : Hid _ := hAB
          clear he' hAB
          go_wp2
          go_quiet (fail)
          go_wp2
          go_ret
          exact ⟨by rw [HAB.out]; rfl, n + nq, by simp⟩
      · have HAB : Hid (decide (A = B) = true) := by
          apply decide_eq_true
          have e1 : A.take k = A := List.take_of_length_le (by omega)
          have e2 : B.take k = B := List.take_of_length_le (by omega)
          rw [← e1, ← e2]; exact HT.out
        go_wp2
        go_ret
        exact ⟨by rw [HAB.out]; rfl, n, rfl⟩
  · have hlb : ((A.length : Int) != (B.length : Int)) = true := by simp; omega
    go_enter Tryz.func19, Tryz.ntmps19
    go_wp2
    go_ret
    have hAB : decide (A = B) = false := by
      apply decide_eq_false
      intro e; subst e; exact hlen rfl
    exact ⟨by rw [hAB]; rfl, 0, rfl⟩

theorem texts_any (a0 : Option Addr) (cap : Nat) (A : List ByteArray) (b0 : Option Addr) (dap : Nat) (B : List ByteArray) (w : World) (hA : IsStrs w a0 cap A) (hB : IsStrs w b0 dap B) (hl : A.length ≤ 4194304) (hl2 : B.length ≤ 4194304) :
    Calls Tryz.prog 19 #[.slice a0 A.length cap, .slice b0 B.length dap] w fun e w' => e = .returned (.bool (decide (A = B))) ∧ ∃ n, w' = w.drewN n := lpTexts_any a0 cap A b0 dap B w hA hB hl hl2

theorem texts_n (a0 : Option Addr) (n cap : Nat) (A : List ByteArray) (b0 : Option Addr) (m dap : Nat) (B : List ByteArray) (w : World) (hn : A.length = n) (hm : B.length = m) (hA : IsStrs w a0 cap A) (hB : IsStrs w b0 dap B) (hl : n ≤ 4194304) (hl2 : m ≤ 4194304) :
    Calls Tryz.prog 19 #[.slice a0 n cap, .slice b0 m dap] w fun e w' => e = .returned (.bool (decide (A = B))) ∧ ∃ n, w' = w.drewN n := by
  subst hn; subst hm; exact lpTexts_any a0 cap A b0 dap B w hA hB hl hl2

set_option maxRecDepth 100000 in
set_option maxHeartbeats 1600000 in
theorem has_any (a0 : Option Addr) (cap : Nat) (A : List ByteArray) (x : ByteArray) (w : World) (hA : IsStrs w a0 cap A) (hl : A.length ≤ 4194304) :
    Calls Tryz.prog 51 #[.slice a0 A.length cap, .string x] w fun e w' => e = .returned (.bool (hasB x A)) ∧ w' = w := by
  have HA : Hid (IsStrs w a0 cap A) := hA
  clear hA
  go_enter Tryz.func51, Tryz.ntmps51
  go_wp2
  go_loop [5] (fun i => ∃ k : Nat, k ≤ A.length ∧ i = .int .i64 (k : Int) ∧ Hid (x ∉ A.take k)) (fun i => A.length - (intOf i).toNat)
  case atStart => exact ⟨0, Nat.zero_le _, rfl, by show x ∉ _; simp⟩
  case round =>
    obtain ⟨k, hk, rfl, HN⟩ := hrel
    by_cases hlt : k < A.length
    · obtain ⟨b1, o1, e1, c1⟩ := HA.out.at hlt
      subst e1
      cases he : (A[k].toList == x.toList) with
      | true =>
        have HE : Hid (hasB x A = true) := by
          apply hasB_iff.2
          rw [str_eq_iff] at he
          have := of_decide_eq_true he
          rw [← this]; exact List.getElem_mem hlt
        go_wp2
        go_ret
        exact ⟨by rw [HE.out]; rfl, rfl⟩
      | false =>
        have HE : Hid (x ∉ A.take (k + 1)) := by
          show x ∉ _
          rw [str_eq_iff] at he
          have := of_decide_eq_false he
          rw [List.take_succ_eq_append_getElem hlt, List.mem_append]
          intro h
          rcases h with h | h
          · exact HN.out h
          · simp at h; exact this h.symm
        go_wp2
        go_round
        case rel => exact ⟨k + 1, by omega, by go_num, HE⟩
        case measure => simp [intOf]; omega
    · have HE : Hid (hasB x A = false) := by
        apply hasB_no.2
        have e1 : A.take k = A := List.take_of_length_le (by omega)
        rw [← e1]; exact HN.out
      go_wp2
      go_ret
      exact ⟨by rw [HE.out]; rfl, rfl⟩

set_option maxRecDepth 100000 in
set_option maxHeartbeats 1600000 in
theorem within_any (a0 : Option Addr) (cap : Nat) (A : List ByteArray) (b0 : Option Addr) (dap : Nat) (B : List ByteArray) (w : World) (hA : IsStrs w a0 cap A) (hB : IsStrs w b0 dap B) (hl : A.length ≤ 4194304) (hl2 : B.length ≤ 4194304) (hAB : ∀ x ∈ A, x ∈ B) :
    Calls Tryz.prog 28 #[.slice a0 A.length cap, .slice b0 B.length dap] w fun e w' => e = .returned (.bool true) ∧ w' = w := by
  have HA : Hid (IsStrs w a0 cap A) := hA
  have HB : Hid (IsStrs w b0 dap B) := hB
  have HI : Hid _ := hAB
  clear hA hB hAB
  go_enter Tryz.func28, Tryz.ntmps28
  go_wp2
  go_loopw [5] (fun i wr => ∃ k : Nat, k ≤ A.length ∧ i = .int .i64 (k : Int) ∧ wr = w) (fun i _ => A.length - (intOf i).toNat)
  case atStart => exact ⟨0, Nat.zero_le _, rfl, rfl⟩
  case round =>
    obtain ⟨k, hk, rfl, rfl⟩ := hrel
    by_cases hlt : k < A.length
    · obtain ⟨b1, o1, e1, c1⟩ := HA.out.at hlt
      subst e1
      have hm : hasB A[k] B = true := hasB_iff.2 (HI.out _ (List.getElem_mem hlt))
      have HM : Hid _ := hm
      clear hm
      go_wp2_with fail
      refine (has_any b0 dap B A[k] _ HB.out hl2).mono ?_
      rintro e w1 ⟨rfl, rfl⟩
      rw [HM.out]
      go_wp2
      go_roundw
      case rel => exact ⟨k + 1, by omega, by go_num, by trivial⟩
      case measure => simp [intOf]; omega
    · go_wp2
      go_ret
      exact ⟨rfl, rfl⟩

end Go.Proofs.YtcohaalgefcjnaaGreatDoor.St
