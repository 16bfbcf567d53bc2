/- Does a text stand in a list: the laws' own. -/
import Derived.Test.YtbecelblddemkaaCmp
import Derived.Test.YtbecelblddemkaaEscLeaf
namespace Go.Proofs.Ytbecelblddemkaa.Ht
open Go.RowKit Go.Proofs.Ytbecelblddemkaa.EscM Go.Proofs.Ytbecelblddemkaa.St Go.Proofs.Ytbecelblddemkaa.EscL

set_option maxHeartbeats 1600000 in
theorem has_any (a0 : Option Addr) (cap : Nat) (A : List ByteArray) (x : ByteArray) (w : World) (hA : IsStrs w a0 cap A) (hl : A.length ≤ 4194304) :
    Calls Try.prog 15 #[.slice a0 A.length cap, .string x] w fun e w' => e = .returned (.bool (hasB x A)) ∧ w' = w := by
  have HA : Hid (IsStrs w a0 cap A) := hA
  clear hA
  go_enter Try.func15, Try.ntmps15
  go_wp2
  go_loop [5] (fun i => ∃ k : Nat, k ≤ A.length ∧ i = .int .i64 (k : Int) ∧ Hid (x ∉ A.take k)) (fun i => A.length - (intOf i).toNat)
  case atStart => exact ⟨0, Nat.zero_le _, rfl, by show x ∉ _; simp⟩
  case round =>
    obtain ⟨k, hk, rfl, HN⟩ := hrel
    by_cases hlt : k < A.length
    · obtain ⟨b1, o1, e1, c1⟩ := HA.out.at hlt
      subst e1
      cases he : (A[k].toList == x.toList) with
      | true =>
        have HE : Hid (hasB x A = true) := by
          apply hasB_iff.2
          rw [str_eq_iff] at he
          have := of_decide_eq_true he
          rw [← this]; exact List.getElem_mem hlt
        go_wp2
        go_ret
        exact ⟨by rw [HE.out]; rfl, rfl⟩
      | false =>
        have HE : Hid (x ∉ A.take (k + 1)) := by
          show x ∉ _
          rw [str_eq_iff] at he
          have := of_decide_eq_false he
          rw [List.take_succ_eq_append_getElem hlt, List.mem_append]
          intro h
          rcases h with h | h
          · exact HN.out h
          · simp at h; exact this h.symm
        go_wp2
        go_round
        case rel => exact ⟨k + 1, by omega, by go_num, HE⟩
        case measure => simp [intOf]; omega
    · have HE : Hid (hasB x A = false) := by
        apply hasB_no.2
        have e1 : A.take k = A := List.take_of_length_le (by omega)
        rw [← e1]; exact HN.out
      go_wp2
      go_ret
      exact ⟨by rw [HE.out]; rfl, rfl⟩
end Go.Proofs.Ytbecelblddemkaa.Ht
