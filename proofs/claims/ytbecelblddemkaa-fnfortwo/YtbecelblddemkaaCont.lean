/- Does a text stand in a list: slices.Contains. -/
import Derived.Test.YtbecelblddemkaaCmp
import Derived.Test.YtbecelblddemkaaEscLeaf
namespace Go.Proofs.Ytbecelblddemkaa.Ct
open Go.RowKit Go.Proofs.Ytbecelblddemkaa.EscM Go.Proofs.Ytbecelblddemkaa.St Go.Proofs.Ytbecelblddemkaa.EscL

theorem has_take {L : List ByteArray} {k : Nat} {x : ByteArray} (h : k < L.length) (hn : x ∉ L.take k) (he : ¬ L[k] = x) : x ∉ L.take (k + 1) := by
  rw [List.take_succ_eq_append_getElem h, List.mem_append]
  rintro (h' | h')
  · exact hn h'
  · simp at h'; exact he h'.symm

set_option maxHeartbeats 1600000 in
theorem index_any (a0 : Option Addr) (cap : Nat) (L : List ByteArray) (x : ByteArray) (w : World) (hA : IsStrs w a0 cap L) (hl : L.length ≤ 4194304) :
    Calls Try.prog 38 #[.slice a0 L.length cap, .string x] w fun e w' => (∃ z : Int, e = .returned (.int .i64 z) ∧ (0 ≤ z ↔ hasB x L = true)) ∧ ∃ n, w' = w.drewN n := by
  have HA : Hid (IsStrs w a0 cap L) := hA
  clear hA
  go_enter Try.func38, Try.ntmps38
  go_wp2
  go_loopw [8] (fun i wr => ∃ k : Nat, k ≤ L.length ∧ i = .int .i64 (k : Int) ∧ Hid (x ∉ L.take k) ∧ Hid (∃ n, wr = w.drewN n)) (fun i _ => L.length - (intOf i).toNat)
  case atStart => exact ⟨0, Nat.zero_le _, rfl, by show x ∉ _; simp, ⟨0, rfl⟩⟩
  case round =>
    obtain ⟨k, hk, rfl, HN, HW⟩ := hrel
    by_cases hlt : k < L.length
    · have hpw := HW.out
      obtain ⟨n, hn⟩ := hpw
      obtain ⟨b1, o1, e1, c1⟩ := (IsStrs.drewN HA.out n).at hlt
      rw [← hn] at c1
      clear hn
      subst e1
      cases he : (x.toList == L[k].toList) with
      | true =>
        have HE : Hid (hasB x L = true) := by
          apply hasB_iff.2
          rw [str_eq_iff] at he
          have := of_decide_eq_true he
          rw [this]; exact List.getElem_mem hlt
        go_wp2
        go_ret
        exact ⟨⟨_, rfl, by rw [HE.out]; simp⟩, HW.out⟩
      | false =>
        have HE : Hid (x ∉ L.take (k + 1)) := by
          rw [str_eq_iff] at he
          exact has_take hlt HN.out (fun e => of_decide_eq_false he e.symm)
        go_wp2
        go_roundw
        case rel => exact ⟨k + 1, by omega, by go_num, HE, HW⟩
        case measure => simp [intOf]; omega
    · have HE : Hid (hasB x L = false) := by
        apply hasB_no.2
        have e1 : L.take k = L := List.take_of_length_le (by omega)
        rw [← e1]; exact HN.out
      go_wp2
      go_ret
      exact ⟨⟨-1, rfl, by rw [HE.out]; simp⟩, HW.out⟩
theorem contains_any (a0 : Option Addr) (cap : Nat) (L : List ByteArray) (x : ByteArray) (w : World) (hA : IsStrs w a0 cap L) (hl : L.length ≤ 4194304) :
    Calls Try.prog 34 #[.slice a0 L.length cap, .string x] w fun e w' => e = .returned (.bool (hasB x L)) ∧ ∃ n, w' = w.drewN n := by
  have HA : Hid (IsStrs w a0 cap L) := hA
  clear hA
  go_enter Try.func34, Try.ntmps34
  go_wp2_with fail
  refine (index_any a0 cap L x _ HA.out hl).mono ?_
  rintro e w1 ⟨⟨z, rfl, hz⟩, n, rfl⟩
  have HZ : Hid (decide (0 ≤ z) = hasB x L) := by
    show _ = _
    rw [Bool.eq_iff_iff, decide_eq_true_eq]; exact hz
  clear hz
  go_wp2
  go_ret
  exact ⟨ret_bool HZ.out, n, rfl⟩
end Go.Proofs.Ytbecelblddemkaa.Ct
