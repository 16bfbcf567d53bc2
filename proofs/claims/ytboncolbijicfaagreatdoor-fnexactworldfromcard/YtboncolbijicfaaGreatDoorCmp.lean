/- The laws' comparisons of lists of strings, and the drawn parts of a way. -/
import Derived.Test.YtboncolbijicfaaGreatDoorStrs
namespace Go.Proofs.YtboncolbijicfaaGreatDoor.St
open Go.RowKit

theorem str_eq_iff (a b : ByteArray) : (a.toList == b.toList) = decide (a = b) := by
  rw [Bool.eq_iff_iff]
  simp only [beq_iff_eq, decide_eq_true_eq, ByteArray.toList_eq]
  constructor
  · intro h; apply ByteArray.ext; exact Array.toList_inj.1 h
  · intro h; rw [h]

def hasB (x : ByteArray) (A : List ByteArray) : Bool := A.any fun y => decide (y = x)
theorem hasB_iff {x : ByteArray} {A : List ByteArray} : hasB x A = true ↔ x ∈ A := by
  simp [hasB]
theorem hasB_no {x : ByteArray} {A : List ByteArray} : hasB x A = false ↔ x ∉ A := by
  rw [← hasB_iff]; simp

theorem IsStrs.at {w : World} {a0 : Option Addr} {cap : Nat} {L : List ByteArray} (h : IsStrs w a0 cap L) {k : Nat} (hk : k < L.length) : ∃ b off, a0 = some ⟨b, off, none⟩ ∧ w.cell? ⟨b, off + k, none⟩ = some (.string L[k]) := by
  obtain ⟨b, off, e, hc⟩ := h.2.2.2 (by intro e; rw [e] at hk; simp at hk)
  exact ⟨b, off, e, hc k hk⟩

theorem take_ne {A B : List ByteArray} {k : Nat} (h : A.take k = B.take k) (hA : k < A.length) (hB : k < B.length) (he : A[k] = B[k]) : A.take (k + 1) = B.take (k + 1) := by
  rw [List.take_succ_eq_append_getElem hA, List.take_succ_eq_append_getElem hB, h, he]

end Go.Proofs.YtboncolbijicfaaGreatDoor.St
