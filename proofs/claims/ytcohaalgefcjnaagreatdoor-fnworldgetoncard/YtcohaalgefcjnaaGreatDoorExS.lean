/- The exact laws' helpers on lists of strings: how great, copied, the same, marked, held. -/
import Derived.Test.YtcohaalgefcjnaaGreatDoorCmp
import Derived.Test.YtcohaalgefcjnaaGreatDoorEscLeafPk
namespace Go.Proofs.YtcohaalgefcjnaaGreatDoor.St
open Go.RowKit

def sumSz : List ByteArray → Nat
  | [] => 0
  | x :: r => x.size + sumSz r
theorem sumSz_snoc : ∀ (L : List ByteArray) (x : ByteArray), sumSz (L ++ [x]) = sumSz L + x.size := by
  intro L
  induction L with
  | nil => intro x; simp [sumSz]
  | cons y L ih => intro x; simp only [List.cons_append, sumSz, ih]; omega
theorem sumSz_take (L : List ByteArray) (k : Nat) (h : k < L.length) : sumSz (L.take (k + 1)) = sumSz (L.take k) + L[k].size := by
  rw [List.take_succ_eq_append_getElem h, sumSz_snoc]


theorem set_take (L : List ByteArray) (k : Nat) (hk : k < L.length) (e : ByteArray) : (L.take k ++ List.replicate (L.length - k) e).set k L[k] = L.take (k + 1) ++ List.replicate (L.length - (k + 1)) e := by
  have hl : (L.take k).length = k := by simp; omega
  rw [List.set_append_right _ _ (by omega), hl, Nat.sub_self]
  rw [show L.length - k = (L.length - (k + 1)) + 1 by omega, List.replicate_succ, List.set_cons_zero, List.take_succ_eq_append_getElem hk, List.append_assoc]
  rfl



theorem grown_refl (w : World) (row : Option Nat) : w.grownBy w row := ⟨rfl, rfl, rfl, Nat.le_refl _, fun _ _ _ => rfl⟩
theorem grown_trans {a b c : World} {row : Option Nat} (h : a.grownBy b row) (k : b.grownBy c row) : a.grownBy c row :=
  ⟨k.os.trans h.os, k.tape.trans h.tape, k.output.trans h.output, Nat.le_trans h.size k.size, fun i hi hr => (k.block i (Nat.lt_of_lt_of_le hi h.size) hr).trans (h.block i hi hr)⟩
theorem grown_of_below {a b : World} (row : Option Nat) (h : Below a.heap.size a b) : a.grownBy b row := ⟨h.os, h.tape, h.output, h.size, fun k hk _ => h.block k hk⟩


end Go.Proofs.YtcohaalgefcjnaaGreatDoor.St
