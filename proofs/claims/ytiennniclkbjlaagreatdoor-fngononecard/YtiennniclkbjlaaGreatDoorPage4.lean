/- The model's marks, links and base of a page. -/
import Derived.Test.YtiennniclkbjlaaGreatDoorPage3
namespace Go.Proofs.YtiennniclkbjlaaGreatDoor.Pg
open Go.RowKit Go.Proofs.YtiennniclkbjlaaGreatDoor.EscM Go.Proofs.YtiennniclkbjlaaGreatDoor.EscL Go.Proofs.YtiennniclkbjlaaGreatDoor.ReadM Go.Proofs.YtiennniclkbjlaaGreatDoor.St Go.Proofs.YtiennniclkbjlaaGreatDoor.PgM Go.Proofs.YtiennniclkbjlaaGreatDoor.Dr

/-- where the model stands behind k bytes: what it keeps, against where the walk stands -/
def Stands (s : ByteArray) (k p : Nat) (m : List UInt8) (round : Bool) (frm : Int) : Prop :=
  (p = 0 ∧ round = false ∧ frm = -1) ∨ (p = 2 ∧ round = true ∧ frm = -1) ∨ (p = 1 ∧ round = false ∧ ∃ f : Nat, frm = (f : Int) ∧ f ≤ k ∧ m = (s.data.toList.take k).drop f)
theorem ext_mid (s : ByteArray) (f k : Nat) (_h : k ≤ s.size) : s.extract f k = bs ((s.data.toList.take k).drop f) := by
  apply ByteArray.ext
  simp [bs, ByteArray.data_extract]
  apply Array.ext'
  simp [List.drop_take]
theorem take_more {s : ByteArray} {k f : Nat} (h : k < s.size) (hf : f ≤ k) : (s.data.toList.take (k + 1)).drop f = (s.data.toList.take k).drop f ++ [s[k]'h] := by
  have hl : k < s.data.toList.length := by simpa using h
  rw [List.take_succ_eq_append_getElem hl, List.drop_append_of_le_length (by simp; omega)]
  rfl

end Go.Proofs.YtiennniclkbjlaaGreatDoor.Pg
