/- Parts of a way are drawn. -/
import Derived.Test.YtboncolbijicfaaGreatDoorDraw1Pk
import Derived.Test.YtboncolbijicfaaGreatDoorStrs
namespace Go.Proofs.YtboncolbijicfaaGreatDoor.Dr
open Go.RowKit Go.Proofs.YtboncolbijicfaaGreatDoor.St

theorem grown_past {w w1 w2 : World} {r : Nat} {row : Option Nat} (h : w.grownBy w1 (some r)) (g : w1.grownBy w2 row) (hrow : ∀ k, row = some k → w.heap.size ≤ k) : w.grownBy w2 (some r) :=
  ⟨g.os.trans h.os, g.tape.trans h.tape, g.output.trans h.output, Nat.le_trans h.size g.size, fun k hk hr => (g.block k (Nat.lt_of_lt_of_le hk h.size) (fun e => by have := hrow k e.symm; omega)).trans (h.block k hk hr)⟩

theorem Owns.kept {w w' : World} {base r : Nat} {v : Value} {L : List ByteArray} (h : Owns w base v L) (hg : w.grownBy w' (some r)) (hr : r < base) : Owns w' base v L := by
  refine World.ownsRow.kept h hg ?_
  cases hv : v.ownBlock with
  | none => exact Or.inl rfl
  | some g =>
    right
    have := Owns.block h g hv
    intro e; have := Option.some.inj e; omega

theorem Owns.form {w : World} {base : Nat} {v : Value} {L : List ByteArray} (h : Owns w base v L) (hn : v ≠ .slice none 0 0) : ∃ g cap, v = .slice (some ⟨g, 0, none⟩) L.length cap := by
  obtain ⟨_, h | ⟨g, cap, cur, hv, _⟩⟩ := h
  · exact absurd h.1 hn
  · exact ⟨g, cap, hv⟩


theorem grown_any {a b : World} {row : Option Nat} (B : Nat) (h : a.grownBy b row) (hB : B ≤ a.heap.size) (hrow : ∀ k, row = some k → B ≤ k) : Below B a b :=
  ⟨h.os, h.tape, h.output, h.size, fun k hk => h.block k (by omega) (fun e => by have := hrow k e.symm; omega)⟩

end Go.Proofs.YtboncolbijicfaaGreatDoor.Dr
