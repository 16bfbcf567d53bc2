/- A struct in its block; marks in an address's parts. -/
import Derived.Test.YtmgcdfmgmpnonaaGreatDoorEscLeafPk
import Derived.Test.YtmgcdfmgmpnonaaGreatDoorAddrMath
namespace Go.Proofs.YtmgcdfmgmpnonaaGreatDoor.MkA
open Go.RowKit Go.Proofs.YtmgcdfmgmpnonaaGreatDoor.St Go.Proofs.YtmgcdfmgmpnonaaGreatDoor.EscL Go.Proofs.YtmgcdfmgmpnonaaGreatDoor.AddrM

/-- a struct lies in a block -/
def Bs (t : TypeId) (w : World) (G : Nat) (C : Array Value) : Prop := w.heap[G]? = some (.cells C t (0, 0))
section
variable {t : TypeId} {w w' : World} {G : Nat} {C : Array Value}
theorem Bs.cell (h : Bs t w G C) (j : Nat) {x : Value} (hx : C[j]? = some x) : w.cell? ⟨G, j, none⟩ = some x := by
  unfold Bs at h
  simp [World.cell?, h, hx]
theorem Bs.free (h : Bs t w G C) (j : Nat) : w.frozen? ⟨G, j, none⟩ = false := by
  unfold Bs at h
  simp [World.frozen?, h]
theorem Bs.lt (h : Bs t w G C) : G < w.heap.size := (Array.getElem?_eq_some_iff.1 h).1
theorem Bs.grown {row : Option Nat} (h : Bs t w G C) (hg : w.grownBy w' row) (hr : row ≠ some G) : Bs t w' G C := by
  unfold Bs
  rw [hg.block G h.lt (fun e => hr e.symm)]; exact h
theorem Bs.keep (h : Bs t w G C) (hb : ∀ k, k < w.heap.size → w'.heap[k]? = w.heap[k]?) : Bs t w' G C := by
  unfold Bs
  rw [hb G h.lt]; exact h
theorem Bs.below (h : Bs t w G C) (hb : Below w.heap.size w w') : Bs t w' G C := h.keep fun k hk => hb.block k hk
theorem Bs.new (t : TypeId) (w : World) (C : Array Value) : Bs t (w.alloc (.cells C t)) w.heap.size C := by
  show (w.heap.push _)[w.heap.size]? = _; simp
theorem Bs.set (h : Bs t w G C) (j : Nat) (y : Value) : Bs t (w.setCell ⟨G, j, none⟩ y) G (C.setIfInBounds j y) := by
  unfold Bs at h ⊢
  simp only [World.setCell, Array.getElem?_modify, if_true, h, Option.map_some]
  rfl
theorem Bs.alloc (h : Bs t w G C) (o : Obj) : Bs t (w.alloc o) G C := h.keep (alloc_keep _ _)
theorem Bs.drewN (h : Bs t w G C) (n : Nat) : Bs t (w.drewN n) G C := h.keep fun _ _ => rfl
end
theorem owns_lt {w : World} {base : Nat} {v : Value} {L : List ByteArray} (h : Owns w base v L) (g : Nat) (hg : v.ownBlock = some g) : g < w.heap.size := (World.ownsRow.lt h g hg).2
theorem owns_ge {w : World} {base : Nat} {v : Value} {L : List ByteArray} (h : Owns w base v L) (g : Nat) (hg : v.ownBlock = some g) : base ≤ g := (World.ownsRow.lt h g hg).1

end Go.Proofs.YtmgcdfmgmpnonaaGreatDoor.MkA
