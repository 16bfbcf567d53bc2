/- The model's reading of an address: a way. -/
import Derived.Test.YtacelbhoccckbaaDoorRead2
import Derived.Test.YtacelbhoccckbaaDoorAddr4
import Derived.Test.YtacelbhoccckbaaDoorStrsPk
import Derived.Test.YtacelbhoccckbaaDoorStep
import Derived.Deep.AppendLies
namespace Go.Proofs.YtacelbhoccckbaaDoor.Rd1
open Go.RowKit Go.Proofs.YtacelbhoccckbaaDoor.EscM Go.Proofs.YtacelbhoccckbaaDoor.AddrM Go.Proofs.YtacelbhoccckbaaDoor.ReadM Go.Proofs.YtacelbhoccckbaaDoor.St Go.Proofs.YtacelbhoccckbaaDoor.EscL Go.Proofs.YtacelbhoccckbaaDoor.PathM Go.Proofs.YtacelbhoccckbaaDoor.Ad1

/-- the box of what came in, and the place of the answer, kept -/
theorem two_cells {w wr : World} {x0 x1 x2 x3 y0 y1 y2 y3 : Value} {t t' : TypeId} (hb : Below (w.heap.size + 1 + 1) ((w.alloc (.cells #[x0, x1, x2, x3] t)).alloc (.cells #[y0, y1, y2, y3] t')) wr) :
    (wr.cell? ⟨w.heap.size, 0, none⟩ = some x0 ∧ wr.cell? ⟨w.heap.size, 1, none⟩ = some x1 ∧ wr.cell? ⟨w.heap.size, 2, none⟩ = some x2 ∧ wr.cell? ⟨w.heap.size, 3, none⟩ = some x3) ∧
    (wr.cell? ⟨w.heap.size + 1, 0, none⟩ = some y0 ∧ wr.cell? ⟨w.heap.size + 1, 1, none⟩ = some y1 ∧ wr.cell? ⟨w.heap.size + 1, 2, none⟩ = some y2 ∧ wr.cell? ⟨w.heap.size + 1, 3, none⟩ = some y3) ∧
    (∀ j, wr.frozen? ⟨w.heap.size + 1, j, none⟩ = false) := by
  have h : ∀ j, wr.cell? ⟨w.heap.size, j, none⟩ = ((w.alloc (.cells #[x0, x1, x2, x3] t)).alloc (.cells #[y0, y1, y2, y3] t')).cell? ⟨w.heap.size, j, none⟩ := fun j => hb.cell (by show w.heap.size < _; omega)
  have h' : ∀ j, wr.cell? ⟨w.heap.size + 1, j, none⟩ = ((w.alloc (.cells #[x0, x1, x2, x3] t)).alloc (.cells #[y0, y1, y2, y3] t')).cell? ⟨w.heap.size + 1, j, none⟩ := fun j => hb.cell (by show w.heap.size + 1 < _; omega)
  refine ⟨⟨?_, ?_, ?_, ?_⟩, ⟨?_, ?_, ?_, ?_⟩, fun j => ?_⟩
  · rw [h]; go_simp
  · rw [h]; go_simp
  · rw [h]; go_simp
  · rw [h]; go_simp
  · rw [h']; go_simp
  · rw [h']; go_simp
  · rw [h']; go_simp
  · rw [h']; go_simp
  · rw [hb.frozen (show w.heap.size + 1 < w.heap.size + 1 + 1 by omega)]; go_simp

theorem two_below {w wr : World} {o o' : Obj} (hb : Below (w.heap.size + 1 + 1) ((w.alloc o).alloc o') wr) : Below w.heap.size w wr := (((Below.refl _ w).alloc (Nat.le_refl _) _).alloc (by simp) _).trans (hb.mono (by omega))
theorem two_next {w wr w1 : World} {o o' : Obj} (hb : Below (w.heap.size + 1 + 1) ((w.alloc o).alloc o') wr) (h1 : Below wr.heap.size wr w1) : Below (w.heap.size + 1 + 1) ((w.alloc o).alloc o') w1 := hb.trans (h1.mono (by have := hb.size; simp at this; omega))

theorem below_past {w4 w5 : World} {Z : Obj} (h : Below (w4.alloc Z).drew.heap.size (w4.alloc Z).drew w5) : Below w4.heap.size w4 w5 :=
  (((Below.refl w4.heap.size w4).alloc (Nat.le_refl _) Z).drew).trans (h.mono (show w4.heap.size ≤ _ by simp))
theorem zero_past {w4 w5 : World} {x0 x1 x2 x3 : Value} {t : TypeId} (h : Below (w4.alloc (.cells #[x0, x1, x2, x3] t)).drew.heap.size (w4.alloc (.cells #[x0, x1, x2, x3] t)).drew w5) :
    w5.cell? ⟨w4.heap.size, 0, none⟩ = some x0 ∧ w5.cell? ⟨w4.heap.size, 1, none⟩ = some x1 ∧ w5.cell? ⟨w4.heap.size, 2, none⟩ = some x2 ∧ w5.cell? ⟨w4.heap.size, 3, none⟩ = some x3 ∧ ∀ j, w5.frozen? ⟨w4.heap.size, j, none⟩ = false := by
  have hc : ∀ j, w5.cell? ⟨w4.heap.size, j, none⟩ = (w4.alloc (.cells #[x0, x1, x2, x3] t)).drew.cell? ⟨w4.heap.size, j, none⟩ := fun j => h.cell (by show w4.heap.size < _; simp)
  refine ⟨?_, ?_, ?_, ?_, fun j => ?_⟩
  · rw [hc]; go_simp
  · rw [hc]; go_simp
  · rw [hc]; go_simp
  · rw [hc]; go_simp
  · rw [h.frozen (by show w4.heap.size < _; simp)]; go_simp
theorem cell_on {w6 w7 : World} {p j : Nat} {v : Value} (hb : Below w6.heap.size w6 w7) (h : w6.cell? ⟨p, j, none⟩ = some v) (hp : p < w6.heap.size) : w7.cell? ⟨p, j, none⟩ = some v := (hb.cell (p := ⟨p, j, none⟩) hp).trans h
theorem owns_past {w4 w5 : World} {Z : Obj} {v : Value} {L : List ByteArray} (h : Owns w5 (w4.alloc Z).drew.heap.size v L) : Owns w5 (w4.heap.size + 1) v L := Owns.mono h (by simp)

theorem way_cut {house : ByteArray} {frm : List ByteArray} {way x y : List UInt8} {f : Bool} (h : cutL 63 way = (x, y, f)) : wayF house frm (bs way) = match normS (splitS 47 (bs x)) with
    | none => none
    | some ps => if escB (bs y) then if okB ⟨house, cleanL (frm ++ ps), f, escS (bs y)⟩ then some ⟨house, cleanL (frm ++ ps), f, escS (bs y)⟩ else none else none := by
  unfold wayF
  have : (bs way).data.toList = way := by unfold bs; simp
  rw [this, h]
  cases normS (splitS 47 (bs x)) <;> rfl

end Go.Proofs.YtacelbhoccckbaaDoor.Rd1
