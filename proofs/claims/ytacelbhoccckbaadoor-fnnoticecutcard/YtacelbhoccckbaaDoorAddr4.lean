/- Whether an address is ok: of the program and of the model. -/
import Derived.Test.YtacelbhoccckbaaDoorAddr3
namespace Go.Proofs.YtacelbhoccckbaaDoor.Ad1
open Go.RowKit Go.Proofs.YtacelbhoccckbaaDoor.EscM Go.Proofs.YtacelbhoccckbaaDoor.AddrM Go.Proofs.YtacelbhoccckbaaDoor.St Go.Proofs.YtacelbhoccckbaaDoor.EscL

theorem box_cells {w wr : World} {x0 x1 x2 x3 : Value} {t : TypeId} (hb : Below (w.heap.size + 1) (w.alloc (.cells #[x0, x1, x2, x3] t)) wr) :
    wr.cell? ⟨w.heap.size, 0, none⟩ = some x0 ∧ wr.cell? ⟨w.heap.size, 1, none⟩ = some x1 ∧ wr.cell? ⟨w.heap.size, 2, none⟩ = some x2 ∧ wr.cell? ⟨w.heap.size, 3, none⟩ = some x3 := by
  have h : ∀ j, wr.cell? ⟨w.heap.size, j, none⟩ = (w.alloc (.cells #[x0, x1, x2, x3] t)).cell? ⟨w.heap.size, j, none⟩ := fun j => hb.cell (by show w.heap.size < _; omega)
  exact ⟨by rw [h]; simp, by rw [h]; simp, by rw [h]; simp, by rw [h]; simp⟩
theorem box_below {w wr : World} {o : Obj} (hb : Below (w.heap.size + 1) (w.alloc o) wr) : Below w.heap.size w wr := ((Below.refl _ _).alloc (Nat.le_refl _) _).trans (hb.mono (by omega))
theorem box_strs {w wr : World} {o : Obj} {a0 : Option Addr} {cap : Nat} {L : List ByteArray} (hS : IsStrs w a0 cap L) (hb : Below (w.heap.size + 1) (w.alloc o) wr) : IsStrs wr a0 cap L := hS.below (box_below hb)
theorem box_next {w wr w1 : World} {o : Obj} (hb : Below (w.heap.size + 1) (w.alloc o) wr) (h1 : Below wr.heap.size wr w1) : Below (w.heap.size + 1) (w.alloc o) w1 := hb.trans (h1.mono (by have := hb.size; simp at this; omega))

theorem ok_house {A : Ad} (h : houseB A.house = false) : okB A = false := by unfold okB; rw [h]; simp
theorem ok_long {A : Ad} (h : ¬ A.parts.length ≤ 5) : okB A = false := by unfold okB; rw [decide_eq_false h]; simp
theorem ok_norm {A : Ad} (h : normB A.ask = false) : okB A = false := by unfold okB; rw [h]; simp
theorem ok_ask {A : Ad} (h1 : A.asks = false) (h2 : A.ask.toList.isEmpty = false) : okB A = false := by unfold okB; rw [h1, h2]; simp
theorem ok_part {A : Ad} {p : ByteArray} (hp : p ∈ A.parts) (h : partB p = false) : okB A = false := by
  unfold okB
  have : A.parts.all partB = false := by
    rw [List.all_eq_false]; exact ⟨p, hp, by simp [h]⟩
  rw [this]; simp
theorem ok_rest {A : Ad} (h1 : houseB A.house = true) (h2 : A.parts.length ≤ 5) (h3 : A.parts.all partB = true) (h4 : (A.asks || A.ask.toList.isEmpty) = true) (h5 : normB A.ask = true) : okB A = decide (((textS A).size : Int) ≤ 60) := by
  unfold okB textS
  rw [h1, decide_eq_true h2, h3, h4, h5, size_mk]; simp; omega
theorem all_take {L : List ByteArray} {k : Nat} (hk : k < L.length) (h : (L.take k).all partB = true) (hp : partB L[k] = true) : (L.take (k + 1)).all partB = true := by
  rw [List.take_succ_eq_append_getElem hk, List.all_append, h]; simp [hp]
theorem part_norm {s : ByteArray} (h : normB s = false) : partB s = false := by unfold partB; rw [h]; simp
theorem part_empty {s : ByteArray} (h : s.toList.isEmpty = true) : partB s = false := by unfold partB; rw [h]; simp
theorem part_dot {s : ByteArray} (h : (s.toList == [46]) = true) : partB s = false := by unfold partB; rw [h]; simp
theorem part_up {s : ByteArray} (h : (s.toList == [46, 46]) = true) : partB s = false := by unfold partB; rw [h]; simp
theorem part_ok {s : ByteArray} (h0 : normB s = true) (h1 : s.toList.isEmpty = false) (h2 : (s.toList == [46]) = false) (h3 : (s.toList == [46, 46]) = false) : partB s = true := by unfold partB; rw [h0, h1, h2, h3]; rfl

end Go.Proofs.YtacelbhoccckbaaDoor.Ad1
