/- What is drawn: steps that all draws share; a struct in its block. -/
import Derived.Test.YtiennniclkbjlaaGreatDoorStrsPk
import Derived.Test.YtiennniclkbjlaaGreatDoorStep
namespace Go.Proofs.YtiennniclkbjlaaGreatDoor.Dr
open Go.RowKit Go.Proofs.YtiennniclkbjlaaGreatDoor.St

theorem lit_cell {w w1 : World} {C : Array Value} {t : TypeId} {fz : Nat × Nat} {g r x : Nat} {P : ByteArray → Bool} (hb : w.heap[g]? = some (.cells C t fz)) (hall : strAll P C = true) (hg : w.grownBy w1 (some r)) (hgr : g ≠ r) (hx : x < C.size) : ∃ s, w1.cell? ⟨g, x, none⟩ = some (.string s) ∧ P s = true := by
  obtain ⟨s, hs, hp⟩ := strAll_at hall x hx
  refine ⟨s, ?_, hp⟩
  rw [World.cell?_of_block (w := w) (hg.block g (Array.getElem?_eq_some_iff.1 hb).1 (by intro e; exact hgr (Option.some.inj e)))]
  simp [World.cell?, hb, hs]

theorem grown_set {w : World} {G : Nat} (j : Nat) (y : Value) : w.grownBy (w.setCell ⟨G, j, none⟩ y) (some G) := ⟨rfl, rfl, rfl, by simp [World.setCell], fun k hk hr => Below.heap_setCell _ _ _ _ (fun e => hr (by rw [e]))⟩

theorem IsRd.heapEq {B : Nat} {w w' : World} {r q : Nat} (h : IsRd B w r q) (e : w'.heap = w.heap) : IsRd B w' r q := h.keep fun k _ => by rw [e]
theorem Owns.heapEq {w w' : World} {base : Nat} {v : Value} {L : List ByteArray} (h : Owns w base v L) (e : w'.heap = w.heap) : Owns w' base v L := h.keep fun k _ => by rw [e]
theorem own_ne {w : World} {base G : Nat} {v : Value} {L : List ByteArray} (h : Owns w base v L) (hG : G < base) : v.ownBlock ≠ some G := fun e => by have := Owns.block h G e; omega
theorem len_snoc (L : List ByteArray) (t : ByteArray) : (L ++ [t]).length = L.length + 1 := by simp
/-- ONE OF A LIST THAT HAS JUST BEEN WRITTEN OUT IS DRAWN. -/
theorem of_new (B r q m : Nat) (C : Array Value) (P : ByteArray → Bool) (wr : World) (h : IsRd B wr r q) (hq : q ≤ 1000000) (hm : C.size = m) (h1 : 1 ≤ m) (h2 : m ≤ 1000) (hall : strAll P C = true) :
    Calls Tryz.prog 56 #[.pointer (some ⟨r, 0, none⟩), .slice (some ⟨wr.heap.size, 0, none⟩) m m] (wr.alloc (.cells C 9)) fun e w' => ∃ s, e = .returned (.string s) ∧ P s = true ∧ IsRd B w' r (q + 1) ∧ wr.grownBy w' (some r) := by
  have hle := h.le
  refine (of_lit B r q wr.heap.size m C (0, 0) P _ (h.alloc _) hq (by omega) (heap_new wr _) hm h1 h2 hall).mono ?_
  rintro e w' ⟨s, rfl, hp, hr, hg⟩
  exact ⟨s, rfl, hp, hr, grown_trans (grown_alloc _ _ _) hg⟩
theorem of_newD (B r q m : Nat) (C : Array Value) (P : ByteArray → Bool) (wr : World) (h : IsRd B wr r q) (hq : q ≤ 1000000) (hm : C.size = m) (h1 : 1 ≤ m) (h2 : m ≤ 1000) (hall : strAll P C = true) :
    Calls Tryz.prog 56 #[.pointer (some ⟨r, 0, none⟩), .slice (some ⟨wr.heap.size, 0, none⟩) m m] (wr.alloc (.cells C 9)).drew fun e w' => ∃ s, e = .returned (.string s) ∧ P s = true ∧ IsRd B w' r (q + 1) ∧ wr.grownBy w' (some r) := by
  have hle := h.le
  have hg0 : wr.grownBy (wr.alloc (.cells C 9)).drew (some r) := ⟨rfl, rfl, rfl, by simp, fun k hk _ => Below.heap_alloc wr _ k hk⟩
  refine (of_lit B r q wr.heap.size m C (0, 0) P (wr.alloc (.cells C 9)).drew ((h.alloc _).heapEq rfl) hq (by omega) (heap_new wr _) hm h1 h2 hall).mono ?_
  rintro e w' ⟨s, rfl, hp, hr, hg⟩
  exact ⟨s, rfl, hp, hr, grown_trans hg0 hg⟩

theorem of_newG (B r q m g : Nat) (C : Array Value) (P : ByteArray → Bool) (wr : World) (e : wr.heap.size = g) (h : IsRd B wr r q) (hq : q ≤ 1000000) (hm : C.size = m) (h1 : 1 ≤ m) (h2 : m ≤ 1000) (hall : strAll P C = true) :
    Calls Tryz.prog 56 #[.pointer (some ⟨r, 0, none⟩), .slice (some ⟨g, 0, none⟩) m m] (wr.alloc (.cells C 9)) fun e w' => ∃ s, e = .returned (.string s) ∧ P s = true ∧ IsRd B w' r (q + 1) ∧ wr.grownBy w' (some r) := by
  subst e; exact of_new B r q m C P wr h hq hm h1 h2 hall


/-- a struct lies in a block -/
def Bx (t : TypeId) (w : World) (G : Nat) (C : Array Value) : Prop := w.heap[G]? = some (.cells C t (0, 0))
section
variable {t : TypeId} {w w' : World} {G : Nat} {C : Array Value}
theorem Bx.cell (h : Bx t w G C) (j : Nat) {x : Value} (hx : C[j]? = some x) : w.cell? ⟨G, j, none⟩ = some x := by
  unfold Bx at h
  simp [World.cell?, h, hx]
theorem Bx.free (h : Bx t w G C) (j : Nat) : w.frozen? ⟨G, j, none⟩ = false := by
  unfold Bx at h
  simp [World.frozen?, h]
theorem Bx.lt (h : Bx t w G C) : G < w.heap.size := (Array.getElem?_eq_some_iff.1 h).1
theorem Bx.grown {row : Option Nat} (h : Bx t w G C) (hg : w.grownBy w' row) (hr : row ≠ some G) : Bx t w' G C := by
  unfold Bx
  rw [hg.block G h.lt (fun e => hr e.symm)]; exact h
theorem Bx.keep (h : Bx t w G C) (hb : ∀ k, k < w.heap.size → w'.heap[k]? = w.heap[k]?) : Bx t w' G C := by
  unfold Bx
  rw [hb G h.lt]; exact h
theorem Bx.heapEq (h : Bx t w G C) (e : w'.heap = w.heap) : Bx t w' G C := by unfold Bx; rw [e]; exact h
theorem Bx.new (t : TypeId) (w : World) (C : Array Value) : Bx t (w.alloc (.cells C t)) w.heap.size C := heap_new _ _
theorem Bx.set (h : Bx t w G C) (j : Nat) (y : Value) : Bx t (w.setCell ⟨G, j, none⟩ y) G (C.setIfInBounds j y) := by
  unfold Bx at h ⊢
  simp only [World.setCell, Array.getElem?_modify, if_true, h, Option.map_some]
  rfl
theorem Bx.alloc (h : Bx t w G C) (o : Obj) : Bx t (w.alloc o) G C := h.keep (alloc_keep _ _)
end
theorem OwnsR.heapEq {α : Type} {F : RR.Frm α} {t : TypeId} {w w' : World} {base : Nat} {v : Value} {L : List α} (h : RR.OwnsR F t w base v L) (e : w'.heap = w.heap) : RR.OwnsR F t w' base v L := h.keep fun k _ => by rw [e]
end Go.Proofs.YtiennniclkbjlaaGreatDoor.Dr
