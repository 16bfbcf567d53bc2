/- The model's reading of an address: the whole. -/
import Derived.Test.YtacelbhoccckbaaDoorRead3
namespace Go.Proofs.YtacelbhoccckbaaDoor.Rd1
open Go.RowKit Go.Proofs.YtacelbhoccckbaaDoor.EscM Go.Proofs.YtacelbhoccckbaaDoor.AddrM Go.Proofs.YtacelbhoccckbaaDoor.ReadM Go.Proofs.YtacelbhoccckbaaDoor.St Go.Proofs.YtacelbhoccckbaaDoor.EscL Go.Proofs.YtacelbhoccckbaaDoor.PathM Go.Proofs.YtacelbhoccckbaaDoor.Ad1

def goesOn (b : UInt8) : Bool := !(((b.toNat : Int) == 47) || ((b.toNat : Int) == 63))
def wholeF (l : List UInt8) : Option Ad := wayF (bs (smallL (l.takeWhile goesOn))) [] (bs (l.dropWhile goesOn))

theorem while_at : ∀ (l : List UInt8) (k : Nat) (h : k < l.length), (∀ i (hi : i < k), goesOn (l[i]'(by omega)) = true) → goesOn l[k] = false → l.takeWhile goesOn = l.take k ∧ l.dropWhile goesOn = l.drop k := by
  intro l
  induction l with
  | nil => intro k h; simp at h
  | cons b r ih =>
    intro k h hall hk
    cases k with
    | zero => simp at hk; simp [hk]
    | succ k =>
      have h0 := hall 0 (by omega)
      simp at h0
      have := ih k (by simpa using h) (fun i hi => by have := hall (i + 1) (by omega); simpa using this) (by simpa using hk)
      simp [h0, this.1, this.2]
theorem while_all : ∀ (l : List UInt8), (∀ i (hi : i < l.length), goesOn (l[i]'hi) = true) → l.takeWhile goesOn = l ∧ l.dropWhile goesOn = [] := by
  intro l
  induction l with
  | nil => intro _; exact ⟨rfl, rfl⟩
  | cons b r ih =>
    intro hall
    have h0 := hall 0 (by simp)
    simp at h0
    have := ih (fun i hi => by have := hall (i + 1) (by simpa using hi); simpa using this)
    simp [h0, this.1, this.2]

theorem bs_list (l : List UInt8) : (bs l).data.toList = l := by unfold bs; simp
theorem one_cells {w wr : World} {y0 y1 y2 y3 : Value} {t' : TypeId} (hb : Below (w.heap.size + 1) (w.alloc (.cells #[y0, y1, y2, y3] t')) wr) :
    (wr.cell? ⟨w.heap.size, 0, none⟩ = some y0 ∧ wr.cell? ⟨w.heap.size, 1, none⟩ = some y1 ∧ wr.cell? ⟨w.heap.size, 2, none⟩ = some y2 ∧ wr.cell? ⟨w.heap.size, 3, none⟩ = some y3) ∧
    (∀ j, wr.frozen? ⟨w.heap.size, j, none⟩ = false) := by
  have h : ∀ j, wr.cell? ⟨w.heap.size, j, none⟩ = (w.alloc (.cells #[y0, y1, y2, y3] t')).cell? ⟨w.heap.size, j, none⟩ := fun j => hb.cell (by show w.heap.size < _; omega)
  refine ⟨⟨?_, ?_, ?_, ?_⟩, fun j => ?_⟩
  · rw [h]; go_simp
  · rw [h]; go_simp
  · rw [h]; go_simp
  · rw [h]; go_simp
  · rw [hb.frozen (show w.heap.size < w.heap.size + 1 by omega)]; go_simp
theorem below_one {w w1 : World} {Z : Obj} (h : Below (w.alloc Z).heap.size (w.alloc Z) w1) : Below (w.heap.size + 1) (w.alloc Z) w1 := h.mono (by simp)
theorem strs_nil (w : World) : IsStrs w none 0 [] := (Owns.nil w 0).strsOf
theorem small_len (l : List UInt8) : (smallL l).length = l.length := by simp [smallL]

end Go.Proofs.YtacelbhoccckbaaDoor.Rd1
