/- The model's reading of an address: small letters. -/
import Derived.Test.YtacelbhoccckbaaDoorRead1
namespace Go.Proofs.YtacelbhoccckbaaDoor.Rd1
open Go.RowKit Go.Proofs.YtacelbhoccckbaaDoor.EscM Go.Proofs.YtacelbhoccckbaaDoor.AddrM Go.Proofs.YtacelbhoccckbaaDoor.ReadM Go.Proofs.YtacelbhoccckbaaDoor.St Go.Proofs.YtacelbhoccckbaaDoor.EscL

theorem bytes_of (s : ByteArray) (w : World) : ∃ cap wm, (convert 9 22 (.string s)).run Tryd.prog w = .ok (.slice (some ⟨w.heap.size, 0, none⟩) s.size cap) wm ∧ s.size ≤ cap ∧
    (∀ j (h : j < s.size), wm.cell? ⟨w.heap.size, j, none⟩ = some (.int .u8 ((s[j]'h).toNat : Int))) ∧ (∀ j, j < s.size → wm.frozen? ⟨w.heap.size, j, none⟩ = false) ∧ Below w.heap.size w wm := by
  refine ⟨_, _, run_bytes_of_string w 9 22 5 s Tryd.underlying9 Tryd.underlying22 Tryd.underlying5, grownCap_ge w s.size 0 5, ?_, ?_, ?_⟩
  · intro j h
    have e := World.cell?_alloc_mark w.drew (bytesRow s (grownCap w s.size 0 5)) 5 ((bytesRow s (grownCap w s.size 0 5)).size, (bytesRow s (grownCap w s.size 0 5)).size + 1) j
    rw [show (⟨w.heap.size, j, none⟩ : Addr) = ⟨w.drew.heap.size, j, none⟩ from rfl, e]
    unfold bytesRow
    have h' : j < s.data.size := h
    rw [Array.getElem?_append_left (by simpa using h)]
    simp only [Array.getElem?_map, Array.getElem?_eq_getElem h', Option.map_some]
    rfl
  · intro j h
    have hh : (w.drew.alloc (.cells (bytesRow s (grownCap w s.size 0 5)) 5 ((bytesRow s (grownCap w s.size 0 5)).size, (bytesRow s (grownCap w s.size 0 5)).size + 1))).heap[w.heap.size]? = some (.cells (bytesRow s (grownCap w s.size 0 5)) 5 ((bytesRow s (grownCap w s.size 0 5)).size, (bytesRow s (grownCap w s.size 0 5)).size + 1)) := by
      show (w.heap.push _)[w.heap.size]? = _
      simp
    have hsz : s.size ≤ (bytesRow s (grownCap w s.size 0 5)).size := by
      unfold bytesRow
      rw [Array.size_append, Array.size_map]
      exact Nat.le_add_right _ _
    simp only [World.frozen?, hh]
    simp; omega
  · exact ((Below.refl _ w).drew).alloc (Nat.le_refl _) _

theorem small_keep {s : ByteArray} {wr : World} {B k : Nat} (hlt : k < s.size) (h : ∀ j (h : j < s.size), wr.cell? ⟨B, j, none⟩ = some (.int .u8 (if j < k then smallZ (s[j]'h).toNat else ((s[j]'h).toNat : Int)))) (he : smallZ (s[k]'hlt).toNat = ((s[k]'hlt).toNat : Int)) :
    ∀ j (h : j < s.size), wr.cell? ⟨B, j, none⟩ = some (.int .u8 (if j < k + 1 then smallZ (s[j]'h).toNat else ((s[j]'h).toNat : Int))) := by
  intro j hj
  rw [h j hj]
  by_cases e : j = k
  · subst e; rw [if_neg (by omega), if_pos (by omega), he]
  · by_cases e2 : j < k
    · rw [if_pos e2, if_pos (by omega)]
    · rw [if_neg e2, if_neg (by omega)]
theorem small_set {s : ByteArray} {wr : World} {B k : Nat} {v : Int} (hlt : k < s.size) (h : ∀ j (h : j < s.size), wr.cell? ⟨B, j, none⟩ = some (.int .u8 (if j < k then smallZ (s[j]'h).toNat else ((s[j]'h).toNat : Int)))) (he : smallZ (s[k]'hlt).toNat = v) :
    ∀ j (h : j < s.size), (wr.setCell ⟨B, k, none⟩ (.int .u8 v)).cell? ⟨B, j, none⟩ = some (.int .u8 (if j < k + 1 then smallZ (s[j]'h).toNat else ((s[j]'h).toNat : Int))) := by
  intro j hj
  by_cases e : j = k
  · subst e
    rw [World.cell?_setCell_same wr _ _ (h j hj), if_pos (by omega), he]
  · rw [World.cell?_setCell_other _ _ _ _ (by intro e'; injection e' with _ e'' _; exact e e''.symm), h j hj]
    by_cases e2 : j < k
    · rw [if_pos e2, if_pos (by omega)]
    · rw [if_neg e2, if_neg (by omega)]

end Go.Proofs.YtacelbhoccckbaaDoor.Rd1
