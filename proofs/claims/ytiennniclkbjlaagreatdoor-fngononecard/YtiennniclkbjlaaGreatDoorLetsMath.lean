/- Plain mathematics of rules, and how rules lie in cells. -/
import Derived.Test.YtiennniclkbjlaaGreatDoorHasMath
import Derived.Test.YtiennniclkbjlaaGreatDoorStrsPk
namespace Go.Proofs.YtiennniclkbjlaaGreatDoor.LetM
open Go.Proofs.YtiennniclkbjlaaGreatDoor.EscM Go.Proofs.YtiennniclkbjlaaGreatDoor.RuleM Go.Proofs.YtiennniclkbjlaaGreatDoor.ReadM Go.Proofs.YtiennniclkbjlaaGreatDoor.HasM Go.Proofs.YtiennniclkbjlaaGreatDoor.RR

structure Ru where
  lt : Bool
  path : ByteArray
def FRu : Frm Ru where
  enc r := [.bool r.lt, .string r.path]
  k := 2
  pos := by decide
  len _ := rfl
  one _ u hu := by
    rcases List.mem_cons.1 hu with rfl | hu
    · rfl
    · rcases List.mem_cons.1 hu with rfl | hu
      · rfl
      · cases hu
theorem ru_at {w : World} {a0 : Option Addr} {cap : Nat} {L : List Ru} (h : IsRows FRu w a0 cap L) {i : Nat} (hi : i < L.length) : ∃ b off, a0 = some ⟨b, off, none⟩ ∧ w.cell? ⟨b, off + i * 2, none⟩ = some (.bool L[i].lt) ∧ w.cell? ⟨b, off + i * 2 + 1, none⟩ = some (.string L[i].path) := by
  obtain ⟨b, off, e, hc⟩ := h.at hi
  exact ⟨b, off, e, hc 0 _ rfl, hc 1 _ rfl⟩
def has (r : Ru) (s : List UInt8) : Bool := hasL r.path.data.toList s
/-- the longest size so far, and whether it is let -/
def letStep (s : List UInt8) (st : Nat × Bool) (r : Ru) : Nat × Bool :=
  if has r s then if st.1 < r.path.size then (r.path.size, r.lt) else if r.path.size = st.1 then (st.1, st.2 || r.lt) else st else st
def letSt (L : List Ru) (s : List UInt8) : Nat × Bool := L.foldl (letStep s) (0, true)
def letsL (L : List Ru) (s : List UInt8) : Bool := (letSt L s).2
theorem st_snoc {L : List Ru} {k : Nat} (h : k < L.length) (s : List UInt8) : letSt (L.take (k + 1)) s = letStep s (letSt (L.take k) s) L[k] := by
  unfold letSt
  rw [List.take_succ_eq_append_getElem h, List.foldl_append]; rfl
theorem step_no {s : List UInt8} {st : Nat × Bool} {r : Ru} (h : has r s = false) : letStep s st r = st := by unfold letStep; rw [h]; rfl
theorem step_up {s : List UInt8} {st : Nat × Bool} {r : Ru} (h : has r s = true) (hl : st.1 < r.path.size) : letStep s st r = (r.path.size, r.lt) := by unfold letStep; rw [h, if_pos rfl, if_pos hl]
theorem step_eq {s : List UInt8} {st : Nat × Bool} {r : Ru} (h : has r s = true) (hl : r.path.size = st.1) : letStep s st r = (st.1, st.2 || r.lt) := by unfold letStep; rw [h, if_pos rfl, if_neg (show ¬ st.1 < r.path.size by omega), if_pos hl]
theorem step_low {s : List UInt8} {st : Nat × Bool} {r : Ru} (hl : r.path.size < st.1) : letStep s st r = st := by unfold letStep; rw [if_neg (show ¬ st.1 < r.path.size by omega), if_neg (show ¬ r.path.size = st.1 by omega)]; split <;> rfl
theorem has_size {r : Ru} {s : List UInt8} (h : has r s = true) : 1 ≤ r.path.size ∧ r.path.size ≤ 16 := by
  obtain ⟨h1, _⟩ := has_rule h
  obtain ⟨⟨a, b⟩, _, _⟩ := ruleL_parts h1
  have e : r.path.data.toList.length = r.path.size := by simp
  omega
theorem st_bound (s : List UInt8) : ∀ (L : List Ru) (st : Nat × Bool), st.1 ≤ 16 → (L.foldl (letStep s) st).1 ≤ 16 := by
  intro L
  induction L with
  | nil => intro st h; exact h
  | cons r L ih =>
    intro st h
    refine ih _ ?_
    unfold letStep
    split
    · rename_i hh
      have := has_size hh
      split
      · exact this.2
      · split
        · exact h
        · exact h
    · exact h
theorem letSt_bound (L : List Ru) (s : List UInt8) : (letSt L s).1 ≤ 16 := st_bound s L _ (by decide)
end Go.Proofs.YtiennniclkbjlaaGreatDoor.LetM
