/- What holds of rules that let: plain mathematics. -/
import Derived.Test.YtemobclefdodjaaDoorLetsMath
namespace Go.Proofs.YtemobclefdodjaaDoor.LetM
open Go.Proofs.YtemobclefdodjaaDoor.EscM Go.Proofs.YtemobclefdodjaaDoor.RuleM Go.Proofs.YtemobclefdodjaaDoor.ReadM Go.Proofs.YtemobclefdodjaaDoor.HasM Go.Proofs.YtemobclefdodjaaDoor.RR

def bestStep (s : List UInt8) (b : Nat) (r : Ru) : Nat := if has r s then max b r.path.size else b
/-- the size of the longest pattern that has it; 0, if none does -/
def bestN (L : List Ru) (s : List UInt8) : Nat := L.foldl (bestStep s) 0
def oneB (s : List UInt8) (b : Nat) (r : Ru) : Bool := r.lt && (decide (r.path.size = b) && has r s)
def someB (L : List Ru) (s : List UInt8) (b : Nat) : Bool := L.any (oneB s b)
theorem best_snoc {L : List Ru} {k : Nat} (h : k < L.length) (s : List UInt8) : bestN (L.take (k + 1)) s = bestStep s (bestN (L.take k) s) L[k] := by
  unfold bestN
  rw [List.take_succ_eq_append_getElem h, List.foldl_append]; rfl
theorem some_snoc {L : List Ru} {k : Nat} (h : k < L.length) (s : List UInt8) (b : Nat) : someB (L.take (k + 1)) s b = (someB (L.take k) s b || oneB s b L[k]) := by
  unfold someB
  rw [List.take_succ_eq_append_getElem h, List.any_append]; simp
theorem fold_ge (s : List UInt8) : ∀ (L : List Ru) (b : Nat), b ≤ L.foldl (bestStep s) b := by
  intro L
  induction L with
  | nil => intro b; exact Nat.le_refl _
  | cons r L ih =>
    intro b
    refine Nat.le_trans ?_ (ih _)
    unfold bestStep; split <;> omega
theorem fold_mem (s : List UInt8) : ∀ (L : List Ru) (b : Nat) (r : Ru), r ∈ L → has r s = true → r.path.size ≤ L.foldl (bestStep s) b := by
  intro L
  induction L with
  | nil => intro b r hr; cases hr
  | cons x L ih =>
    intro b r hr hh
    rcases List.mem_cons.1 hr with rfl | hr
    · refine Nat.le_trans ?_ (fold_ge s L _)
      unfold bestStep; rw [hh, if_pos rfl]; omega
    · exact ih _ r hr hh
theorem fold_is (s : List UInt8) : ∀ (L : List Ru) (b : Nat), L.foldl (bestStep s) b = b ∨ ∃ r ∈ L, has r s = true ∧ L.foldl (bestStep s) b = r.path.size := by
  intro L
  induction L with
  | nil => intro b; exact Or.inl rfl
  | cons x L ih =>
    intro b
    rw [List.foldl_cons]
    rcases ih (bestStep s b x) with h | ⟨r, hr, h1, h2⟩
    · rw [h]
      unfold bestStep
      cases hx : has x s with
      | false => left; rfl
      | true =>
        rw [if_pos rfl]
        rcases Nat.le_total b x.path.size with hb | hb
        · right; exact ⟨x, by simp, hx, by omega⟩
        · left; omega
    · right; exact ⟨r, by simp [hr], h1, h2⟩
theorem best_ge {L : List Ru} {s : List UInt8} {r : Ru} (hr : r ∈ L) (hh : has r s = true) : r.path.size ≤ bestN L s := fold_mem s L 0 r hr hh
theorem best_is (L : List Ru) (s : List UInt8) : bestN L s = 0 ∨ ∃ r ∈ L, has r s = true ∧ bestN L s = r.path.size := fold_is s L 0
theorem some_none {L : List Ru} {s : List UInt8} {b : Nat} (h : bestN L s < b) : someB L s b = false := by
  unfold someB
  rw [List.any_eq_false]
  intro r hr ho
  unfold oneB at ho
  simp only [Bool.and_eq_true, decide_eq_true_eq] at ho
  have := best_ge hr ho.2.2
  omega
theorem st_char (L : List Ru) (s : List UInt8) : ∀ k, k ≤ L.length → letSt (L.take k) s = (bestN (L.take k) s, decide (bestN (L.take k) s = 0) || someB (L.take k) s (bestN (L.take k) s)) := by
  intro k
  induction k with
  | zero => intro _; rfl
  | succ k ih =>
    intro hk
    have hk' : k < L.length := by omega
    rw [st_snoc hk', best_snoc hk', some_snoc hk', ih (by omega)]
    generalize hM : L.take k = M
    generalize L[k] = r
    cases hh : has r s with
    | false =>
      have e : bestStep s (bestN M s) r = bestN M s := by unfold bestStep; rw [hh]; rfl
      have e2 : oneB s (bestN M s) r = false := by unfold oneB; rw [hh]; simp
      rw [step_no hh, e, e2, Bool.or_false]
    | true =>
      have hz := has_size hh
      have e : bestStep s (bestN M s) r = max (bestN M s) r.path.size := by unfold bestStep; rw [hh]; rfl
      rw [e]
      by_cases h1 : bestN M s < r.path.size
      · rw [step_up hh h1, show max (bestN M s) r.path.size = r.path.size from by omega, some_none h1, Bool.false_or, decide_eq_false (by omega), Bool.false_or]
        unfold oneB; rw [hh, decide_eq_true rfl]; simp
      · by_cases h2 : r.path.size = bestN M s
        · rw [step_eq hh h2, show max (bestN M s) r.path.size = bestN M s from by omega]
          have e3 : oneB s (bestN M s) r = r.lt := by unfold oneB; rw [hh, decide_eq_true h2]; simp
          rw [e3, Bool.or_assoc]
        · have e3 : oneB s (bestN M s) r = false := by unfold oneB; rw [decide_eq_false h2]; simp
          rw [step_low (by show _ < bestN M s; omega), show max (bestN M s) r.path.size = bestN M s from by omega, e3, Bool.or_false]
theorem lets_char (L : List Ru) (s : List UInt8) : letsL L s = (decide (bestN L s = 0) || someB L s (bestN L s)) := by
  have := st_char L s L.length (Nat.le_refl _)
  rw [List.take_length] at this
  unfold letsL; rw [this]
theorem best_bound (L : List Ru) (s : List UInt8) : bestN L s ≤ 16 := by
  rcases best_is L s with h | ⟨r, _, hh, e⟩
  · omega
  · have := has_size hh; omega
theorem best_mem {L M : List Ru} (s : List UInt8) (h : ∀ r, r ∈ L → r ∈ M) : bestN L s ≤ bestN M s := by
  rcases best_is L s with h0 | ⟨r, hr, hh, e⟩
  · omega
  · rw [e]; exact best_ge (h r hr) hh
/-- rules that are the same, in whichever order and however often, let the same -/
theorem lets_mem {L M : List Ru} (s : List UInt8) (h : ∀ r, r ∈ L ↔ r ∈ M) : letsL L s = letsL M s := by
  have e : bestN L s = bestN M s := Nat.le_antisymm (best_mem s fun r hr => (h r).1 hr) (best_mem s fun r hr => (h r).2 hr)
  rw [lets_char, lets_char, e]
  congr 1
  unfold someB
  rw [Bool.eq_iff_iff, List.any_eq_true, List.any_eq_true]
  constructor
  · rintro ⟨r, hr, ho⟩; exact ⟨r, (h r).1 hr, ho⟩
  · rintro ⟨r, hr, ho⟩; exact ⟨r, (h r).2 hr, ho⟩
theorem lets_snoc (L : List Ru) (r : Ru) (s : List UInt8) : letsL (L ++ [r]) s = (letStep s (letSt L s) r).2 := by
  unfold letsL letSt
  rw [List.foldl_append]; rfl
theorem more_let {L : List Ru} {s : List UInt8} (p : ByteArray) (h : letsL L s = true) : letsL (L ++ [⟨true, p⟩]) s = true := by
  rw [lets_snoc]
  unfold letsL at h
  unfold letStep
  split
  · split
    · rfl
    · split
      · simp
      · exact h
  · exact h
theorem more_bar {L : List Ru} {s : List UInt8} (p : ByteArray) (h : letsL L s = false) : letsL (L ++ [⟨false, p⟩]) s = false := by
  rw [lets_snoc]
  unfold letsL at h
  unfold letStep
  split
  · split
    · rfl
    · split
      · simp [h]
      · exact h
  · exact h
end Go.Proofs.YtemobclefdodjaaDoor.LetM
