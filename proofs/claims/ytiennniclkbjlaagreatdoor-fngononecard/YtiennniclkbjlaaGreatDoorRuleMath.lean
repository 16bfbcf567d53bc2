/- Plain mathematics of patterns: no Go, no program. -/
import Derived.Test.YtiennniclkbjlaaGreatDoorEscMath
namespace Go.Proofs.YtiennniclkbjlaaGreatDoor.RuleM
open Go.Proofs.YtiennniclkbjlaaGreatDoor.EscM

/-- may a byte stand anywhere in a pattern? -/
def ruleZ (n : Int) : Bool := plainZ n || decide (n = 47 ∨ n = 42 ∨ n = 63 ∨ n = 37 ∨ 65 ≤ n ∧ n ≤ 70)
def ruleSigns : List UInt8 := plainSigns ++ [47, 42, 63, 37, 65, 66, 67, 68, 69, 70]
theorem place_rule (n : Int) (h0 : 0 ≤ n) (h1 : n ≤ 255) : decide (0 ≤ placeFrom ruleSigns n 0) = ruleZ n :=
  fin256 (p := fun n => decide (0 ≤ placeFrom ruleSigns n 0) = ruleZ n) (by decide +kernel) n h0 h1

/-- does a pattern tell its end? -/
def endsB (l : List UInt8) : Bool := decide (l.getLast? = some 36)
def bodyL (l : List UInt8) : List UInt8 := if endsB l then l.dropLast else l
/-- is a text a pattern? -/
def ruleL (l : List UInt8) : Bool := decide (1 ≤ l.length ∧ l.length ≤ 16) && decide (l.head? = some 47) && (bodyL l).all (fun b => ruleZ (b.toNat : Int))

theorem ruleL_len {l : List UInt8} (h : ¬ (1 ≤ l.length ∧ l.length ≤ 16)) : ruleL l = false := by unfold ruleL; rw [decide_eq_false h]; rfl
theorem ruleL_head {l : List UInt8} (h : ¬ l.head? = some 47) : ruleL l = false := by unfold ruleL; rw [decide_eq_false h]; simp
theorem ruleL_body {l : List UInt8} (h1 : 1 ≤ l.length ∧ l.length ≤ 16) (h2 : l.head? = some 47) : ruleL l = (bodyL l).all (fun b => ruleZ (b.toNat : Int)) := by unfold ruleL; rw [decide_eq_true h1, decide_eq_true h2]; simp

theorem all_at {P : UInt8 → Bool} {l : List UInt8} {k : Nat} (hk : k < l.length) (h : P l[k] = false) : l.all P = false := by
  cases ha : l.all P with
  | false => rfl
  | true => have := List.all_eq_true.1 ha l[k] (List.getElem_mem hk); rw [h] at this; cases this
theorem all_take {P : UInt8 → Bool} {l : List UInt8} {k : Nat} (hk : k < l.length) (ha : (l.take k).all P = true) (h : P l[k] = true) : (l.take (k + 1)).all P = true := by
  rw [List.take_succ_eq_append_getElem hk, List.all_append, ha]; simp [h]

theorem body_ends {l : List UInt8} (h : endsB l = true) : bodyL l = l.dropLast := by unfold bodyL; rw [h]; rfl
theorem body_not {l : List UInt8} (h : endsB l = false) : bodyL l = l := by unfold bodyL; rw [h]; rfl
theorem ends_at {l : List UInt8} (h : 0 < l.length) : endsB l = decide (l[l.length - 1] = 36) := by
  unfold endsB
  rw [List.getLast?_eq_getElem?, List.getElem?_eq_getElem (by omega)]; simp
theorem body_all (l : List UInt8) (P : UInt8 → Bool) : (bodyL l).all P = true ↔ ∀ j (hj : j < l.length), P l[j] = true ∨ (l[j] = 36 ∧ j = l.length - 1) ∧ endsB l = true := by
  cases he : endsB l with
  | true =>
    rw [body_ends he, List.all_eq_true]
    constructor
    · intro h j hj
      by_cases hl : j = l.length - 1
      · have h0 : 0 < l.length := by omega
        rw [ends_at h0] at he
        have := of_decide_eq_true he
        subst hl
        exact Or.inr ⟨⟨this, rfl⟩, rfl⟩
      · left
        apply h
        have : l[j] = l.dropLast[j]'(by simp; omega) := by simp
        rw [this]; exact List.getElem_mem _
    · intro h x hx
      obtain ⟨j, hj, rfl⟩ := List.getElem_of_mem hx
      have hj' : j < l.length - 1 := by simpa using hj
      rcases h j (by omega) with h | ⟨⟨_, h⟩, _⟩
      · simpa using h
      · omega
  | false =>
    rw [body_not he, List.all_eq_true]
    constructor
    · intro h j hj; exact Or.inl (h _ (List.getElem_mem _))
    · intro h x hx
      obtain ⟨j, hj, rfl⟩ := List.getElem_of_mem hx
      rcases h j hj with h | ⟨_, h⟩
      · exact h
      · cases h
theorem ends_of {l : List UInt8} {j : Nat} (hj : j < l.length) (h : l[j] = 36) (e : j = l.length - 1) : endsB l = true := by
  rw [ends_at (by omega)]; subst e; exact decide_eq_true h
theorem all_body {l : List UInt8} {P : UInt8 → Bool} (h : l.all P = true) : (bodyL l).all P = true := by
  rw [body_all]; intro j hj; exact Or.inl (List.all_eq_true.1 h _ (List.getElem_mem _))
theorem ruleL_parts {l : List UInt8} (h : ruleL l = true) : (1 ≤ l.length ∧ l.length ≤ 16) ∧ l.head? = some 47 ∧ (bodyL l).all (fun b => ruleZ (b.toNat : Int)) = true := by
  unfold ruleL at h
  simp only [Bool.and_eq_true, decide_eq_true_eq] at h
  exact ⟨h.1.1, h.1.2, h.2⟩
/-- the beginning of a pattern is one -/
theorem ruleL_take {l : List UInt8} (h : ruleL l = true) (i : Nat) (h1 : 1 ≤ i) (h2 : i < l.length) : ruleL (l.take i) = true := by
  obtain ⟨⟨a, b⟩, c, d⟩ := ruleL_parts h
  have hl : (l.take i).length = i := by simp; omega
  rw [ruleL_body (by omega) (by rw [List.head?_take, if_neg (by omega)]; exact c)]
  apply all_body
  rw [List.all_eq_true]
  intro x hx
  obtain ⟨j, hj, rfl⟩ := List.getElem_of_mem hx
  rcases (body_all _ _).1 d j (by omega) with h | ⟨⟨_, h⟩, _⟩
  · simpa using h
  · omega
end Go.Proofs.YtiennniclkbjlaaGreatDoor.RuleM
