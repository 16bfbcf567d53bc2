/- Plain mathematics of patterns and the ways that are of them: no Go, no program. -/
import Derived.Test.YtiennniclkbjlaaGreatDoorRuleMath
import Derived.Test.YtiennniclkbjlaaGreatDoorReadMath
import Derived.Lib.IndexMore
import Derived.Lib.IndexLaws
namespace Go.Proofs.YtiennniclkbjlaaGreatDoor.HasM
open Go.Proofs.YtiennniclkbjlaaGreatDoor.EscM Go.Proofs.YtiennniclkbjlaaGreatDoor.RuleM Go.Proofs.YtiennniclkbjlaaGreatDoor.ReadM

/-- the pieces behind the first one: each stands somewhere, in order; the last at the end, if that is told -/
def restL (ends : Bool) : List (List UInt8) → List UInt8 → Bool
  | [], r => !ends || r.isEmpty
  | x :: t, r => if ends && t.isEmpty then decide (x <:+ r) else
      if Lib.index r x = -1 then false else restL ends t (r.drop ((Lib.index r x).toNat + x.length))
def justL (ends : Bool) (ps : List (List UInt8)) (s : List UInt8) : Bool :=
  match ps with
  | [] => false
  | x :: t => x.isPrefixOf s && restL ends t (s.drop x.length)
/-- is a way of a pattern? -/
def hasL (p s : List UInt8) : Bool := ruleL p && decide (s.length ≤ 60) && justL (endsB p) (splitL 42 (bodyL p)) s

def anyTail (f : List UInt8 → Bool) : List UInt8 → Bool
  | [] => f []
  | b :: r => f (b :: r) || anyTail f r
/-- step by step -/
def matchL : List UInt8 → List UInt8 → Bool
  | [] => fun _ => true
  | c :: p => fun s => if c = 36 ∧ p = [] then s.isEmpty else if c = 42 then anyTail (matchL p) s else match s with | [] => false | b :: r => decide (b = c) && matchL p r

theorem anyTail_iff (f : List UInt8 → Bool) : ∀ s : List UInt8, anyTail f s = true ↔ ∃ r, r <:+ s ∧ f r = true := by
  intro s
  induction s with
  | nil =>
    unfold anyTail
    constructor
    · intro h; exact ⟨[], List.suffix_refl _, h⟩
    · rintro ⟨r, hr, h⟩; rw [List.suffix_nil] at hr; subst hr; exact h
  | cons b t ih =>
    unfold anyTail
    rw [Bool.or_eq_true, ih]
    constructor
    · rintro (h | ⟨r, hr, h⟩)
      · exact ⟨_, List.suffix_refl _, h⟩
      · exact ⟨r, hr.trans (List.suffix_cons _ _), h⟩
    · rintro ⟨r, hr, h⟩
      rcases List.suffix_cons_iff.1 hr with rfl | hr
      · exact Or.inl h
      · exact Or.inr ⟨r, hr, h⟩
theorem match_eq (c : UInt8) (p s : List UInt8) : matchL (c :: p) s = (if c = 36 ∧ p = [] then s.isEmpty else if c = 42 then anyTail (matchL p) s else match s with | [] => false | b :: r => decide (b = c) && matchL p r) := rfl
theorem match_dollar (s : List UInt8) : matchL [36] s = s.isEmpty := by rw [match_eq, if_pos ⟨rfl, rfl⟩]
theorem match_star (p s : List UInt8) : matchL (42 :: p) s = anyTail (matchL p) s := by rw [match_eq, if_neg (fun h => absurd h.1 (by decide)), if_pos rfl]
/-- '$' that is not the last one stands for itself -/
theorem match_cons' {c : UInt8} {p : List UInt8} (h1 : ¬ (c = 36 ∧ p = [])) (h2 : c ≠ 42) (b : UInt8) (r : List UInt8) : matchL (c :: p) (b :: r) = (decide (b = c) && matchL p r) := by rw [match_eq, if_neg h1, if_neg h2]
theorem match_nil' {c : UInt8} {p : List UInt8} (h1 : ¬ (c = 36 ∧ p = [])) (h2 : c ≠ 42) : matchL (c :: p) [] = false := by rw [match_eq, if_neg h1, if_neg h2]
theorem match_cons {c : UInt8} (h1 : c ≠ 36) (h2 : c ≠ 42) (p : List UInt8) (b : UInt8) (r : List UInt8) : matchL (c :: p) (b :: r) = (decide (b = c) && matchL p r) := match_cons' (fun h => h1 h.1) h2 b r
theorem match_nil {c : UInt8} (h1 : c ≠ 36) (h2 : c ≠ 42) (p : List UInt8) : matchL (c :: p) [] = false := match_nil' (fun h => h1 h.1) h2
theorem drop_more (a l : List UInt8) (k : Nat) : (a ++ l).drop (a.length + k) = l.drop k := by rw [← List.drop_drop, List.drop_left]
theorem drop_suf (l : List UInt8) (m j : Nat) : l.drop (m + j) <:+ l.drop m := by rw [← List.drop_drop]; exact List.drop_suffix _ _

/-- neither a star nor an end -/
def plainP (x : List UInt8) : Prop := ∀ b ∈ x, b ≠ 36 ∧ b ≠ 42
theorem match_app : ∀ (x p s : List UInt8), plainP x → matchL (x ++ p) s = (x.isPrefixOf s && matchL p (s.drop x.length)) := by
  intro x
  induction x with
  | nil => intro p s _; simp
  | cons c x ih =>
    intro p s h
    have hc := h c (by simp)
    have hx : plainP x := fun b hb => h b (by simp [hb])
    cases s with
    | nil => rw [List.cons_append, match_nil hc.1 hc.2]; simp
    | cons b r =>
      have e : (c == b) = decide (b = c) := by rw [Bool.eq_iff_iff, beq_iff_eq, decide_eq_true_eq]; exact eq_comm
      rw [List.cons_append, match_cons hc.1 hc.2, ih p r hx, List.isPrefixOf_cons_cons, List.length_cons, List.drop_succ_cons, ← Bool.and_assoc, e]

def starJoin : List (List UInt8) → List UInt8
  | [] => []
  | x :: t => 42 :: (x ++ starJoin t)
theorem occ_suffix {r r' x : List UInt8} (h : r' <:+ r) {i : Nat} (ho : Lib.occAt r' x i = true) : Lib.occAt r x (r.length - r'.length + i) = true := by
  obtain ⟨a, rfl⟩ := h
  unfold Lib.occAt at *
  rw [List.length_append, show a.length + r'.length - r'.length + i = a.length + i from by omega, ← List.drop_drop, List.drop_left]
  exact ho
theorem index_le_of_occ {r x : List UInt8} {i : Nat} (hi : i ≤ r.length) (ho : Lib.occAt r x i = true) : ∃ k : Nat, Lib.index r x = k ∧ k ≤ i ∧ k + x.length ≤ r.length := by
  rcases Lib.index_spec r x with ⟨_, h2⟩ | ⟨k, h1, h2, h3, h4⟩
  · rw [h2 i hi] at ho; cases ho
  · refine ⟨k, h1, ?_, ?_⟩
    · rcases Nat.lt_or_ge i k with h | h
      · have := h4 i h; rw [ho] at this; cases this
      · exact h
    · have := Lib.index_room r x (by omega); omega
theorem rest_mono (ends : Bool) : ∀ (t : List (List UInt8)) (r r' : List UInt8), ¬ (ends = true ∧ t = []) → r' <:+ r → restL ends t r' = true → restL ends t r = true := by
  intro t
  induction t with
  | nil =>
    intro r r' hn _ _
    cases ends with
    | false => rfl
    | true => exact absurd ⟨rfl, rfl⟩ hn
  | cons x t ih =>
    intro r r' _ hs h
    unfold restL at h ⊢
    by_cases hc : (ends && t.isEmpty) = true
    · rw [if_pos hc] at h ⊢
      exact decide_eq_true ((of_decide_eq_true h).trans hs)
    · rw [if_neg hc] at h ⊢
      by_cases hi : Lib.index r' x = -1
      · rw [if_pos hi] at h; cases h
      · rw [if_neg hi] at h
        rcases Lib.index_spec r' x with ⟨h1, _⟩ | ⟨k, h1, h2, h3, h4⟩
        · exact absurd h1 hi
        · have hle : r'.length ≤ r.length := hs.length_le
          obtain ⟨m, m1, m2, m3⟩ := index_le_of_occ (i := r.length - r'.length + k) (by omega) (occ_suffix hs h3)
          rw [if_neg (by omega), m1]
          rw [h1] at h
          refine ih _ (r'.drop (k + x.length)) ?_ ?_ (by simpa using h)
          · rintro ⟨e1, e2⟩; exact hc (by rw [e1, e2]; rfl)
          · obtain ⟨a, rfl⟩ := hs
            simp only [List.length_append] at m2
            rw [← drop_more a r' (k + x.length), show a.length + (k + x.length) = (m + x.length) + (a.length + k - m) from by omega]
            exact drop_suf _ _ _
theorem match_rest (ends : Bool) : ∀ (t : List (List UInt8)), (∀ x ∈ t, plainP x) → ∀ s : List UInt8, matchL (starJoin t ++ (if ends then [36] else [])) s = restL ends t s := by
  intro t
  induction t with
  | nil =>
    intro _ s
    cases ends with
    | true => show matchL [36] s = _; rw [match_dollar]; rfl
    | false => rfl
  | cons x t ih =>
    intro h s
    have hx := h x (by simp)
    have ht := ih (fun y hy => h y (by simp [hy]))
    show matchL (42 :: (x ++ starJoin t) ++ _) s = _
    rw [List.cons_append, List.append_assoc, match_star, Bool.eq_iff_iff, anyTail_iff]
    unfold restL
    by_cases hc : (ends && t.isEmpty) = true
    · rw [if_pos hc]
      simp only [Bool.and_eq_true, List.isEmpty_iff] at hc
      obtain ⟨rfl, rfl⟩ := hc
      constructor
      · rintro ⟨r, hr, hm⟩
        rw [match_app x _ r hx, ht] at hm
        simp only [Bool.and_eq_true, restL, Bool.not_true, Bool.false_or, List.isEmpty_iff, List.isPrefixOf_iff_prefix] at hm
        obtain ⟨⟨a, ha⟩, h2⟩ := hm
        subst ha
        rw [List.drop_left] at h2
        subst h2
        rw [List.append_nil] at hr
        exact decide_eq_true hr
      · intro hd
        refine ⟨x, of_decide_eq_true hd, ?_⟩
        rw [match_app x _ x hx, ht]
        simp [restL, List.isPrefixOf_iff_prefix]
    · rw [if_neg hc]
      have hm' : ¬ (ends = true ∧ t = []) := by rintro ⟨e1, e2⟩; exact hc (by rw [e1, e2]; rfl)
      constructor
      · rintro ⟨r, hr, hm⟩
        rw [match_app x _ r hx, ht, Bool.and_eq_true] at hm
        have ho : Lib.occAt r x 0 = true := by unfold Lib.occAt; simpa using hm.1
        have hle : r.length ≤ s.length := hr.length_le
        obtain ⟨m, m1, m2, m3⟩ := index_le_of_occ (i := s.length - r.length + 0) (by omega) (occ_suffix hr ho)
        rw [if_neg (by omega), m1]
        refine rest_mono ends t _ (r.drop x.length) hm' ?_ hm.2
        obtain ⟨a, rfl⟩ := hr
        simp only [List.length_append] at m2
        rw [← drop_more a r x.length, show a.length + x.length = (m + x.length) + (a.length - m) from by omega]
        exact drop_suf _ _ _
      · intro hd
        rcases Lib.index_spec s x with ⟨h1, _⟩ | ⟨k, h1, h2, h3, h4⟩
        · rw [if_pos h1] at hd; cases hd
        · rw [if_neg (by omega), h1] at hd
          refine ⟨s.drop k, List.drop_suffix _ _, ?_⟩
          rw [match_app x _ _ hx, ht, Bool.and_eq_true, List.drop_drop]
          exact ⟨by unfold Lib.occAt at h3; exact h3, by simpa using hd⟩
theorem split_join : ∀ (l : List UInt8) (x : List UInt8) (t : List (List UInt8)), splitL 42 l = x :: t → l = x ++ starJoin t := by
  intro l
  induction l with
  | nil => intro x t h; simp [splitL] at h; obtain ⟨rfl, rfl⟩ := h; rfl
  | cons b r ih =>
    intro x t h
    rw [split_cons] at h
    by_cases hb : (b.toNat : Int) = 42
    · rw [if_pos hb] at h
      have hb' : b = 42 := UInt8.toNat.inj (by show b.toNat = 42; omega)
      simp only [List.cons.injEq] at h
      obtain ⟨rfl, rfl⟩ := h
      cases hs : splitL 42 r with
      | nil => exact absurd hs (split_ne _ _)
      | cons y u => rw [hb', List.nil_append]; show 42 :: r = 42 :: (y ++ starJoin u); rw [← ih y u hs]
    · rw [if_neg hb] at h
      simp only [List.cons.injEq] at h
      obtain ⟨rfl, rfl⟩ := h
      cases hs : splitL 42 r with
      | nil => exact absurd hs (split_ne _ _)
      | cons y u => show b :: r = b :: y ++ starJoin u; rw [List.cons_append, ← ih y u hs]
theorem split_plain : ∀ (l : List UInt8), ∀ x ∈ splitL 42 l, ∀ b ∈ x, b ∈ l ∧ b ≠ 42 := by
  intro l
  induction l with
  | nil => intro x hx b hb; simp [splitL] at hx; subst hx; simp at hb
  | cons c r ih =>
    intro x hx b hb
    rw [split_cons] at hx
    by_cases hc : (c.toNat : Int) = 42
    · rw [if_pos hc] at hx
      rcases List.mem_cons.1 hx with rfl | hx
      · simp at hb
      · have := ih x hx b hb; exact ⟨by simp [this.1], this.2⟩
    · rw [if_neg hc] at hx
      have hc' : c ≠ 42 := by rintro rfl; exact hc rfl
      cases hs : splitL 42 r with
      | nil => exact absurd hs (split_ne _ _)
      | cons y u =>
        rw [hs] at hx
        rcases List.mem_cons.1 hx with rfl | hx
        · rcases List.mem_cons.1 hb with rfl | hb
          · exact ⟨by simp, hc'⟩
          · have := ih y (by rw [hs]; simp) b hb; exact ⟨by simp [this.1], this.2⟩
        · have := ih x (by rw [hs]; simp at hx ⊢; exact Or.inr hx) b hb; exact ⟨by simp [this.1], this.2⟩
theorem body_app (p : List UInt8) : p = bodyL p ++ (if endsB p then [36] else []) := by
  cases he : endsB p with
  | true =>
    rw [body_ends he, if_pos rfl]
    unfold endsB at he
    have h := of_decide_eq_true he
    have hne : p ≠ [] := by rintro rfl; cases h
    have e := List.dropLast_concat_getLast hne
    rw [List.getLast?_eq_some_getLast hne] at h
    rw [← Option.some.inj h]; exact e.symm
  | false => rw [body_not he]; simp
theorem ruleZ_36 : ruleZ 36 = false := by decide
theorem body_no36 {p : List UInt8} (h : ruleL p = true) : ∀ b ∈ bodyL p, b ≠ 36 := by
  obtain ⟨_, _, hb⟩ := ruleL_parts h
  intro b hm e
  subst e
  have := List.all_eq_true.1 hb _ hm
  exact absurd this (by decide)
/-- the pieces tell what is told step by step -/
theorem just_match {p : List UInt8} (h : ruleL p = true) (s : List UInt8) : justL (endsB p) (splitL 42 (bodyL p)) s = matchL p s := by
  conv => rhs; rw [body_app p]
  cases hs : splitL 42 (bodyL p) with
  | nil => exact absurd hs (split_ne _ _)
  | cons x t =>
    have hp : ∀ y ∈ x :: t, plainP y := by
      intro y hy b hb
      have := split_plain (bodyL p) y (by rw [hs]; exact hy) b hb
      exact ⟨body_no36 h b this.1, this.2⟩
    rw [split_join _ x t hs, List.append_assoc, match_app x _ s (hp x (by simp)), match_rest _ t (fun y hy => hp y (by simp [hy]))]
    rfl
theorem has_match {p : List UInt8} (h : ruleL p = true) {s : List UInt8} (hs : s.length ≤ 60) : hasL p s = matchL p s := by
  unfold hasL; rw [h, decide_eq_true hs, just_match h]; rfl
theorem has_bad {p : List UInt8} (h : ruleL p = false) (s : List UInt8) : hasL p s = false := by unfold hasL; rw [h]; rfl
theorem has_long (p : List UInt8) {s : List UInt8} (hs : ¬ s.length ≤ 60) : hasL p s = false := by unfold hasL; rw [decide_eq_false hs]; simp
theorem has_rule {p s : List UInt8} (h : hasL p s = true) : ruleL p = true ∧ s.length ≤ 60 := by
  unfold hasL at h; simp only [Bool.and_eq_true, decide_eq_true_eq] at h; exact h.1

theorem match_more (y : List UInt8) : ∀ (p s : List UInt8), (∀ b ∈ p, b ≠ 36) → matchL p s = true → matchL p (s ++ y) = true := by
  intro p
  induction p with
  | nil => intro s _ _; rfl
  | cons c p ih =>
    intro s h hm
    have hc := h c (by simp)
    have hp : ∀ b ∈ p, b ≠ 36 := fun b hb => h b (by simp [hb])
    by_cases hs : c = 42
    · subst hs
      rw [match_star, anyTail_iff] at hm ⊢
      obtain ⟨r, hr, h2⟩ := hm
      refine ⟨r ++ y, ?_, ih r hp h2⟩
      obtain ⟨a, rfl⟩ := hr
      exact ⟨a, by simp⟩
    · cases s with
      | nil => rw [match_nil hc hs] at hm; cases hm
      | cons b r =>
        rw [match_cons hc hs, Bool.and_eq_true] at hm
        rw [List.cons_append, match_cons hc hs, Bool.and_eq_true]
        exact ⟨hm.1, ih r hp hm.2⟩
theorem match_end_star : ∀ (p s : List UInt8), (∀ b ∈ p, b ≠ 36) → matchL (p ++ [42]) s = matchL p s := by
  intro p
  induction p with
  | nil => intro s _; show matchL [42] s = true; rw [match_star, anyTail_iff]; exact ⟨s, List.suffix_refl _, rfl⟩
  | cons c p ih =>
    intro s h
    have hc := h c (by simp)
    have hp : ∀ b ∈ p, b ≠ 36 := fun b hb => h b (by simp [hb])
    by_cases hs : c = 42
    · subst hs
      rw [List.cons_append, match_star, match_star]
      congr 1
      funext r; exact ih r hp
    · cases s with
      | nil => rw [List.cons_append, match_nil hc hs, match_nil hc hs]
      | cons b r => rw [List.cons_append, match_cons hc hs, match_cons hc hs, ih r hp]
theorem match_end_dollar : ∀ (p s : List UInt8), (∀ b ∈ p, b ≠ 36) → matchL (p ++ [36]) s = true → matchL p s = true := by
  intro p
  induction p with
  | nil => intro s _ _; rfl
  | cons c p ih =>
    intro s h hm
    have hc := h c (by simp)
    have hp : ∀ b ∈ p, b ≠ 36 := fun b hb => h b (by simp [hb])
    by_cases hs : c = 42
    · subst hs
      rw [List.cons_append, match_star, anyTail_iff] at hm
      rw [match_star, anyTail_iff]
      obtain ⟨r, hr, h2⟩ := hm
      exact ⟨r, hr, ih r hp h2⟩
    · cases s with
      | nil => rw [List.cons_append, match_nil hc hs] at hm; cases hm
      | cons b r =>
        rw [List.cons_append, match_cons hc hs, Bool.and_eq_true] at hm
        rw [match_cons hc hs, Bool.and_eq_true]
        exact ⟨hm.1, ih r hp hm.2⟩
theorem not_ends {p : List UInt8} (h : ruleL p = true) (he : endsB p = false) : ∀ b ∈ p, b ≠ 36 := by
  have := body_no36 h; rwa [body_not he] at this
end Go.Proofs.YtiennniclkbjlaaGreatDoor.HasM
