/- Plain mathematics of ways: parts are gone by one behind the other. -/
import Derived.Laws.Strings
namespace Go.Proofs.YtiennniclkbjlaaGreatDoor.PathM

def cleanStep (acc : List ByteArray) (s : ByteArray) : List ByteArray :=
  if s.toList.isEmpty || s.toList == [46] then acc else if s.toList == [46, 46] then acc.dropLast else acc ++ [s]

def cleanL (L : List ByteArray) : List ByteArray := L.foldl cleanStep []

theorem clean_snoc (L : List ByteArray) (s : ByteArray) : cleanL (L ++ [s]) = cleanStep (cleanL L) s := by simp [cleanL]
theorem cleanStep_len (acc : List ByteArray) (s : ByteArray) : (cleanStep acc s).length ≤ acc.length + 1 := by
  unfold cleanStep; split
  · omega
  · split
    · simp; omega
    · simp
theorem clean_len_from (L : List ByteArray) : ∀ acc, (L.foldl cleanStep acc).length ≤ acc.length + L.length := by
  induction L with
  | nil => intro acc; simp
  | cons s L ih =>
    intro acc
    have h1 := ih (cleanStep acc s)
    have h2 := cleanStep_len acc s
    simp only [List.foldl_cons, List.length_cons]; omega
theorem clean_len (L : List ByteArray) : (cleanL L).length ≤ L.length := by have := clean_len_from L []; simpa [cleanL] using this

theorem step_none (acc : List ByteArray) (s : ByteArray) (h : s.toList.isEmpty = true) : cleanStep acc s = acc := by simp [cleanStep, h]
theorem step_dot (acc : List ByteArray) (s : ByteArray) (h : (s.toList == [46]) = true) : cleanStep acc s = acc := by simp [cleanStep, h]
theorem step_up (acc : List ByteArray) (s : ByteArray) (h1 : s.toList.isEmpty = false) (h2 : (s.toList == [46]) = false) (h3 : (s.toList == [46, 46]) = true) : cleanStep acc s = acc.dropLast := by simp [cleanStep, h1, h2, h3]
theorem step_on (acc : List ByteArray) (s : ByteArray) (h1 : s.toList.isEmpty = false) (h2 : (s.toList == [46]) = false) (h3 : (s.toList == [46, 46]) = false) : cleanStep acc s = acc ++ [s] := by simp [cleanStep, h1, h2, h3]

theorem take_snoc (L : List ByteArray) (k : Nat) (h : k < L.length) : cleanL (L.take (k + 1)) = cleanStep (cleanL (L.take k)) L[k] := by
  rw [List.take_succ_eq_append_getElem h, clean_snoc]

/-- a part that leads somewhere -/
def good (s : ByteArray) : Prop := s.toList.isEmpty = false ∧ (s.toList == [46]) = false ∧ (s.toList == [46, 46]) = false

theorem step_good (acc : List ByteArray) (s : ByteArray) (h : good s) : cleanStep acc s = acc ++ [s] := step_on _ _ h.1 h.2.1 h.2.2
theorem step_all {acc : List ByteArray} (h : ∀ p ∈ acc, good p) (s : ByteArray) : ∀ p ∈ cleanStep acc s, good p := by
  cases h1 : s.toList.isEmpty with
  | true => rw [step_none _ _ h1]; exact h
  | false =>
    cases h2 : (s.toList == [46]) with
    | true => rw [step_dot _ _ h2]; exact h
    | false =>
      cases h3 : (s.toList == [46, 46]) with
      | true => rw [step_up _ _ h1 h2 h3]; exact fun p hp => h p ((List.dropLast_sublist _).subset hp)
      | false =>
        rw [step_on _ _ h1 h2 h3]
        intro p hp
        rcases List.mem_append.1 hp with hp | hp
        · exact h p hp
        · simp at hp; subst hp; exact ⟨h1, h2, h3⟩
theorem step_sub (acc : List ByteArray) (s : ByteArray) : ∀ p ∈ cleanStep acc s, p ∈ acc ∨ p = s := by
  intro p hp
  unfold cleanStep at hp
  split at hp
  · exact Or.inl hp
  · split at hp
    · exact Or.inl ((List.dropLast_sublist _).subset hp)
    · rcases List.mem_append.1 hp with hp | hp
      · exact Or.inl hp
      · exact Or.inr (by simpa using hp)
theorem fold_good : ∀ (L : List ByteArray) (acc : List ByteArray), (∀ p ∈ acc, good p) → ∀ p ∈ L.foldl cleanStep acc, good p := by
  intro L
  induction L with
  | nil => intro acc h; simpa using h
  | cons s L ih => intro acc h; exact ih _ (step_all h s)
theorem clean_good (L : List ByteArray) : ∀ p ∈ cleanL L, good p := fold_good L [] (by simp)
theorem fold_sub : ∀ (L : List ByteArray) (acc : List ByteArray), ∀ p ∈ L.foldl cleanStep acc, p ∈ acc ∨ p ∈ L := by
  intro L
  induction L with
  | nil => intro acc p hp; exact Or.inl hp
  | cons s L ih =>
    intro acc p hp
    rcases ih _ p hp with h | h
    · rcases step_sub acc s p h with h | h
      · exact Or.inl h
      · exact Or.inr (by simp [h])
    · exact Or.inr (by simp [h])
theorem clean_sub (L : List ByteArray) : ∀ p ∈ cleanL L, p ∈ L := by
  intro p hp
  rcases fold_sub L [] p hp with h | h
  · simp at h
  · exact h
theorem fold_same : ∀ (L : List ByteArray) (acc : List ByteArray), (∀ p ∈ L, good p) → L.foldl cleanStep acc = acc ++ L := by
  intro L
  induction L with
  | nil => intro acc _; simp
  | cons s L ih =>
    intro acc h
    simp only [List.foldl_cons]
    rw [step_good _ _ (h s (by simp)), ih _ (fun p hp => h p (by simp [hp]))]; simp
theorem clean_same (L : List ByteArray) (h : ∀ p ∈ L, good p) : cleanL L = L := by simpa [cleanL] using fold_same L [] h
theorem clean_twice (L : List ByteArray) : cleanL (cleanL L) = cleanL L := clean_same _ (clean_good L)
theorem clean_cut (A B : List ByteArray) : cleanL (cleanL A ++ B) = cleanL (A ++ B) := by
  have h : (cleanL A).foldl cleanStep [] = A.foldl cleanStep [] := clean_twice A
  simp only [cleanL, List.foldl_append] at h ⊢
  rw [h]
theorem not_empty (L : List ByteArray) : (⟨#[]⟩ : ByteArray) ∉ cleanL L := fun h => by have := (clean_good L _ h).1; simp [ByteArray.toList_eq] at this
theorem not_dot (L : List ByteArray) : (⟨#[46]⟩ : ByteArray) ∉ cleanL L := fun h => by have := (clean_good L _ h).2.1; simp [ByteArray.toList_eq] at this
theorem not_up (L : List ByteArray) : (⟨#[46, 46]⟩ : ByteArray) ∉ cleanL L := fun h => by have := (clean_good L _ h).2.2; simp [ByteArray.toList_eq] at this
theorem good_q : good (⟨#[113]⟩ : ByteArray) := ⟨by simp [ByteArray.toList_eq], by simp [ByteArray.toList_eq], by simp [ByteArray.toList_eq]⟩
theorem do_up (acc : List ByteArray) : cleanStep acc ⟨#[46, 46]⟩ = acc.dropLast := step_up _ _ (by simp [ByteArray.toList_eq]) (by simp [ByteArray.toList_eq]) (by simp [ByteArray.toList_eq])
theorem do_dot (acc : List ByteArray) : cleanStep acc ⟨#[46]⟩ = acc := step_dot _ _ (by simp [ByteArray.toList_eq])
theorem do_none (acc : List ByteArray) : cleanStep acc ⟨#[]⟩ = acc := step_none _ _ (by simp [ByteArray.toList_eq])
theorem clean_in_up (L : List ByteArray) : cleanL (L ++ [⟨#[113]⟩, ⟨#[46, 46]⟩]) = cleanL L := by
  rw [show L ++ [(⟨#[113]⟩ : ByteArray), ⟨#[46, 46]⟩] = (L ++ [⟨#[113]⟩]) ++ [⟨#[46, 46]⟩] by simp, clean_snoc, clean_snoc, do_up, step_good _ _ good_q]
  simp
theorem clean_idle (L : List ByteArray) : cleanL (L ++ [⟨#[46]⟩, ⟨#[]⟩]) = cleanL L := by
  rw [show L ++ [(⟨#[46]⟩ : ByteArray), ⟨#[]⟩] = (L ++ [⟨#[46]⟩]) ++ [⟨#[]⟩] by simp, clean_snoc, clean_snoc, do_none, do_dot]
theorem clean_out (L : List ByteArray) : cleanL (L ++ [⟨#[46, 46]⟩]) = (cleanL L).dropLast := by
  rw [clean_snoc, do_up]
end Go.Proofs.YtiennniclkbjlaaGreatDoor.PathM
