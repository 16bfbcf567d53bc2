/- Worlds: what holds of those that are ok. -/
import Derived.Test.YtcohaalgefcjnaaGreatDoorWdMath
namespace Go.Proofs.YtcohaalgefcjnaaGreatDoor.WdM
open Go.RowKit Go.Proofs.YtcohaalgefcjnaaGreatDoor.EscM Go.Proofs.YtcohaalgefcjnaaGreatDoor.AddrM Go.Proofs.YtcohaalgefcjnaaGreatDoor.ReadM Go.Proofs.YtcohaalgefcjnaaGreatDoor.Ad1 Go.Proofs.YtcohaalgefcjnaaGreatDoor.Rd1 Go.Proofs.YtcohaalgefcjnaaGreatDoor.RR Go.Proofs.YtcohaalgefcjnaaGreatDoor.RoPg

theorem okTo_iff (L : List Pg) : ∀ k, okTo L k = true ↔ ∀ (i : Nat) (h : i < L.length), i < k → pgB L[i] = true ∧ (L.take i).any (sameA L[i].addr) = false := by
  intro k
  induction k with
  | zero => exact ⟨fun _ i _ h => absurd h (by omega), fun _ => rfl⟩
  | succ k ih =>
    by_cases hk : k < L.length
    · rw [okTo_step hk, Bool.and_eq_true, Bool.and_eq_true, Bool.not_eq_true', ih]
      constructor
      · rintro ⟨h1, h2⟩ i hi hik
        by_cases e : i = k
        · subst e; exact h2
        · exact h1 i hi (by omega)
      · intro h
        exact ⟨fun i hi hik => h i hi (by omega), h k hk (by omega)⟩
    · have e : okTo L (k + 1) = okTo L k := by
        show (okTo L k && _) = _
        rw [List.getElem?_eq_none (by omega)]; simp
      rw [e, ih]
      exact ⟨fun h i hi hik => h i hi (by omega), fun h i hi hik => h i hi (by omega)⟩
theorem wOk_iff (L : List Pg) : wOk L = true ↔ (∀ (i : Nat) (h : i < L.length), pgB L[i] = true ∧ (L.take i).any (sameA L[i].addr) = false) ∧ L.length ≤ 12 := by
  unfold wOk
  rw [Bool.and_eq_true, decide_eq_true_eq, okTo_iff]
  exact ⟨fun ⟨h1, h2⟩ => ⟨fun i hi => h1 i hi hi, h2⟩, fun ⟨h1, h2⟩ => ⟨fun i hi _ => h1 i hi, h2⟩⟩
theorem wOk_take {L : List Pg} (h : wOk L = true) (n : Nat) : wOk (L.take n) = true := by
  rw [wOk_iff] at h ⊢
  refine ⟨fun i hi => ?_, by have := h.2; simp; omega⟩
  have hi1 : i < L.length := by simp at hi; omega
  have hi2 : i < n := by simp at hi; omega
  have h2 := h.1 i hi1
  have e : (L.take n)[i] = L[i] := by simp
  have e2 : (L.take n).take i = L.take i := by rw [List.take_take]; congr 1; omega
  rw [e, e2]; exact h2
theorem wOk_drop {L : List Pg} (h : wOk L = true) (n : Nat) : wOk (L.drop n) = true := by
  rw [wOk_iff] at h ⊢
  refine ⟨fun i hi => ?_, by have := h.2; simp; omega⟩
  have hi1 : n + i < L.length := by simp at hi; omega
  have h2 := h.1 (n + i) hi1
  have e : (L.drop n)[i] = L[n + i] := by simp
  rw [e]
  refine ⟨h2.1, ?_⟩
  rw [List.any_eq_false] at h2 ⊢
  intro x hx
  refine h2.2 x ?_
  rw [List.take_add]
  exact List.mem_append_right _ hx
theorem wOk_norm {L : List Pg} (h : wOk L = true) {i : Nat} (hi : i < L.length) : normT L[i].addr = true := by
  rw [wOk_iff] at h
  have h2 := (h.1 i hi).1
  unfold pgB at h2
  simp only [Bool.and_eq_true] at h2
  exact h2.1.1.1
theorem norm_read {s : ByteArray} (h : normT s = true) : ∃ A, readF s.data.toList = some A ∧ ((textF A).toList == s.toList) = true := by
  unfold normT at h
  cases hr : readF s.data.toList with
  | none => rw [hr] at h; cases h
  | some A => rw [hr] at h; exact ⟨A, rfl, h⟩
end Go.Proofs.YtcohaalgefcjnaaGreatDoor.WdM
