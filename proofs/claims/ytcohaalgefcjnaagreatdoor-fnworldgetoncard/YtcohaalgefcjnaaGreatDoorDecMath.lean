/- A text of any bytes, gone by in runes: what is no ASCII byte is skipped whole. -/
import Derived.Test.YtcohaalgefcjnaaGreatDoorEscLeafPk
import Derived.Laws.RangeAny
namespace Go.Proofs.YtcohaalgefcjnaaGreatDoor.DecM
open Go.RowKit

theorem get_bang (s : ByteArray) (k : Nat) (h : k < s.size) : s.get! k = s[k]'h := by
  show s.data[k]! = s.data[k]
  exact getElem!_pos s.data k h
theorem cont_high {s : ByteArray} {i k : Nat} (h : (decide (i + k < s.size) && ((s.get! (i + k)).toNat / 64 == 2)) = true) : i + k < s.size ∧ 128 ≤ (s.get! (i + k)).toNat := by
  simp at h
  exact ⟨h.1, by have := h.2; omega⟩
/-- all bytes of a rune that is no ASCII byte are none -/
theorem decode_skip (s : ByteArray) (pos : Nat) (h : pos < s.size) (ha : 128 ≤ (s[pos]'h).toNat) : ∀ k, pos ≤ k → k < pos + (Utf8.decode s pos).2 → ∃ hk : k < s.size, 128 ≤ (s[k]'hk).toNat := by
  have hone : ∀ k, pos ≤ k → k < pos + 1 → ∃ hk : k < s.size, 128 ≤ (s[k]'hk).toNat := by
    intro k h1 h2
    have e : k = pos := by omega
    subst e
    exact ⟨h, ha⟩
  have hof : ∀ k, (k < s.size ∧ 128 ≤ (s.get! k).toNat) → ∃ hk : k < s.size, 128 ≤ (s[k]'hk).toNat := by
    rintro k ⟨h1, h2⟩
    rw [get_bang s k h1] at h2
    exact ⟨h1, h2⟩
  intro k hk1 hk2
  unfold Utf8.decode at hk2
  simp only at hk2
  have h0 : ¬ (s.get! (pos + 0)).toNat < 128 := by rw [Nat.add_zero, get_bang s pos h]; omega
  rw [if_neg h0] at hk2
  split at hk2
  · rename_i hc
    rw [Bool.and_eq_true] at hc
    have c1 := cont_high hc.2
    split at hk2
    · simp only at hk2
      have : k = pos ∨ k = pos + 1 := by omega
      rcases this with rfl | rfl
      · exact ⟨h, ha⟩
      · exact hof _ c1
    · exact hone k hk1 hk2
  · split at hk2
    · rename_i hc
      rw [Bool.and_eq_true, Bool.and_eq_true] at hc
      have c1 := cont_high hc.1.2
      have c2 := cont_high hc.2
      split at hk2
      · simp only at hk2
        have : k = pos ∨ k = pos + 1 ∨ k = pos + 2 := by omega
        rcases this with rfl | rfl | rfl
        · exact ⟨h, ha⟩
        · exact hof _ c1
        · exact hof _ c2
      · exact hone k hk1 hk2
    · split at hk2
      · rename_i hc
        rw [Bool.and_eq_true, Bool.and_eq_true, Bool.and_eq_true] at hc
        have c1 := cont_high hc.1.1.2
        have c2 := cont_high hc.1.2
        have c3 := cont_high hc.2
        split at hk2
        · simp only at hk2
          have : k = pos ∨ k = pos + 1 ∨ k = pos + 2 ∨ k = pos + 3 := by omega
          rcases this with rfl | rfl | rfl | rfl
          · exact ⟨h, ha⟩
          · exact hof _ c1
          · exact hof _ c2
          · exact hof _ c3
        · exact hone k hk1 hk2
      · exact hone k hk1 hk2
end Go.Proofs.YtcohaalgefcjnaaGreatDoor.DecM
