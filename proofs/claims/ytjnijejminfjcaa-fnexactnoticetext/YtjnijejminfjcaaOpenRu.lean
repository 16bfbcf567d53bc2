/- A slice of rules that came in. -/
import Derived.Test.YtjnijejminfjcaaLetsMath
import Derived.Deep.SlicePairs
namespace Go.Proofs.Ytjnijejminfjcaa.OpR
open Go.RowKit Go.Proofs.Ytjnijejminfjcaa.St Go.Proofs.Ytjnijejminfjcaa.RR Go.Proofs.Ytjnijejminfjcaa.LetM

def boolOf : Value → Bool
  | .bool b => b
  | _ => false
def strOf : Value → ByteArray
  | .string s => s
  | _ => ⟨#[]⟩
theorem open_rules {W : World} {a : Addr} {len cap : Nat} {V0 V1 : Nat → Value} (hl : len ≤ cap) (hm : cap ≤ maxLen)
    (hx : ∀ i, i < cap → W.cell? (a.add (i * 2)) = some (V0 i) ∧ W.cell? (a.add (i * 2 + 1)) = some (V1 i) ∧ (∃ b, V0 i = .bool b) ∧ ∃ s : ByteArray, V1 i = .string s ∧ s.size ≤ maxLen) :
    ∃ L : List Ru, len = L.length ∧ IsRows FRu W (some a) cap L ∧ ∀ r ∈ L, r.path.size ≤ maxLen := by
  refine ⟨(List.range len).map fun i => ⟨boolOf (V0 i), strOf (V1 i)⟩, by simp, ⟨by simp; exact hl, hm, (fun e => by cases e), fun hne => ?_⟩, ?_⟩
  · have h0 : 0 < len := by
      rcases Nat.eq_zero_or_pos len with h | h
      · subst h; simp at hne
      · exact h
    obtain ⟨hc0, _⟩ := hx 0 (by omega)
    have hspot : a.spot = none := by simpa [Addr.add] using World.cell?_spot hc0
    obtain ⟨b, off, spot⟩ := a
    simp at hspot; subst hspot
    refine ⟨b, off, rfl, fun j u hu => ?_⟩
    have hj : j < len * 2 := by
      have := (List.getElem?_eq_some_iff.1 hu).1
      rw [FRu.cells_len] at this
      simp at this
      exact this
    have h2 : j = j / 2 * FRu.k + j % 2 := by show j = j / 2 * 2 + j % 2; omega
    have h3 : j / 2 < ((List.range len).map fun i => (⟨boolOf (V0 i), strOf (V1 i)⟩ : Ru)).length := by simp; omega
    have h4 := FRu.cells_at _ (j / 2) h3 (j % 2) (Nat.mod_lt _ (by decide))
    rw [← h2, hu] at h4
    simp only [List.getElem_map, List.getElem_range] at h4
    obtain ⟨k0, k1, ⟨bb, e0⟩, s, e1, _⟩ := hx (j / 2) (by omega)
    rw [add_mk] at k0 k1
    rcases Nat.mod_two_eq_zero_or_one j with h | h
    · rw [h, e0] at h4
      have : u = .bool bb := Option.some.inj h4
      rw [this, ← e0, ← k0]
      congr 2; omega
    · rw [h, e1] at h4
      have : u = .string s := Option.some.inj h4
      rw [this, ← e1, ← k1]
      congr 2; omega
  · intro r hr
    obtain ⟨i, hi, rfl⟩ := List.mem_map.1 hr
    obtain ⟨_, _, _, s, e1, hs⟩ := hx i (by have := List.mem_range.1 hi; omega)
    show (strOf (V1 i)).size ≤ maxLen
    rw [e1]; exact hs
end Go.Proofs.Ytjnijejminfjcaa.OpR
