/- Great letters: plain mathematics of what the loop leaves. -/
import Derived.Test.YtbfiopcdclcdhaaDoorReadLaws
namespace Go.Proofs.YtbfiopcdclcdhaaDoor.RL
open Go.RowKit Go.Proofs.YtbfiopcdclcdhaaDoor.EscM Go.Proofs.YtbfiopcdclcdhaaDoor.AddrM Go.Proofs.YtbfiopcdclcdhaaDoor.ReadM Go.Proofs.YtbfiopcdclcdhaaDoor.St Go.Proofs.YtbfiopcdclcdhaaDoor.EscL Go.Proofs.YtbfiopcdclcdhaaDoor.PathM Go.Proofs.YtbfiopcdclcdhaaDoor.Ad1 Go.Proofs.YtbfiopcdclcdhaaDoor.Rd1 Go.Proofs.YtbfiopcdclcdhaaDoor.RB

theorem while_take {p : UInt8 → Bool} : ∀ (l : List UInt8) (m : Nat) (hm : m ≤ l.length), (∀ i (hi : i < m), p (l[i]'(by omega)) = true) → (∀ h : m < l.length, p (l[m]'h) = false) → l.takeWhile p = l.take m ∧ l.dropWhile p = l.drop m := by
  intro l
  induction l with
  | nil => intro m hm _ _; simp
  | cons b r ih =>
    intro m hm hall hstop
    cases m with
    | zero =>
      have := hstop (by simp)
      simp at this
      simp [this]
    | succ m =>
      have h0 := hall 0 (by omega)
      simp at h0
      have := ih m (by simpa using hm) (fun i hi => by have := hall (i + 1) (by omega); simpa using this) (fun h => by have := hstop (by simpa using h); simpa using this)
      simp [h0, this.1, this.2]
/-- what the loop has written behind k places -/
def upAt (l : List UInt8) (k : Nat) : List UInt8 := l.mapIdx fun j b => if 2 ≤ j ∧ j < k then toB (upZ b.toNat) else b
theorem upAt_len (l : List UInt8) (k : Nat) : (upAt l k).length = l.length := by simp [upAt]
theorem upAt_get (l : List UInt8) (k j : Nat) (h : j < (upAt l k).length) : (upAt l k)[j] = if 2 ≤ j ∧ j < k then toB (upZ (l[j]'(by rw [upAt_len] at h; exact h)).toNat) else l[j]'(by rw [upAt_len] at h; exact h) := by
  simp only [upAt, List.getElem_mapIdx]
theorem upAt_great {r : List UInt8} {m : Nat} (hm : m ≤ r.length) (hall : ∀ i (hi : i < m), goes3 (r[i]'(by omega)) = true) (hstop : ∀ h : m < r.length, goes3 (r[m]'h) = false) : upAt (47 :: 47 :: r) (m + 2) = 47 :: 47 :: greatL r := by
  obtain ⟨e1, e2⟩ := while_take r m hm hall hstop
  have eg : greatL r = upL (r.take m) ++ r.drop m := by unfold greatL; rw [e1, e2]
  apply List.ext_getElem
  · rw [upAt_len]; simp [great_len]
  · intro j h1 h2
    rw [upAt_get]
    match j with
    | 0 => simp
    | 1 => simp
    | i + 2 =>
      simp only [List.getElem_cons_succ, eg]
      have hi : i < r.length := by rw [upAt_len] at h1; simpa using h1
      by_cases hlt : i < m
      · rw [if_pos (by omega), List.getElem_append_left (by simp [up_len]; omega)]
        simp [upL]
      · rw [if_neg (by omega), List.getElem_append_right (by simp [up_len]; omega)]
        simp [up_len]
        congr 1
        omega
theorem up_ascii (b : UInt8) (h : b.toNat < 128) : (toB (upZ b.toNat)).toNat < 128 := by
  have e := up_val b
  have : upZ b.toNat < 128 := by unfold upZ; split <;> omega
  omega
end Go.Proofs.YtbfiopcdclcdhaaDoor.RL
