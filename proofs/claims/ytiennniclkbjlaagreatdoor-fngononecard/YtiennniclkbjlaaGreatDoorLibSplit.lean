/- What Go's library answers of strings.Split, against our own words. -/
import Derived.Test.YtiennniclkbjlaaGreatDoorRead1Pk
import Derived.Lib.SplitLaws
namespace Go.Proofs.YtiennniclkbjlaaGreatDoor.LibS
open Go.Proofs.YtiennniclkbjlaaGreatDoor.ReadM Go.Proofs.YtiennniclkbjlaaGreatDoor.Rd1

theorem byte_eq (b d : UInt8) : (b.toNat : Int) = (d.toNat : Int) ↔ b = d := by
  constructor
  · intro h; exact UInt8.toNat.inj (by omega)
  · rintro rfl; rfl
theorem idx_one (d : UInt8) : ∀ l : List UInt8, (Lib.index l [d] = -1 ∧ cutL d.toNat l = (l, [], false)) ∨ ∃ i : Nat, i < l.length ∧ Lib.index l [d] = (i : Int) ∧ cutL d.toNat l = (l.take i, l.drop (i + 1), true) := by
  intro l
  induction l with
  | nil => left; exact ⟨rfl, rfl⟩
  | cons b r ih =>
    rw [cut_cons]
    unfold Lib.index
    by_cases h : b = d
    · subst h
      right
      refine ⟨0, by simp, ?_, ?_⟩
      · simp
      · simp
    · have h1 : ¬ (b.toNat : Int) = (d.toNat : Int) := fun e => h ((byte_eq b d).1 e)
      have h2 : ([d] : List UInt8).isPrefixOf (b :: r) = false := by simp [List.isPrefixOf]; exact fun e => h e.symm
      rw [if_neg h1, h2]
      rcases ih with ⟨i1, i2⟩ | ⟨i, i0, i1, i2⟩
      · left
        rw [i1, i2]; exact ⟨rfl, rfl⟩
      · right
        refine ⟨i + 1, by simp; omega, ?_, ?_⟩
        · rw [i1]
          have : ((i : Int) == -1) = false := by simp
          rw [this]; simp
        · rw [i2]; simp
theorem split_lib (d : UInt8) : ∀ (n : Nat) (l : List UInt8), l.length ≤ n → Lib.splitK [d] 0 (Lib.count l [d]) l = splitL d.toNat l := by
  intro n
  induction n with
  | zero =>
    intro l hl
    have : l = [] := List.eq_nil_of_length_eq_zero (by omega)
    subst this
    rfl
  | succ n ih =>
    intro l hl
    rw [split_cut]
    rcases idx_one d l with ⟨i1, i2⟩ | ⟨i, i0, i1, i2⟩
    · rw [i2, Lib.count_miss i1]; rfl
    · rw [i2, Lib.count_hit (by simp) i1, Nat.add_comm]
      unfold Lib.splitK
      have : ((i : Int) == -1) = false := by simp
      rw [i1, this]
      simp only [List.length_singleton, Int.toNat_natCast, Nat.add_zero]
      rw [ih (l.drop (i + 1)) (by simp; omega)]
      rfl
theorem splitB_lib (d : UInt8) (s : ByteArray) : Lib.splitB ⟨#[d]⟩ 0 (Lib.countB s ⟨#[d]⟩) s = splitS d.toNat s := by
  have h := Lib.splitB_data ⟨#[d]⟩ 0 (Lib.countB s ⟨#[d]⟩) s
  have e : Lib.countB s ⟨#[d]⟩ = Lib.count s.data.toList [d] := rfl
  have e2 : (⟨#[d]⟩ : ByteArray).data.toList = [d] := rfl
  rw [e, e2, split_lib d _ _ (Nat.le_refl _)] at h
  unfold splitS
  rw [← h, List.map_map, e]
  conv => lhs; rw [← List.map_id (Lib.splitB ⟨#[d]⟩ 0 (Lib.count s.data.toList [d]) s)]
  apply List.map_congr_left
  intro p _
  show p = bs p.data.toList
  exact (bs_data p).symm
end Go.Proofs.YtiennniclkbjlaaGreatDoor.LibS
