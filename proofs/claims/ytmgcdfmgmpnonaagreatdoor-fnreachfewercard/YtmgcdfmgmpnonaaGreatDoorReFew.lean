/- What is not come to changes nothing: of the lists. -/
import Derived.Test.YtmgcdfmgmpnonaaGreatDoorPgA1Pk
namespace Go.Proofs.YtmgcdfmgmpnonaaGreatDoor.ReM
open Go.Proofs.YtmgcdfmgmpnonaaGreatDoor.St Go.Proofs.YtmgcdfmgmpnonaaGreatDoor.PgM Go.Proofs.YtmgcdfmgmpnonaaGreatDoor.PgA

variable {ok : ByteArray → Bool} {next next' : ByteArray → List ByteArray} {U : List ByteArray}
theorem lst_pre : ∀ (f i : Nat) (T out : List ByteArray), out <+: lstR ok next f i T out := by
  intro f
  induction f with
  | zero => intro i T out; exact List.prefix_refl _
  | succ f ih =>
    intro i T out
    by_cases hi : i < T.length
    · cases hk : ok T[i] with
      | true => rw [lst_ok hi hk]; exact (List.prefix_append out [T[i]]).trans (ih _ _ _)
      | false => rw [lst_no hi hk]; exact ih _ _ _
    · rw [lst_end (by omega)]; exact List.prefix_refl _
/-- where only what is not come to leads elsewhere, one comes to the same -/
theorem lst_same (z : ByteArray) (hn : ∀ x, x ≠ z → next x = next' x) : ∀ (f i : Nat) (T out : List ByteArray), z ∉ lstR ok next f i T out → lstR ok next' f i T out = lstR ok next f i T out := by
  intro f
  induction f with
  | zero => intro i T out _; rfl
  | succ f ih =>
    intro i T out hz
    by_cases hi : i < T.length
    · cases hk : ok T[i] with
      | true =>
        rw [lst_ok hi hk] at hz ⊢
        rw [lst_ok hi hk]
        have hx : T[i] ≠ z := by
          intro e
          refine hz ?_
          have hp := lst_pre (ok := ok) (next := next) f (i + 1) (putsL T (next T[i])) (out ++ [T[i]])
          exact hp.subset (by rw [← e]; simp)
        rw [← hn _ hx]
        exact ih _ _ _ hz
      | false =>
        rw [lst_no hi hk] at hz ⊢
        rw [lst_no hi hk]
        exact ih _ _ _ hz
    · rw [lst_end (by omega), lst_end (by omega)]
/-- more rounds than enough change nothing -/
theorem lst_enough (hN : ∀ x, ok x = true → ∀ y ∈ next x, y ∈ U) : ∀ (f g i : Nat) (T out : List ByteArray), T.Nodup → (∀ x ∈ T, x ∈ U) → U.length ≤ i + f → U.length ≤ i + g → lstR ok next f i T out = lstR ok next g i T out := by
  intro f
  induction f with
  | zero =>
    intro g i T out h1 h2 h3 _
    have := nodup_len h1 h2
    rw [lst_end (by omega), lst_end (by omega)]
  | succ f ih =>
    intro g i T out h1 h2 h3 h4
    have hl := nodup_len h1 h2
    by_cases hi : i < T.length
    · cases g with
      | zero => omega
      | succ g =>
        cases hk : ok T[i] with
        | true =>
          rw [lst_ok hi hk, lst_ok hi hk]
          exact ih g (i + 1) _ _ (puts_nodup h1) (fun x hx => (puts_mem.1 hx).elim (h2 x) (hN _ hk x)) (by omega) (by omega)
        | false =>
          rw [lst_no hi hk, lst_no hi hk]
          exact ih g (i + 1) _ _ h1 h2 (by omega) (by omega)
    · rw [lst_end (by omega), lst_end (by omega)]
end Go.Proofs.YtmgcdfmgmpnonaaGreatDoor.ReM
