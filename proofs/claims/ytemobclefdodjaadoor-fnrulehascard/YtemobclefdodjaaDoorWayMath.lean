/- Ways of ok addresses have neither a star nor an end of a pattern: plain mathematics. -/
import Derived.Test.YtemobclefdodjaaDoorReadBack
import Derived.Test.YtemobclefdodjaaDoorHasMath
namespace Go.Proofs.YtemobclefdodjaaDoor.WayM
open Go.Proofs.YtemobclefdodjaaDoor.EscM Go.Proofs.YtemobclefdodjaaDoor.EscL Go.Proofs.YtemobclefdodjaaDoor.AddrM Go.Proofs.YtemobclefdodjaaDoor.ReadM Go.Proofs.YtemobclefdodjaaDoor.PathM Go.Proofs.YtemobclefdodjaaDoor.Rd1 Go.Proofs.YtemobclefdodjaaDoor.RB Go.Proofs.YtemobclefdodjaaDoor.RuleM Go.Proofs.YtemobclefdodjaaDoor.HasM Go.Proofs.YtemobclefdodjaaDoor.Ad1

theorem norm_all (P : UInt8 → Prop) (hp : ∀ b : UInt8, plainZ b.toNat = true → P b) (hh : ∀ b : UInt8, ¬ hexZ b.toNat < 0 → P b) (h37 : P 37) : ∀ (n : Nat) (L : List UInt8), L.length ≤ n → escN L = some L → ∀ b ∈ L, P b := by
  intro n
  induction n with
  | zero => intro L hL _ b hb; have : L = [] := List.eq_nil_of_length_eq_zero (by omega); subst this; cases hb
  | succ n ih =>
    intro L hL h b hb
    cases L with
    | nil => cases hb
    | cons c r =>
      rcases written_step h c r rfl with ⟨h1, h2, h3⟩ | ⟨h1, x, y, r', h2, h3⟩
      · rcases List.mem_cons.1 hb with rfl | hb
        · exact hp _ h2
        · exact ih r (by simpa using hL) h3 b hb
      · subst h1 h2
        have hxy : ¬ (hexZ x.toNat < 0 ∨ hexZ y.toNat < 0) := by
          intro hh
          simp only [escN, if_true, if_pos hh] at h
          cases h
        rcases List.mem_cons.1 hb with rfl | hb
        · exact h37
        · rcases List.mem_cons.1 hb with rfl | hb
          · exact hh _ (fun e => hxy (Or.inl e))
          · rcases List.mem_cons.1 hb with rfl | hb
            · exact hh _ (fun e => hxy (Or.inr e))
            · exact ih r' (by simp at hL; omega) h3 b hb
def bare (b : UInt8) : Prop := b ≠ 36 ∧ b ≠ 42
theorem bare_num {b : UInt8} (h : (b.toNat : Int) ≠ 36 ∧ (b.toNat : Int) ≠ 42) : bare b := by
  constructor
  · rintro rfl; exact h.1 rfl
  · rintro rfl; exact h.2 rfl
theorem bare_norm {s : ByteArray} (h : normB s = true) : ∀ b ∈ s.data.toList, bare b := by
  refine norm_all bare ?_ ?_ (by unfold bare; decide) _ _ (Nat.le_refl _) (norm_fix h).2.2
  · intro b hb
    unfold plainZ at hb
    have := of_decide_eq_true hb
    exact bare_num (by omega)
  · intro b hb
    unfold hexZ at hb
    apply bare_num
    split at hb
    · omega
    · split at hb
      · omega
      · split at hb
        · omega
        · omega
theorem path_bare {A : Ad} (h : okB A = true) : ∀ b ∈ pathL A, bare b := by
  have hj : ∀ b ∈ joinL A.parts, bare b := by
    have : ∀ L : List ByteArray, (∀ p ∈ L, ∀ b ∈ p.data.toList, bare b) → ∀ b ∈ joinL L, bare b := by
      intro L
      induction L with
      | nil => intro _ b hb; cases hb
      | cons x r ih =>
        intro ht b hb
        cases r with
        | nil => simp only [joinL] at hb; exact ht x (by simp) b hb
        | cons y r =>
          simp only [joinL] at hb
          rcases List.mem_append.1 hb with hb | hb
          · exact ht x (by simp) b hb
          · rcases List.mem_cons.1 hb with rfl | hb
            · unfold bare; decide
            · exact ih (fun p hp => ht p (by simp [hp])) b hb
    refine this _ fun p hp => bare_norm (part_norm' ?_).1
    exact List.all_eq_true.1 (Dr.ok_parts h).2.2.1 p hp
  intro b hb
  unfold pathL at hb
  rcases List.mem_cons.1 hb with rfl | hb
  · unfold bare; decide
  rcases List.mem_append.1 hb with hb | hb
  · exact hj b hb
  · split at hb
    · rcases List.mem_cons.1 hb with rfl | hb
      · unfold bare; decide
      · exact bare_norm (Dr.ok_parts h).2.2.2.2.1 b hb
    · cases hb
theorem pathF_bare (A : Ad) : ∀ b ∈ (pathF A).data.toList, bare b := by
  cases h : okB A with
  | false =>
    have e : pathF A = ⟨#[]⟩ := by unfold pathF; rw [h]; rfl
    rw [e]; intro b hb; cases hb
  | true =>
    have e : pathF A = pathS A := by unfold pathF; rw [h]; rfl
    rw [e]; simpa [pathS] using path_bare h
end Go.Proofs.YtemobclefdodjaaDoor.WayM
