/- What holds of EscNorm as a function on lists. -/
import Derived.Test.YtboncolbijicfaaGreatDoorEscMeantPk
namespace Go.Proofs.YtboncolbijicfaaGreatDoor.EscL
open Go.Proofs.YtboncolbijicfaaGreatDoor.EscM

theorem plain_ne (n : Int) (hp : plainZ n = true) (h0 : 0 ≤ n) (h1 : n ≤ 255) : toB n ≠ 37 := by
  intro e
  have := toB_toNat n h0 h1
  rw [e] at this
  have e37 : ((37 : UInt8).toNat : Int) = 37 := rfl
  rw [e37] at this
  subst this
  exact absurd hp (by decide)
theorem hex_fig (q : Int) (h0 : 0 ≤ q) (h1 : q < 16) : hexZ (figZ q) = q := by unfold figZ hexZ; repeat' split <;> omega
theorem toB_inv (b : UInt8) : toB b.toNat = b := by unfold toB; simp

/-- what is written of a byte is read as that byte, whatever follows -/
theorem escN_signL (n : Int) (h0 : 0 ≤ n) (h1 : n ≤ 255) (r : List UInt8) : escN (signL n ++ r) = (escN r).map (signL n ++ ·) := by
  unfold signL
  cases hp : plainZ n with
  | true =>
    simp only [if_true, List.singleton_append]
    rw [escN_plain _ _ (plain_ne n hp h0 h1), toB_toNat n h0 h1]
    simp [signL, hp]
  | false =>
    have b1 := figZ_bd (n / 16) (by omega) (by omega)
    have b2 := figZ_bd (n % 16) (by omega) (by omega)
    simp only [Bool.false_eq_true, if_false, List.cons_append, List.nil_append]
    rw [escN_sign, toB_toNat _ (show 0 ≤ figZ (n / 16) by omega) (by omega), toB_toNat _ (show 0 ≤ figZ (n % 16) by omega) (by omega), hex_fig _ (by omega) (by omega), hex_fig _ (by omega) (by omega), if_neg (by omega)]
    rw [show n / 16 * 16 + n % 16 = n by omega]
    simp [signL, hp]

/-- a text's reading, by induction over what is meant -/
theorem esc_induct {p : List UInt8 → List UInt8 → Prop} (h0 : p [] []) (h1 : ∀ L b m x, meantZ L = (b, ((m : Nat) : Int)) → 1 ≤ m → m ≤ L.length → 0 ≤ b → b ≤ 255 → escN (L.drop m) = some x → p (L.drop m) x → p L (signL b ++ x)) :
    ∀ (n : Nat) (L x : List UInt8), L.length ≤ n → escN L = some x → p L x := by
  intro n
  induction n with
  | zero =>
    intro L x hl h
    have : L = [] := List.eq_nil_of_length_eq_zero (by omega)
    subst this
    simp [escN] at h; subst h; exact h0
  | succ n ih =>
    intro L x hl h
    by_cases hne : L = []
    · subst hne; simp [escN] at h; subst h; exact h0
    · rcases meant_step L hne with ⟨_, hn⟩ | ⟨b, m, hm, hm1, hm2, hb0, hb1, hn⟩
      · rw [hn] at h; cases h
      · rw [hn] at h
        cases hx : escN (L.drop m) with
        | none => rw [hx] at h; cases h
        | some y =>
          rw [hx] at h
          simp at h; subst h
          exact h1 L b m y hm hm1 hm2 hb0 hb1 hx (ih _ _ (by simp; omega) hx)

theorem escN_twice {L x : List UInt8} (h : escN L = some x) : escN x = some x := by
  refine esc_induct (p := fun _ x => escN x = some x) (by simp [escN]) ?_ L.length L x (Nat.le_refl _) h
  intro L b m x _ _ _ hb0 hb1 _ ih
  rw [escN_signL b hb0 hb1, ih]; rfl

theorem escN_len {L x : List UInt8} (h : escN L = some x) : x.length ≤ 3 * L.length := by
  refine esc_induct (p := fun L x => x.length ≤ 3 * L.length) (by simp) ?_ L.length L x (Nat.le_refl _) h
  intro L b m x _ hm1 hm2 _ _ _ ih
  have := signL_len b
  simp at ih ⊢; omega

theorem escB_true {s : ByteArray} (h : escB s = true) : s.size ≤ 60 ∧ ∃ x, escN s.data.toList = some x ∧ escS s = ⟨x.toArray⟩ := by
  unfold escB escF at h
  split at h
  · cases h
  · rename_i hl
    cases hx : escN s.data.toList with
    | none => rw [hx] at h; cases h
    | some x => exact ⟨by simpa using hl, x, rfl, by unfold escS escF; rw [if_neg hl, hx]⟩
theorem escB_false {s : ByteArray} (h : escB s = false) : escS s = ⟨#[]⟩ := by
  unfold escB escF at h
  unfold escS escF
  split at h
  · rename_i hl; rw [if_pos hl]
  · rename_i hl
    rw [if_neg hl]
    cases hx : escN s.data.toList with
    | none => rfl
    | some x => rw [hx] at h; cases h
theorem escS_size (s : ByteArray) : (escS s).size ≤ 180 := by
  cases h : escB s with
  | true =>
    obtain ⟨h60, x, hx, he⟩ := escB_true h
    have := escN_len hx
    rw [he]
    simp at this
    show x.toArray.size ≤ 180
    simp; omega
  | false => rw [escB_false h]; decide

theorem esc_twice (s : ByteArray) (h : escB s = true) (h60 : (escS s).size ≤ 60) : escS (escS s) = escS s ∧ escB (escS s) = true := by
  obtain ⟨_, x, hx, he⟩ := escB_true h
  have hl : ¬ 60 < x.length := by rw [he] at h60; have : x.toArray.size ≤ 60 := h60; simp at this; omega
  have ht := escN_twice hx
  rw [he]
  have hF : escF (⟨x.toArray⟩ : ByteArray).data.toList = (x, true) := by unfold escF; rw [if_neg hl, ht]
  exact ⟨by unfold escS; rw [hF], by unfold escB; rw [hF]⟩

/-- a sign that is not whole is none -/
theorem escN_cut (t : List UInt8) (ht : t = [] ∨ ∃ x, t = [x] ∧ hexZ x.toNat ≤ 15) : ∀ (n : Nat) (L : List UInt8), L.length ≤ n → escN (L ++ 37 :: t) = none := by
  have h37 : hexZ ((37 : UInt8).toNat : Int) < 0 := by decide
  intro n
  induction n with
  | zero =>
    intro L hl
    have : L = [] := List.eq_nil_of_length_eq_zero (by omega)
    subst this
    rcases ht with rfl | ⟨x, rfl, _⟩
    · exact escN_short0
    · exact escN_short1 x
  | succ n ih =>
    intro L hl
    rcases L with _ | ⟨b, r⟩
    · rcases ht with rfl | ⟨x, rfl, _⟩
      · exact escN_short0
      · exact escN_short1 x
    · by_cases hb : b = 37
      · subst hb
        rcases r with _ | ⟨x, _ | ⟨y, r⟩⟩
        · rcases ht with rfl | ⟨x, rfl, _⟩
          · exact escN_short1 37
          · show escN (37 :: 37 :: x :: []) = none
            rw [escN_sign, if_pos (Or.inl h37)]
        · show escN (37 :: x :: 37 :: t) = none
          rw [escN_sign, if_pos (Or.inr h37)]
        · show escN (37 :: x :: y :: (r ++ 37 :: t)) = none
          rw [escN_sign, ih r (by simp at hl; omega)]
          split <;> rfl
      · show escN (b :: (r ++ 37 :: t)) = none
        rw [escN_plain _ _ hb, ih r (by simp at hl; omega)]; rfl

theorem escN_append : ∀ (n : Nat) (A C x y : List UInt8), A.length ≤ n → escN A = some x → escN C = some y → escN (A ++ C) = some (x ++ y) := by
  intro n
  induction n with
  | zero =>
    intro A C x y hl hA hC
    have : A = [] := List.eq_nil_of_length_eq_zero (by omega)
    subst this
    simp [escN] at hA; subst hA; simpa using hC
  | succ n ih =>
    intro A C x y hl hA hC
    rcases A with _ | ⟨b, r⟩
    · simp [escN] at hA; subst hA; simpa using hC
    · by_cases hb : b = 37
      · subst hb
        rcases r with _ | ⟨h, _ | ⟨l, r⟩⟩
        · rw [escN_short0] at hA; cases hA
        · rw [escN_short1] at hA; cases hA
        · rw [escN_sign] at hA
          show escN (37 :: h :: l :: (r ++ C)) = _
          rw [escN_sign]
          split at hA
          · cases hA
          · rename_i hn
            rw [if_neg hn]
            cases hr : escN r with
            | none => rw [hr] at hA; cases hA
            | some z =>
              rw [hr] at hA; simp at hA; subst hA
              rw [ih r C z y (by simp at hl; omega) hr hC]; simp
      · rw [escN_plain _ _ hb] at hA
        show escN (b :: (r ++ C)) = _
        rw [escN_plain _ _ hb]
        cases hr : escN r with
        | none => rw [hr] at hA; cases hA
        | some z =>
          rw [hr] at hA; simp at hA; subst hA
          rw [ih r C z y (by simp at hl; omega) hr hC]; simp

theorem escF_short {s : ByteArray} {x : List UInt8} (h : s.size ≤ 60) (hx : escN s.data.toList = some x) : escS s = ⟨x.toArray⟩ ∧ escB s = true := by
  have hF : escF s.data.toList = (x, true) := by unfold escF; rw [if_neg (by simp; omega), hx]
  exact ⟨by unfold escS; rw [hF], by unfold escB; rw [hF]⟩
theorem escB_none {s : ByteArray} (hx : escN s.data.toList = none) : escB s = false := by
  unfold escB escF; split
  · rfl
  · rw [hx]

theorem data_append (a b : ByteArray) : (a ++ b).data.toList = a.data.toList ++ b.data.toList := by simp

theorem esc_cut (a b : ByteArray) (ha : escB a = true) (hb : escB b = true) (hl : a.size + b.size ≤ 60) : escS (a ++ b) = escS a ++ escS b ∧ escB (a ++ b) = true := by
  obtain ⟨_, x, hx, ex⟩ := escB_true ha
  obtain ⟨_, y, hy, ey⟩ := escB_true hb
  have hxy : escN (a ++ b).data.toList = some (x ++ y) := by
    rw [data_append]; exact escN_append _ _ _ x y (Nat.le_refl _) hx hy
  obtain ⟨e1, e2⟩ := escF_short (s := a ++ b) (by rw [ByteArray.size_append]; exact hl) hxy
  refine ⟨?_, e2⟩
  rw [e1, ex, ey]
  apply ByteArray.ext; simp

theorem esc_none1 (s : ByteArray) : escB (s ++ ⟨#[37]⟩) = false := by
  apply escB_none
  rw [data_append]; exact escN_cut [] (Or.inl rfl) _ _ (Nat.le_refl _)
theorem esc_none2 (s : ByteArray) : escB (s ++ ⟨#[37, 52]⟩) = false := by
  apply escB_none
  rw [data_append]; exact escN_cut [52] (Or.inr ⟨52, rfl, by decide⟩) _ _ (Nat.le_refl _)
theorem esc_empty : escS ⟨#[]⟩ = ⟨#[]⟩ ∧ escB ⟨#[]⟩ = true := by decide

/-- as written: what stands for itself, and signs -/
theorem written_step {L : List UInt8} (h : escN L = some L) (b : UInt8) (r : List UInt8) (hL : L = b :: r) :
    (b ≠ 37 ∧ plainZ b.toNat = true ∧ escN r = some r) ∨ (b = 37 ∧ ∃ x y r', r = x :: y :: r' ∧ escN r' = some r') := by
  subst hL
  by_cases hb : b = 37
  · right
    subst hb
    refine ⟨rfl, ?_⟩
    rcases r with _ | ⟨x, _ | ⟨y, r⟩⟩
    · rw [escN_short0] at h; cases h
    · rw [escN_short1] at h; cases h
    · refine ⟨x, y, r, rfl, ?_⟩
      rw [escN_sign] at h
      split at h
      · cases h
      · rename_i hn
        cases hr : escN r with
        | none => rw [hr] at h; cases h
        | some z =>
          rw [hr] at h
          have hx := hexZ_bd x.toNat
          have hy := hexZ_bd y.toNat
          simp only [Option.map_some, Option.some.injEq, signL] at h
          split at h
          · rename_i hp
            simp at h
            exact absurd h.1 (plain_ne _ hp (by omega) (by omega))
          · simp at h; rw [h.2.2]
  · left
    refine ⟨hb, ?_⟩
    rw [escN_plain _ _ hb] at h
    cases hr : escN r with
    | none => rw [hr] at h; cases h
    | some z =>
      rw [hr] at h
      simp only [Option.map_some, Option.some.injEq, signL] at h
      split at h
      · rename_i hp
        simp at h
        exact ⟨hp, by rw [h.2]⟩
      · simp at h; exact absurd h.1.symm hb

/-- how many bytes a text stands for -/
def bytesN : List UInt8 → Nat
  | [] => 0
  | [_] => 1
  | [b, _] => if b = 37 then 1 else 2
  | b :: c :: d :: r => if b = 37 then 1 + bytesN r else 1 + bytesN (c :: d :: r)

theorem bytesN_cons (b : UInt8) (r : List UInt8) : bytesN (b :: r) = if b = 37 then 1 + bytesN (r.drop 2) else 1 + bytesN r := by
  rcases r with _ | ⟨c, _ | ⟨d, r⟩⟩
  · simp [bytesN]
  · simp [bytesN]; 
  · simp [bytesN]
theorem bytesN_le : ∀ (n : Nat) (L : List UInt8), L.length ≤ n → bytesN L ≤ L.length := by
  intro n
  induction n with
  | zero =>
    intro L hl
    have : L = [] := List.eq_nil_of_length_eq_zero (by omega)
    subst this; simp [bytesN]
  | succ n ih =>
    intro L hl
    rcases L with _ | ⟨b, r⟩
    · simp [bytesN]
    · rw [bytesN_cons]
      simp at hl
      have h1 := ih r (by omega)
      have h2 := ih (r.drop 2) (by simp; omega)
      simp at h2 ⊢
      split <;> omega

theorem signL_bytes (b : Int) (h0 : 0 ≤ b) (h1 : b ≤ 255) (x : List UInt8) : bytesN (signL b ++ x) = 1 + bytesN x := by
  unfold signL
  split
  · rename_i hp
    show bytesN (toB b :: x) = _
    rw [bytesN_cons, if_neg (plain_ne _ hp h0 h1)]
  · show bytesN (37 :: toB (figZ (b / 16)) :: toB (figZ (b % 16)) :: x) = _
    rw [bytesN_cons, if_pos rfl]; rfl

theorem meant_bytes (L : List UInt8) (b : Int) (m : Nat) (hm : meantZ L = (b, (m : Int))) (h1 : 1 ≤ m) : bytesN L = 1 + bytesN (L.drop m) := by
  rcases L with _ | ⟨c, r⟩
  · simp [meantZ] at hm; omega
  · rw [bytesN_cons]
    by_cases hc : c = 37
    · subst hc
      rw [if_pos rfl]
      rcases r with _ | ⟨x, _ | ⟨y, r⟩⟩
      · simp [meantZ] at hm; omega
      · simp [meantZ] at hm; omega
      · simp [meantZ] at hm
        split at hm
        · simp at hm; omega
        · simp at hm
          have : m = 3 := by omega
          subst this; rfl
    · rw [if_neg hc]
      have : m = 1 := by
        rcases r with _ | ⟨x, _ | ⟨y, r⟩⟩ <;> simp [meantZ, hc] at hm <;> omega
      subst this; rfl

theorem esc_bytes {L x : List UInt8} (h : escN L = some x) : bytesN x = bytesN L ∧ x.length ≤ 3 * bytesN L := by
  refine esc_induct (p := fun L x => bytesN x = bytesN L ∧ x.length ≤ 3 * bytesN L) (by simp) ?_ L.length L x (Nat.le_refl _) h
  intro L b m x hm h1 _ hb0 hb1 _ ih
  rw [signL_bytes b hb0 hb1, meant_bytes L b m hm h1]
  have := signL_len b
  simp only [List.length_append]
  omega
end Go.Proofs.YtboncolbijicfaaGreatDoor.EscL
