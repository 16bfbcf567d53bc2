/- Plain mathematics of reading an address. -/
import Derived.Test.YtiennniclkbjlaaGreatDoorAddrMath
namespace Go.Proofs.YtiennniclkbjlaaGreatDoor.ReadM
open Go.Proofs.YtiennniclkbjlaaGreatDoor.EscM Go.Proofs.YtiennniclkbjlaaGreatDoor.AddrM Go.Proofs.YtiennniclkbjlaaGreatDoor.PathM

/-- a text cut at the first byte of a kind -/
def cutL (c : Int) : List UInt8 → List UInt8 × List UInt8 × Bool
  | [] => ([], [], false)
  | b :: r => if (b.toNat : Int) = c then ([], r, true) else (b :: (cutL c r).1, (cutL c r).2.1, (cutL c r).2.2)

/-- a text cut at each byte of a kind -/
def splitL (c : Int) : List UInt8 → List (List UInt8)
  | [] => [[]]
  | b :: r => if (b.toNat : Int) = c then [] :: splitL c r else (b :: (splitL c r).headD []) :: (splitL c r).tail

theorem split_ne (c : Int) (l : List UInt8) : splitL c l ≠ [] := by
  cases l with
  | nil => simp [splitL]
  | cons b r => unfold splitL; split <;> simp
theorem split_cons (c : Int) (b : UInt8) (r : List UInt8) : splitL c (b :: r) = if (b.toNat : Int) = c then [] :: splitL c r else (b :: (splitL c r).headD []) :: (splitL c r).tail := rfl
theorem cut_cons (c : Int) (b : UInt8) (r : List UInt8) : cutL c (b :: r) = if (b.toNat : Int) = c then ([], r, true) else (b :: (cutL c r).1, (cutL c r).2.1, (cutL c r).2.2) := rfl
theorem split_cut (c : Int) : ∀ l : List UInt8, splitL c l = (cutL c l).1 :: if (cutL c l).2.2 then splitL c (cutL c l).2.1 else [] := by
  intro l
  induction l with
  | nil => simp [splitL, cutL]
  | cons b r ih =>
    rw [split_cons, cut_cons]
    by_cases h : (b.toNat : Int) = c
    · simp [h]
    · simp only [if_neg h]
      rw [ih]; simp
theorem cut_len (c : Int) : ∀ l : List UInt8, (cutL c l).1.length + (cutL c l).2.1.length ≤ l.length ∧ ((cutL c l).2.2 = true → (cutL c l).2.1.length < l.length) := by
  intro l
  induction l with
  | nil => simp [cutL]
  | cons b r ih =>
    unfold cutL
    split
    · simp
    · simp only [List.length_cons]
      refine ⟨by omega, fun h => ?_⟩
      have := ih.2 h
      omega
theorem cut_at (c : Int) : ∀ (l : List UInt8) (k : Nat) (h : k < l.length), (∀ i (hi : i < k), ((l[i]'(by omega)).toNat : Int) ≠ c) → ((l[k]'h).toNat : Int) = c → cutL c l = (l.take k, l.drop (k + 1), true) := by
  intro l
  induction l with
  | nil => intro k h; simp at h
  | cons b r ih =>
    intro k h hn he
    cases k with
    | zero => unfold cutL; rw [if_pos (by simpa using he)]; simp
    | succ k =>
      have h0 := hn 0 (by omega)
      unfold cutL
      rw [if_neg (by simpa using h0)]
      have := ih k (by simpa using h) (fun i hi => by have := hn (i + 1) (by omega); simpa using this) (by simpa using he)
      rw [this]; simp
theorem cut_none (c : Int) : ∀ l : List UInt8, (∀ i (hi : i < l.length), ((l[i]'hi).toNat : Int) ≠ c) → cutL c l = (l, [], false) := by
  intro l
  induction l with
  | nil => intro _; rfl
  | cons b r ih =>
    intro hn
    have h0 := hn 0 (by simp)
    unfold cutL
    rw [if_neg (by simpa using h0)]
    rw [ih (fun i hi => by have := hn (i + 1) (by simpa using hi); simpa using this)]

def bs (l : List UInt8) : ByteArray := ⟨l.toArray⟩
def splitS (c : Int) (s : ByteArray) : List ByteArray := (splitL c s.data.toList).map bs
theorem split_len (c : Int) : ∀ l : List UInt8, (splitL c l).length ≤ l.length + 1 := by
  intro l
  induction l with
  | nil => simp [splitL]
  | cons b r ih =>
    unfold splitL
    split
    · simp; omega
    · simp only [List.length_cons, List.length_tail]; omega

/-- small letters -/
def smallZ (n : Int) : Int := if 65 ≤ n ∧ n ≤ 90 then n + 32 else n
def smallL (l : List UInt8) : List UInt8 := l.map fun b => toB (smallZ b.toNat)

theorem split_mem (c : Int) : ∀ (l z : List UInt8), z ∈ splitL c l → z.length ≤ l.length := by
  intro l
  induction l with
  | nil => intro z hz; simp [splitL] at hz; subst hz; simp
  | cons b r ih =>
    intro z hz
    rw [split_cons] at hz
    by_cases h : (b.toNat : Int) = c
    · rw [if_pos h] at hz
      rcases List.mem_cons.1 hz with rfl | hz
      · simp
      · have := ih z hz; simp; omega
    · rw [if_neg h] at hz
      rcases List.mem_cons.1 hz with rfl | hz
      · have h2 : ((splitL c r).headD []).length ≤ r.length := by
          cases hs : splitL c r with
          | nil => simp
          | cons y t => have := ih y (by rw [hs]; simp); simpa using this
        simp at h2 ⊢; omega
      · have := ih z (List.mem_of_mem_tail hz); simp; omega
theorem splitS_mem (c : Int) (s z : ByteArray) (h : z ∈ splitS c s) : z.size ≤ s.size := by
  unfold splitS at h
  obtain ⟨l, hl, rfl⟩ := List.mem_map.1 h
  have := split_mem c _ l hl
  show l.toArray.size ≤ _
  simp at this ⊢; omega

/-- all of a list written by EscNorm; none, if one cannot be -/
def normS : List ByteArray → Option (List ByteArray)
  | [] => some []
  | x :: r => if escB x then (normS r).map (escS x :: ·) else none
def zeroAd : Ad := ⟨⟨#[]⟩, [], false, ⟨#[]⟩⟩
/-- a way, behind parts -/
def wayF (house : ByteArray) (frm : List ByteArray) (way : ByteArray) : Option Ad :=
  match normS (splitS 47 (bs (cutL 63 way.data.toList).1)) with
  | none => none
  | some ps =>
    if escB (bs (cutL 63 way.data.toList).2.1) then
      if okB ⟨house, cleanL (frm ++ ps), (cutL 63 way.data.toList).2.2, escS (bs (cutL 63 way.data.toList).2.1)⟩ then
        some ⟨house, cleanL (frm ++ ps), (cutL 63 way.data.toList).2.2, escS (bs (cutL 63 way.data.toList).2.1)⟩
      else none
    else none

theorem normS_no {L : List ByteArray} {k : Nat} (hk : k < L.length) (h : escB L[k] = false) : normS L = none := by
  induction L generalizing k with
  | nil => simp at hk
  | cons x r ih =>
    cases k with
    | zero => simp at h; simp [normS, h]
    | succ k =>
      have := ih (k := k) (by simpa using hk) (by simpa using h)
      simp only [normS, this]
      split <;> rfl
theorem normS_all {L : List ByteArray} (h : ∀ x ∈ L, escB x = true) : normS L = some (L.map escS) := by
  induction L with
  | nil => rfl
  | cons x r ih =>
    simp only [normS, h x (by simp), if_true]
    rw [ih (fun y hy => h y (by simp [hy]))]; rfl

theorem sumS_append (A B : List ByteArray) : sumS (A ++ B) = sumS A + sumS B := by
  induction A with
  | nil => simp [sumS]
  | cons x r ih => simp only [List.cons_append, sumS, ih]; omega
theorem sumS_dropLast (L : List ByteArray) : sumS L.dropLast ≤ sumS L := by
  induction L with
  | nil => simp [sumS]
  | cons x r ih =>
    cases r with
    | nil => simp [sumS]
    | cons y r => simp only [List.dropLast_cons_of_ne_nil (show y :: r ≠ [] by simp), sumS] at ih ⊢; omega
theorem sum_step (acc : List ByteArray) (s : ByteArray) : sumS (cleanStep acc s) ≤ sumS acc + s.size := by
  unfold cleanStep
  split
  · omega
  · split
    · have := sumS_dropLast acc; omega
    · rw [sumS_append]; simp [sumS]
theorem sum_fold : ∀ (L acc : List ByteArray), sumS (L.foldl cleanStep acc) ≤ sumS acc + sumS L := by
  intro L
  induction L with
  | nil => intro acc; simp [sumS]
  | cons x r ih =>
    intro acc
    have h1 := ih (cleanStep acc x)
    have h2 := sum_step acc x
    simp only [List.foldl_cons, sumS]; omega
theorem sum_clean (L : List ByteArray) : sumS (cleanL L) ≤ sumS L := by have := sum_fold L []; simpa [cleanL, sumS] using this
theorem sum_le {L : List ByteArray} {m : Nat} (h : ∀ s ∈ L, s.size ≤ m) : sumS L ≤ L.length * m := by
  induction L with
  | nil => simp [sumS]
  | cons x r ih =>
    have h1 := h x (by simp)
    have h2 := ih (fun y hy => h y (by simp [hy]))
    simp only [sumS, List.length_cons, Nat.add_mul]; omega
end Go.Proofs.YtiennniclkbjlaaGreatDoor.ReadM
