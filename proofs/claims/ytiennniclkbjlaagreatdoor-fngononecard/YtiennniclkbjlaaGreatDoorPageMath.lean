/- Plain mathematics of pages. -/
import Derived.Test.YtiennniclkbjlaaGreatDoorReadMath
namespace Go.Proofs.YtiennniclkbjlaaGreatDoor.PgM
open Go.Proofs.YtiennniclkbjlaaGreatDoor.ReadM

/-- where one stands: 0 outside, 1 in a mark, 2 in brackets; and what of a mark is read -/
def nextP (p : Nat) (b : UInt8) : Nat :=
  if p = 1 then (if (b.toNat : Int) = 62 then 0 else 1)
  else if p = 2 then (if (b.toNat : Int) = 41 then 0 else 2)
  else if (b.toNat : Int) = 60 then 1 else if (b.toNat : Int) = 40 then 2 else 0
def nextM (p : Nat) (m : List UInt8) (b : UInt8) : List UInt8 :=
  if p = 1 then (if (b.toNat : Int) = 62 then m else m ++ [b])
  else if p = 2 then m
  else if (b.toNat : Int) = 60 then [] else m
def outM (p : Nat) (m : List UInt8) (b : UInt8) : List ByteArray := if p = 1 ∧ (b.toNat : Int) = 62 then [bs m] else []
/-- what stands in sharp brackets from there on -/
def mk : Nat → List UInt8 → List UInt8 → List ByteArray
  | _, _, [] => []
  | p, m, b :: r => outM p m b ++ mk (nextP p b) (nextM p m b) r
def marksF (s : ByteArray) : List ByteArray := if 300 < s.size then [] else mk 0 [] s.data.toList
def headL (c : Int) : List UInt8 → Bool
  | [] => false
  | b :: _ => decide ((b.toNat : Int) = c)
def headIs (c : Int) (s : ByteArray) : Bool := headL c s.data.toList
def isLink (s : ByteArray) : Bool := !headIs 33 s && !headIs 64 s
def linksF (s : ByteArray) : List ByteArray := (marksF s).filter isLink
def tailS (s : ByteArray) : ByteArray := bs s.data.toList.tail
def baseL (L : List ByteArray) : ByteArray × Bool := match L.find? (headIs 64) with | some m => (tailS m, true) | none => (⟨#[]⟩, false)
def baseF (s : ByteArray) : ByteArray × Bool := baseL (marksF s)

theorem nextP_le (p : Nat) (b : UInt8) : nextP p b ≤ 2 := by unfold nextP; split <;> (try split) <;> (try split) <;> (try split) <;> omega
theorem nextM_len (p : Nat) (m : List UInt8) (b : UInt8) : (nextM p m b).length ≤ m.length + 1 := by
  unfold nextM; split <;> (try split) <;> (try split) <;> simp
theorem mk_cons (p : Nat) (m : List UInt8) (b : UInt8) (r : List UInt8) : mk p m (b :: r) = outM p m b ++ mk (nextP p b) (nextM p m b) r := by
  cases p <;> rfl
/-- outside a mark it does not matter what was read of the last -/
theorem mk_any : ∀ (r : List UInt8) (p : Nat) (m n : List UInt8), p ≠ 1 → mk p m r = mk p n r := by
  intro r
  induction r with
  | nil => intro p m n _; cases p <;> rfl
  | cons b r ih =>
    intro p m n hp
    rw [mk_cons, mk_cons]
    have e : outM p m b = outM p n b := by unfold outM; rw [if_neg (by omega), if_neg (by omega)]
    rw [e]
    congr 1
    by_cases h1 : nextP p b = 1
    · have hb : (b.toNat : Int) = 60 ∧ p ≠ 2 := by
        unfold nextP at h1
        rw [if_neg hp] at h1
        by_cases h2 : p = 2
        · rw [if_pos h2] at h1; split at h1 <;> omega
        · rw [if_neg h2] at h1
          refine ⟨?_, h2⟩
          split at h1
          · assumption
          · split at h1 <;> omega
      have : ∀ x, nextM p x b = [] := fun x => by unfold nextM; rw [if_neg hp, if_neg hb.2, if_pos hb.1]
      rw [this, this]
    · exact ih _ _ _ h1
theorem mk_step {p : Nat} {m : List UInt8} {s : List UInt8} {k : Nat} {M : List ByteArray} {b : UInt8} (hk : k < s.length) (hb : s[k] = b) (h : mk 0 [] s = M ++ mk p m (s.drop k)) : mk 0 [] s = (M ++ outM p m b) ++ mk (nextP p b) (nextM p m b) (s.drop (k + 1)) := by
  rw [h, List.drop_eq_getElem_cons hk, mk_cons, hb, List.append_assoc]
theorem mk_count : ∀ (r : List UInt8) (p : Nat) (m : List UInt8), (mk p m r).length ≤ (r.filter fun b => decide ((b.toNat : Int) = 62)).length := by
  intro r
  induction r with
  | nil => intro p m; cases p <;> simp [mk]
  | cons b r ih =>
    intro p m
    rw [mk_cons, List.length_append]
    have h := ih (nextP p b) (nextM p m b)
    by_cases hb : (b.toNat : Int) = 62
    · rw [List.filter_cons_of_pos (by simpa using hb)]
      unfold outM
      split
      · simp only [List.length_cons, List.length_nil]; omega
      · simp only [List.length_cons, List.length_nil]; omega
    · rw [List.filter_cons_of_neg (by simpa using hb)]
      unfold outM
      rw [if_neg (by intro h; exact hb h.2)]
      simpa using h
theorem mk_size : ∀ (r : List UInt8) (p : Nat) (m : List UInt8), ∀ s ∈ mk p m r, s.size ≤ m.length + r.length := by
  intro r
  induction r with
  | nil => intro p m s hs; cases p <;> simp [mk] at hs
  | cons b r ih =>
    intro p m s hs
    rw [mk_cons] at hs
    rcases List.mem_append.1 hs with hs | hs
    · unfold outM at hs
      split at hs
      · simp at hs
        subst hs
        show m.toArray.size ≤ _
        simp
      · cases hs
    · have h1 := ih _ _ s hs
      have h2 := nextM_len p m b
      simp only [List.length_cons]; omega
theorem marks_len (s : ByteArray) : (marksF s).length ≤ 300 := by
  unfold marksF
  split
  · simp
  · have h1 := mk_count s.data.toList 0 []
    have h2 := List.length_filter_le (fun b : UInt8 => decide ((b.toNat : Int) = 62)) s.data.toList
    have h3 : s.data.toList.length = s.size := by simp
    omega
theorem marks_size (s : ByteArray) : ∀ x ∈ marksF s, x.size ≤ 300 := by
  intro x hx
  unfold marksF at hx
  split at hx
  · cases hx
  · have := mk_size _ _ _ x hx
    have h3 : s.data.toList.length = s.size := by simp
    simp at this; omega
theorem links_len (s : ByteArray) : (linksF s).length ≤ 300 := Nat.le_trans (List.length_filter_le _ _) (marks_len s)
theorem links_size (s : ByteArray) : ∀ x ∈ linksF s, x.size ≤ 300 := fun x hx => marks_size s x (List.mem_filter.1 hx).1
theorem links_count (s : ByteArray) : (linksF s).length ≤ (s.data.toList.filter fun b => decide ((b.toNat : Int) = 62)).length := by
  refine Nat.le_trans (List.length_filter_le _ _) ?_
  unfold marksF
  split
  · simp
  · exact mk_count _ _ _

/-- what is written ahead of a page -/
def preF (x : List UInt8) (s : ByteArray) : ByteArray := bs x ++ s
theorem marks_pre {x : List UInt8} {M : List ByteArray} {m : List UInt8} (s : ByteArray) (hs : s.size + x.length ≤ 300) (h : ∀ r, mk 0 [] (x ++ r) = M ++ mk 0 m r) : marksF (⟨x.toArray⟩ ++ s) = M ++ marksF s := by
  unfold marksF
  have e : (⟨x.toArray⟩ ++ s : ByteArray).data.toList = x ++ s.data.toList := by simp
  have e2 : (⟨x.toArray⟩ ++ s : ByteArray).size = x.length + s.size := by rw [ByteArray.size_append]; rfl
  rw [if_neg (by rw [e2]; omega), if_neg (by omega), e, h, mk_any s.data.toList 0 m [] (by omega)]
theorem marks_q (s : ByteArray) (hs : s.size + 8 ≤ 300) : marksF (⟨#[60, 113, 62]⟩ ++ s) = [⟨#[113]⟩] ++ marksF s :=
  marks_pre (x := [60, 113, 62]) (M := [⟨#[113]⟩]) (m := [113]) s (by simp; omega) (fun r => rfl)
theorem marks_no (s : ByteArray) (hs : s.size + 8 ≤ 300) : marksF (⟨#[60, 33, 113, 62]⟩ ++ s) = [⟨#[33, 113]⟩] ++ marksF s :=
  marks_pre (x := [60, 33, 113, 62]) (M := [⟨#[33, 113]⟩]) (m := [33, 113]) s (by simp; omega) (fun r => rfl)
theorem marks_at (s : ByteArray) (hs : s.size + 8 ≤ 300) : marksF (⟨#[60, 64, 113, 62]⟩ ++ s) = [⟨#[64, 113]⟩] ++ marksF s :=
  marks_pre (x := [60, 64, 113, 62]) (M := [⟨#[64, 113]⟩]) (m := [64, 113]) s (by simp; omega) (fun r => rfl)
theorem marks_round (s : ByteArray) (hs : s.size + 8 ≤ 300) : marksF (⟨#[40, 60, 113, 62, 41]⟩ ++ s) = marksF s :=
  marks_pre (x := [40, 60, 113, 62, 41]) (M := []) (m := []) s (by simp; omega) (fun r => rfl)
theorem marks_shut (s : ByteArray) (hs : s.size + 8 ≤ 300) : marksF (⟨#[62, 32, 41]⟩ ++ s) = marksF s :=
  marks_pre (x := [62, 32, 41]) (M := []) (m := []) s (by simp; omega) (fun r => rfl)
theorem links_q (s : ByteArray) (hs : s.size + 8 ≤ 300) : linksF (⟨#[60, 113, 62]⟩ ++ s) = [⟨#[113]⟩] ++ linksF s := by
  unfold linksF; rw [marks_q s hs]; rfl
theorem links_no (s : ByteArray) (hs : s.size + 8 ≤ 300) : linksF (⟨#[60, 33, 113, 62]⟩ ++ s) = linksF s := by
  unfold linksF; rw [marks_no s hs]; rfl
theorem links_at (s : ByteArray) (hs : s.size + 8 ≤ 300) : linksF (⟨#[60, 64, 113, 62]⟩ ++ s) = linksF s := by
  unfold linksF; rw [marks_at s hs]; rfl
theorem links_round (s : ByteArray) (hs : s.size + 8 ≤ 300) : linksF (⟨#[40, 60, 113, 62, 41]⟩ ++ s) = linksF s := by
  unfold linksF; rw [marks_round s hs]
theorem links_shut (s : ByteArray) (hs : s.size + 8 ≤ 300) : linksF (⟨#[62, 32, 41]⟩ ++ s) = linksF s := by
  unfold linksF; rw [marks_shut s hs]
theorem links_nothing : linksF ⟨#[]⟩ = [] := by unfold linksF marksF; rfl
theorem base_round (s : ByteArray) (hs : s.size + 8 ≤ 300) : baseF (⟨#[40, 60, 113, 62, 41]⟩ ++ s) = baseF s := by
  unfold baseF; rw [marks_round s hs]
theorem base_at (s : ByteArray) (hs : s.size + 8 ≤ 300) : baseF (⟨#[60, 64, 113, 62]⟩ ++ s) = (⟨#[113]⟩, true) := by
  unfold baseF; rw [marks_at s hs]; rfl
theorem base_q (s : ByteArray) (hs : s.size + 8 ≤ 300) : baseF (⟨#[60, 113, 62]⟩ ++ s) = baseF s := by
  unfold baseF; rw [marks_q s hs]; rfl
theorem base_size (s : ByteArray) : (baseF s).1.size ≤ 300 := by
  unfold baseF baseL
  cases h : (marksF s).find? (headIs 64) with
  | none => show (0 : Nat) ≤ 300; omega
  | some x =>
    have := marks_size s x (List.mem_of_find?_eq_some h)
    show (x.data.toList.tail).toArray.size ≤ 300
    simp; omega
end Go.Proofs.YtiennniclkbjlaaGreatDoor.PgM
