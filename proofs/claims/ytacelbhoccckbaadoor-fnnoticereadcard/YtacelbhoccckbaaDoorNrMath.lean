/- How a notice is read: plain mathematics. -/
import Derived.Test.YtacelbhoccckbaaDoorNtMath
import Derived.Test.YtacelbhoccckbaaDoorReadMath
namespace Go.Proofs.YtacelbhoccckbaaDoor.NrM
open Go.RowKit Go.Proofs.YtacelbhoccckbaaDoor.EscM Go.Proofs.YtacelbhoccckbaaDoor.RuleM Go.Proofs.YtacelbhoccckbaaDoor.ReadM Go.Proofs.YtacelbhoccckbaaDoor.St Go.Proofs.YtacelbhoccckbaaDoor.RR Go.Proofs.YtacelbhoccckbaaDoor.LetM Go.Proofs.YtacelbhoccckbaaDoor.Nm Go.Proofs.YtacelbhoccckbaaDoor.GrM Go.Proofs.YtacelbhoccckbaaDoor.NtM

def wCall : List UInt8 := [99, 97, 108, 108, 101, 114]
def wLet : List UInt8 := [108, 101, 116]
def wBar : List UInt8 := [98, 97, 114]
def wWait : List UInt8 := [119, 97, 105, 116]
/-- figures, gone by one behind the other; none, if one is no figure -/
def numGo : Nat → List UInt8 → Option Nat
  | n, [] => some n
  | n, b :: r => if 48 ≤ (b.toNat : Int) ∧ (b.toNat : Int) ≤ 57 then numGo (min (n * 10 + (b.toNat - 48)) 20) r else none
def numF (l : List UInt8) : Nat := (numGo 0 l).getD 0
theorem num_go_le : ∀ (l : List UInt8) (n : Nat), n ≤ 20 → (numGo n l).getD 0 ≤ 20 := by
  intro l
  induction l with
  | nil => intro n h; exact h
  | cons b r ih =>
    intro n h
    unfold numGo
    split
    · exact ih _ (Nat.min_le_right _ _)
    · exact Nat.zero_le _
theorem num_le (l : List UInt8) : numF l ≤ 20 := num_go_le l 0 (by omega)
theorem num_take {l : List UInt8} {k n : Nat} (hk : k < l.length) (h : numF l = (numGo n (l.drop k)).getD 0) : (48 ≤ (l[k].toNat : Int) ∧ (l[k].toNat : Int) ≤ 57 → numF l = (numGo (min (n * 10 + (l[k].toNat - 48)) 20) (l.drop (k + 1))).getD 0) ∧ (¬ (48 ≤ (l[k].toNat : Int) ∧ (l[k].toNat : Int) ≤ 57) → numF l = 0) := by
  rw [List.drop_eq_getElem_cons hk] at h
  unfold numGo at h
  constructor
  · intro h1; rw [if_pos h1] at h; exact h
  · intro h1; rw [if_neg h1] at h; exact h

/-- a line of a notice that counts -/
inductive Lk
  | c (s : ByteArray)
  | r (x : Ru)
  | t (n : Nat)
/-- what a word, and what stands behind its blank, say -/
def saysF (wd rs : ByteArray) : Option Lk :=
  if wd.data.toList = wCall ∧ callB rs = true then some (.c rs)
  else if wd.data.toList = wLet ∧ ruleL rs.data.toList = true then some (.r ⟨true, rs⟩)
  else if wd.data.toList = wBar ∧ ruleL rs.data.toList = true then some (.r ⟨false, rs⟩)
  else if wd.data.toList = wWait then some (.t (numF rs.data.toList))
  else none
def wordF (s : ByteArray) : ByteArray := bs (cutL 32 s.data.toList).1
def restF (s : ByteArray) : ByteArray := bs (cutL 32 s.data.toList).2.1
def blankF (s : ByteArray) : Bool := (cutL 32 s.data.toList).2.2
/-- of the program: a line without a blank is none -/
def lineF (s : ByteArray) : Option Lk := if blankF s then saysF (wordF s) (restF s) else none
/-- what was read so far: groups, and whether the last one's rules have begun -/
structure Nr where
  gs : List (List ByteArray × List Ru × Int)
  bg : Bool
def lastG (l : List (List ByteArray × List Ru × Int)) : List ByteArray × List Ru × Int := l.getLast?.getD ([], [], 0)
def addF (S : Nr) : Lk → Nr
  | .c s => if S.gs = [] ∨ S.bg = true then ⟨S.gs ++ [([s], [], 0)], false⟩ else ⟨S.gs.dropLast ++ [((lastG S.gs).1 ++ [s], (lastG S.gs).2.1, (lastG S.gs).2.2)], false⟩
  | .r x => if S.gs = [] then S else if (lastG S.gs).2.1.length < 6 then ⟨S.gs.dropLast ++ [((lastG S.gs).1, (lastG S.gs).2.1 ++ [x], (lastG S.gs).2.2)], true⟩ else ⟨S.gs, true⟩
  | .t n => if S.gs = [] then S else ⟨S.gs.dropLast ++ [((lastG S.gs).1, (lastG S.gs).2.1, (n : Int))], true⟩
theorem add_c (S : Nr) (s : ByteArray) : addF S (.c s) = if S.gs = [] ∨ S.bg = true then ⟨S.gs ++ [([s], [], 0)], false⟩ else ⟨S.gs.dropLast ++ [((lastG S.gs).1 ++ [s], (lastG S.gs).2.1, (lastG S.gs).2.2)], false⟩ := rfl
theorem add_r (S : Nr) (x : Ru) : addF S (.r x) = if S.gs = [] then S else if (lastG S.gs).2.1.length < 6 then ⟨S.gs.dropLast ++ [((lastG S.gs).1, (lastG S.gs).2.1 ++ [x], (lastG S.gs).2.2)], true⟩ else ⟨S.gs, true⟩ := rfl
theorem add_t (S : Nr) (n : Nat) : addF S (.t n) = if S.gs = [] then S else ⟨S.gs.dropLast ++ [((lastG S.gs).1, (lastG S.gs).2.1, (n : Int))], true⟩ := rfl
def stepF (S : Nr) (o : Option Lk) : Nr := match o with | some x => addF S x | none => S
def nr0 : Nr := ⟨[], false⟩
/-- what the first k lines say -/
def readTo (f : ByteArray → Option Lk) (L : List ByteArray) : Nat → Nr
  | 0 => nr0
  | k + 1 => match L[k]? with | some s => stepF (readTo f L k) (f s) | none => readTo f L k
theorem read_step {f : ByteArray → Option Lk} {L : List ByteArray} {k : Nat} (h : k < L.length) : readTo f L (k + 1) = stepF (readTo f L k) (f L[k]) := by
  show (match L[k]? with | some s => stepF (readTo f L k) (f s) | none => readTo f L k) = _
  rw [List.getElem?_eq_getElem h]
/-- no group, no rules; and what has rules has begun -/
def NrOk (S : Nr) : Prop := (S.gs = [] → S.bg = false) ∧ ((lastG S.gs).2.1 ≠ [] → S.bg = true)
theorem last_snoc (l : List (List ByteArray × List Ru × Int)) (g : List ByteArray × List Ru × Int) : lastG (l ++ [g]) = g := by unfold lastG; simp
theorem last_nil : lastG [] = ([], [], 0) := rfl
theorem ok_add {S : Nr} {x : Lk} (h : NrOk S) : NrOk (addF S x) := by
  obtain ⟨h1, h2⟩ := h
  cases x with
  | c s =>
    rw [add_c]
    by_cases hc : S.gs = [] ∨ S.bg = true
    · rw [if_pos hc]
      exact ⟨fun _ => rfl, fun hn => by rw [last_snoc] at hn; exact absurd rfl hn⟩
    · rw [if_neg hc]
      refine ⟨fun _ => rfl, fun hn => ?_⟩
      rw [last_snoc] at hn
      exact absurd (h2 hn) (fun e => hc (Or.inr e))
  | r x =>
    rw [add_r]
    by_cases hc : S.gs = []
    · rw [if_pos hc]; exact ⟨h1, h2⟩
    · rw [if_neg hc]
      split
      · exact ⟨fun e => by simp at e, fun _ => rfl⟩
      · exact ⟨fun e => absurd e hc, fun _ => rfl⟩
  | t n =>
    rw [add_t]
    by_cases hc : S.gs = []
    · rw [if_pos hc]; exact ⟨h1, h2⟩
    · rw [if_neg hc]
      exact ⟨fun e => by simp at e, fun _ => rfl⟩
theorem ok_step {S : Nr} {o : Option Lk} (h : NrOk S) : NrOk (stepF S o) := by
  cases o with
  | none => exact h
  | some x => exact ok_add h
theorem ok_read (f : ByteArray → Option Lk) (L : List ByteArray) : ∀ k, NrOk (readTo f L k) := by
  intro k
  induction k with
  | zero => exact ⟨fun _ => rfl, fun h => absurd rfl h⟩
  | succ k ih =>
    show NrOk (match L[k]? with | some s => stepF (readTo f L k) (f s) | none => readTo f L k)
    split
    · exact ok_step ih
    · exact ih
/-- how great what is read can be -/
def NrSz (S : Nr) (n : Nat) : Prop := S.gs.length ≤ n ∧ ∀ g ∈ S.gs, g.1.length ≤ n ∧ (∀ s ∈ g.1, s.size ≤ 8) ∧ g.2.1.length ≤ 6 ∧ (∀ r ∈ g.2.1, r.path.size ≤ 16 ∧ ruleL r.path.data.toList = true) ∧ 0 ≤ g.2.2 ∧ g.2.2 ≤ 20 ∧ g.1 ≠ []
/-- such a line as can be read -/
def LkOk : Lk → Prop
  | .c s => s.size ≤ 8
  | .r x => x.path.size ≤ 16 ∧ ruleL x.path.data.toList = true
  | .t n => n ≤ 20
theorem says_ok {wd rs : ByteArray} {x : Lk} (h : saysF wd rs = some x) : LkOk x := by
  unfold saysF at h
  split at h
  · rename_i hc; injection h with h; subst h; exact call_len hc.2
  · split at h
    · rename_i hc; injection h with h; subst h; exact ⟨by have := rule_len hc.2; simpa using this, hc.2⟩
    · split at h
      · rename_i hc; injection h with h; subst h; exact ⟨by have := rule_len hc.2; simpa using this, hc.2⟩
      · split at h
        · injection h with h; subst h; exact num_le _
        · cases h
theorem line_ok {s : ByteArray} {x : Lk} (h : lineF s = some x) : LkOk x := by
  unfold lineF at h
  split at h
  · exact says_ok h
  · cases h
theorem mem_last {l : List (List ByteArray × List Ru × Int)} (h : l ≠ []) : lastG l ∈ l := by
  unfold lastG
  rw [List.getLast?_eq_some_getLast h]
  exact List.getLast_mem h
theorem sz_mono {S : Nr} {n m : Nat} (h : NrSz S n) (hm : n ≤ m) : NrSz S m := ⟨by have := h.1; omega, fun g hg => by have := h.2 g hg; exact ⟨by omega, this.2⟩⟩
theorem sz_add {S : Nr} {x : Lk} {n : Nat} (h : NrSz S n) (hx : LkOk x) : NrSz (addF S x) (n + 1) := by
  have h0 := sz_mono h (Nat.le_succ n)
  obtain ⟨h1, h2⟩ := h
  have hd : ∀ g : List ByteArray × List Ru × Int, (S.gs.dropLast ++ [g]).length ≤ n + 1 := by intro g; simp; omega
  have hm : ∀ (g : List ByteArray × List Ru × Int), (g.1.length ≤ n + 1 ∧ (∀ s ∈ g.1, s.size ≤ 8) ∧ g.2.1.length ≤ 6 ∧ (∀ r ∈ g.2.1, r.path.size ≤ 16 ∧ ruleL r.path.data.toList = true) ∧ 0 ≤ g.2.2 ∧ g.2.2 ≤ 20 ∧ g.1 ≠ []) → ∀ u ∈ S.gs.dropLast ++ [g], u.1.length ≤ n + 1 ∧ (∀ s ∈ u.1, s.size ≤ 8) ∧ u.2.1.length ≤ 6 ∧ (∀ r ∈ u.2.1, r.path.size ≤ 16 ∧ ruleL r.path.data.toList = true) ∧ 0 ≤ u.2.2 ∧ u.2.2 ≤ 20 ∧ u.1 ≠ [] := by
    intro g hg u hu
    rcases List.mem_append.1 hu with hu | hu
    · exact h0.2 u (List.dropLast_subset _ hu)
    · simp at hu; subst hu; exact hg
  cases x with
  | c s =>
    have hs : s.size ≤ 8 := hx
    rw [add_c]
    by_cases hc : S.gs = [] ∨ S.bg = true
    · rw [if_pos hc]
      refine ⟨by simp; omega, fun u hu => ?_⟩
      rcases List.mem_append.1 hu with hu | hu
      · exact h0.2 u hu
      · simp at hu; subst hu
        exact ⟨by simp, by simpa using hs, by simp, by simp, by simp, by simp, by simp⟩
    · rw [if_neg hc]
      have hl := h2 _ (mem_last (fun e => hc (Or.inl e)))
      refine ⟨hd _, hm _ ⟨by simp; omega, ?_, hl.2.2.1, hl.2.2.2.1, hl.2.2.2.2.1, hl.2.2.2.2.2.1, by simp⟩⟩
      intro u hu
      rcases List.mem_append.1 hu with hu | hu
      · exact hl.2.1 u hu
      · simp at hu; subst hu; exact hs
  | r x =>
    rw [add_r]
    by_cases hc : S.gs = []
    · rw [if_pos hc]; exact h0
    · rw [if_neg hc]
      have hl := h2 _ (mem_last hc)
      split
      · rename_i h6
        refine ⟨hd _, hm _ ⟨by dsimp only; omega, hl.2.1, by simp; omega, ?_, hl.2.2.2.2.1, hl.2.2.2.2.2.1, hl.2.2.2.2.2.2⟩⟩
        intro u hu
        rcases List.mem_append.1 hu with hu | hu
        · exact hl.2.2.2.1 u hu
        · simp at hu; subst hu; exact hx
      · exact h0
  | t k =>
    have hk : k ≤ 20 := hx
    rw [add_t]
    by_cases hc : S.gs = []
    · rw [if_pos hc]; exact h0
    · rw [if_neg hc]
      have hl := h2 _ (mem_last hc)
      exact ⟨hd _, hm _ ⟨by dsimp only; omega, hl.2.1, hl.2.2.1, hl.2.2.2.1, by dsimp only; omega, by dsimp only; omega, hl.2.2.2.2.2.2⟩⟩
theorem sz_read (f : ByteArray → Option Lk) (hf : ∀ s x, f s = some x → LkOk x) (L : List ByteArray) : ∀ k, NrSz (readTo f L k) k := by
  intro k
  induction k with
  | zero => exact ⟨Nat.le_refl _, fun g hg => by cases hg⟩
  | succ k ih =>
    show NrSz (match L[k]? with | some s => stepF (readTo f L k) (f s) | none => readTo f L k) (k + 1)
    split
    · cases hx : f _ with
      | none => exact sz_mono ih (Nat.le_succ k)
      | some x => exact sz_add ih (hf _ _ hx)
    · exact sz_mono ih (Nat.le_succ k)
/-- what a notice says -/
def noticeF (s : ByteArray) : List (List ByteArray × List Ru × Int) := (readTo lineF (splitS 10 s) (min 40 (splitS 10 s).length)).gs
/-- of the model: a word without a blank is a word, and nothing behind it -/
def lineM (s : ByteArray) : Option Lk := saysF (wordF s) (restF s)
theorem line_same {s : ByteArray} (h : s.data.toList ≠ wWait) : lineM s = lineF s := by
  unfold lineM lineF
  cases hb : blankF s with
  | true => rfl
  | false =>
    have hc : cutL 32 s.data.toList = (s.data.toList, [], false) := by
      have : ∀ l : List UInt8, (cutL 32 l).2.2 = false → cutL 32 l = (l, [], false) := by
        intro l
        induction l with
        | nil => intro _; rfl
        | cons b r ih =>
          intro h2
          rw [cut_cons] at h2 ⊢
          split at h2
          · cases h2
          · rename_i hb; rw [if_neg hb, ih h2]
      exact this _ hb
    have hw : wordF s = bs s.data.toList := by unfold wordF; rw [hc]
    have hr : restF s = bs [] := by unfold restF; rw [hc]
    unfold saysF
    rw [hw, hr]
    have h1 : callB (bs []) = false := by decide +kernel
    have h2 : ruleL (bs []).data.toList = false := by decide +kernel
    have h3 : (bs s.data.toList).data.toList = s.data.toList := by unfold bs; simp
    rw [h1, h2, h3]
    simp [h]
end Go.Proofs.YtacelbhoccckbaaDoor.NrM
