/- Several texts in one: GrpMath, NtMath, NrMath, NrLn, NrTx, NrBk, Has3, Has4. -/
import Derived.Test.YtiennniclkbjlaaGreatDoorLetsMath
import Derived.Test.YtiennniclkbjlaaGreatDoorRead1Pk
import Derived.Test.YtiennniclkbjlaaGreatDoorReadMath
import Derived.Test.YtiennniclkbjlaaGreatDoorHasMath
import Derived.Test.YtiennniclkbjlaaGreatDoorEscLeafPk
import Derived.Test.YtiennniclkbjlaaGreatDoorStrsPk
/- Groups of a notice: how they lie in cells, and when they are a notice. -/
namespace Go.Proofs.YtiennniclkbjlaaGreatDoor.GrM
open Go.RowKit Go.Proofs.YtiennniclkbjlaaGreatDoor.EscM Go.Proofs.YtiennniclkbjlaaGreatDoor.RuleM Go.Proofs.YtiennniclkbjlaaGreatDoor.St Go.Proofs.YtiennniclkbjlaaGreatDoor.RR Go.Proofs.YtiennniclkbjlaaGreatDoor.LetM Go.Proofs.YtiennniclkbjlaaGreatDoor.Nm

/-- a group, and where its lists lie -/
structure Gr where
  nm : List ByteArray
  na : Option Addr
  nc : Nat
  ru : List Ru
  ra : Option Addr
  rc : Nat
  wait : Int
def FGr : Frm Gr where
  enc g := [.slice g.na g.nm.length g.nc, .slice g.ra g.ru.length g.rc, .int .i64 g.wait]
  k := 3
  pos := by decide
  len _ := rfl
  one _ u hu := by
    simp only [List.mem_cons, List.not_mem_nil, or_false] at hu
    rcases hu with rfl | rfl | rfl <;> rfl
theorem gr_at {w : World} {a0 : Option Addr} {cap : Nat} {L : List Gr} (h : IsRows FGr w a0 cap L) {i : Nat} (hi : i < L.length) : ∃ b off, a0 = some ⟨b, off, none⟩ ∧ w.cell? ⟨b, off + i * 3, none⟩ = some (.slice L[i].na L[i].nm.length L[i].nc) ∧ w.cell? ⟨b, off + i * 3 + 1, none⟩ = some (.slice L[i].ra L[i].ru.length L[i].rc) ∧ w.cell? ⟨b, off + i * 3 + 2, none⟩ = some (.int .i64 L[i].wait) := by
  obtain ⟨b, off, e, hc⟩ := h.at hi
  exact ⟨b, off, e, hc 0 _ rfl, hc 1 _ rfl, hc 2 _ rfl⟩
/-- its lists lie there -/
def GrAt (w : World) (g : Gr) : Prop := IsStrs w g.na g.nc g.nm ∧ IsRows FRu w g.ra g.rc g.ru
def GrsAt (w : World) (L : List Gr) : Prop := ∀ g ∈ L, GrAt w g
theorem GrAt.keep {w w' : World} {g : Gr} (h : GrAt w g) (hb : ∀ k, k < w.heap.size → w'.heap[k]? = w.heap[k]?) : GrAt w' g := ⟨h.1.keep hb, h.2.keep hb⟩
theorem GrAt.below {w w' : World} {g : Gr} (h : GrAt w g) (hb : Below w.heap.size w w') : GrAt w' g := ⟨h.1.below hb, h.2.below hb⟩
theorem GrsAt.keep {w w' : World} {L : List Gr} (h : GrsAt w L) (hb : ∀ k, k < w.heap.size → w'.heap[k]? = w.heap[k]?) : GrsAt w' L := fun g hg => (h g hg).keep hb
theorem GrsAt.below {w w' : World} {L : List Gr} (h : GrsAt w L) (hb : Below w.heap.size w w') : GrsAt w' L := fun g hg => (h g hg).below hb
/-- none of its parts is too great to be gone by -/
def GrSz (g : Gr) : Prop := g.nm.length ≤ 1048576 ∧ g.ru.length ≤ 1048576 ∧ (∀ s ∈ g.nm, s.size ≤ maxLen) ∧ ∀ r ∈ g.ru, r.path.size ≤ maxLen
/-- what a group says, without where it lies -/
def grp (g : Gr) : List ByteArray × List Ru × Int := (g.nm, g.ru, g.wait)

/-- is a group one of a notice? -/
def grpB (g : Gr) : Bool := g.nm.all callB && decide (g.ru.length ≤ 6) && g.ru.all (fun r => ruleL r.path.data.toList) && decide (0 ≤ g.wait ∧ g.wait ≤ 20) && (decide (0 < g.ru.length) || decide (0 < g.wait)) && decide (0 < g.nm.length)
def linesN (L : List Gr) : Nat := (L.map fun g => g.nm.length + g.ru.length + 1).sum
def noticeB (L : List Gr) : Bool := L.all grpB && decide (linesN L ≤ 40)
theorem lines_snoc {L : List Gr} {k : Nat} (h : k < L.length) : linesN (L.take (k + 1)) = linesN (L.take k) + (L[k].nm.length + L[k].ru.length + 1) := by
  unfold linesN
  rw [List.take_succ_eq_append_getElem h, List.map_append, List.sum_append]; simp
theorem all_snoc {α : Type} {L : List α} {P : α → Bool} {k : Nat} (h : k < L.length) (h1 : (L.take k).all P = true) (h2 : P L[k] = true) : (L.take (k + 1)).all P = true := by
  rw [List.take_succ_eq_append_getElem h, List.all_append, h1]; simp [h2]
theorem all_no {α : Type} {L : List α} {P : α → Bool} {k : Nat} (h : k < L.length) (h2 : P L[k] = false) : L.all P = false := by
  cases ha : L.all P with
  | false => rfl
  | true => have := List.all_eq_true.1 ha L[k] (List.getElem_mem h); rw [h2] at this; cases this
theorem all_end {α : Type} {L : List α} {P : α → Bool} {k : Nat} (h : L.length ≤ k) (h1 : (L.take k).all P = true) : L.all P = true := by
  rwa [List.take_of_length_le h] at h1
theorem lines_le (L : List Gr) (n : Nat) (h : ∀ g ∈ L, g.nm.length + g.ru.length + 1 ≤ n) : linesN L ≤ L.length * n := by
  induction L with
  | nil => simp [linesN]
  | cons x r ih =>
    have h1 := h x (by simp)
    have h2 := ih fun g hg => h g (List.mem_cons_of_mem _ hg)
    have e : linesN (x :: r) = (x.nm.length + x.ru.length + 1) + linesN r := by simp [linesN]
    rw [e, List.length_cons, Nat.add_mul]; omega
end Go.Proofs.YtiennniclkbjlaaGreatDoor.GrM
/- How a notice is written: plain mathematics. -/
namespace Go.Proofs.YtiennniclkbjlaaGreatDoor.NtM
open Go.RowKit Go.Proofs.YtiennniclkbjlaaGreatDoor.EscM Go.Proofs.YtiennniclkbjlaaGreatDoor.RuleM Go.Proofs.YtiennniclkbjlaaGreatDoor.St Go.Proofs.YtiennniclkbjlaaGreatDoor.RR Go.Proofs.YtiennniclkbjlaaGreatDoor.LetM Go.Proofs.YtiennniclkbjlaaGreatDoor.Nm Go.Proofs.YtiennniclkbjlaaGreatDoor.GrM

def nameLn (s : ByteArray) : List UInt8 := [99, 97, 108, 108, 101, 114, 32] ++ s.data.toList ++ [10]
def wordL (b : Bool) : List UInt8 := if b then [108, 101, 116, 32] else [98, 97, 114, 32]
def ruleLn (r : Ru) : List UInt8 := wordL r.lt ++ r.path.data.toList ++ [10]
def figL (n : Nat) : UInt8 := UInt8.ofNat (48 + n)
def decL (n : Nat) : List UInt8 := if n < 10 then [figL n] else [figL (n / 10), figL (n % 10)]
def waitLn (n : Int) : List UInt8 := if 0 < n then [119, 97, 105, 116, 32] ++ decL n.toNat ++ [10] else []
def ntNames (l : List ByteArray) : List UInt8 := (l.map nameLn).flatten
def ntRules (l : List Ru) : List UInt8 := (l.map ruleLn).flatten
def ntGrp (g : Gr) : List UInt8 := ntNames g.nm ++ ntRules g.ru ++ waitLn g.wait
def ntText (L : List Gr) : List UInt8 := (L.map ntGrp).flatten
theorem names_snoc {l : List ByteArray} {k : Nat} (h : k < l.length) : ntNames (l.take (k + 1)) = ntNames (l.take k) ++ nameLn l[k] := by
  unfold ntNames; rw [List.take_succ_eq_append_getElem h, List.map_append, List.flatten_append]; simp only [List.map_cons, List.map_nil, List.flatten_cons, List.flatten_nil, List.append_nil]
theorem rules_snoc {l : List Ru} {k : Nat} (h : k < l.length) : ntRules (l.take (k + 1)) = ntRules (l.take k) ++ ruleLn l[k] := by
  unfold ntRules; rw [List.take_succ_eq_append_getElem h, List.map_append, List.flatten_append]; simp only [List.map_cons, List.map_nil, List.flatten_cons, List.flatten_nil, List.append_nil]
theorem text_snoc {l : List Gr} {k : Nat} (h : k < l.length) : ntText (l.take (k + 1)) = ntText (l.take k) ++ ntGrp l[k] := by
  unfold ntText; rw [List.take_succ_eq_append_getElem h, List.map_append, List.flatten_append]; simp only [List.map_cons, List.map_nil, List.flatten_cons, List.flatten_nil, List.append_nil]
/-- no part of it is too long -/
def GrShort (g : Gr) : Prop := (∀ s ∈ g.nm, s.size ≤ 8) ∧ (∀ r ∈ g.ru, r.path.size ≤ 16) ∧ 0 ≤ g.wait ∧ g.wait ≤ 20
theorem names_len {l : List ByteArray} (h : ∀ s ∈ l, s.size ≤ 8) : (ntNames l).length ≤ 21 * l.length := by
  induction l with
  | nil => simp [ntNames]
  | cons x r ih =>
    have h1 := h x (by simp)
    have h2 := ih fun s hs => h s (List.mem_cons_of_mem _ hs)
    have e : ntNames (x :: r) = nameLn x ++ ntNames r := by simp [ntNames]
    have e2 : (nameLn x).length = 8 + x.size := by simp [nameLn]; omega
    rw [e, List.length_append, e2, List.length_cons]; omega
theorem rules_len {l : List Ru} (h : ∀ r ∈ l, r.path.size ≤ 16) : (ntRules l).length ≤ 21 * l.length := by
  induction l with
  | nil => simp [ntRules]
  | cons x r ih =>
    have h1 := h x (by simp)
    have h2 := ih fun s hs => h s (List.mem_cons_of_mem _ hs)
    have e : ntRules (x :: r) = ruleLn x ++ ntRules r := by simp [ntRules]
    have e2 : (ruleLn x).length ≤ 5 + x.path.size := by unfold ruleLn wordL; split <;> simp <;> omega
    rw [e, List.length_append, List.length_cons]; omega
theorem dec_len (n : Nat) : (decL n).length ≤ 2 := by unfold decL; split <;> simp
theorem wait_len (n : Int) : (waitLn n).length ≤ 8 := by
  unfold waitLn
  split
  · have := dec_len n.toNat
    simp; omega
  · simp
theorem grp_len {g : Gr} (h : GrShort g) : (ntGrp g).length ≤ 21 * (g.nm.length + g.ru.length + 1) := by
  have h1 := names_len h.1
  have h2 := rules_len h.2.1
  have h3 := wait_len g.wait
  unfold ntGrp
  rw [List.length_append, List.length_append]; omega
theorem text_len {L : List Gr} (h : ∀ g ∈ L, GrShort g) : (ntText L).length ≤ 21 * linesN L := by
  induction L with
  | nil => simp [ntText, linesN]
  | cons x r ih =>
    have h1 := grp_len (h x (by simp))
    have h2 := ih fun s hs => h s (List.mem_cons_of_mem _ hs)
    have e : ntText (x :: r) = ntGrp x ++ ntText r := by simp [ntText]
    have e2 : linesN (x :: r) = (x.nm.length + x.ru.length + 1) + linesN r := by simp [linesN]
    rw [e, List.length_append, e2]; omega
theorem lines_take (L : List Gr) (k : Nat) : linesN (L.take k) ≤ linesN L := by
  induction L generalizing k with
  | nil => simp [linesN]
  | cons x r ih =>
    cases k with
    | zero => simp [linesN]
    | succ k =>
      have := ih k
      have e2 : linesN (x :: r) = (x.nm.length + x.ru.length + 1) + linesN r := by simp [linesN]
      have e3 : linesN (x :: r.take k) = (x.nm.length + x.ru.length + 1) + linesN (r.take k) := by simp [linesN]
      rw [List.take_succ_cons, e2, e3]; omega
theorem call_len {s : ByteArray} (h : callB s = true) : s.size ≤ 8 := by
  unfold callB at h
  rw [Bool.or_eq_true] at h
  rcases h with h | h
  · have : s.toList = [42] := by simpa using h
    have h2 : s.data.toList = [42] := by rwa [ByteArray.toList_eq] at this
    have h3 := congrArg List.length h2
    simp at h3
    omega
  · unfold nameB at h
    simp at h
    omega
theorem rule_len {l : List UInt8} (h : ruleL l = true) : l.length ≤ 16 := by
  unfold ruleL at h
  simp at h
  omega
theorem grp_short {g : Gr} (h : grpB g = true) : GrShort g := by
  unfold grpB at h
  simp only [Bool.and_eq_true, List.all_eq_true, decide_eq_true_eq] at h
  obtain ⟨⟨⟨⟨⟨h1, _⟩, h2⟩, h3⟩, _⟩, _⟩ := h
  exact ⟨fun s hs => call_len (h1 s hs), fun r hr => by have := rule_len (h2 r hr); simpa using this, h3⟩
theorem notice_short {L : List Gr} (h : noticeB L = true) : (∀ g ∈ L, GrShort g) ∧ linesN L ≤ 40 := by
  unfold noticeB at h
  simp only [Bool.and_eq_true, List.all_eq_true, decide_eq_true_eq] at h
  exact ⟨fun g hg => grp_short (h.1 g hg), h.2⟩
/-- while the k-th group is written -/
theorem lines_room {L : List Gr} {k : Nat} (h : linesN L ≤ 40) (hk : k < L.length) : linesN (L.take k) + (L[k].nm.length + L[k].ru.length + 1) ≤ 40 := by
  have := lines_take L (k + 1)
  rw [lines_snoc hk] at this; omega
/-- what NoticeText says -/
def ntS (L : List Gr) : ByteArray := if noticeB L then ⟨(ntText L).toArray⟩ else ⟨#[]⟩
end Go.Proofs.YtiennniclkbjlaaGreatDoor.NtM
/- How a notice is read: plain mathematics. -/
namespace Go.Proofs.YtiennniclkbjlaaGreatDoor.NrM
open Go.RowKit Go.Proofs.YtiennniclkbjlaaGreatDoor.EscM Go.Proofs.YtiennniclkbjlaaGreatDoor.RuleM Go.Proofs.YtiennniclkbjlaaGreatDoor.ReadM Go.Proofs.YtiennniclkbjlaaGreatDoor.St Go.Proofs.YtiennniclkbjlaaGreatDoor.RR Go.Proofs.YtiennniclkbjlaaGreatDoor.LetM Go.Proofs.YtiennniclkbjlaaGreatDoor.Nm Go.Proofs.YtiennniclkbjlaaGreatDoor.GrM Go.Proofs.YtiennniclkbjlaaGreatDoor.NtM

def wCall : List UInt8 := [99, 97, 108, 108, 101, 114]
def wLet : List UInt8 := [108, 101, 116]
def wBar : List UInt8 := [98, 97, 114]
def wWait : List UInt8 := [119, 97, 105, 116]
/-- figures, gone by one behind the other; none, if one is no figure -/
def numGo : Nat → List UInt8 → Option Nat
  | n, [] => some n
  | n, b :: r => if 48 ≤ (b.toNat : Int) ∧ (b.toNat : Int) ≤ 57 then numGo (min (n * 10 + (b.toNat - 48)) 20) r else none
def numF (l : List UInt8) : Nat := (numGo 0 l).getD 0
theorem num_go_le : ∀ (l : List UInt8) (n : Nat), n ≤ 20 → (numGo n l).getD 0 ≤ 20 := by
  intro l
  induction l with
  | nil => intro n h; exact h
  | cons b r ih =>
    intro n h
    unfold numGo
    split
    · exact ih _ (Nat.min_le_right _ _)
    · exact Nat.zero_le _
theorem num_le (l : List UInt8) : numF l ≤ 20 := num_go_le l 0 (by omega)
theorem num_take {l : List UInt8} {k n : Nat} (hk : k < l.length) (h : numF l = (numGo n (l.drop k)).getD 0) : (48 ≤ (l[k].toNat : Int) ∧ (l[k].toNat : Int) ≤ 57 → numF l = (numGo (min (n * 10 + (l[k].toNat - 48)) 20) (l.drop (k + 1))).getD 0) ∧ (¬ (48 ≤ (l[k].toNat : Int) ∧ (l[k].toNat : Int) ≤ 57) → numF l = 0) := by
  rw [List.drop_eq_getElem_cons hk] at h
  unfold numGo at h
  constructor
  · intro h1; rw [if_pos h1] at h; exact h
  · intro h1; rw [if_neg h1] at h; exact h

/-- a line of a notice that counts -/
inductive Lk
  | c (s : ByteArray)
  | r (x : Ru)
  | t (n : Nat)
/-- what a word, and what stands behind its blank, say -/
def saysF (wd rs : ByteArray) : Option Lk :=
  if wd.data.toList = wCall ∧ callB rs = true then some (.c rs)
  else if wd.data.toList = wLet ∧ ruleL rs.data.toList = true then some (.r ⟨true, rs⟩)
  else if wd.data.toList = wBar ∧ ruleL rs.data.toList = true then some (.r ⟨false, rs⟩)
  else if wd.data.toList = wWait then some (.t (numF rs.data.toList))
  else none
def wordF (s : ByteArray) : ByteArray := bs (cutL 32 s.data.toList).1
def restF (s : ByteArray) : ByteArray := bs (cutL 32 s.data.toList).2.1
def blankF (s : ByteArray) : Bool := (cutL 32 s.data.toList).2.2
/-- of the program: a line without a blank is none -/
def lineF (s : ByteArray) : Option Lk := if blankF s then saysF (wordF s) (restF s) else none
/-- what was read so far: groups, and whether the last one's rules have begun -/
structure Nr where
  gs : List (List ByteArray × List Ru × Int)
  bg : Bool
def lastG (l : List (List ByteArray × List Ru × Int)) : List ByteArray × List Ru × Int := l.getLast?.getD ([], [], 0)
def addF (S : Nr) : Lk → Nr
  | .c s => if S.gs = [] ∨ S.bg = true then ⟨S.gs ++ [([s], [], 0)], false⟩ else ⟨S.gs.dropLast ++ [((lastG S.gs).1 ++ [s], (lastG S.gs).2.1, (lastG S.gs).2.2)], false⟩
  | .r x => if S.gs = [] then S else if (lastG S.gs).2.1.length < 6 then ⟨S.gs.dropLast ++ [((lastG S.gs).1, (lastG S.gs).2.1 ++ [x], (lastG S.gs).2.2)], true⟩ else ⟨S.gs, true⟩
  | .t n => if S.gs = [] then S else ⟨S.gs.dropLast ++ [((lastG S.gs).1, (lastG S.gs).2.1, (n : Int))], true⟩
theorem add_c (S : Nr) (s : ByteArray) : addF S (.c s) = if S.gs = [] ∨ S.bg = true then ⟨S.gs ++ [([s], [], 0)], false⟩ else ⟨S.gs.dropLast ++ [((lastG S.gs).1 ++ [s], (lastG S.gs).2.1, (lastG S.gs).2.2)], false⟩ := rfl
theorem add_r (S : Nr) (x : Ru) : addF S (.r x) = if S.gs = [] then S else if (lastG S.gs).2.1.length < 6 then ⟨S.gs.dropLast ++ [((lastG S.gs).1, (lastG S.gs).2.1 ++ [x], (lastG S.gs).2.2)], true⟩ else ⟨S.gs, true⟩ := rfl
theorem add_t (S : Nr) (n : Nat) : addF S (.t n) = if S.gs = [] then S else ⟨S.gs.dropLast ++ [((lastG S.gs).1, (lastG S.gs).2.1, (n : Int))], true⟩ := rfl
def stepF (S : Nr) (o : Option Lk) : Nr := match o with | some x => addF S x | none => S
def nr0 : Nr := ⟨[], false⟩
/-- what the first k lines say -/
def readTo (f : ByteArray → Option Lk) (L : List ByteArray) : Nat → Nr
  | 0 => nr0
  | k + 1 => match L[k]? with | some s => stepF (readTo f L k) (f s) | none => readTo f L k
theorem read_step {f : ByteArray → Option Lk} {L : List ByteArray} {k : Nat} (h : k < L.length) : readTo f L (k + 1) = stepF (readTo f L k) (f L[k]) := by
  show (match L[k]? with | some s => stepF (readTo f L k) (f s) | none => readTo f L k) = _
  rw [List.getElem?_eq_getElem h]
/-- no group, no rules; and what has rules has begun -/
def NrOk (S : Nr) : Prop := (S.gs = [] → S.bg = false) ∧ ((lastG S.gs).2.1 ≠ [] → S.bg = true)
theorem last_snoc (l : List (List ByteArray × List Ru × Int)) (g : List ByteArray × List Ru × Int) : lastG (l ++ [g]) = g := by unfold lastG; simp
theorem last_nil : lastG [] = ([], [], 0) := rfl
theorem ok_add {S : Nr} {x : Lk} (h : NrOk S) : NrOk (addF S x) := by
  obtain ⟨h1, h2⟩ := h
  cases x with
  | c s =>
    rw [add_c]
    by_cases hc : S.gs = [] ∨ S.bg = true
    · rw [if_pos hc]
      exact ⟨fun _ => rfl, fun hn => by rw [last_snoc] at hn; exact absurd rfl hn⟩
    · rw [if_neg hc]
      refine ⟨fun _ => rfl, fun hn => ?_⟩
      rw [last_snoc] at hn
      exact absurd (h2 hn) (fun e => hc (Or.inr e))
  | r x =>
    rw [add_r]
    by_cases hc : S.gs = []
    · rw [if_pos hc]; exact ⟨h1, h2⟩
    · rw [if_neg hc]
      split
      · exact ⟨fun e => by simp at e, fun _ => rfl⟩
      · exact ⟨fun e => absurd e hc, fun _ => rfl⟩
  | t n =>
    rw [add_t]
    by_cases hc : S.gs = []
    · rw [if_pos hc]; exact ⟨h1, h2⟩
    · rw [if_neg hc]
      exact ⟨fun e => by simp at e, fun _ => rfl⟩
theorem ok_step {S : Nr} {o : Option Lk} (h : NrOk S) : NrOk (stepF S o) := by
  cases o with
  | none => exact h
  | some x => exact ok_add h
theorem ok_read (f : ByteArray → Option Lk) (L : List ByteArray) : ∀ k, NrOk (readTo f L k) := by
  intro k
  induction k with
  | zero => exact ⟨fun _ => rfl, fun h => absurd rfl h⟩
  | succ k ih =>
    show NrOk (match L[k]? with | some s => stepF (readTo f L k) (f s) | none => readTo f L k)
    split
    · exact ok_step ih
    · exact ih
/-- how great what is read can be -/
def NrSz (S : Nr) (n : Nat) : Prop := S.gs.length ≤ n ∧ ∀ g ∈ S.gs, g.1.length ≤ n ∧ (∀ s ∈ g.1, s.size ≤ 8) ∧ g.2.1.length ≤ 6 ∧ (∀ r ∈ g.2.1, r.path.size ≤ 16 ∧ ruleL r.path.data.toList = true) ∧ 0 ≤ g.2.2 ∧ g.2.2 ≤ 20 ∧ g.1 ≠ []
/-- such a line as can be read -/
def LkOk : Lk → Prop
  | .c s => s.size ≤ 8
  | .r x => x.path.size ≤ 16 ∧ ruleL x.path.data.toList = true
  | .t n => n ≤ 20
theorem says_ok {wd rs : ByteArray} {x : Lk} (h : saysF wd rs = some x) : LkOk x := by
  unfold saysF at h
  split at h
  · rename_i hc; injection h with h; subst h; exact call_len hc.2
  · split at h
    · rename_i hc; injection h with h; subst h; exact ⟨by have := rule_len hc.2; simpa using this, hc.2⟩
    · split at h
      · rename_i hc; injection h with h; subst h; exact ⟨by have := rule_len hc.2; simpa using this, hc.2⟩
      · split at h
        · injection h with h; subst h; exact num_le _
        · cases h
theorem line_ok {s : ByteArray} {x : Lk} (h : lineF s = some x) : LkOk x := by
  unfold lineF at h
  split at h
  · exact says_ok h
  · cases h
theorem mem_last {l : List (List ByteArray × List Ru × Int)} (h : l ≠ []) : lastG l ∈ l := by
  unfold lastG
  rw [List.getLast?_eq_some_getLast h]
  exact List.getLast_mem h
theorem sz_mono {S : Nr} {n m : Nat} (h : NrSz S n) (hm : n ≤ m) : NrSz S m := ⟨by have := h.1; omega, fun g hg => by have := h.2 g hg; exact ⟨by omega, this.2⟩⟩
theorem sz_add {S : Nr} {x : Lk} {n : Nat} (h : NrSz S n) (hx : LkOk x) : NrSz (addF S x) (n + 1) := by
  have h0 := sz_mono h (Nat.le_succ n)
  obtain ⟨h1, h2⟩ := h
  have hd : ∀ g : List ByteArray × List Ru × Int, (S.gs.dropLast ++ [g]).length ≤ n + 1 := by intro g; simp; omega
  have hm : ∀ (g : List ByteArray × List Ru × Int), (g.1.length ≤ n + 1 ∧ (∀ s ∈ g.1, s.size ≤ 8) ∧ g.2.1.length ≤ 6 ∧ (∀ r ∈ g.2.1, r.path.size ≤ 16 ∧ ruleL r.path.data.toList = true) ∧ 0 ≤ g.2.2 ∧ g.2.2 ≤ 20 ∧ g.1 ≠ []) → ∀ u ∈ S.gs.dropLast ++ [g], u.1.length ≤ n + 1 ∧ (∀ s ∈ u.1, s.size ≤ 8) ∧ u.2.1.length ≤ 6 ∧ (∀ r ∈ u.2.1, r.path.size ≤ 16 ∧ ruleL r.path.data.toList = true) ∧ 0 ≤ u.2.2 ∧ u.2.2 ≤ 20 ∧ u.1 ≠ [] := by
    intro g hg u hu
    rcases List.mem_append.1 hu with hu | hu
    · exact h0.2 u (List.dropLast_subset _ hu)
    · simp at hu; subst hu; exact hg
  cases x with
  | c s =>
    have hs : s.size ≤ 8 := hx
    rw [add_c]
    by_cases hc : S.gs = [] ∨ S.bg = true
    · rw [if_pos hc]
      refine ⟨by simp; omega, fun u hu => ?_⟩
      rcases List.mem_append.1 hu with hu | hu
      · exact h0.2 u hu
      · simp at hu; subst hu
        exact ⟨by simp, by simpa using hs, by simp, by simp, by simp, by simp, by simp⟩
    · rw [if_neg hc]
      have hl := h2 _ (mem_last (fun e => hc (Or.inl e)))
      refine ⟨hd _, hm _ ⟨by simp; omega, ?_, hl.2.2.1, hl.2.2.2.1, hl.2.2.2.2.1, hl.2.2.2.2.2.1, by simp⟩⟩
      intro u hu
      rcases List.mem_append.1 hu with hu | hu
      · exact hl.2.1 u hu
      · simp at hu; subst hu; exact hs
  | r x =>
    rw [add_r]
    by_cases hc : S.gs = []
    · rw [if_pos hc]; exact h0
    · rw [if_neg hc]
      have hl := h2 _ (mem_last hc)
      split
      · rename_i h6
        refine ⟨hd _, hm _ ⟨by dsimp only; omega, hl.2.1, by simp; omega, ?_, hl.2.2.2.2.1, hl.2.2.2.2.2.1, hl.2.2.2.2.2.2⟩⟩
        intro u hu
        rcases List.mem_append.1 hu with hu | hu
        · exact hl.2.2.2.1 u hu
        · simp at hu; subst hu; exact hx
      · exact h0
  | t k =>
    have hk : k ≤ 20 := hx
    rw [add_t]
    by_cases hc : S.gs = []
    · rw [if_pos hc]; exact h0
    · rw [if_neg hc]
      have hl := h2 _ (mem_last hc)
      exact ⟨hd _, hm _ ⟨by dsimp only; omega, hl.2.1, hl.2.2.1, hl.2.2.2.1, by dsimp only; omega, by dsimp only; omega, hl.2.2.2.2.2.2⟩⟩
theorem sz_read (f : ByteArray → Option Lk) (hf : ∀ s x, f s = some x → LkOk x) (L : List ByteArray) : ∀ k, NrSz (readTo f L k) k := by
  intro k
  induction k with
  | zero => exact ⟨Nat.le_refl _, fun g hg => by cases hg⟩
  | succ k ih =>
    show NrSz (match L[k]? with | some s => stepF (readTo f L k) (f s) | none => readTo f L k) (k + 1)
    split
    · cases hx : f _ with
      | none => exact sz_mono ih (Nat.le_succ k)
      | some x => exact sz_add ih (hf _ _ hx)
    · exact sz_mono ih (Nat.le_succ k)
/-- what a notice says -/
def noticeF (s : ByteArray) : List (List ByteArray × List Ru × Int) := (readTo lineF (splitS 10 s) (min 40 (splitS 10 s).length)).gs
/-- of the model: a word without a blank is a word, and nothing behind it -/
def lineM (s : ByteArray) : Option Lk := saysF (wordF s) (restF s)
theorem line_same {s : ByteArray} (h : s.data.toList ≠ wWait) : lineM s = lineF s := by
  unfold lineM lineF
  cases hb : blankF s with
  | true => rfl
  | false =>
    have hc : cutL 32 s.data.toList = (s.data.toList, [], false) := by
      have : ∀ l : List UInt8, (cutL 32 l).2.2 = false → cutL 32 l = (l, [], false) := by
        intro l
        induction l with
        | nil => intro _; rfl
        | cons b r ih =>
          intro h2
          rw [cut_cons] at h2 ⊢
          split at h2
          · cases h2
          · rename_i hb; rw [if_neg hb, ih h2]
      exact this _ hb
    have hw : wordF s = bs s.data.toList := by unfold wordF; rw [hc]
    have hr : restF s = bs [] := by unfold restF; rw [hc]
    unfold saysF
    rw [hw, hr]
    have h1 : callB (bs []) = false := by decide +kernel
    have h2 : ruleL (bs []).data.toList = false := by decide +kernel
    have h3 : (bs s.data.toList).data.toList = s.data.toList := by unfold bs; simp
    rw [h1, h2, h3]
    simp [h]
end Go.Proofs.YtiennniclkbjlaaGreatDoor.NrM
/- Lines of a notice, written one behind the other: plain mathematics. -/
namespace Go.Proofs.YtiennniclkbjlaaGreatDoor.NrE
open Go.RowKit Go.Proofs.YtiennniclkbjlaaGreatDoor.EscM Go.Proofs.YtiennniclkbjlaaGreatDoor.ReadM Go.Proofs.YtiennniclkbjlaaGreatDoor.St Go.Proofs.YtiennniclkbjlaaGreatDoor.RR Go.Proofs.YtiennniclkbjlaaGreatDoor.LetM Go.Proofs.YtiennniclkbjlaaGreatDoor.Nm Go.Proofs.YtiennniclkbjlaaGreatDoor.GrM Go.Proofs.YtiennniclkbjlaaGreatDoor.NrM

/-- such a line as is drawn -/
def lnP (s : ByteArray) : Bool := decide (s.size ≤ 20) && s.data.toList.all (fun b => !(b == 10)) && !(s.data.toList == wWait)
def noNl (s : ByteArray) : Bool := decide (s.size ≤ 16) && s.data.toList.all (fun b => !(b == 10))
theorem ln_bar {t : ByteArray} (h : noNl t = true) : lnP (⟨#[98, 97, 114, 32]⟩ ++ t) = true := by
  unfold noNl at h
  unfold lnP wWait
  simp only [Bool.and_eq_true, decide_eq_true_eq] at h ⊢
  refine ⟨⟨by rw [ByteArray.size_append]; show 4 + t.size ≤ 20; omega, ?_⟩, ?_⟩
  · simp only [ByteArray.data_append, Array.toList_append, List.all_append, h.2, Bool.and_true]; decide
  · simp
theorem ln_let {t : ByteArray} (h : noNl t = true) : lnP (⟨#[108, 101, 116, 32]⟩ ++ t) = true := by
  unfold noNl at h
  unfold lnP wWait
  simp only [Bool.and_eq_true, decide_eq_true_eq] at h ⊢
  refine ⟨⟨by rw [ByteArray.size_append]; show 4 + t.size ≤ 20; omega, ?_⟩, ?_⟩
  · simp only [ByteArray.data_append, Array.toList_append, List.all_append, h.2, Bool.and_true]; decide
  · simp
/-- lines, written one behind the other -/
def linesT (L : List ByteArray) : List UInt8 := (L.map fun s => s.data.toList ++ [10]).flatten
theorem lines_app (L : List ByteArray) (s : ByteArray) : linesT (L ++ [s]) = linesT L ++ s.data.toList ++ [10] := by unfold linesT; simp
theorem linesT_len {L : List ByteArray} (h : ∀ s ∈ L, s.size ≤ 20) : (linesT L).length ≤ 21 * L.length := by
  induction L with
  | nil => simp [linesT]
  | cons x r ih =>
    have h1 := h x (by simp)
    have h2 := ih fun s hs => h s (List.mem_cons_of_mem _ hs)
    have e : linesT (x :: r) = x.data.toList ++ [10] ++ linesT r := by simp [linesT]
    have e2 : x.data.toList.length = x.size := by simp
    rw [e, List.length_append, List.length_append, e2, List.length_cons]; simp; omega
theorem ln_size {s : ByteArray} (h : lnP s = true) : s.size ≤ 20 := by
  unfold lnP at h
  simp only [Bool.and_eq_true, decide_eq_true_eq] at h
  exact h.1.1
end Go.Proofs.YtiennniclkbjlaaGreatDoor.NrE
/- What is read of a text that is written line by line: plain mathematics. -/
namespace Go.Proofs.YtiennniclkbjlaaGreatDoor.NrT
open Go.RowKit Go.Proofs.YtiennniclkbjlaaGreatDoor.EscM Go.Proofs.YtiennniclkbjlaaGreatDoor.RuleM Go.Proofs.YtiennniclkbjlaaGreatDoor.ReadM Go.Proofs.YtiennniclkbjlaaGreatDoor.St Go.Proofs.YtiennniclkbjlaaGreatDoor.RR Go.Proofs.YtiennniclkbjlaaGreatDoor.LetM Go.Proofs.YtiennniclkbjlaaGreatDoor.Nm Go.Proofs.YtiennniclkbjlaaGreatDoor.GrM Go.Proofs.YtiennniclkbjlaaGreatDoor.NtM Go.Proofs.YtiennniclkbjlaaGreatDoor.NrM Go.Proofs.YtiennniclkbjlaaGreatDoor.NrE

theorem b10 (b : UInt8) : ((b.toNat : Int) = 10) ↔ b = 10 := by
  constructor
  · intro h
    have : b.toNat = (10 : UInt8).toNat := by have e : (10 : UInt8).toNat = 10 := rfl; omega
    exact UInt8.toNat_inj.1 this
  · intro h; subst h; rfl
theorem split_line : ∀ (x r : List UInt8), x.all (fun b => !(b == 10)) = true → splitL 10 (x ++ 10 :: r) = x :: splitL 10 r := by
  intro x
  induction x with
  | nil => intro r _; rw [List.nil_append, split_cons, if_pos ((b10 10).2 rfl)]
  | cons b x ih =>
    intro r h
    rw [List.all_cons, Bool.and_eq_true] at h
    rw [List.cons_append, split_cons, if_neg (fun e => by have := (b10 b).1 e; subst this; simp at h), ih r h.2]
    rfl
theorem split_lines : ∀ L : List ByteArray, (∀ s ∈ L, s.data.toList.all (fun b => !(b == 10)) = true) → splitL 10 (linesT L) = L.map (fun s => s.data.toList) ++ [[]] := by
  intro L
  induction L with
  | nil => intro _; rfl
  | cons s r ih =>
    intro h
    have e : linesT (s :: r) = s.data.toList ++ 10 :: linesT r := by simp [linesT]
    rw [e, split_line _ _ (h s (by simp)), ih fun x hx => h x (List.mem_cons_of_mem _ hx)]
    rfl
theorem bs_eq (s : ByteArray) : bs s.data.toList = s := by unfold bs; cases s; simp
theorem splitS_lines (L : List ByteArray) (h : ∀ s ∈ L, s.data.toList.all (fun b => !(b == 10)) = true) : splitS 10 ⟨(linesT L).toArray⟩ = L ++ [⟨#[]⟩] := by
  unfold splitS
  have e : (⟨(linesT L).toArray⟩ : ByteArray).data.toList = linesT L := by simp
  rw [e, split_lines L h, List.map_append, List.map_map]
  have e2 : bs ∘ (fun s : ByteArray => s.data.toList) = id := by funext s; exact bs_eq s
  rw [e2, List.map_id]
  rfl
/-- lines, read one behind the other -/
def foldN (f : ByteArray → Option Lk) (L : List ByteArray) (S : Nr) : Nr := L.foldl (fun S s => stepF S (f s)) S
theorem read_fold (f : ByteArray → Option Lk) (L : List ByteArray) : ∀ k, readTo f L k = foldN f (L.take k) nr0 := by
  intro k
  induction k with
  | zero => rfl
  | succ k ih =>
    show (match L[k]? with | some s => stepF (readTo f L k) (f s) | none => readTo f L k) = _
    rw [ih]
    rcases Nat.lt_or_ge k L.length with h | h
    · rw [List.getElem?_eq_getElem h, List.take_succ_eq_append_getElem h]
      unfold foldN
      rw [List.foldl_append]; rfl
    · rw [List.getElem?_eq_none h, List.take_of_length_le h, List.take_of_length_le (by omega)]
theorem fold_app (f : ByteArray → Option Lk) (A B : List ByteArray) (S : Nr) : foldN f (A ++ B) S = foldN f B (foldN f A S) := by unfold foldN; rw [List.foldl_append]
theorem fold_none (f : ByteArray → Option Lk) (A : List ByteArray) (S : Nr) (h : ∀ s ∈ A, f s = none) : foldN f A S = S := by
  induction A generalizing S with
  | nil => rfl
  | cons x r ih =>
    show foldN f r (stepF S (f x)) = S
    rw [h x (by simp)]
    exact ih S fun s hs => h s (List.mem_cons_of_mem _ hs)
theorem fold_same {f g : ByteArray → Option Lk} (A : List ByteArray) (S : Nr) (h : ∀ s ∈ A, f s = g s) : foldN f A S = foldN g A S := by
  induction A generalizing S with
  | nil => rfl
  | cons x r ih =>
    show foldN f r (stepF S (f x)) = foldN g r (stepF S (g x))
    rw [h x (by simp)]
    exact ih _ fun s hs => h s (List.mem_cons_of_mem _ hs)
theorem line_empty : lineF ⟨#[]⟩ = none := by
  unfold lineF blankF
  rfl
/-- all of no more than 40 lines is read -/
theorem read_all (f : ByteArray → Option Lk) (hf : f ⟨#[]⟩ = none) (L : List ByteArray) (hl : L.length ≤ 40) (h : ∀ s ∈ L, s.data.toList.all (fun b => !(b == 10)) = true) :
    readTo f (splitS 10 ⟨(linesT L).toArray⟩) (min 40 (splitS 10 ⟨(linesT L).toArray⟩).length) = foldN f L nr0 := by
  rw [splitS_lines L h, read_fold]
  have hlen : (L ++ [(⟨#[]⟩ : ByteArray)]).length = L.length + 1 := by simp
  rw [hlen]
  rcases Nat.lt_or_ge L.length 40 with h1 | h1
  · rw [show min 40 (L.length + 1) = L.length + 1 by omega, List.take_of_length_le (by rw [hlen]; exact Nat.le_refl _), fold_app]
    exact fold_none f _ _ (fun s hs => by simp at hs; subst hs; exact hf)
  · have h2 : L.length = 40 := by omega
    rw [show min 40 (L.length + 1) = L.length by omega, List.take_left' rfl]
theorem notice_lines (L : List ByteArray) (hl : L.length ≤ 40) (h : ∀ s ∈ L, s.data.toList.all (fun b => !(b == 10)) = true) : noticeF ⟨(linesT L).toArray⟩ = (foldN lineF L nr0).gs := by
  unfold noticeF
  rw [read_all lineF line_empty L hl h]
/-- of the model: the same, if no line is a bare word of waiting -/
theorem model_lines (L : List ByteArray) (hl : L.length ≤ 40) (h : ∀ s ∈ L, s.data.toList.all (fun b => !(b == 10)) = true) (hw : ∀ s ∈ L, s.data.toList ≠ wWait) : (readTo lineM (splitS 10 ⟨(linesT L).toArray⟩) (min 40 (splitS 10 ⟨(linesT L).toArray⟩).length)).gs = noticeF ⟨(linesT L).toArray⟩ := by
  rw [notice_lines L hl h, read_all lineM ((line_same (s := ⟨#[]⟩) (by decide)).trans line_empty) L hl h, fold_same L nr0 fun s hs => line_same (hw s hs)]
theorem ln_nl {s : ByteArray} (h : lnP s = true) : s.data.toList.all (fun b => !(b == 10)) = true := by
  unfold lnP at h
  simp only [Bool.and_eq_true] at h
  exact h.1.2
theorem ln_wait {s : ByteArray} (h : lnP s = true) : s.data.toList ≠ wWait := by
  unfold lnP at h
  simp only [Bool.and_eq_true] at h
  intro e
  rw [e] at h
  exact absurd h.2 (by decide)

/-! ### lines that are none -/
def j1 : ByteArray := ⟨#[119, 104, 97, 116]⟩
def j2 : ByteArray := ⟨#[]⟩
def j3 : ByteArray := ⟨#[108, 101, 116, 32, 97]⟩
def j4 : ByteArray := ⟨#[119, 104, 111]⟩
theorem j1_none : lineF j1 = none := by unfold lineF; rw [show blankF j1 = false by decide +kernel]; rfl
theorem j3_none : lineF j3 = none := by
  unfold lineF
  rw [show blankF j3 = true by decide +kernel, if_pos rfl]
  unfold saysF
  rw [if_neg (by decide +kernel), if_neg (by decide +kernel), if_neg (by decide +kernel), if_neg (by decide +kernel)]
theorem j4_none : lineF j4 = none := by unfold lineF; rw [show blankF j4 = false by decide +kernel]; rfl
theorem junk_text (L : List ByteArray) : (⟨#[119, 104, 97, 116, 10, 10, 108, 101, 116, 32, 97, 10]⟩ : ByteArray) ++ (⟨(linesT L).toArray⟩ : ByteArray) ++ (⟨#[119, 104, 111, 10]⟩ : ByteArray) = ⟨(linesT ([j1, j2, j3] ++ L ++ [j4])).toArray⟩ := by
  apply ByteArray.ext
  apply Array.toList_inj.1
  simp [linesT, j1, j2, j3, j4]
theorem junk_same (L : List ByteArray) (hl : L.length ≤ 8) (h : ∀ s ∈ L, lnP s = true) : noticeF ⟨(linesT ([j1, j2, j3] ++ L ++ [j4])).toArray⟩ = noticeF ⟨(linesT L).toArray⟩ := by
  have hj : ([j1, j2, j3, j4] : List ByteArray).all (fun s => s.data.toList.all (fun b => !(b == 10))) = true := by decide +kernel
  have hj' := List.all_eq_true.1 hj
  rw [notice_lines _ (by simp; omega) (fun s hs => by
    simp only [List.mem_append, List.mem_cons, List.not_mem_nil, or_false] at hs
    rcases hs with ((rfl | rfl | rfl) | hs) | rfl
    · exact hj' _ (by simp)
    · exact hj' _ (by simp)
    · exact hj' _ (by simp)
    · exact ln_nl (h s hs)
    · exact hj' _ (by simp)), notice_lines L (by omega) fun s hs => ln_nl (h s hs)]
  rw [fold_app, fold_app, fold_none lineF [j1, j2, j3] nr0 (fun s hs => by
    simp only [List.mem_cons, List.not_mem_nil, or_false] at hs
    rcases hs with rfl | rfl | rfl
    · exact j1_none
    · exact line_empty
    · exact j3_none), fold_none lineF [j4] _ (fun s hs => by simp at hs; subst hs; exact j4_none)]
end Go.Proofs.YtiennniclkbjlaaGreatDoor.NrT
/- A notice is read back from its text: plain mathematics. -/
namespace Go.Proofs.YtiennniclkbjlaaGreatDoor.NrT
open Go.RowKit Go.Proofs.YtiennniclkbjlaaGreatDoor.EscM Go.Proofs.YtiennniclkbjlaaGreatDoor.AddrM Go.Proofs.YtiennniclkbjlaaGreatDoor.RuleM Go.Proofs.YtiennniclkbjlaaGreatDoor.ReadM Go.Proofs.YtiennniclkbjlaaGreatDoor.St Go.Proofs.YtiennniclkbjlaaGreatDoor.RR Go.Proofs.YtiennniclkbjlaaGreatDoor.LetM Go.Proofs.YtiennniclkbjlaaGreatDoor.Nm Go.Proofs.YtiennniclkbjlaaGreatDoor.GrM Go.Proofs.YtiennniclkbjlaaGreatDoor.NtM Go.Proofs.YtiennniclkbjlaaGreatDoor.NrM Go.Proofs.YtiennniclkbjlaaGreatDoor.NrE

def lnName (s : ByteArray) : ByteArray := ⟨([99, 97, 108, 108, 101, 114, 32] ++ s.data.toList).toArray⟩
def lnRule (r : Ru) : ByteArray := ⟨(wordL r.lt ++ r.path.data.toList).toArray⟩
def lnWait (n : Int) : ByteArray := ⟨([119, 97, 105, 116, 32] ++ decL n.toNat).toArray⟩
def gLines (g : Gr) : List ByteArray := g.nm.map lnName ++ g.ru.map lnRule ++ (if 0 < g.wait then [lnWait g.wait] else [])
def nLines (L : List Gr) : List ByteArray := (L.map gLines).flatten
theorem lt_app (A B : List ByteArray) : linesT (A ++ B) = linesT A ++ linesT B := by unfold linesT; rw [List.map_append, List.flatten_append]
theorem names_lines (l : List ByteArray) : ntNames l = linesT (l.map lnName) := by
  unfold ntNames linesT
  rw [List.map_map]; rfl
theorem rules_lines (l : List Ru) : ntRules l = linesT (l.map lnRule) := by
  unfold ntRules linesT
  rw [List.map_map]; rfl
theorem wait_lines (n : Int) : waitLn n = linesT (if 0 < n then [lnWait n] else []) := by
  unfold waitLn
  by_cases h : 0 < n
  · rw [if_pos h, if_pos h]; simp [linesT, lnWait]
  · rw [if_neg h, if_neg h]; rfl
theorem grp_lines (g : Gr) : ntGrp g = linesT (gLines g) := by
  unfold ntGrp gLines
  rw [lt_app, lt_app, names_lines, rules_lines, wait_lines]
theorem text_lines (L : List Gr) : ntText L = linesT (nLines L) := by
  unfold ntText nLines
  induction L with
  | nil => rfl
  | cons g r ih =>
    rw [List.map_cons, List.flatten_cons, List.map_cons, List.flatten_cons, lt_app, ← ih, grp_lines]
theorem lines_many (L : List Gr) : (nLines L).length ≤ linesN L := by
  induction L with
  | nil => exact Nat.le_refl _
  | cons g r ih =>
    have e : nLines (g :: r) = gLines g ++ nLines r := by simp [nLines]
    have e2 : linesN (g :: r) = (g.nm.length + g.ru.length + 1) + linesN r := by simp [linesN]
    have e3 : (gLines g).length ≤ g.nm.length + g.ru.length + 1 := by
      unfold gLines
      rw [List.length_append, List.length_append, List.length_map, List.length_map]
      split <;> simp
    rw [e, List.length_append, e2]; omega

/-! ### no line is broken -/
theorem small_nl {s : ByteArray} (h : smallB s = true) : s.data.toList.all (fun b => !(b == 10)) = true := by
  rw [List.all_eq_true]
  intro b hb
  have := of_decide_eq_true (List.all_eq_true.1 h b hb)
  cases hq : (b == 10) with
  | false => rfl
  | true =>
    have e := eq_of_beq hq
    subst e
    exact absurd this (by decide)
theorem call_nl {s : ByteArray} (h : callB s = true) : s.data.toList.all (fun b => !(b == 10)) = true := by
  unfold callB at h
  rw [Bool.or_eq_true] at h
  rcases h with h | h
  · have : s.toList = [42] := by simpa using h
    rw [ByteArray.toList_eq] at this
    rw [this]; decide
  · unfold nameB at h
    rw [Bool.and_eq_true] at h
    exact small_nl h.2
theorem rule_nl {l : List UInt8} (h : ruleL l = true) : l.all (fun b => !(b == 10)) = true := by
  unfold ruleL at h
  rw [Bool.and_eq_true] at h
  have hb := (body_all l _).1 h.2
  rw [List.all_eq_true]
  intro b hm
  obtain ⟨j, hj, rfl⟩ := List.getElem_of_mem hm
  cases hq : (l[j] == 10) with
  | false => rfl
  | true =>
    have e := eq_of_beq hq
    rcases hb j hj with h1 | ⟨⟨h1, _⟩, _⟩
    · rw [e] at h1; exact absurd h1 (by decide +kernel)
    · rw [e] at h1; exact absurd h1 (by decide)
theorem dec_all (n : Nat) (h : n ≤ 20) : (decL n).all (fun b => !(b == 10)) = true ∧ numF (decL n) = n := by
  have : ∀ k : Fin 21, (decL k.val).all (fun b => !(b == 10)) = true ∧ numF (decL k.val) = k.val := by decide +kernel
  exact this ⟨n, by omega⟩
theorem gline_nl {g : Gr} (h : grpB g = true) : ∀ s ∈ gLines g, s.data.toList.all (fun b => !(b == 10)) = true := by
  unfold grpB at h
  simp only [Bool.and_eq_true, List.all_eq_true, decide_eq_true_eq] at h
  obtain ⟨⟨⟨⟨⟨h1, _⟩, h2⟩, h3⟩, _⟩, _⟩ := h
  intro s hs
  unfold gLines at hs
  rcases List.mem_append.1 hs with hs | hs
  · rcases List.mem_append.1 hs with hs | hs
    · obtain ⟨x, hx, rfl⟩ := List.mem_map.1 hs
      have e : (lnName x).data.toList = [99, 97, 108, 108, 101, 114, 32] ++ x.data.toList := by simp [lnName]
      rw [e, List.all_append, call_nl (h1 x hx)]; decide
    · obtain ⟨x, hx, rfl⟩ := List.mem_map.1 hs
      have e : (lnRule x).data.toList = wordL x.lt ++ x.path.data.toList := by simp [lnRule]
      rw [e, List.all_append, rule_nl (h2 x hx)]
      cases x.lt <;> decide
  · split at hs
    · simp at hs; subst hs
      have e : (lnWait g.wait).data.toList = [119, 97, 105, 116, 32] ++ decL g.wait.toNat := by simp [lnWait]
      rw [e, List.all_append, (dec_all g.wait.toNat (by omega)).1]; decide
    · cases hs
theorem nline_nl {L : List Gr} (h : L.all grpB = true) : ∀ s ∈ nLines L, s.data.toList.all (fun b => !(b == 10)) = true := by
  intro s hs
  unfold nLines at hs
  obtain ⟨l, hl, hm⟩ := List.mem_flatten.1 hs
  obtain ⟨g, hg, rfl⟩ := List.mem_map.1 hl
  exact gline_nl (List.all_eq_true.1 h g hg) s hm

/-! ### what each line says -/
theorem line_at {s : ByteArray} {wd rs : List UInt8} (h : cutL 32 s.data.toList = (wd, rs, true)) : lineF s = saysF (bs wd) (bs rs) := by
  unfold lineF blankF wordF restF
  rw [h]; rfl
theorem bs_data (l : List UInt8) : (bs l).data.toList = l := by unfold bs; simp
theorem name_says {s : ByteArray} (h : callB s = true) : lineF (lnName s) = some (.c s) := by
  have e : (lnName s).data.toList = [99, 97, 108, 108, 101, 114, 32] ++ s.data.toList := by simp [lnName]
  have hc : cutL 32 (lnName s).data.toList = (wCall, s.data.toList, true) := by rw [e]; simp [cutL, wCall]
  rw [line_at hc, bs_eq]
  unfold saysF
  rw [if_pos ⟨bs_data _, h⟩]
theorem rule_says {r : Ru} (h : ruleL r.path.data.toList = true) : lineF (lnRule r) = some (.r r) := by
  obtain ⟨lt, path⟩ := r
  have e : (lnRule ⟨lt, path⟩).data.toList = wordL lt ++ path.data.toList := by simp [lnRule]
  cases lt with
  | true =>
    have hc : cutL 32 (lnRule ⟨true, path⟩).data.toList = (wLet, path.data.toList, true) := by rw [e]; simp [cutL, wLet, wordL]
    rw [line_at hc, bs_eq]
    unfold saysF
    rw [if_neg (fun e => by rw [bs_data] at e; exact absurd e.1 (by decide)), if_pos ⟨bs_data _, h⟩]
  | false =>
    have hc : cutL 32 (lnRule ⟨false, path⟩).data.toList = (wBar, path.data.toList, true) := by rw [e]; simp [cutL, wBar, wordL]
    rw [line_at hc, bs_eq]
    unfold saysF
    rw [if_neg (fun e => by rw [bs_data] at e; exact absurd e.1 (by decide)), if_neg (fun e => by rw [bs_data] at e; exact absurd e.1 (by decide)), if_pos ⟨bs_data _, h⟩]
theorem wait_says {n : Int} (h0 : 0 < n) (h : n ≤ 20) : lineF (lnWait n) = some (.t n.toNat) := by
  have e : (lnWait n).data.toList = [119, 97, 105, 116, 32] ++ decL n.toNat := by simp [lnWait]
  have hc : cutL 32 (lnWait n).data.toList = (wWait, decL n.toNat, true) := by rw [e]; simp [cutL, wWait]
  rw [line_at hc]
  unfold saysF
  rw [if_neg (fun e => by rw [bs_data] at e; exact absurd e.1 (by decide)), if_neg (fun e => by rw [bs_data] at e; exact absurd e.1 (by decide)), if_neg (fun e => by rw [bs_data] at e; exact absurd e.1 (by decide)), if_pos (bs_data _), bs_data, (dec_all n.toNat (by omega)).2]

/-! ### what all lines say -/
theorem step_some (S : Nr) (x : Lk) : stepF S (some x) = addF S x := rfl
theorem drop_snoc {α : Type} (P : List α) (x : α) : (P ++ [x]).dropLast = P := List.dropLast_concat
theorem fold_names (P : List (List ByteArray × List Ru × Int)) (ru : List Ru) (wt : Int) : ∀ (l nm : List ByteArray), (∀ s ∈ l, callB s = true) → foldN lineF (l.map lnName) ⟨P ++ [(nm, ru, wt)], false⟩ = ⟨P ++ [(nm ++ l, ru, wt)], false⟩ := by
  intro l
  induction l with
  | nil => intro nm _; rw [List.append_nil]; rfl
  | cons s r ih =>
    intro nm h
    show foldN lineF (r.map lnName) (stepF _ (lineF (lnName s))) = _
    rw [name_says (h s (by simp))]
    have e : stepF ⟨P ++ [(nm, ru, wt)], false⟩ (some (.c s)) = ⟨P ++ [(nm ++ [s], ru, wt)], false⟩ := by
      rw [step_some, add_c, if_neg (fun e => by rcases e with e | e; simp at e; cases e)]
      dsimp only
      rw [last_snoc, drop_snoc]
    rw [e, ih (nm ++ [s]) fun x hx => h x (List.mem_cons_of_mem _ hx), List.append_assoc]; rfl
theorem fold_rules (P : List (List ByteArray × List Ru × Int)) (nm : List ByteArray) (wt : Int) : ∀ (l ru : List Ru) (b : Bool), (∀ r ∈ l, ruleL r.path.data.toList = true) → ru.length + l.length ≤ 6 → foldN lineF (l.map lnRule) ⟨P ++ [(nm, ru, wt)], b⟩ = ⟨P ++ [(nm, ru ++ l, wt)], if l = [] then b else true⟩ := by
  intro l
  induction l with
  | nil => intro ru b _ _; rw [List.append_nil]; rfl
  | cons x r ih =>
    intro ru b h hl
    simp only [List.length_cons] at hl
    show foldN lineF (r.map lnRule) (stepF _ (lineF (lnRule x))) = _
    rw [rule_says (h x (by simp))]
    have e : stepF ⟨P ++ [(nm, ru, wt)], b⟩ (some (.r x)) = ⟨P ++ [(nm, ru ++ [x], wt)], true⟩ := by
      rw [step_some, add_r, if_neg (by simp)]
      dsimp only
      rw [last_snoc, if_pos (by dsimp only; omega), drop_snoc]
    rw [e, ih (ru ++ [x]) true (fun y hy => h y (List.mem_cons_of_mem _ hy)) (by simp; omega)]
    have h3 : (if r = [] then true else true) = true := by split <;> rfl
    rw [h3, if_neg (List.cons_ne_nil x r), List.append_assoc]; rfl
theorem fold_group {g : Gr} (hg : grpB g = true) (S : Nr) (hS : S.gs = [] ∨ S.bg = true) : foldN lineF (gLines g) S = ⟨S.gs ++ [grp g], true⟩ := by
  have hg0 := hg
  unfold grpB at hg
  simp only [Bool.and_eq_true, List.all_eq_true, decide_eq_true_eq, Bool.or_eq_true] at hg
  obtain ⟨⟨⟨⟨⟨h1, h6⟩, h2⟩, h3⟩, h4⟩, h5⟩ := hg
  unfold gLines
  rw [fold_app, fold_app]
  obtain ⟨s, r, hsr⟩ : ∃ s r, g.nm = s :: r := by
    cases hn : g.nm with
    | nil => rw [hn] at h5; simp at h5
    | cons s r => exact ⟨s, r, rfl⟩
  have e1 : foldN lineF (g.nm.map lnName) S = ⟨S.gs ++ [(g.nm, [], 0)], false⟩ := by
    rw [hsr] at h1 ⊢
    show foldN lineF (r.map lnName) (stepF S (lineF (lnName s))) = _
    rw [name_says (h1 s (by simp))]
    have e : stepF S (some (.c s)) = ⟨S.gs ++ [([s], [], 0)], false⟩ := by
      rw [step_some, add_c, if_pos hS]
    rw [e, fold_names S.gs [] 0 r [s] fun x hx => h1 x (List.mem_cons_of_mem _ hx)]; rfl
  rw [e1, fold_rules S.gs g.nm 0 g.ru [] false h2 (by simp; omega), List.nil_append]
  by_cases hw : 0 < g.wait
  · rw [if_pos hw]
    show stepF _ (lineF (lnWait g.wait)) = _
    rw [wait_says hw h3.2]
    rw [step_some, add_t, if_neg (by simp)]
    dsimp only
    rw [last_snoc, drop_snoc]
    have : ((g.wait.toNat : Nat) : Int) = g.wait := by omega
    rw [this]; rfl
  · rw [if_neg hw]
    have hr : g.ru ≠ [] := by
      rcases h4 with h4 | h4
      · intro e; rw [e] at h4; simp at h4
      · exact absurd h4 hw
    rw [if_neg hr]
    have : (0 : Int) = g.wait := by omega
    show (⟨S.gs ++ [(g.nm, g.ru, 0)], true⟩ : Nr) = _
    rw [this]; rfl
theorem fold_notice : ∀ (L : List Gr) (S : Nr), L.all grpB = true → (S.gs = [] ∨ S.bg = true) → (foldN lineF (nLines L) S).gs = S.gs ++ L.map grp := by
  intro L
  induction L with
  | nil => intro S _ _; exact (List.append_nil _).symm
  | cons g r ih =>
    intro S h hS
    rw [List.all_cons, Bool.and_eq_true] at h
    have e : nLines (g :: r) = gLines g ++ nLines r := by simp [nLines]
    rw [e, fold_app, fold_group h.1 S hS, ih _ h.2 (Or.inr rfl)]
    show (S.gs ++ [grp g]) ++ r.map grp = S.gs ++ (grp g :: r.map grp)
    rw [List.append_assoc]; rfl
/-- A NOTICE IS READ BACK FROM ITS TEXT -/
theorem notice_back {L : List Gr} (h : noticeB L = true) : noticeF (ntS L) = L.map grp := by
  have h' := h
  unfold noticeB at h'
  rw [Bool.and_eq_true] at h'
  have h40 := of_decide_eq_true h'.2
  have hm := lines_many L
  have e : ntS L = ⟨(linesT (nLines L)).toArray⟩ := by unfold ntS; rw [if_pos h, text_lines]
  rw [e, notice_lines _ (by omega) (nline_nl h'.1), fold_notice L nr0 h'.1 (Or.inl rfl)]
  exact List.nil_append _
/-! ### no line is a bare word of waiting -/
def NwT (t : ByteArray) : Prop := ∀ x ∈ splitS 10 t, x.data.toList ≠ wWait
theorem nw_lines {L : List ByteArray} (h : ∀ s ∈ L, s.data.toList.all (fun b => !(b == 10)) = true) (hw : ∀ s ∈ L, s.data.toList ≠ wWait) : NwT ⟨(linesT L).toArray⟩ := by
  intro x hx
  rw [splitS_lines L h] at hx
  rcases List.mem_append.1 hx with hx | hx
  · exact hw x hx
  · simp at hx; subst hx; decide
theorem blank_wait {s : ByteArray} (h : (32 : UInt8) ∈ s.data.toList) : s.data.toList ≠ wWait := fun e => by rw [e] at h; revert h; decide
theorem gline_wait (g : Gr) : ∀ s ∈ gLines g, s.data.toList ≠ wWait := by
  intro s hs
  apply blank_wait
  unfold gLines at hs
  rcases List.mem_append.1 hs with hs | hs
  · rcases List.mem_append.1 hs with hs | hs
    · obtain ⟨x, _, rfl⟩ := List.mem_map.1 hs; simp [lnName]
    · obtain ⟨x, _, rfl⟩ := List.mem_map.1 hs
      cases hx : x.lt <;> simp [lnRule, wordL, hx]
  · split at hs
    · simp at hs; subst hs; simp [lnWait]
    · cases hs
theorem nw_empty : NwT ⟨#[]⟩ := by
  have := nw_lines (L := []) (fun s hs => by cases hs) (fun s hs => by cases hs)
  exact this
theorem nw_notice (L : List Gr) : NwT (ntS L) := by
  cases h : noticeB L with
  | false =>
    have e : ntS L = ⟨#[]⟩ := by unfold ntS; rw [h]; rfl
    rw [e]; exact nw_empty
  | true =>
    have e : ntS L = ⟨(linesT (nLines L)).toArray⟩ := by unfold ntS; rw [if_pos h, text_lines]
    have h' := h
    unfold noticeB at h'
    rw [Bool.and_eq_true] at h'
    rw [e]
    refine nw_lines (nline_nl h'.1) fun s hs => ?_
    unfold nLines at hs
    obtain ⟨l, hl, hm⟩ := List.mem_flatten.1 hs
    obtain ⟨g, _, rfl⟩ := List.mem_map.1 hl
    exact gline_wait g s hm
theorem split_one : ∀ l : List UInt8, l.all (fun b => !(b == 10)) = true → splitL 10 l = [l] := by
  intro l
  induction l with
  | nil => intro _; rfl
  | cons b r ih =>
    intro h
    rw [List.all_cons, Bool.and_eq_true] at h
    rw [split_cons, if_neg (fun e => by have := (b10 b).1 e; subst this; simp at h), ih h.2]
    rfl
theorem nw_one {s : ByteArray} (h : s.data.toList.all (fun b => !(b == 10)) = true) (hw : s.data.toList ≠ wWait) : NwT s := by
  intro x hx
  unfold splitS at hx
  rw [split_one _ h] at hx
  simp at hx
  subst hx
  rw [bs_data]; exact hw
/-- of a text without such a line the model reads what the program does -/
theorem nw_same {t : ByteArray} (h : NwT t) : (readTo lineM (splitS 10 t) (min 40 (splitS 10 t).length)).gs = noticeF t := by
  unfold noticeF
  rw [read_fold, read_fold, fold_same _ _ fun s hs => line_same (h s (List.mem_of_mem_take hs))]
theorem text_size {L : List Gr} (h : noticeB L = true) : (ntS L).size ≤ 840 := by
  obtain ⟨h1, h2⟩ := notice_short h
  have := text_len h1
  unfold ntS
  rw [if_pos h]
  show (ntText L).toArray.size ≤ 840
  simp; omega
theorem text_two {A B : List Gr} (h : noticeB (A ++ B) = true) : ntS (A ++ B) = ntS A ++ ntS B ∧ noticeB A = true ∧ noticeB B = true := by
  have h' := h
  unfold noticeB at h'
  rw [Bool.and_eq_true, List.all_append, Bool.and_eq_true] at h'
  have h40 := of_decide_eq_true h'.2
  have el : linesN (A ++ B) = linesN A + linesN B := by unfold linesN; rw [List.map_append, List.sum_append]
  have hA : noticeB A = true := by unfold noticeB; rw [h'.1.1, decide_eq_true (by omega)]; rfl
  have hB : noticeB B = true := by unfold noticeB; rw [h'.1.2, decide_eq_true (by omega)]; rfl
  refine ⟨?_, hA, hB⟩
  unfold ntS
  rw [if_pos h, if_pos hA, if_pos hB]
  apply ByteArray.ext
  apply Array.toList_inj.1
  simp [ntText]
end Go.Proofs.YtiennniclkbjlaaGreatDoor.NrT
/- Is a way of a pattern: the model's. -/
namespace Go.Proofs.YtiennniclkbjlaaGreatDoor.HaS
open Go.RowKit Go.Proofs.YtiennniclkbjlaaGreatDoor.EscM Go.Proofs.YtiennniclkbjlaaGreatDoor.EscL Go.Proofs.YtiennniclkbjlaaGreatDoor.RuleM Go.Proofs.YtiennniclkbjlaaGreatDoor.Ru1 Go.Proofs.YtiennniclkbjlaaGreatDoor.ReadM Go.Proofs.YtiennniclkbjlaaGreatDoor.HasM Go.Proofs.YtiennniclkbjlaaGreatDoor.St Go.Proofs.YtiennniclkbjlaaGreatDoor.Rd1

theorem occ_drop (s x : List UInt8) (f i : Nat) : Lib.occAt (s.drop f) x i = Lib.occAt s x (f + i) := by
  unfold Lib.occAt; rw [List.drop_drop]
theorem find_yes {s x : List UInt8} {f k : Nat} (hf : f ≤ k) (ho : Lib.occAt s x k = true) (hn : ∀ j, f ≤ j → j < k → Lib.occAt s x j = false) (hk : k ≤ s.length) : Lib.index (s.drop f) x = ((k - f : Nat) : Int) := by
  rcases Lib.index_spec (s.drop f) x with ⟨_, h2⟩ | ⟨m, h1, h2, h3, h4⟩
  · have := h2 (k - f) (by rw [List.length_drop]; omega)
    rw [occ_drop, show f + (k - f) = k from by omega, ho] at this; cases this
  · rw [h1]
    rw [occ_drop] at h3
    have e1 : ¬ m < k - f := by
      intro h
      have := hn (f + m) (by omega) (by omega)
      rw [h3] at this; cases this
    have e2 : ¬ k - f < m := by
      intro h
      have := h4 (k - f) h
      rw [occ_drop, show f + (k - f) = k from by omega, ho] at this; cases this
    have : m = k - f := by omega
    rw [this]
theorem occ_room {s x : List UInt8} {i : Nat} (h : Lib.occAt s x i = true) (hi : i ≤ s.length) : i + x.length ≤ s.length := by
  unfold Lib.occAt at h
  have := (List.isPrefixOf_iff_prefix.1 h).length_le
  rw [List.length_drop] at this; omega
theorem find_no {s x : List UInt8} {f : Nat} (hf : f ≤ s.length) (hn : ∀ j, f ≤ j → j + x.length ≤ s.length → Lib.occAt s x j = false) : Lib.index (s.drop f) x = -1 := by
  rcases Lib.index_spec (s.drop f) x with ⟨h1, _⟩ | ⟨m, h1, h2, h3, h4⟩
  · exact h1
  · rw [occ_drop] at h3
    have hm : m ≤ s.length - f := by rw [List.length_drop] at h2; exact h2
    have := hn (f + m) (by omega) (occ_room h3 (by omega))
    rw [h3] at this; cases this
theorem occ_ext (s x : ByteArray) (k : Nat) : ((s.extract k (k + x.size)).toList == x.toList) = Lib.occAt s.data.toList x.data.toList k := by
  unfold Lib.occAt
  rw [ByteArray.toList_eq, ByteArray.toList_eq, Bool.eq_iff_iff, beq_iff_eq, List.isPrefixOf_iff_prefix, List.prefix_iff_eq_take]
  have e : (s.extract k (k + x.size)).data.toList = (s.data.toList.drop k).take x.data.toList.length := by
    simp only [ByteArray.data_extract, Array.toList_extract, List.extract_eq_take_drop]
    rw [len_eq]; congr 1; omega
  rw [e]; exact eq_comm

/-- where a text stands in another one from a place on -/
def findZ (s x : List UInt8) (f : Nat) : Int := if Lib.index (s.drop f) x = -1 then -1 else (f : Int) + Lib.index (s.drop f) x

end Go.Proofs.YtiennniclkbjlaaGreatDoor.HaS
/- Is a way of a pattern: the model's, whole. -/
namespace Go.Proofs.YtiennniclkbjlaaGreatDoor.HaS
open Go.RowKit Go.Proofs.YtiennniclkbjlaaGreatDoor.EscM Go.Proofs.YtiennniclkbjlaaGreatDoor.EscL Go.Proofs.YtiennniclkbjlaaGreatDoor.RuleM Go.Proofs.YtiennniclkbjlaaGreatDoor.Ru1 Go.Proofs.YtiennniclkbjlaaGreatDoor.ReadM Go.Proofs.YtiennniclkbjlaaGreatDoor.HasM Go.Proofs.YtiennniclkbjlaaGreatDoor.St Go.Proofs.YtiennniclkbjlaaGreatDoor.Rd1

theorem bs_list (l : List UInt8) : (bs l).data.toList = l := by unfold bs; simp
def rawL (P : List ByteArray) : List (List UInt8) := P.map fun x => x.data.toList
theorem raw_drop {P : List ByteArray} {k : Nat} (h : k < P.length) : rawL (P.drop k) = P[k].data.toList :: rawL (P.drop (k + 1)) := by
  unfold rawL; rw [List.drop_eq_getElem_cons h, List.map_cons]
theorem raw_split (c : Int) (s : ByteArray) : rawL (splitS c s) = splitL c s.data.toList := by
  unfold rawL splitS
  rw [List.map_map]
  conv => rhs; rw [← List.map_id (splitL c s.data.toList)]
  apply List.map_congr_left
  intro x _
  exact bs_list x
theorem just_pre (e : Bool) {P : List ByteArray} (h : 0 < P.length) (s : List UInt8) : justL e (rawL P) s = (P[0].data.toList.isPrefixOf s && restL e (rawL (P.drop 1)) (s.drop P[0].data.toList.length)) := by
  have := raw_drop (P := P) (k := 0) h
  rw [List.drop_zero] at this
  rw [this]; rfl
theorem rest_mid (e : Bool) {P : List ByteArray} {k : Nat} (h : k < P.length) (he : ¬ (e = true ∧ k + 1 = P.length)) (r : List UInt8) : restL e (rawL (P.drop k)) r = if Lib.index r P[k].data.toList = -1 then false else restL e (rawL (P.drop (k + 1))) (r.drop ((Lib.index r P[k].data.toList).toNat + P[k].data.toList.length)) := by
  rw [raw_drop (by omega)]
  conv => lhs; unfold restL
  rw [if_neg]
  intro hc
  rw [Bool.and_eq_true] at hc
  refine he ⟨hc.1, ?_⟩
  have := List.isEmpty_iff.1 hc.2
  have h2 := congrArg List.length this
  simp [rawL] at h2
  omega
theorem rest_last {P : List ByteArray} {k : Nat} (h : k < P.length) (h2 : k + 1 = P.length) (r : List UInt8) : restL true (rawL (P.drop k)) r = decide (P[k].data.toList <:+ r) := by
  rw [raw_drop h, List.drop_eq_nil_of_le (by omega)]
  unfold restL
  rw [if_pos (by rfl)]
theorem rest_end (e : Bool) {P : List ByteArray} (r : List UInt8) : restL e (rawL (P.drop P.length)) r = (!e || r.isEmpty) := by
  rw [List.drop_eq_nil_of_le (Nat.le_refl _)]; rfl
theorem pre_ext (s x : ByteArray) : ((s.extract 0 x.size).toList == x.toList) = x.data.toList.isPrefixOf s.data.toList := by
  rw [ByteArray.toList_eq, ByteArray.toList_eq]
  have e : (s.extract 0 x.size).data.toList = s.data.toList.take x.data.toList.length := by simp
  rw [e, Bool.eq_iff_iff, beq_iff_eq, List.isPrefixOf_iff_prefix, List.prefix_iff_eq_take]
  exact eq_comm
theorem pre_long {s x : ByteArray} (h : s.size < x.size) : x.data.toList.isPrefixOf s.data.toList = false := by
  cases hc : x.data.toList.isPrefixOf s.data.toList with
  | false => rfl
  | true =>
    have := (List.isPrefixOf_iff_prefix.1 hc).length_le
    rw [len_eq, len_eq] at this; omega
theorem suf_ext (s x : ByteArray) (at' : Nat) (h1 : x.size ≤ s.size) (h2 : at' ≤ s.size - x.size) : ((s.extract (s.size - x.size) s.size).toList == x.toList) = decide (x.data.toList <:+ s.data.toList.drop at') := by
  have e : (s.extract (s.size - x.size) s.size).data.toList = s.data.toList.drop (s.size - x.size) := by
    simp only [ByteArray.data_extract, Array.toList_extract, List.extract_eq_take_drop]
    rw [List.take_of_length_le]; rw [List.length_drop, len_eq]; omega
  rw [ByteArray.toList_eq, ByteArray.toList_eq, e, Bool.eq_iff_iff, beq_iff_eq, decide_eq_true_eq]
  have hl : (s.data.toList.drop (s.size - x.size)).length = x.data.toList.length := by rw [List.length_drop, len_eq, len_eq]; omega
  have hs : s.data.toList.drop (s.size - x.size) <:+ s.data.toList.drop at' := by
    rw [show s.size - x.size = at' + (s.size - x.size - at') from by omega, ← List.drop_drop]; exact List.drop_suffix _ _
  constructor
  · intro h; rw [← h]; exact hs
  · intro h
    exact (List.suffix_of_suffix_length_le hs h (by omega)).eq_of_length hl
theorem suf_short {s x : ByteArray} {at' : Nat} (h : ¬ (at' + x.size ≤ s.size)) (ha : at' ≤ s.size) : decide (x.data.toList <:+ s.data.toList.drop at') = false := by
  apply decide_eq_false
  intro hc
  have := hc.length_le
  rw [List.length_drop, len_eq, len_eq] at this; omega
theorem find_neg {s x : List UInt8} {f : Nat} (h : Lib.index (s.drop f) x = -1) : findZ s x f = -1 := by unfold findZ; rw [if_pos h]
theorem find_pos {s x : List UInt8} {f : Nat} (h : ¬ Lib.index (s.drop f) x = -1) (hf : f ≤ s.length) : ∃ m : Nat, Lib.index (s.drop f) x = (m : Int) ∧ findZ s x f = ((f + m : Nat) : Int) ∧ f + m + x.length ≤ s.length := by
  rcases Lib.index_spec (s.drop f) x with ⟨h1, _⟩ | ⟨m, h1, h2, h3, h4⟩
  · exact absurd h1 h
  · refine ⟨m, h1, by unfold findZ; rw [if_neg h, h1]; omega, ?_⟩
    have := Lib.index_room (s.drop f) x (by omega)
    rw [h1, List.length_drop] at this
    omega
theorem last_ext (p : ByteArray) (h : 0 < p.size) : (((p[p.size - 1]'(by omega)).toNat : Int) == 36) = endsB p.data.toList := by
  rw [ends_at (by rw [len_eq]; exact h), Bool.eq_iff_iff, beq_iff_eq, decide_eq_true_eq, getElem_eq]
  have e : p.data.toList[p.data.toList.length - 1]'(by rw [len_eq]; omega) = p.data.toList[p.size - 1]'(by rw [len_eq]; omega) := by congr 1
  rw [e]
  constructor
  · intro h; exact UInt8.toNat.inj (by show _ = 36; omega)
  · intro h; rw [h]; rfl

end Go.Proofs.YtiennniclkbjlaaGreatDoor.HaS
