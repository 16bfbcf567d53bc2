/- How a notice is written: plain mathematics. -/
import Derived.Test.YtacelbhoccckbaaDoorGrpMath
namespace Go.Proofs.YtacelbhoccckbaaDoor.NtM
open Go.RowKit Go.Proofs.YtacelbhoccckbaaDoor.EscM Go.Proofs.YtacelbhoccckbaaDoor.RuleM Go.Proofs.YtacelbhoccckbaaDoor.St Go.Proofs.YtacelbhoccckbaaDoor.RR Go.Proofs.YtacelbhoccckbaaDoor.LetM Go.Proofs.YtacelbhoccckbaaDoor.Nm Go.Proofs.YtacelbhoccckbaaDoor.GrM

def nameLn (s : ByteArray) : List UInt8 := [99, 97, 108, 108, 101, 114, 32] ++ s.data.toList ++ [10]
def wordL (b : Bool) : List UInt8 := if b then [108, 101, 116, 32] else [98, 97, 114, 32]
def ruleLn (r : Ru) : List UInt8 := wordL r.lt ++ r.path.data.toList ++ [10]
def figL (n : Nat) : UInt8 := UInt8.ofNat (48 + n)
def decL (n : Nat) : List UInt8 := if n < 10 then [figL n] else [figL (n / 10), figL (n % 10)]
def waitLn (n : Int) : List UInt8 := if 0 < n then [119, 97, 105, 116, 32] ++ decL n.toNat ++ [10] else []
def ntNames (l : List ByteArray) : List UInt8 := (l.map nameLn).flatten
def ntRules (l : List Ru) : List UInt8 := (l.map ruleLn).flatten
def ntGrp (g : Gr) : List UInt8 := ntNames g.nm ++ ntRules g.ru ++ waitLn g.wait
def ntText (L : List Gr) : List UInt8 := (L.map ntGrp).flatten
theorem names_snoc {l : List ByteArray} {k : Nat} (h : k < l.length) : ntNames (l.take (k + 1)) = ntNames (l.take k) ++ nameLn l[k] := by
  unfold ntNames; rw [List.take_succ_eq_append_getElem h, List.map_append, List.flatten_append]; simp only [List.map_cons, List.map_nil, List.flatten_cons, List.flatten_nil, List.append_nil]
theorem rules_snoc {l : List Ru} {k : Nat} (h : k < l.length) : ntRules (l.take (k + 1)) = ntRules (l.take k) ++ ruleLn l[k] := by
  unfold ntRules; rw [List.take_succ_eq_append_getElem h, List.map_append, List.flatten_append]; simp only [List.map_cons, List.map_nil, List.flatten_cons, List.flatten_nil, List.append_nil]
theorem text_snoc {l : List Gr} {k : Nat} (h : k < l.length) : ntText (l.take (k + 1)) = ntText (l.take k) ++ ntGrp l[k] := by
  unfold ntText; rw [List.take_succ_eq_append_getElem h, List.map_append, List.flatten_append]; simp only [List.map_cons, List.map_nil, List.flatten_cons, List.flatten_nil, List.append_nil]
/-- no part of it is too long -/
def GrShort (g : Gr) : Prop := (∀ s ∈ g.nm, s.size ≤ 8) ∧ (∀ r ∈ g.ru, r.path.size ≤ 16) ∧ 0 ≤ g.wait ∧ g.wait ≤ 20
theorem names_len {l : List ByteArray} (h : ∀ s ∈ l, s.size ≤ 8) : (ntNames l).length ≤ 21 * l.length := by
  induction l with
  | nil => simp [ntNames]
  | cons x r ih =>
    have h1 := h x (by simp)
    have h2 := ih fun s hs => h s (List.mem_cons_of_mem _ hs)
    have e : ntNames (x :: r) = nameLn x ++ ntNames r := by simp [ntNames]
    have e2 : (nameLn x).length = 8 + x.size := by simp [nameLn]; omega
    rw [e, List.length_append, e2, List.length_cons]; omega
theorem rules_len {l : List Ru} (h : ∀ r ∈ l, r.path.size ≤ 16) : (ntRules l).length ≤ 21 * l.length := by
  induction l with
  | nil => simp [ntRules]
  | cons x r ih =>
    have h1 := h x (by simp)
    have h2 := ih fun s hs => h s (List.mem_cons_of_mem _ hs)
    have e : ntRules (x :: r) = ruleLn x ++ ntRules r := by simp [ntRules]
    have e2 : (ruleLn x).length ≤ 5 + x.path.size := by unfold ruleLn wordL; split <;> simp <;> omega
    rw [e, List.length_append, List.length_cons]; omega
theorem dec_len (n : Nat) : (decL n).length ≤ 2 := by unfold decL; split <;> simp
theorem wait_len (n : Int) : (waitLn n).length ≤ 8 := by
  unfold waitLn
  split
  · have := dec_len n.toNat
    simp; omega
  · simp
theorem grp_len {g : Gr} (h : GrShort g) : (ntGrp g).length ≤ 21 * (g.nm.length + g.ru.length + 1) := by
  have h1 := names_len h.1
  have h2 := rules_len h.2.1
  have h3 := wait_len g.wait
  unfold ntGrp
  rw [List.length_append, List.length_append]; omega
theorem text_len {L : List Gr} (h : ∀ g ∈ L, GrShort g) : (ntText L).length ≤ 21 * linesN L := by
  induction L with
  | nil => simp [ntText, linesN]
  | cons x r ih =>
    have h1 := grp_len (h x (by simp))
    have h2 := ih fun s hs => h s (List.mem_cons_of_mem _ hs)
    have e : ntText (x :: r) = ntGrp x ++ ntText r := by simp [ntText]
    have e2 : linesN (x :: r) = (x.nm.length + x.ru.length + 1) + linesN r := by simp [linesN]
    rw [e, List.length_append, e2]; omega
theorem lines_take (L : List Gr) (k : Nat) : linesN (L.take k) ≤ linesN L := by
  induction L generalizing k with
  | nil => simp [linesN]
  | cons x r ih =>
    cases k with
    | zero => simp [linesN]
    | succ k =>
      have := ih k
      have e2 : linesN (x :: r) = (x.nm.length + x.ru.length + 1) + linesN r := by simp [linesN]
      have e3 : linesN (x :: r.take k) = (x.nm.length + x.ru.length + 1) + linesN (r.take k) := by simp [linesN]
      rw [List.take_succ_cons, e2, e3]; omega
theorem call_len {s : ByteArray} (h : callB s = true) : s.size ≤ 8 := by
  unfold callB at h
  rw [Bool.or_eq_true] at h
  rcases h with h | h
  · have : s.toList = [42] := by simpa using h
    have h2 : s.data.toList = [42] := by rwa [ByteArray.toList_eq] at this
    have h3 := congrArg List.length h2
    simp at h3
    omega
  · unfold nameB at h
    simp at h
    omega
theorem rule_len {l : List UInt8} (h : ruleL l = true) : l.length ≤ 16 := by
  unfold ruleL at h
  simp at h
  omega
theorem grp_short {g : Gr} (h : grpB g = true) : GrShort g := by
  unfold grpB at h
  simp only [Bool.and_eq_true, List.all_eq_true, decide_eq_true_eq] at h
  obtain ⟨⟨⟨⟨⟨h1, _⟩, h2⟩, h3⟩, _⟩, _⟩ := h
  exact ⟨fun s hs => call_len (h1 s hs), fun r hr => by have := rule_len (h2 r hr); simpa using this, h3⟩
theorem notice_short {L : List Gr} (h : noticeB L = true) : (∀ g ∈ L, GrShort g) ∧ linesN L ≤ 40 := by
  unfold noticeB at h
  simp only [Bool.and_eq_true, List.all_eq_true, decide_eq_true_eq] at h
  exact ⟨fun g hg => grp_short (h.1 g hg), h.2⟩
/-- while the k-th group is written -/
theorem lines_room {L : List Gr} {k : Nat} (h : linesN L ≤ 40) (hk : k < L.length) : linesN (L.take k) + (L[k].nm.length + L[k].ru.length + 1) ≤ 40 := by
  have := lines_take L (k + 1)
  rw [lines_snoc hk] at this; omega
/-- what NoticeText says -/
def ntS (L : List Gr) : ByteArray := if noticeB L then ⟨(ntText L).toArray⟩ else ⟨#[]⟩
end Go.Proofs.YtacelbhoccckbaaDoor.NtM
