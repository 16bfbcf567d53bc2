/- Worlds: plain mathematics. -/
import Derived.Test.YtboncolbijicfaaGreatDoorRowPg
import Derived.Test.YtboncolbijicfaaGreatDoorOkBulk
import Derived.Test.YtboncolbijicfaaGreatDoorAddr5Pk
namespace Go.Proofs.YtboncolbijicfaaGreatDoor.WdM
open Go.RowKit Go.Proofs.YtboncolbijicfaaGreatDoor.EscM Go.Proofs.YtboncolbijicfaaGreatDoor.AddrM Go.Proofs.YtboncolbijicfaaGreatDoor.ReadM Go.Proofs.YtboncolbijicfaaGreatDoor.Ad1 Go.Proofs.YtboncolbijicfaaGreatDoor.Rd1 Go.Proofs.YtboncolbijicfaaGreatDoor.RR Go.Proofs.YtboncolbijicfaaGreatDoor.RoPg

/-- is a text an address, written in the one way? -/
def normT (s : ByteArray) : Bool := match readF s.data.toList with
  | some A => ((textF A).toList == s.toList)
  | none => false
def pgB (p : Pg) : Bool := normT p.addr && decide (p.text.size ≤ 300) && decide (0 ≤ p.fails ∧ p.fails ≤ 9) && (p.lead.toList.isEmpty || (p.text.toList.isEmpty && normT p.lead))
def sameA (s : ByteArray) (p : Pg) : Bool := p.addr.toList == s.toList
/-- are the first k pages such that they may stand in a world? -/
def okTo (L : List Pg) : Nat → Bool
  | 0 => true
  | k + 1 => okTo L k && (match L[k]? with
    | some p => pgB p && !((L.take k).any (sameA p.addr))
    | none => true)
def wOk (L : List Pg) : Bool := okTo L L.length && decide (L.length ≤ 12)
theorem okTo_step {L : List Pg} {k : Nat} (h : k < L.length) : okTo L (k + 1) = (okTo L k && (pgB L[k] && !((L.take k).any (sameA L[k].addr)))) := by
  show (okTo L k && _) = _
  rw [List.getElem?_eq_getElem h]
theorem okTo_no {L : List Pg} {k : Nat} (h : okTo L k = false) : ∀ n, k ≤ n → okTo L n = false := by
  intro n hn
  induction n with
  | zero => have : k = 0 := by omega
            subst this; exact h
  | succ n ih =>
    by_cases e : k = n + 1
    · subst e; exact h
    · show (okTo L n && _) = false
      rw [ih (by omega)]; rfl
theorem wOk_no {L : List Pg} {k : Nat} (hk : k < L.length) (h : (pgB L[k] && !((L.take k).any (sameA L[k].addr))) = false) : wOk L = false := by
  have h1 : okTo L (k + 1) = false := by rw [okTo_step hk, h]; simp
  unfold wOk
  rw [okTo_no h1 L.length (by omega)]; rfl
theorem wOk_bad {L : List Pg} {k : Nat} (hk : k < L.length) (h : pgB L[k] = false) : wOk L = false := wOk_no hk (by rw [h]; rfl)
theorem wOk_twice {L : List Pg} {k : Nat} (hk : k < L.length) (h : (L.take k).any (sameA L[k].addr) = true) : wOk L = false := wOk_no hk (by rw [h]; simp)
theorem wOk_long {L : List Pg} (h : ¬ L.length ≤ 12) : wOk L = false := by unfold wOk; rw [decide_eq_false h]; simp
theorem okTo_on {L : List Pg} {k : Nat} (hk : k < L.length) (h0 : okTo L k = true) (h1 : pgB L[k] = true) (h2 : (L.take k).any (sameA L[k].addr) = false) : okTo L (k + 1) = true := by
  rw [okTo_step hk, h0, h1, h2]; rfl
/-- what one gets -/
def kindF (L : List Pg) (a : ByteArray) (t : Int) : Int × ByteArray := match L.find? (sameA a) with
  | none => (0, ⟨#[]⟩)
  | some p => if t < p.fails then (3, ⟨#[]⟩) else if p.lead.toList.isEmpty then (1, p.text) else (2, p.lead)
def getF (L : List Pg) (a : ByteArray) (t : Int) : Int × ByteArray := if wOk L && decide (0 ≤ t) then kindF L a t else (0, ⟨#[]⟩)
theorem any_step {L : List Pg} {k : Nat} (f : Pg → Bool) (h : k < L.length) (h0 : (L.take k).any f = false) (h1 : f L[k] = false) : (L.take (k + 1)).any f = false := by
  rw [List.take_succ_eq_append_getElem h, List.any_append, h0]; simp [h1]
theorem any_hit {L : List Pg} {k n : Nat} (f : Pg → Bool) (h : k < L.length) (hn : k < n) (h1 : f L[k] = true) : (L.take n).any f = true := by
  rw [List.any_eq_true]
  refine ⟨L[k], ?_, h1⟩
  have : L[k] = (L.take n)[k]'(by simp; omega) := by simp
  rw [this]; exact List.getElem_mem _
theorem find_hit {L : List Pg} {k : Nat} (f : Pg → Bool) (h : k < L.length) (h0 : (L.take k).any f = false) (h1 : f L[k] = true) : L.find? f = some L[k] := by
  have hn : (L.take k).find? f = none := by
    rw [List.find?_eq_none]
    intro x hx hf
    have := List.any_eq_false.1 h0 x hx
    exact this hf
  have e : L.find? f = (L.take k ++ (L[k] :: L.drop (k + 1))).find? f := by rw [← List.drop_eq_getElem_cons h, List.take_append_drop]
  rw [e, List.find?_append, hn, List.find?_cons, h1]; rfl
theorem find_none {L : List Pg} (f : Pg → Bool) (h0 : L.any f = false) : L.find? f = none := by
  rw [List.find?_eq_none]
  intro x hx hf
  exact (List.any_eq_false.1 h0 x hx) hf
theorem norm_short {s : ByteArray} (h : normT s = true) : s.size ≤ 60 := by
  unfold normT at h
  cases hr : readF s.data.toList with
  | none => rw [hr] at h; cases h
  | some A =>
    rcases Nat.lt_or_ge 60 s.size with hl | hl
    · unfold readF at hr
      rw [if_pos (by simpa using hl)] at hr
      cases hr
    · exact hl
end Go.Proofs.YtboncolbijicfaaGreatDoor.WdM
