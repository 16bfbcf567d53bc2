/- Groups of a notice: how they lie in cells, and when they are a notice. -/
import Derived.Test.YtacelbhoccckbaaDoorLetsMath
import Derived.Test.YtacelbhoccckbaaDoorNm1
namespace Go.Proofs.YtacelbhoccckbaaDoor.GrM
open Go.RowKit Go.Proofs.YtacelbhoccckbaaDoor.EscM Go.Proofs.YtacelbhoccckbaaDoor.RuleM Go.Proofs.YtacelbhoccckbaaDoor.St Go.Proofs.YtacelbhoccckbaaDoor.RR Go.Proofs.YtacelbhoccckbaaDoor.LetM Go.Proofs.YtacelbhoccckbaaDoor.Nm

/-- a group, and where its lists lie -/
structure Gr where
  nm : List ByteArray
  na : Option Addr
  nc : Nat
  ru : List Ru
  ra : Option Addr
  rc : Nat
  wait : Int
def FGr : Frm Gr where
  enc g := [.slice g.na g.nm.length g.nc, .slice g.ra g.ru.length g.rc, .int .i64 g.wait]
  k := 3
  pos := by decide
  len _ := rfl
  one _ u hu := by
    simp only [List.mem_cons, List.not_mem_nil, or_false] at hu
    rcases hu with rfl | rfl | rfl <;> rfl
theorem gr_at {w : World} {a0 : Option Addr} {cap : Nat} {L : List Gr} (h : IsRows FGr w a0 cap L) {i : Nat} (hi : i < L.length) : ∃ b off, a0 = some ⟨b, off, none⟩ ∧ w.cell? ⟨b, off + i * 3, none⟩ = some (.slice L[i].na L[i].nm.length L[i].nc) ∧ w.cell? ⟨b, off + i * 3 + 1, none⟩ = some (.slice L[i].ra L[i].ru.length L[i].rc) ∧ w.cell? ⟨b, off + i * 3 + 2, none⟩ = some (.int .i64 L[i].wait) := by
  obtain ⟨b, off, e, hc⟩ := h.at hi
  exact ⟨b, off, e, hc 0 _ rfl, hc 1 _ rfl, hc 2 _ rfl⟩
/-- its lists lie there -/
def GrAt (w : World) (g : Gr) : Prop := IsStrs w g.na g.nc g.nm ∧ IsRows FRu w g.ra g.rc g.ru
def GrsAt (w : World) (L : List Gr) : Prop := ∀ g ∈ L, GrAt w g
theorem GrAt.keep {w w' : World} {g : Gr} (h : GrAt w g) (hb : ∀ k, k < w.heap.size → w'.heap[k]? = w.heap[k]?) : GrAt w' g := ⟨h.1.keep hb, h.2.keep hb⟩
theorem GrAt.below {w w' : World} {g : Gr} (h : GrAt w g) (hb : Below w.heap.size w w') : GrAt w' g := ⟨h.1.below hb, h.2.below hb⟩
theorem GrsAt.keep {w w' : World} {L : List Gr} (h : GrsAt w L) (hb : ∀ k, k < w.heap.size → w'.heap[k]? = w.heap[k]?) : GrsAt w' L := fun g hg => (h g hg).keep hb
theorem GrsAt.below {w w' : World} {L : List Gr} (h : GrsAt w L) (hb : Below w.heap.size w w') : GrsAt w' L := fun g hg => (h g hg).below hb
/-- none of its parts is too great to be gone by -/
def GrSz (g : Gr) : Prop := g.nm.length ≤ 1048576 ∧ g.ru.length ≤ 1048576 ∧ (∀ s ∈ g.nm, s.size ≤ maxLen) ∧ ∀ r ∈ g.ru, r.path.size ≤ maxLen
/-- what a group says, without where it lies -/
def grp (g : Gr) : List ByteArray × List Ru × Int := (g.nm, g.ru, g.wait)

/-- is a group one of a notice? -/
def grpB (g : Gr) : Bool := g.nm.all callB && decide (g.ru.length ≤ 6) && g.ru.all (fun r => ruleL r.path.data.toList) && decide (0 ≤ g.wait ∧ g.wait ≤ 20) && (decide (0 < g.ru.length) || decide (0 < g.wait)) && decide (0 < g.nm.length)
def linesN (L : List Gr) : Nat := (L.map fun g => g.nm.length + g.ru.length + 1).sum
def noticeB (L : List Gr) : Bool := L.all grpB && decide (linesN L ≤ 40)
theorem lines_snoc {L : List Gr} {k : Nat} (h : k < L.length) : linesN (L.take (k + 1)) = linesN (L.take k) + (L[k].nm.length + L[k].ru.length + 1) := by
  unfold linesN
  rw [List.take_succ_eq_append_getElem h, List.map_append, List.sum_append]; simp
theorem all_snoc {α : Type} {L : List α} {P : α → Bool} {k : Nat} (h : k < L.length) (h1 : (L.take k).all P = true) (h2 : P L[k] = true) : (L.take (k + 1)).all P = true := by
  rw [List.take_succ_eq_append_getElem h, List.all_append, h1]; simp [h2]
theorem all_no {α : Type} {L : List α} {P : α → Bool} {k : Nat} (h : k < L.length) (h2 : P L[k] = false) : L.all P = false := by
  cases ha : L.all P with
  | false => rfl
  | true => have := List.all_eq_true.1 ha L[k] (List.getElem_mem h); rw [h2] at this; cases this
theorem all_end {α : Type} {L : List α} {P : α → Bool} {k : Nat} (h : L.length ≤ k) (h1 : (L.take k).all P = true) : L.all P = true := by
  rwa [List.take_of_length_le h] at h1
theorem lines_le (L : List Gr) (n : Nat) (h : ∀ g ∈ L, g.nm.length + g.ru.length + 1 ≤ n) : linesN L ≤ L.length * n := by
  induction L with
  | nil => simp [linesN]
  | cons x r ih =>
    have h1 := h x (by simp)
    have h2 := ih fun g hg => h g (List.mem_cons_of_mem _ hg)
    have e : linesN (x :: r) = (x.nm.length + x.ru.length + 1) + linesN r := by simp [linesN]
    rw [e, List.length_cons, Nat.add_mul]; omega
end Go.Proofs.YtacelbhoccckbaaDoor.GrM
