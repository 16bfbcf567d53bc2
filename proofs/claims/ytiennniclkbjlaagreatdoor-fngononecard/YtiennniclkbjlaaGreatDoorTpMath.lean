/- Houses and trips: how they lie in cells, and when they are ok. -/
import Derived.Test.YtiennniclkbjlaaGreatDoorGrpMathPk
import Derived.Test.YtiennniclkbjlaaGreatDoorStrsPk
import Derived.Test.YtiennniclkbjlaaGreatDoorRead3Pk
import Derived.Test.YtiennniclkbjlaaGreatDoorJoin1Pk
namespace Go.Proofs.YtiennniclkbjlaaGreatDoor.TpM
open Go.RowKit Go.Proofs.YtiennniclkbjlaaGreatDoor.EscM Go.Proofs.YtiennniclkbjlaaGreatDoor.AddrM Go.Proofs.YtiennniclkbjlaaGreatDoor.ReadM Go.Proofs.YtiennniclkbjlaaGreatDoor.Rd1 Go.Proofs.YtiennniclkbjlaaGreatDoor.RuleM Go.Proofs.YtiennniclkbjlaaGreatDoor.St Go.Proofs.YtiennniclkbjlaaGreatDoor.RR Go.Proofs.YtiennniclkbjlaaGreatDoor.LetM Go.Proofs.YtiennniclkbjlaaGreatDoor.Nm Go.Proofs.YtiennniclkbjlaaGreatDoor.GrM Go.Proofs.YtiennniclkbjlaaGreatDoor.RoIt Go.Proofs.YtiennniclkbjlaaGreatDoor.RoLk Go.Proofs.YtiennniclkbjlaaGreatDoor.WdM Go.Proofs.YtiennniclkbjlaaGreatDoor.Wd

/-- a house, and where its lists lie -/
structure Hs where
  name : ByteArray
  ready : Int
  known : Bool
  gr : Gr
  tries : Int
  todo : List It
  ta : Option Addr
  tc : Nat
def FHs : Frm Hs where
  enc h := [.string h.name, .int .i64 h.ready, .bool h.known, .slice h.gr.na h.gr.nm.length h.gr.nc, .slice h.gr.ra h.gr.ru.length h.gr.rc, .int .i64 h.gr.wait, .int .i64 h.tries, .slice h.ta h.todo.length h.tc]
  k := 8
  pos := by decide
  len _ := rfl
  one _ u hu := by
    simp only [List.mem_cons, List.not_mem_nil, or_false] at hu
    rcases hu with rfl | rfl | rfl | rfl | rfl | rfl | rfl | rfl <;> rfl
theorem hs_at {w : World} {a0 : Option Addr} {cap : Nat} {L : List Hs} (h : IsRows FHs w a0 cap L) {i : Nat} (hi : i < L.length) : ∃ b off, a0 = some ⟨b, off, none⟩ ∧ w.cell? ⟨b, off + i * 8, none⟩ = some (.string L[i].name) ∧ w.cell? ⟨b, off + i * 8 + 1, none⟩ = some (.int .i64 L[i].ready) ∧ w.cell? ⟨b, off + i * 8 + 2, none⟩ = some (.bool L[i].known) ∧ w.cell? ⟨b, off + i * 8 + 3, none⟩ = some (.slice L[i].gr.na L[i].gr.nm.length L[i].gr.nc) ∧ w.cell? ⟨b, off + i * 8 + 4, none⟩ = some (.slice L[i].gr.ra L[i].gr.ru.length L[i].gr.rc) ∧ w.cell? ⟨b, off + i * 8 + 5, none⟩ = some (.int .i64 L[i].gr.wait) ∧ w.cell? ⟨b, off + i * 8 + 6, none⟩ = some (.int .i64 L[i].tries) ∧ w.cell? ⟨b, off + i * 8 + 7, none⟩ = some (.slice L[i].ta L[i].todo.length L[i].tc) := by
  obtain ⟨b, off, e, hc⟩ := h.at hi
  exact ⟨b, off, e, hc 0 _ rfl, hc 1 _ rfl, hc 2 _ rfl, hc 3 _ rfl, hc 4 _ rfl, hc 5 _ rfl, hc 6 _ rfl, hc 7 _ rfl⟩
/-- its lists lie there -/
def HsAt (w : World) (h : Hs) : Prop := GrAt w h.gr ∧ IsRows FIt w h.ta h.tc h.todo
def HssAt (w : World) (L : List Hs) : Prop := ∀ h ∈ L, HsAt w h
theorem HsAt.keep {w w' : World} {g : Hs} (h : HsAt w g) (hb : ∀ k, k < w.heap.size → w'.heap[k]? = w.heap[k]?) : HsAt w' g := ⟨h.1.keep hb, h.2.keep hb⟩
theorem HsAt.below {w w' : World} {g : Hs} (h : HsAt w g) (hb : Below w.heap.size w w') : HsAt w' g := h.keep fun k hk => hb.block k hk
theorem HssAt.keep {w w' : World} {L : List Hs} (h : HssAt w L) (hb : ∀ k, k < w.heap.size → w'.heap[k]? = w.heap[k]?) : HssAt w' L := fun g hg => (h g hg).keep hb
theorem HssAt.below {w w' : World} {L : List Hs} (h : HssAt w L) (hb : Below w.heap.size w w') : HssAt w' L := fun g hg => (h g hg).below hb
/-- a house, as a value -/
def hsV (h : Hs) : Value := .agg #[.string h.name, .int .i64 h.ready, .bool h.known, .slice h.gr.na h.gr.nm.length h.gr.nc, .slice h.gr.ra h.gr.ru.length h.gr.rc, .int .i64 h.gr.wait, .int .i64 h.tries, .slice h.ta h.todo.length h.tc]

/-- a trip, and where its lists lie -/
structure Tp where
  name : ByteArray
  now : Int
  hs : List Hs
  ha : Option Addr
  hc : Nat
  seen : List ByteArray
  sa : Option Addr
  sc : Nat
  lk : List Lk
  la : Option Addr
  lc : Nat
def TpAt (w : World) (t : Tp) : Prop := IsRows FHs w t.ha t.hc t.hs ∧ HssAt w t.hs ∧ IsStrs w t.sa t.sc t.seen ∧ IsRows FLk w t.la t.lc t.lk
theorem TpAt.keep {w w' : World} {t : Tp} (h : TpAt w t) (hb : ∀ k, k < w.heap.size → w'.heap[k]? = w.heap[k]?) : TpAt w' t := ⟨h.1.keep hb, h.2.1.keep hb, h.2.2.1.keep hb, h.2.2.2.keep hb⟩
theorem TpAt.below {w w' : World} {t : Tp} (h : TpAt w t) (hb : Below w.heap.size w w') : TpAt w' t := h.keep fun k hk => hb.block k hk
def tpV (t : Tp) : Value := .agg #[.string t.name, .int .i64 t.now, .slice t.ha t.hs.length t.hc, .slice t.sa t.seen.length t.sc, .slice t.la t.lk.length t.lc]

/-- is all that was heard of an address as it is written, each once? -/
def seenTo (L : List ByteArray) : Nat → Bool
  | 0 => true
  | k + 1 => seenTo L k && (match L[k]? with | some s => normT s && !(hasB s (L.take k)) | none => true)
theorem seen_step {L : List ByteArray} {k : Nat} (h : k < L.length) : seenTo L (k + 1) = (seenTo L k && (normT L[k] && !(hasB L[k] (L.take k)))) := by
  show (seenTo L k && _) = _
  rw [List.getElem?_eq_getElem h]
theorem seen_no {L : List ByteArray} {k : Nat} (h : seenTo L k = false) : ∀ n, k ≤ n → seenTo L n = false := by
  intro n
  induction n with
  | zero => intro hk; have : k = 0 := by omega
            subst this; exact h
  | succ n ih =>
    intro hk
    rcases Nat.lt_or_ge n k with h1 | h1
    · have : k = n + 1 := by omega
      subst this; exact h
    · show (seenTo L n && _) = false
      rw [ih h1]; rfl
/-- may such calls have been made up to now? -/
def lookTo (now : Int) (L : List Lk) : Nat → Bool
  | 0 => true
  | k + 1 => lookTo now L k && (match L[k]? with
    | some x => decide (0 ≤ x.time) && decide (x.time ≤ now) && normT x.addr && decide (0 ≤ x.kind ∧ x.kind ≤ 3) && (match k with | 0 => true | j + 1 => (match L[j]? with | some y => decide (y.time ≤ x.time) | none => true))
    | none => true)
/-- when the last call ahead was -/
def lastT (L : List Lk) : Nat → Int
  | 0 => 0
  | j + 1 => match L[j]? with | some y => y.time | none => 0
theorem last_at {L : List Lk} {k : Nat} (h : k < L.length) : lastT L (k + 1) = L[k].time := by
  show (match L[k]? with | some y => y.time | none => 0) = _
  rw [List.getElem?_eq_getElem h]
theorem look_no {now : Int} {L : List Lk} {k : Nat} (h : lookTo now L k = false) : ∀ n, k ≤ n → lookTo now L n = false := by
  intro n
  induction n with
  | zero => intro hk; have : k = 0 := by omega
            subst this; exact h
  | succ n ih =>
    intro hk
    rcases Nat.lt_or_ge n k with h1 | h1
    · have : k = n + 1 := by omega
      subst this; exact h
    · show (lookTo now L n && _) = false
      rw [ih h1]; rfl
theorem look_step {now : Int} {L : List Lk} {k : Nat} (h : k < L.length) (h0 : lookTo now L k = true) (hl : 0 ≤ lastT L k) : lookTo now L (k + 1) = (decide (lastT L k ≤ L[k].time) && decide (L[k].time ≤ now) && normT L[k].addr && decide (0 ≤ L[k].kind ∧ L[k].kind ≤ 3)) := by
  show (lookTo now L k && _) = _
  rw [h0, List.getElem?_eq_getElem h]
  dsimp only
  cases k with
  | zero =>
    show (true && (decide (0 ≤ L[0].time) && _ && _ && _ && true)) = (decide ((0 : Int) ≤ L[0].time) && _ && _ && _)
    simp
  | succ j =>
    rw [last_at (by omega)] at hl ⊢
    dsimp only
    rw [List.getElem?_eq_getElem (show j < L.length by omega)]
    dsimp only
    by_cases h1 : L[j].time ≤ L[j + 1].time
    · rw [decide_eq_true h1, decide_eq_true (show 0 ≤ L[j + 1].time by omega)]; simp
    · rw [decide_eq_false h1]; simp
/-- is what is left at a house of it, and heard of, each once? -/
def todoTo (seen : List ByteArray) (house : ByteArray) (L : List It) : Nat → Bool
  | 0 => true
  | k + 1 => todoTo seen house L k && (match L[k]? with
    | some x => (match readF x.addr.data.toList with | some A => A.house.toList == house.toList | none => false) && decide (0 ≤ x.tries ∧ x.tries ≤ 2) && hasB x.addr seen && !((L.take k).any fun y => y.addr.toList == x.addr.toList)
    | none => true)
/-- may a house, but for its Todo, stand in the trip of a caller of that name? -/
def hsB (name : ByteArray) (h : Hs) : Bool :=
  houseB h.name && decide (0 ≤ h.ready ∧ h.ready ≤ 5100) && decide (0 ≤ h.tries ∧ h.tries ≤ 2) && (match h.gr.nm with | [s] => s.toList == name.toList | _ => false) && decide (0 ≤ h.gr.wait ∧ h.gr.wait ≤ 20) && decide (h.gr.ru.length ≤ 40) && h.gr.ru.all (fun r => ruleL r.path.data.toList) && (h.known || (decide (h.gr.ru.length = 0) && decide (h.gr.wait = 0)))
def hsTo (name : ByteArray) (seen : List ByteArray) (L : List Hs) : Nat → Bool
  | 0 => true
  | k + 1 => hsTo name seen L k && (match L[k]? with
    | some h => hsB name h && todoTo seen h.name h.todo h.todo.length && !((L.take k).any fun y => y.name.toList == h.name.toList)
    | none => true)
/-- is a trip ok? -/
def tpOk (t : Tp) : Bool := nameB t.name && decide (0 ≤ t.now ∧ t.now ≤ 5000) && decide (t.seen.length ≤ 60) && decide (t.lk.length ≤ 400) && seenTo t.seen t.seen.length && hsTo t.name t.seen t.hs t.hs.length && lookTo t.now t.lk t.lk.length
end Go.Proofs.YtiennniclkbjlaaGreatDoor.TpM
