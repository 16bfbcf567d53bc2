/- Maps keyed by texts, of the call's own: what they hold, as a list of pairs. -/
import Derived.Test.YtboncolbijicfaaGreatDoorStrs
import Derived.Maps.OwnOps
namespace Go.Proofs.YtboncolbijicfaaGreatDoor.Mp
open Go.RowKit Go.Proofs.YtboncolbijicfaaGreatDoor.St Go.MapKept

theorem ba_beq (a b : ByteArray) : (a == b) = decide (a = b) := by
  by_cases h : a = b
  · rw [decide_eq_true h]; exact (MapKept.bytes_beq a b).2 h
  · rw [decide_eq_false h]
    cases hb : (a == b) with
    | false => rfl
    | true => exact absurd ((MapKept.bytes_beq a b).1 hb) h
def getM : List (ByteArray × Value) → ByteArray → Option Value
  | [], _ => none
  | p :: r, s => if s = p.1 then some p.2 else getM r s
def putM : List (ByteArray × Value) → ByteArray → Value → List (ByteArray × Value)
  | [], s, v => [(s, v)]
  | p :: r, s, v => if s = p.1 then (s, v) :: r else p :: putM r s v
theorem get_put (M : List (ByteArray × Value)) (s : ByteArray) (v : Value) (t : ByteArray) : getM (putM M s v) t = if t = s then some v else getM M t := by
  induction M with
  | nil => simp only [putM, getM]
  | cons p r ih =>
    unfold putM
    by_cases h : s = p.1
    · rw [if_pos h]
      simp only [getM]
      by_cases h2 : t = s
      · rw [if_pos h2, if_pos h2]
      · rw [if_neg h2, if_neg h2, if_neg (fun e => h2 (e.trans h.symm))]
    · rw [if_neg h]
      simp only [getM]
      by_cases h2 : t = p.1
      · rw [if_pos h2, if_pos h2, if_neg (fun e => h (e.symm.trans h2))]
      · rw [if_neg h2, if_neg h2, ih]
theorem get_put_same (M : List (ByteArray × Value)) (s : ByteArray) (v : Value) : getM (putM M s v) s = some v := by rw [get_put, if_pos rfl]
theorem get_put_other {M : List (ByteArray × Value)} {s t : ByteArray} {v : Value} (h : t ≠ s) : getM (putM M s v) t = getM M t := by rw [get_put, if_neg h]

/-- block b holds these pairs -/
def IsMap (w : World) (b : Nat) (M : List (ByteArray × Value)) : Prop := ∃ es clock, w.heap[b]? = some (.map es clock) ∧ es.toList.map (fun e => (e.key, e.val)) = M.map (fun p => (Value.string p.1, p.2))
section
variable {w w' : World} {b : Nat} {M : List (ByteArray × Value)} {P : Program}
theorem IsMap.lt (h : IsMap w b M) : b < w.heap.size := by obtain ⟨_, _, hb, _⟩ := h; exact (Array.getElem?_eq_some_iff.1 hb).1
theorem IsMap.same (h : IsMap w b M) (e : w'.heap[b]? = w.heap[b]?) : IsMap w' b M := by
  obtain ⟨es, c, hb, hm⟩ := h
  exact ⟨es, c, e.trans hb, hm⟩
theorem IsMap.keep (h : IsMap w b M) (hb : ∀ k, k < w.heap.size → w'.heap[k]? = w.heap[k]?) : IsMap w' b M := h.same (hb b h.lt)
theorem IsMap.below (h : IsMap w b M) (hb : Below w.heap.size w w') : IsMap w' b M := h.keep fun k hk => hb.block k hk
theorem IsMap.grown {row : Option Nat} (h : IsMap w b M) (hg : w.grownBy w' row) (hr : row ≠ some b) : IsMap w' b M := h.same (hg.block b h.lt (fun e => hr e.symm))
theorem IsMap.alloc (h : IsMap w b M) (o : Obj) : IsMap (w.alloc o) b M := h.keep (alloc_keep _ _)
theorem IsMap.drewN (h : IsMap w b M) (n : Nat) : IsMap (w.drewN n) b M := h.same rfl
theorem IsMap.setCell (h : IsMap w b M) {p : Addr} (hp : p.block ≠ b) (v : Value) : IsMap (w.setCell p v) b M := h.same (Below.heap_setCell _ _ _ _ (fun e => hp e.symm))
theorem IsMap.new (w : World) : IsMap (w.alloc (.map #[] 0)) w.heap.size [] := ⟨#[], 0, by show (w.heap.push _)[w.heap.size]? = _; simp, rfl⟩

theorem find_now (s : ByteArray) : ∀ (l : List MapEntry) (M : List (ByteArray × Value)) (i : Nat), l.map (fun e => (e.key, e.val)) = M.map (fun p => (Value.string p.1, p.2)) →
    (Instr.findNow .string (.string s) l i = some none ∧ getM M s = none ∧ ∀ v, putM M s v = M ++ [(s, v)]) ∨
    ∃ j v e, Instr.findNow .string (.string s) l i = some (some (i + j, v)) ∧ getM M s = some v ∧ l[j]? = some e ∧ e.key = .string s ∧ ∀ v', (l.modify j fun e => { e with key := .string s, val := v' }).map (fun e => (e.key, e.val)) = (putM M s v').map (fun p => (Value.string p.1, p.2)) := by
  intro l
  induction l with
  | nil =>
    intro M i h
    cases M with
    | nil => left; exact ⟨rfl, rfl, fun _ => rfl⟩
    | cons p r => simp at h
  | cons e l ih =>
    intro M i h
    cases M with
    | nil => simp at h
    | cons p r =>
      simp only [List.map_cons, List.cons.injEq, Prod.mk.injEq] at h
      obtain ⟨⟨hk, hv⟩, hr⟩ := h
      by_cases hs : s = p.1
      · right
        refine ⟨0, e.val, e, ?_, ?_, rfl, by rw [hk, hs], ?_⟩
        · simp [Instr.findNow, hk, Instr.sameNow, hs, ba_beq]
        · unfold getM; rw [if_pos hs, hv]
        · intro v'
          unfold putM; rw [if_pos hs]
          simp [hr]
      · have hn : Instr.findNow .string (.string s) (e :: l) i = Instr.findNow .string (.string s) l (i + 1) := by
          simp [Instr.findNow, hk, Instr.sameNow, hs, ba_beq]
        rcases ih r (i + 1) hr with ⟨h1, h2, h3⟩ | ⟨j, v, e0, h1, h2, h3, h4, h5⟩
        · left
          refine ⟨by rw [hn]; exact h1, by unfold getM; rw [if_neg hs]; exact h2, fun v => ?_⟩
          unfold putM; rw [if_neg hs, h3]; rfl
        · right
          refine ⟨j + 1, v, e0, by rw [hn, h1]; congr 3; omega, by unfold getM; rw [if_neg hs]; exact h2, by simpa using h3, h4, fun v' => ?_⟩
          unfold putM; rw [if_neg hs]
          simp only [List.modify_succ_cons, List.map_cons, h5 v', hk, hv]

theorem run_look (h : IsMap w b M) {t k e : TypeId} (ht : P.underlying t = some (.map k e)) (hk : P.underlying k = some .string) {z : Value} (hz : (zeroValue e).run P w = .ok z w) (s : ByteArray) (c : Bool) :
    (Instr.lookup t (.map (some b)) (.string s) c).run P w = .ok (if c then .tuple #[(getM M s).getD z, .bool (getM M s).isSome] else (getM M s).getD z) w := by
  obtain ⟨es, clock, hb, hm⟩ := h
  rcases find_now s es.toList M 0 hm with ⟨h1, h2, _⟩ | ⟨j, v, e0, h1, h2, _⟩
  · have hf := run_findKey (P := P) (w := w) hk h1
    simp [Instr.lookup, run_underlying ht, MapKept.run_getObj_map hb, run_checkKey hk (show IsKey .string (.string s) from trivial), hf, hz, Result.andThen, h2]
  · have hf := run_findKey (P := P) (w := w) hk h1
    simp [Instr.lookup, run_underlying ht, MapKept.run_getObj_map hb, run_checkKey hk (show IsKey .string (.string s) from trivial), hf, Result.andThen, h2]
theorem run_store (h : IsMap w b M) {t k e : TypeId} (ht : P.underlying t = some (.map k e)) (hk : P.underlying k = some .string) (s : ByteArray) (v : Value) :
    ∃ w', (Instr.mapUpdate t (.map (some b)) (.string s) v).run P w = .ok () w' ∧ IsMap w' b (putM M s v) ∧ w.grownBy w' (some b) := by
  obtain ⟨es, clock, hb, hm⟩ := h
  have hg : ∀ o, w.grownBy { w with heap := w.heap.setIfInBounds b o } (some b) := fun o => ⟨rfl, rfl, rfl, by simp, fun i _ hi => by
    have : i ≠ b := fun e => hi (by rw [e])
    simp [Ne.symm this]⟩
  have hlt : b < w.heap.size := (Array.getElem?_eq_some_iff.1 hb).1
  rcases find_now s es.toList M 0 hm with ⟨h1, h2, h3⟩ | ⟨j, v0, e0, h1, h2, h3, h4, h5⟩
  · have hf := run_findKey (P := P) (w := w) hk h1
    refine ⟨_, by simp [Instr.mapUpdate, run_underlying ht, MapKept.run_getObj_map hb, run_checkKey hk (show IsKey .string (.string s) from trivial), hf, MapKept.run_setObj_map _ hb, Result.andThen]; rfl, ?_, hg _⟩
    refine ⟨es.push ⟨.string s, v, clock⟩, clock + 1, by simp [hlt], ?_⟩
    rw [h3]; simp [hm]
  · have hf := run_findKey (P := P) (w := w) hk h1
    have hj : es[j]? = some e0 := by simpa using h3
    refine ⟨_, by simp [Instr.mapUpdate, run_underlying ht, MapKept.run_getObj_map hb, run_checkKey hk (show IsKey .string (.string s) from trivial), hf, hj, h4, run_keyThatStays (show IsKey .string (.string s) from trivial), MapKept.run_setObj_map _ hb, Result.andThen]; rfl, ?_, hg _⟩
    refine ⟨_, clock, by simp [hlt]; rfl, ?_⟩
    simpa using h5 v
end

/-- a look-up, at the operation -/
theorem wp_look {P : Program} (w : World) {ops : Array Oper} {rest : List Oper} {o : Oper} {a : Act} {Q : Exit → Act → World → Prop}
    (hg : o.guard = none) (m x : Operand) (t : TypeId) (c : Bool) (hop : o.op = Op.lookup t m x c) (k e : TypeId) (ht : P.underlying t = some (.map k e)) (hk : P.underlying k = some .string) (z : Value) (hz : (zeroValue e).run P w = .ok z w) (b : Nat) (M : List (ByteArray × Value))
    (hm : a.eval m = .map (some b)) (hown : IsMap w b M) (s : ByteArray) (hx : a.eval x = .string s) (y : Value) (hy : (if c then .tuple #[(getM M s).getD z, .bool (getM M s).isSome] else (getM M s).getD z) = y)
    (hK : wpList P ops Q rest (a.put o.dst y) w) :
    wpList P ops Q (o :: rest) a w := by
  refine wpList_plain hg fun K' hK' => ?_
  have hrun := run_look hown ht hk hz s c
  rw [hy] at hrun
  unfold Oper.wp
  simp [execOp, hop, hm, hx, hrun, Result.andThen]
  exact hK' _ _ hK
/-- a store, at the operation -/
theorem wp_store {P : Program} (w : World) {ops : Array Oper} {rest : List Oper} {o : Oper} {a : Act} {Q : Exit → Act → World → Prop}
    (hg : o.guard = none) (m x v : Operand) (t : TypeId) (hop : o.op = Op.mapUpdate t m x v) (k e : TypeId) (ht : P.underlying t = some (.map k e)) (hk : P.underlying k = some .string) (b : Nat) (M : List (ByteArray × Value))
    (hm : a.eval m = .map (some b)) (hown : IsMap w b M) (s : ByteArray) (hx : a.eval x = .string s) (val : Value) (hv : a.eval v = val)
    (hK : ∀ w', IsMap w' b (putM M s val) → w.grownBy w' (some b) → wpList P ops Q rest (a.put o.dst undef) w') :
    wpList P ops Q (o :: rest) a w := by
  refine wpList_plain hg fun K' hK' => ?_
  obtain ⟨w', hrun, r1, r2⟩ := run_store (P := P) hown ht hk s val
  unfold Oper.wp
  simp [execOp, hop, hm, hx, hv, hrun, Result.andThen]
  exact hK' _ _ (hK w' r1 r2)
end Go.Proofs.YtboncolbijicfaaGreatDoor.Mp
