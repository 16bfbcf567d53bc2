/- A queue of one's own: a slice that is cut in front and grows behind. -/
import Derived.Test.YtiennniclkbjlaaGreatDoorAddr1Pk
import Derived.Deep.AppendSrc
namespace Go.Proofs.YtiennniclkbjlaaGreatDoor.ReM
open Go.RowKit Go.Proofs.YtiennniclkbjlaaGreatDoor.AddrM Go.Proofs.YtiennniclkbjlaaGreatDoor.St Go.Proofs.YtiennniclkbjlaaGreatDoor.EscL

/-- a queue of one's own; row: its block, if it has room for any -/
def IsQ (w : World) (base : Nat) (row : Option Nat) (v : Value) (L : List ByteArray) : Prop :=
  ∃ ao off cap, v = .slice ao L.length cap ∧ L.length ≤ cap ∧ cap ≤ maxLen ∧ ((cap = 0 ∧ row = none) ∨ ∃ b, 0 < cap ∧ row = some b ∧ ao = some ⟨b, off, none⟩ ∧ base ≤ b ∧ (∀ j (h : j < L.length), w.cell? ⟨b, off + j, none⟩ = some (.string L[j])) ∧ ∀ j, j < cap → (w.cell? ⟨b, off + j, none⟩).isSome = true ∧ w.frozen? ⟨b, off + j, none⟩ = false)
variable {w w' : World} {base : Nat} {row : Option Nat} {v : Value} {L : List ByteArray}
theorem IsQ.lt (h : IsQ w base row v L) : ∀ k, row = some k → base ≤ k ∧ k < w.heap.size := by
  obtain ⟨ao, off, cap, _, _, _, ⟨_, hr⟩ | ⟨b, hc, hr, _, hb, _, ht⟩⟩ := h
  · intro k hk; rw [hr] at hk; cases hk
  · intro k hk
    rw [hr] at hk
    have e : b = k := Option.some.inj hk
    subst e
    obtain ⟨u, hu⟩ := Option.isSome_iff_exists.1 (ht 0 hc).1
    exact ⟨hb, cell_block hu⟩
theorem IsQ.grown {row' : Option Nat} (h : IsQ w base row v L) (hg : w.grownBy w' row') (hr : ∀ k, row = some k → row' = some k → False) : IsQ w' base row v L := by
  have hlt := h.lt
  obtain ⟨ao, off, cap, h1, h2, h3, h4 | ⟨b, hc, hrow, ha, hb, hl, ht⟩⟩ := h
  · exact ⟨ao, off, cap, h1, h2, h3, Or.inl h4⟩
  · have e := hg.block b (hlt b hrow).2 (fun e => hr b hrow e.symm)
    refine ⟨ao, off, cap, h1, h2, h3, Or.inr ⟨b, hc, hrow, ha, hb, fun j hj => ?_, fun j hj => ?_⟩⟩
    · rw [World.cell?_of_block (a := ⟨b, off + j, none⟩) e]; exact hl j hj
    · rw [World.cell?_of_block (a := ⟨b, off + j, none⟩) e, World.frozen?_of_block (a := ⟨b, off + j, none⟩) e]; exact ht j hj
theorem IsQ.below (h : IsQ w base row v L) (hb : Below w.heap.size w w') : IsQ w' base row v L :=
  h.grown (row' := none) ⟨hb.os, hb.tape, hb.output, hb.size, fun k hk _ => hb.block k hk⟩ (fun _ _ e => by cases e)
theorem IsQ.form (h : IsQ w base row v L) : ∃ a c, v = .slice a L.length c := by
  obtain ⟨ao, _, cap, h1, _⟩ := h
  exact ⟨ao, cap, h1⟩
theorem heap_cells {g : Nat} {cur : Array Value} {t : TypeId} (hg : w.heap[g]? = some (.cells cur t (0, 0))) {j : Nat} (hj : j < cur.size) : (w.cell? ⟨g, j, none⟩).isSome = true ∧ w.frozen? ⟨g, j, none⟩ = false := by
  have e : w.cell? ⟨g, j, none⟩ = cur[j]? := cell_of_row w g j cur t (0, 0) hg
  refine ⟨by rw [e, Array.getElem?_eq_getElem hj]; rfl, ?_⟩
  simp [World.frozen?, hg]
/-- what one owns is a queue -/
theorem IsQ.own (h : Owns w base v L) : ∃ row, IsQ w base row v L ∧ ∀ k, row = some k → v.ownBlock = some k := by
  have h' := h
  obtain ⟨_, ⟨rfl, hn⟩ | ⟨g, cap, cur, rfl, hg, hh, hn, hm, hs, _⟩⟩ := h
  · exact ⟨none, ⟨none, 0, 0, by rw [hn], by omega, Nat.zero_le _, Or.inl ⟨rfl, rfl⟩⟩, fun k hk => by cases hk⟩
  · by_cases hc : cap = 0
    · subst hc
      exact ⟨none, ⟨_, 0, 0, rfl, hn, hm, Or.inl ⟨rfl, rfl⟩⟩, fun k hk => by cases hk⟩
    · refine ⟨some g, ⟨_, 0, cap, rfl, hn, hm, Or.inr ⟨g, by omega, rfl, rfl, hg, fun j hj => ?_, fun j hj => ?_⟩⟩, fun k hk => hk⟩
      · have := World.ownsRow.cells h' (g := g) rfl j (.string L[j]) (by simp [cellsS, List.getElem?_eq_getElem hj])
        rw [add_mk] at this; exact this
      · rw [Nat.zero_add]
        exact heap_cells hh (by rw [hs]; omega)
/-- its head, and what is left behind it -/
theorem IsQ.pop {x : ByteArray} (h : IsQ w base row v (x :: L)) : ∃ b off cap row', v = .slice (some ⟨b, off, none⟩) (L.length + 1) (cap + 1) ∧ cap + 1 ≤ maxLen ∧ L.length ≤ cap ∧ w.cell? ⟨b, off, none⟩ = some (.string x) ∧ IsQ w base row' (.slice (if cap = 0 then some ⟨b, off, none⟩ else some ⟨b, off + 1, none⟩) L.length cap) L ∧ ∀ k, row' = some k → row = some k := by
  obtain ⟨ao, off, cap, h1, h2, h3, ⟨hc, _⟩ | ⟨b, hc, hrow, ha, hb, hl, ht⟩⟩ := h
  · rw [List.length_cons] at h2; omega
  · rw [List.length_cons] at h2 h1
    obtain ⟨n, rfl⟩ : ∃ n, cap = n + 1 := ⟨cap - 1, by omega⟩
    subst ha
    have h0 := hl 0 (by simp)
    by_cases hn : n = 0
    · subst hn
      exact ⟨b, off, 0, none, h1, h3, by omega, h0, ⟨_, off, 0, by rw [if_pos rfl], by omega, Nat.zero_le _, Or.inl ⟨rfl, rfl⟩⟩, fun k hk => by cases hk⟩
    · refine ⟨b, off, n, some b, h1, h3, by omega, h0, ⟨_, off + 1, n, by rw [if_neg hn], by omega, by omega, Or.inr ⟨b, by omega, rfl, rfl, hb, fun j hj => ?_, fun j hj => ?_⟩⟩, fun k hk => by rw [hrow]; exact hk⟩
      · have := hl (j + 1) (by simp; omega)
        rw [show off + 1 + j = off + (j + 1) by omega]; exact this
      · rw [show off + 1 + j = off + (j + 1) by omega]; exact ht (j + 1) (by omega)

theorem grown_setCells (b : Nat) : ∀ (vs : List Value) (o : Nat) (w : World), w.grownBy (w.setCells b o vs) (some b)
  | [], _, w => ⟨rfl, rfl, rfl, Nat.le_refl _, fun _ _ _ => rfl⟩
  | v :: r, o, w => by
    have h1 : w.grownBy (w.setCell ⟨b, o, none⟩ v) (some b) := ⟨rfl, rfl, rfl, by simp [World.setCell], fun k hk hr => Below.heap_setCell _ _ _ _ (fun e => hr (by rw [e]))⟩
    have h2 := grown_setCells b r (o + 1) (w.setCell ⟨b, o, none⟩ v)
    exact ⟨h2.os.trans h1.os, h2.tape.trans h1.tape, h2.output.trans h1.output, Nat.le_trans h1.size h2.size, fun k hk hne => (h2.block k (Nat.lt_of_lt_of_le hk h1.size) hne).trans (h1.block k hk hne)⟩
/-- what is put behind it -/
theorem src_strs {a : Option Addr} {c : Nat} {F : List ByteArray} (h : IsStrs w a c F) : Src Tryz.prog 1 23 (.slice a F.length c) F.length (cellsS F) w := by
  have hlen : (cellsS F).length = F.length := by simp [cellsS]
  cases F with
  | nil => 
    refine ⟨Or.inl ⟨_, Tryz.underlying23⟩, fun _ => rfl, ?_, ?_, rfl, fun u hu => by cases hu⟩
    · cases a with
      | none => exact run_firstCells_none w 1 0 0 c
      | some a => exact run_firstCells_some w 1 0 a 0 c [] rfl (fun j u hu => by simp at hu)
    · cases a with
      | none => exact run_firstCells_none w.drew 1 0 0 c
      | some a => exact run_firstCells_some w.drew 1 0 a 0 c [] rfl (fun j u hu => by simp at hu)
  | cons y r =>
    obtain ⟨b, off, e, hc⟩ := h.2.2.2 (by simp)
    subst e
    refine Src.ofSlice w Tryz.underlying23 ⟨b, off, none⟩ _ c (cellsS (y :: r)) (by rw [hlen, Nat.mul_one]) (fun j u hu => ?_) (fun u hu => ?_)
    · have hj : j < (y :: r).length := by
        have := (List.getElem?_eq_some_iff.1 hu).1
        rw [hlen] at this; exact this
      rw [add_mk, hc j hj]
      have : (cellsS (y :: r))[j]? = some (.string (y :: r)[j]) := by unfold cellsS; rw [List.getElem?_map, List.getElem?_eq_getElem hj]; rfl
      rw [this] at hu; exact hu
    · unfold cellsS at hu
      obtain ⟨_, _, rfl⟩ := List.mem_map.1 hu
      rfl
theorem cells_at {F : List ByteArray} {j : Nat} (h : j < F.length) : (cellsS F)[j]? = some (.string F[j]) := by unfold cellsS; rw [List.getElem?_map, List.getElem?_eq_getElem h]; rfl
theorem cells_len (F : List ByteArray) : (cellsS F).length = F.length := by simp [cellsS]

/-- the run of it -/
theorem run_append_q (ty : TypeId) {a : Option Addr} {c : Nat} {F : List ByteArray} (h : IsQ w base row v L) (hs : IsStrs w a c F) (hb : base ≤ w.heap.size) (hl : L.length + F.length ≤ 4194304) :
    ∃ v' w' row', (Builtin.append_ #[23, 23] ty #[v, .slice a F.length c]).run Tryz.prog w = .ok v' w' ∧ IsQ w' base row' v' (L ++ F) ∧ w.grownBy w' row ∧ (row' = row ∨ ∃ g, row' = some g ∧ w.heap.size ≤ g) := by
  obtain ⟨i0, hi, hz0, hz1, hz2⟩ := info_parts Tryz.infoS
  have hsrc : Src Tryz.prog i0.size 23 (.slice a F.length c) F.length (cellsS F) w := by rw [hz1]; exact src_strs hs
  have hlt := h.lt
  obtain ⟨ao, off, cap, rfl, h2, h3, h4⟩ := h
  by_cases hroom : L.length + F.length ≤ cap
  · rcases h4 with ⟨hc, hr⟩ | ⟨b, hc, hr, ha, hbb, hcl, ht⟩
    · have hF : F = [] := List.eq_nil_of_length_eq_zero (by omega)
      have hL : L = [] := List.eq_nil_of_length_eq_zero (by omega)
      subst hF; subst hL; subst hc
      refine ⟨.slice ao 0 0, w, row, ?_, ⟨ao, off, 0, rfl, Nat.le_refl _, Nat.zero_le _, Or.inl ⟨rfl, hr⟩⟩, ⟨rfl, rfl, rfl, Nat.le_refl _, fun _ _ _ => rfl⟩, Or.inl rfl⟩
      have hs2 : Src Tryz.prog i0.size 23 (.slice a 0 c) 0 [] w := hsrc
      cases ao <;> simp [Builtin.append_, run_underlying Tryz.underlying23, sizeOf, typeInfo, hi, hs2.len, hs2.cells, storeCells]
    · subst ha
      have hrun := run_append_room_src (P := Tryz.prog) w 23 23 ty 9 i0 Tryz.underlying23 hi b off L.length cap _ F.length (cellsS F) hsrc hroom (fun j hj => by
        rw [cells_len] at hj
        rw [hz1, Nat.mul_one, Nat.add_assoc]; exact (ht (L.length + j) (by omega)).1) (fun j hj => by
        rw [cells_len] at hj
        rw [hz1, Nat.mul_one, Nat.add_assoc]; exact (ht (L.length + j) (by omega)).2)
      rw [hz1, Nat.mul_one] at hrun
      refine ⟨_, _, row, hrun, ⟨_, off, cap, by rw [List.length_append], by rw [List.length_append]; exact hroom, h3, Or.inr ⟨b, hc, hr, rfl, hbb, fun j hj => ?_, fun j hj => ?_⟩⟩, by rw [hr]; exact grown_setCells b _ _ w, Or.inl rfl⟩
      · rw [List.length_append] at hj
        by_cases hj2 : j < L.length
        · rw [World.cell?_setCells_out b _ _ w ⟨b, off + j, none⟩ (fun _ _ => Or.inl (by simp; omega)), List.getElem_append_left hj2]
          exact hcl j hj2
        · have := World.cell?_setCells_in b (cellsS F) (off + L.length) w (fun k hk => by
            rw [cells_len] at hk
            rw [Nat.add_assoc]; exact (ht (L.length + k) (by omega)).1) (j - L.length) (by rw [cells_len]; omega)
          rw [show off + L.length + (j - L.length) = off + j by omega] at this
          rw [this, List.getElem_append_right (by omega)]
          simp [cellsS]
      · refine ⟨?_, by rw [World.frozen?_setCells]; exact (ht j hj).2⟩
        by_cases hj2 : L.length ≤ j ∧ j < L.length + F.length
        · have := World.cell?_setCells_in b (cellsS F) (off + L.length) w (fun k hk => by
            rw [cells_len] at hk
            rw [Nat.add_assoc]; exact (ht (L.length + k) (by omega)).1) (j - L.length) (by rw [cells_len]; omega)
          rw [show off + L.length + (j - L.length) = off + j by omega] at this
          rw [this]; rfl
        · rw [World.cell?_setCells_out b _ _ w ⟨b, off + j, none⟩ (fun _ _ => by rw [cells_len]; simp; omega)]
          exact (ht j hj).1
  · have hold : (Builtin.firstCells i0.size L.length (.slice ao L.length cap)).run Tryz.prog w.drew = .ok (cellsS L).toArray w.drew := by
      rw [hz1]
      rcases h4 with ⟨hc, _⟩ | ⟨b, hc, hr, ha, hbb, hcl, ht⟩
      · have hL : L = [] := List.eq_nil_of_length_eq_zero (by omega)
        subst hL
        cases ao with
        | none => exact run_firstCells_none w.drew 1 0 0 cap
        | some a => exact run_firstCells_some w.drew 1 0 a 0 cap [] rfl (fun j u hu => by simp at hu)
      · subst ha
        refine run_firstCells_some w.drew 1 L.length ⟨b, off, none⟩ L.length cap (cellsS L) (by rw [cells_len, Nat.mul_one]) (fun j u hu => ?_)
        have hj : j < L.length := by
          have := (List.getElem?_eq_some_iff.1 hu).1
          rw [cells_len] at this; exact this
        rw [cells_at hj] at hu
        rw [add_mk, ← hu]
        exact hcl j hj
    have hrun := run_append_grow_src (P := Tryz.prog) w 23 23 ty 9 i0 (.string ⟨#[]⟩) Tryz.underlying23 hi hz0 ao L.length cap (cellsS L) hold _ F.length (cellsS F) hsrc (by omega) (by omega) (growslice_fits (by omega) (by rw [hz2]; omega))
    have hge := grownCap_ge w (L.length + F.length) cap 9
    have hcm := grownCap_le_maxLen w (L.length + F.length) cap 9 (by unfold maxLen; omega)
    refine ⟨_, _, some w.heap.size, hrun, ?_, ⟨rfl, rfl, rfl, by simp, fun k hk _ => Below.heap_alloc w.drew _ k hk⟩, Or.inr ⟨_, rfl, Nat.le_refl _⟩⟩
    generalize grownCap w (L.length + F.length) cap 9 = nc at *
    by_cases h0 : nc = 0
    · omega
    have hn : (w.drew.alloc (.cells ((cellsS L ++ cellsS F).toArray ++ Builtin.zeroCells (Value.string ⟨#[]⟩).cells (nc - (L.length + F.length))) 9)).heap[w.heap.size]? = some (.cells ((cellsS L ++ cellsS F).toArray ++ Builtin.zeroCells (Value.string ⟨#[]⟩).cells (nc - (L.length + F.length))) 9 (0, 0)) := heap_alloc_new w.drew _
    have hz : ((cellsS L ++ cellsS F).toArray ++ Builtin.zeroCells (Value.string ⟨#[]⟩).cells (nc - (L.length + F.length))).size = nc := by
      rw [Array.size_append, size_zeroCells]
      simp [cells_len, Value.cells]; omega
    refine ⟨_, 0, nc, by rw [List.length_append], by rw [List.length_append]; exact hge, hcm, Or.inr ⟨w.heap.size, by omega, rfl, rfl, hb, fun j hj => ?_, fun j hj => ?_⟩⟩
    · rw [Nat.zero_add, cell_of_row _ _ j _ _ (0, 0) hn]
      rw [List.length_append] at hj
      rw [Array.getElem?_append_left (by simp [cells_len]; omega), List.getElem?_toArray]
      have : cellsS L ++ cellsS F = cellsS (L ++ F) := by simp [cellsS]
      rw [this, cells_at (by rw [List.length_append]; exact hj)]
    · rw [Nat.zero_add]
      exact heap_cells hn (by rw [hz]; exact hj)
/-- .. at the operation -/
theorem wp_append_q {ops : Array Oper} {rest : List Oper} {o : Oper} {ac : Act} {Q : Exit → Act → World → Prop} (hgd : o.guard = none) (s x : Operand)
    (ho : o.op = .call { callee := .builtin .append, args := #[s, x], argTypes := #[23, 23] })
    {a : Option Addr} {c : Nat} {F : List ByteArray} (hv : ac.eval s = v) (h : IsQ w base row v L) (hx : ac.eval x = .slice a F.length c) (hs : IsStrs w a c F) (hb : base ≤ w.heap.size) (hl : L.length + F.length ≤ 4194304)
    (hK : ∀ v' w' row', IsQ w' base row' v' (L ++ F) → w.grownBy w' row → (row' = row ∨ ∃ g, row' = some g ∧ w.heap.size ≤ g) → wpList Tryz.prog ops Q rest (ac.put o.dst v') w') : wpList Tryz.prog ops Q (o :: rest) ac w := by
  refine wpList_plain hgd fun K hK' => ?_
  obtain ⟨v', w', row', hrun, r1, r2, r3⟩ := run_append_q o.type h hs hb hl
  unfold Oper.wp
  simp [execOp, ho, resolve, invoke, builtin, hv, hx, hrun, Result.andThen]
  exact hK' _ _ (hK v' w' row' r1 r2 r3)
end Go.Proofs.YtiennniclkbjlaaGreatDoor.ReM
