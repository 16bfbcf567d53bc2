/- Queues of structs of one's own: slices that are cut in front and grow behind. -/
import Derived.Test.YtiennniclkbjlaaGreatDoorStrsPk
import Derived.Deep.AppendSrc
namespace Go.Proofs.YtiennniclkbjlaaGreatDoor.RoQ
open Go.RowKit Go.Proofs.YtiennniclkbjlaaGreatDoor.St Go.Proofs.YtiennniclkbjlaaGreatDoor.RR

variable {α : Type} {F : Frm α} {w w' : World} {base : Nat} {row : Option Nat} {v : Value} {L : List α}
/-- a queue of one's own; row: its block, if it has room for any -/
def IsQF (F : Frm α) (w : World) (base : Nat) (row : Option Nat) (v : Value) (L : List α) : Prop :=
  ∃ ao off cap, v = .slice ao L.length cap ∧ L.length ≤ cap ∧ cap ≤ maxLen ∧ ((cap = 0 ∧ row = none) ∨ ∃ b, 0 < cap ∧ row = some b ∧ ao = some ⟨b, off, none⟩ ∧ base ≤ b ∧ (∀ j u, (F.cells L)[j]? = some u → w.cell? ⟨b, off + j, none⟩ = some u) ∧ ∀ j, j < cap * F.k → (w.cell? ⟨b, off + j, none⟩).isSome = true ∧ w.frozen? ⟨b, off + j, none⟩ = false)
theorem IsQF.lt (h : IsQF F w base row v L) : ∀ k, row = some k → base ≤ k ∧ k < w.heap.size := by
  obtain ⟨ao, off, cap, _, _, _, ⟨_, hr⟩ | ⟨b, hc, hr, _, hb, _, ht⟩⟩ := h
  · intro k hk; rw [hr] at hk; cases hk
  · intro k hk
    rw [hr] at hk
    have e : b = k := Option.some.inj hk
    subst e
    obtain ⟨u, hu⟩ := Option.isSome_iff_exists.1 (ht 0 (Nat.mul_pos hc F.pos)).1
    exact ⟨hb, cell_block hu⟩
theorem IsQF.grown {row' : Option Nat} (h : IsQF F w base row v L) (hg : w.grownBy w' row') (hr : ∀ k, row = some k → row' = some k → False) : IsQF F w' base row v L := by
  have hlt := h.lt
  obtain ⟨ao, off, cap, h1, h2, h3, h4 | ⟨b, hc, hrow, ha, hb, hl, ht⟩⟩ := h
  · exact ⟨ao, off, cap, h1, h2, h3, Or.inl h4⟩
  · have e := hg.block b (hlt b hrow).2 (fun e => hr b hrow e.symm)
    refine ⟨ao, off, cap, h1, h2, h3, Or.inr ⟨b, hc, hrow, ha, hb, fun j u hj => ?_, fun j hj => ?_⟩⟩
    · rw [World.cell?_of_block (a := ⟨b, off + j, none⟩) e]; exact hl j u hj
    · rw [World.cell?_of_block (a := ⟨b, off + j, none⟩) e, World.frozen?_of_block (a := ⟨b, off + j, none⟩) e]; exact ht j hj
theorem IsQF.below (h : IsQF F w base row v L) (hb : Below w.heap.size w w') : IsQF F w' base row v L :=
  h.grown (row' := none) ⟨hb.os, hb.tape, hb.output, hb.size, fun k hk _ => hb.block k hk⟩ (fun _ _ e => by cases e)
theorem IsQF.mono (h : IsQF F w base row v L) {base' : Nat} (hb : base' ≤ base) : IsQF F w base' row v L := by
  obtain ⟨ao, off, cap, h1, h2, h3, h4 | ⟨b, hc, hrow, ha, hbb, hl, ht⟩⟩ := h
  · exact ⟨ao, off, cap, h1, h2, h3, Or.inl h4⟩
  · exact ⟨ao, off, cap, h1, h2, h3, Or.inr ⟨b, hc, hrow, ha, Nat.le_trans hb hbb, hl, ht⟩⟩
theorem IsQF.form (h : IsQF F w base row v L) : ∃ a c, v = .slice a L.length c := by
  obtain ⟨ao, _, cap, h1, _⟩ := h
  exact ⟨ao, cap, h1⟩
theorem IsQF.nil (F : Frm α) (w : World) (base : Nat) : IsQF F w base none (.slice none 0 0) ([] : List α) := ⟨none, 0, 0, rfl, Nat.le_refl _, Nat.zero_le _, Or.inl ⟨rfl, rfl⟩⟩
/-- it lies there -/
theorem IsQF.rows (h : IsQF F w base row v L) : ∃ a c, v = .slice a L.length c ∧ IsRows F w a c L := by
  obtain ⟨ao, off, cap, h1, h2, h3, ⟨hc, _⟩ | ⟨b, hc, _, ha, _, hl, _⟩⟩ := h
  · exact ⟨ao, cap, h1, h2, h3, fun _ => hc, fun hn => absurd (List.eq_nil_of_length_eq_zero (by omega)) hn⟩
  · exact ⟨ao, cap, h1, h2, h3, fun e => (by rw [ha] at e; cases e), fun _ => ⟨b, off, ha, hl⟩⟩
theorem heap_cells {g : Nat} {cur : Array Value} {t : TypeId} (hg : w.heap[g]? = some (.cells cur t (0, 0))) {j : Nat} (hj : j < cur.size) : (w.cell? ⟨g, j, none⟩).isSome = true ∧ w.frozen? ⟨g, j, none⟩ = false := by
  have e : w.cell? ⟨g, j, none⟩ = cur[j]? := cell_of_row w g j cur t (0, 0) hg
  refine ⟨by rw [e, Array.getElem?_eq_getElem hj]; rfl, ?_⟩
  simp [World.frozen?, hg]
/-- what one owns is a queue -/
theorem IsQF.own {t : TypeId} (h : OwnsR F t w base v L) : ∃ row, IsQF F w base row v L ∧ ∀ k, row = some k → v.ownBlock = some k := by
  have h' := h
  obtain ⟨_, ⟨rfl, hn⟩ | ⟨g, cap, cur, rfl, hg, hh, hn, hm, hs, _⟩⟩ := h
  · exact ⟨none, ⟨none, 0, 0, by rw [hn], by omega, Nat.zero_le _, Or.inl ⟨rfl, rfl⟩⟩, fun k hk => by cases hk⟩
  · by_cases hc : cap = 0
    · subst hc
      exact ⟨none, ⟨_, 0, 0, rfl, hn, hm, Or.inl ⟨rfl, rfl⟩⟩, fun k hk => by cases hk⟩
    · refine ⟨some g, ⟨_, 0, cap, rfl, hn, hm, Or.inr ⟨g, by omega, rfl, rfl, hg, fun j u hj => ?_, fun j hj => ?_⟩⟩, fun k hk => hk⟩
      · have := World.ownsRow.cells h' (g := g) rfl j u hj
        rw [add_mk] at this; exact this
      · rw [Nat.zero_add]
        exact heap_cells hh (by rw [hs]; exact hj)
/-- its head, and what is left behind it -/
theorem IsQF.pop {x : α} (h : IsQF F w base row v (x :: L)) : ∃ b off cap row', v = .slice (some ⟨b, off, none⟩) (L.length + 1) (cap + 1) ∧ cap + 1 ≤ maxLen ∧ L.length ≤ cap ∧ (∀ j u, (F.enc x)[j]? = some u → w.cell? ⟨b, off + j, none⟩ = some u) ∧ IsQF F w base row' (.slice (if cap = 0 then some ⟨b, off, none⟩ else some ⟨b, off + F.k, none⟩) L.length cap) L ∧ ∀ k, row' = some k → row = some k := by
  obtain ⟨ao, off, cap, h1, h2, h3, ⟨hc, _⟩ | ⟨b, hc, hrow, ha, hb, hl, ht⟩⟩ := h
  · rw [List.length_cons] at h2; omega
  · rw [List.length_cons] at h2 h1
    obtain ⟨n, rfl⟩ : ∃ n, cap = n + 1 := ⟨cap - 1, by omega⟩
    subst ha
    have e0 : F.cells (x :: L) = F.enc x ++ F.cells L := rfl
    have h0 : ∀ j u, (F.enc x)[j]? = some u → w.cell? ⟨b, off + j, none⟩ = some u := fun j u hj => hl j u (by rw [e0, List.getElem?_append_left (List.getElem?_eq_some_iff.1 hj).1]; exact hj)
    by_cases hn : n = 0
    · subst hn
      exact ⟨b, off, 0, none, h1, h3, by omega, h0, ⟨_, off, 0, by rw [if_pos rfl], by omega, Nat.zero_le _, Or.inl ⟨rfl, rfl⟩⟩, fun k hk => by cases hk⟩
    · refine ⟨b, off, n, some b, h1, h3, by omega, h0, ⟨_, off + F.k, n, by rw [if_neg hn], by omega, by omega, Or.inr ⟨b, by omega, rfl, rfl, hb, fun j u hj => ?_, fun j hj => ?_⟩⟩, fun k hk => by rw [hrow]; exact hk⟩
      · have := hl (F.k + j) u (by rw [e0, List.getElem?_append_right (by rw [F.len]; omega), F.len]; simpa using hj)
        rw [show off + F.k + j = off + (F.k + j) by omega]; exact this
      · rw [show off + F.k + j = off + (F.k + j) by omega]
        exact ht (F.k + j) (by rw [Nat.add_mul, Nat.one_mul]; omega)
theorem grown_setCells (b : Nat) : ∀ (vs : List Value) (o : Nat) (w : World), w.grownBy (w.setCells b o vs) (some b)
  | [], _, w => ⟨rfl, rfl, rfl, Nat.le_refl _, fun _ _ _ => rfl⟩
  | v :: r, o, w => by
    have h1 : w.grownBy (w.setCell ⟨b, o, none⟩ v) (some b) := ⟨rfl, rfl, rfl, by simp [World.setCell], fun k hk hr => Below.heap_setCell _ _ _ _ (fun e => hr (by rw [e]))⟩
    have h2 := grown_setCells b r (o + 1) (w.setCell ⟨b, o, none⟩ v)
    exact ⟨h2.os.trans h1.os, h2.tape.trans h1.tape, h2.output.trans h1.output, Nat.le_trans h1.size h2.size, fun k hk hne => (h2.block k (Nat.lt_of_lt_of_le hk h1.size) hne).trans (h1.block k hk hne)⟩
/-- what is put behind it -/
theorem src_rows {ts te : TypeId} (hu : Tryz.prog.underlying ts = some (.slice te)) {a : Option Addr} {c : Nat} {M : List α} (h : IsRows F w a c M) : Src Tryz.prog F.k ts (.slice a M.length c) M.length (F.cells M) w := by
  cases M with
  | nil =>
    refine ⟨Or.inl ⟨_, hu⟩, fun _ => rfl, ?_, ?_, (by show 0 = 0 * F.k; omega), fun u hu => by cases hu⟩
    · cases a with
      | none => exact run_firstCells_none w F.k 0 0 c
      | some a => exact run_firstCells_some w F.k 0 a 0 c [] (by simp) (fun j u hu => by simp at hu)
    · cases a with
      | none => exact run_firstCells_none w.drew F.k 0 0 c
      | some a => exact run_firstCells_some w.drew F.k 0 a 0 c [] (by simp) (fun j u hu => by simp at hu)
  | cons y r =>
    obtain ⟨b, off, e, hc⟩ := h.2.2.2 (by simp)
    subst e
    exact Src.ofSlice w hu ⟨b, off, none⟩ _ c (F.cells (y :: r)) (F.cells_len _) (fun j u hu => by rw [add_mk]; exact hc j u hu) (F.cells_one _)
/-- the run of it -/
theorem few_bytes {a b : Nat} (h1 : a ≤ 4194304) (h2 : b ≤ 1000) : a * b ≤ 140737488355328 := Nat.le_trans (Nat.mul_le_mul h1 h2) (of_decide_eq_true rfl)
theorem run_append_qf (ty ts te : TypeId) (i0 : TypeInfo) (z : Value) (bytes : Nat) (hu : Tryz.prog.underlying ts = some (.slice te)) (hi : Tryz.prog.info? te = some i0) (hz0 : i0.zero = some z) (hz1 : i0.size = F.k) (hz2 : i0.bytes = bytes) (hzs : z.cells.size = F.k) (hbb : bytes ≤ 1000)
    {a : Option Addr} {c : Nat} {M : List α} (h : IsQF F w base row v L) (hs : IsRows F w a c M) (hb : base ≤ w.heap.size) (hl : L.length + M.length ≤ 4194304) :
    ∃ v' w' row', (Builtin.append_ #[ts, ts] ty #[v, .slice a M.length c]).run Tryz.prog w = .ok v' w' ∧ IsQF F w' base row' v' (L ++ M) ∧ w.grownBy w' row ∧ (row' = row ∨ ∃ g, row' = some g ∧ w.heap.size ≤ g) := by
  have hsrc : Src Tryz.prog i0.size ts (.slice a M.length c) M.length (F.cells M) w := by rw [hz1]; exact src_rows hu hs
  have hlt := h.lt
  obtain ⟨ao, off, cap, rfl, h2, h3, h4⟩ := h
  by_cases hroom : L.length + M.length ≤ cap
  · rcases h4 with ⟨hc, hr⟩ | ⟨b, hc, hr, ha, hbb2, hcl, ht⟩
    · have hM : M = [] := List.eq_nil_of_length_eq_zero (by omega)
      have hL : L = [] := List.eq_nil_of_length_eq_zero (by omega)
      subst hM; subst hL; subst hc
      refine ⟨.slice ao 0 0, w, row, ?_, ⟨ao, off, 0, rfl, Nat.le_refl _, Nat.zero_le _, Or.inl ⟨rfl, hr⟩⟩, ⟨rfl, rfl, rfl, Nat.le_refl _, fun _ _ _ => rfl⟩, Or.inl rfl⟩
      have hs2 : Src Tryz.prog i0.size ts (.slice a 0 c) 0 [] w := hsrc
      cases ao <;> simp [Builtin.append_, run_underlying hu, sizeOf, typeInfo, hi, hs2.len, hs2.cells, storeCells]
    · subst ha
      have hml : (F.cells M).length = M.length * F.k := F.cells_len M
      have hll : (F.cells L).length = L.length * F.k := F.cells_len L
      have hin : ∀ j, j < (F.cells M).length → L.length * F.k + j < cap * F.k := fun j hj => by
        have : (L.length + M.length) * F.k ≤ cap * F.k := Nat.mul_le_mul_right _ hroom
        rw [Nat.add_mul] at this
        omega
      have hrun := run_append_room_src (P := Tryz.prog) w ts ts ty te i0 hu hi b off L.length cap _ M.length (F.cells M) hsrc hroom (fun j hj => by
        rw [hz1, Nat.add_assoc]; exact (ht _ (hin j hj)).1) (fun j hj => by
        rw [hz1, Nat.add_assoc]; exact (ht _ (hin j hj)).2)
      rw [hz1] at hrun
      refine ⟨_, _, row, hrun, ⟨_, off, cap, by rw [List.length_append], by rw [List.length_append]; exact hroom, h3, Or.inr ⟨b, hc, hr, rfl, hbb2, fun j u hj => ?_, fun j hj => ?_⟩⟩, by rw [hr]; exact grown_setCells b _ _ w, Or.inl rfl⟩
      · rw [F.cells_append] at hj
        by_cases hj2 : j < L.length * F.k
        · rw [World.cell?_setCells_out b _ _ w ⟨b, off + j, none⟩ (fun _ _ => Or.inl (by simp; omega))]
          rw [List.getElem?_append_left (by omega)] at hj
          exact hcl j u hj
        · rw [List.getElem?_append_right (by omega)] at hj
          have hj3 := (List.getElem?_eq_some_iff.1 hj).1
          have := World.cell?_setCells_in b (F.cells M) (off + L.length * F.k) w (fun k hk => by
            rw [Nat.add_assoc]; exact (ht _ (hin k hk)).1) (j - (F.cells L).length) hj3
          rw [show off + L.length * F.k + (j - (F.cells L).length) = off + j by omega] at this
          rw [this, ← hj, List.getElem?_eq_getElem hj3]
      · refine ⟨?_, by rw [World.frozen?_setCells]; exact (ht j hj).2⟩
        by_cases hj2 : L.length * F.k ≤ j ∧ j < L.length * F.k + (F.cells M).length
        · have := World.cell?_setCells_in b (F.cells M) (off + L.length * F.k) w (fun k hk => by
            rw [Nat.add_assoc]; exact (ht _ (hin k hk)).1) (j - L.length * F.k) (by omega)
          rw [show off + L.length * F.k + (j - L.length * F.k) = off + j by omega] at this
          rw [this]; rfl
        · rw [World.cell?_setCells_out b _ _ w ⟨b, off + j, none⟩ (fun _ _ => by simp; omega)]
          exact (ht j hj).1
  · have hold : (Builtin.firstCells i0.size L.length (.slice ao L.length cap)).run Tryz.prog w.drew = .ok (F.cells L).toArray w.drew := by
      rw [hz1]
      rcases h4 with ⟨hc, _⟩ | ⟨b, hc, hr, ha, hbb2, hcl, ht⟩
      · have hL : L = [] := List.eq_nil_of_length_eq_zero (by omega)
        subst hL
        cases ao with
        | none => exact run_firstCells_none w.drew F.k 0 0 cap
        | some a => exact run_firstCells_some w.drew F.k 0 a 0 cap [] (by simp) (fun j u hu => by simp at hu)
      · subst ha
        exact run_firstCells_some w.drew F.k L.length ⟨b, off, none⟩ L.length cap (F.cells L) (F.cells_len _) (fun j u hu => by rw [add_mk]; exact hcl j u hu)
    have hrun := run_append_grow_src (P := Tryz.prog) w ts ts ty te i0 z hu hi hz0 ao L.length cap (F.cells L) hold _ M.length (F.cells M) hsrc (by omega) (by omega) (growslice_fits (by omega) (by
      rw [hz2]
      exact few_bytes hl hbb))
    have hge := grownCap_ge w (L.length + M.length) cap te
    have hcm := grownCap_le_maxLen w (L.length + M.length) cap te (by unfold maxLen; omega)
    refine ⟨_, _, some w.heap.size, hrun, ?_, ⟨rfl, rfl, rfl, by simp, fun k hk _ => Below.heap_alloc w.drew _ k hk⟩, Or.inr ⟨_, rfl, Nat.le_refl _⟩⟩
    generalize grownCap w (L.length + M.length) cap te = nc at *
    have hn : (w.drew.alloc (.cells ((F.cells L ++ F.cells M).toArray ++ Builtin.zeroCells z.cells (nc - (L.length + M.length))) te)).heap[w.heap.size]? = some (.cells ((F.cells L ++ F.cells M).toArray ++ Builtin.zeroCells z.cells (nc - (L.length + M.length))) te (0, 0)) := heap_alloc_new w.drew _
    have hz : ((F.cells L ++ F.cells M).toArray ++ Builtin.zeroCells z.cells (nc - (L.length + M.length))).size = nc * F.k := by
      rw [Array.size_append, size_zeroCells, hzs]
      simp only [List.size_toArray, List.length_append, F.cells_len]
      rw [← Nat.add_mul, ← Nat.add_mul, show L.length + M.length + (nc - (L.length + M.length)) = nc from Nat.add_sub_cancel' hge]
    refine ⟨_, 0, nc, by rw [List.length_append], by rw [List.length_append]; exact hge, hcm, Or.inr ⟨w.heap.size, by omega, rfl, rfl, hb, fun j u hj => ?_, fun j hj => ?_⟩⟩
    · rw [Nat.zero_add, cell_of_row _ _ j _ _ (0, 0) hn]
      rw [F.cells_append] at hj
      rw [Array.getElem?_append_left (by simpa using (List.getElem?_eq_some_iff.1 hj).1), List.getElem?_toArray]
      exact hj
    · rw [Nat.zero_add]
      exact heap_cells hn (by rw [hz]; exact hj)
/-- .. at the operation -/
theorem wp_append_qf {ops : Array Oper} {rest : List Oper} {o : Oper} {ac : Act} {Q : Exit → Act → World → Prop} (hgd : o.guard = none) (s x : Operand) (ts te : TypeId)
    (ho : o.op = .call { callee := .builtin .append, args := #[s, x], argTypes := #[ts, ts] })
    (i0 : TypeInfo) (z : Value) (bytes : Nat) (hu : Tryz.prog.underlying ts = some (.slice te)) (hi : Tryz.prog.info? te = some i0) (hz0 : i0.zero = some z) (hz1 : i0.size = F.k) (hz2 : i0.bytes = bytes) (hzs : z.cells.size = F.k) (hbb : bytes ≤ 1000)
    {a : Option Addr} {c : Nat} {M : List α} (hv : ac.eval s = v) (h : IsQF F w base row v L) (hx : ac.eval x = .slice a M.length c) (hs : IsRows F w a c M) (hb : base ≤ w.heap.size) (hl : L.length + M.length ≤ 4194304)
    (hK : ∀ v' w' row', IsQF F w' base row' v' (L ++ M) → w.grownBy w' row → (row' = row ∨ ∃ g, row' = some g ∧ w.heap.size ≤ g) → wpList Tryz.prog ops Q rest (ac.put o.dst v') w') : wpList Tryz.prog ops Q (o :: rest) ac w := by
  refine wpList_plain hgd fun K hK' => ?_
  obtain ⟨v', w', row', hrun, r1, r2, r3⟩ := run_append_qf o.type ts te i0 z bytes hu hi hz0 hz1 hz2 hzs hbb h hs hb hl
  unfold Oper.wp
  simp [execOp, ho, resolve, invoke, builtin, hv, hx, hrun, Result.andThen]
  exact hK' _ _ (hK v' w' row' r1 r2 r3)
end Go.Proofs.YtiennniclkbjlaaGreatDoor.RoQ
