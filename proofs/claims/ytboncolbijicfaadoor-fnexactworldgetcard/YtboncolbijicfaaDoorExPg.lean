/- The exact laws' helpers on Pages: how great, copied, the same. -/
import Derived.Test.YtboncolbijicfaaDoorRowPg
import Derived.Test.YtboncolbijicfaaDoorExS
namespace Go.Proofs.YtboncolbijicfaaDoor.ExPg
open Go.RowKit Go.Proofs.YtboncolbijicfaaDoor.St Go.Proofs.YtboncolbijicfaaDoor.EscL Go.Proofs.YtboncolbijicfaaDoor.RR Go.Proofs.YtboncolbijicfaaDoor.RoPg

theorem Tryd.infoPg : (Tryd.prog.info? 48).map (fun i => (i.zero, i.size, i.bytes)) = some (some (.agg #[.string ⟨#[]⟩, .string ⟨#[]⟩, .string ⟨#[]⟩, .int .i64 0]), 4, 56) := by kernel_rfl
theorem info_pg : ∃ i, Tryd.prog.info? 48 = some i ∧ i.zero = some (.agg #[.string ⟨#[]⟩, .string ⟨#[]⟩, .string ⟨#[]⟩, .int .i64 0]) ∧ i.size = 4 ∧ i.bytes = 56 := by
  have h := Tryd.infoPg
  cases hi : Tryd.prog.info? 48 with
  | none => rw [hi] at h; cases h
  | some i =>
    rw [hi] at h
    have := Option.some.inj h
    simp only [Prod.mk.injEq] at this
    exact ⟨i, rfl, this.1, this.2.1, this.2.2⟩

set_option maxRecDepth 100000 in
set_option maxHeartbeats 1600000 in
theorem szPg_any (r : Pg) (left : Nat) (w : World) (hr0 : r.addr.size ≤ maxLen) (hr1 : r.text.size ≤ maxLen) (hr2 : r.lead.size ≤ maxLen) (hl : left ≤ 4194304) :
    Calls Tryd.prog 23 #[.agg #[.string r.addr, .string r.text, .string r.lead, .int .i64 r.fails], .int .i64 (left : Int)] w fun e w' => (∃ x : Int, e = .returned (.int .i64 x) ∧ (x < 0 ∨ (0 ≤ x ∧ x + ((r.addr.size : Int) + (r.text.size : Int) + (r.lead.size : Int)) = (left : Int)))) ∧ Below w.heap.size w w' := by
  unfold maxLen at hr0 hr1 hr2
  by_cases h0 : left < r.addr.size
  · go_enter Tryd.func23, Tryd.ntmps23
    go_wp2
    go_ret
    exact ⟨⟨-1, rfl, Or.inl (by omega)⟩, (Below.refl _ _).alloc (Nat.le_refl _) _⟩
  by_cases h1 : left < r.addr.size + r.text.size
  · go_enter Tryd.func23, Tryd.ntmps23
    go_wp2
    go_ret
    exact ⟨⟨-1, rfl, Or.inl (by omega)⟩, (Below.refl _ _).alloc (Nat.le_refl _) _⟩
  by_cases h2 : left < r.addr.size + r.text.size + r.lead.size
  · go_enter Tryd.func23, Tryd.ntmps23
    go_wp2
    go_ret
    exact ⟨⟨-1, rfl, Or.inl (by omega)⟩, (Below.refl _ _).alloc (Nat.le_refl _) _⟩
  go_enter Tryd.func23, Tryd.ntmps23
  go_wp2
  go_ret
  exact ⟨⟨_, rfl, Or.inr ⟨by omega, by omega⟩⟩, (Below.refl _ _).alloc (Nat.le_refl _) _⟩

set_option maxRecDepth 100000 in
set_option maxHeartbeats 1600000 in
theorem szPgS_any (a0 : Option Addr) (cap : Nat) (L : List Pg) (left : Nat) (w : World) (h : IsRows FPg w a0 cap L) (hs : ∀ r ∈ L, PgIn r) (hl : left ≤ 4194304) :
    Calls Tryd.prog 7 #[.slice a0 L.length cap, .int .i64 (left : Int)] w fun e w' => (∃ x : Int, e = .returned (.int .i64 x) ∧ (x < 0 ∨ (0 ≤ x ∧ x ≤ left ∧ L.length ≤ left ∧ ∀ r ∈ L, r.addr.size ≤ left ∧ r.text.size ≤ left ∧ r.lead.size ≤ left))) ∧ Below w.heap.size w w' := by
  have HS : Hid (IsRows FPg w a0 cap L) := h
  have HZ : Hid (∀ r ∈ L, PgIn r) := hs
  have hc1 := h.1
  have hc2 := h.2.1
  unfold maxLen at hc2
  clear h hs
  by_cases hlt : left < L.length
  · go_enter Tryd.func7, Tryd.ntmps7
    go_wp2
    go_ret
    exact ⟨⟨-1, rfl, Or.inl (by omega)⟩, Below.refl _ _⟩
  · go_enter Tryd.func7, Tryd.ntmps7
    go_wp2
    go_loopw [1, 5] (fun x i wr => ∃ (k m : Nat), k ≤ L.length ∧ i = .int .i64 (k : Int) ∧ x = .int .i64 (m : Int) ∧ m ≤ left ∧ Hid (∀ r ∈ L.take k, r.addr.size ≤ left ∧ r.text.size ≤ left ∧ r.lead.size ≤ left) ∧ Hid (Below w.heap.size w wr)) (fun _ i _ => L.length - (intOf i).toNat)
    case atStart => exact ⟨0, left - L.length, Nat.zero_le _, rfl, by go_num, by omega, (fun r hr => by simp at hr), Below.refl _ _⟩
    case round =>
      obtain ⟨k, m, hk, rfl, rfl, hm, HSm, HB⟩ := hrel
      by_cases hkl : k < L.length
      · obtain ⟨b, o, e, c0, c1, c2, c3⟩ := pg_at (IsRows.below HS.out HB.out) hkl
        subst e
        have HZk : Hid (PgIn L[k]) := HZ.out _ (List.getElem_mem hkl)
        go_wp2_with fail
        refine (szPg_any L[k] m _ HZk.out.1 HZk.out.2.1 HZk.out.2.2.1 (by omega)).mono ?_
        rintro e w1 ⟨⟨x, rfl, hx⟩, hb1⟩
        have HB1 : Hid (Below w.heap.size w w1) := HB.out.trans (hb1.mono HB.out.size)
        clear hb1 c0 c1 c2 c3
        rcases hx with hx | ⟨hx0, hx1⟩
        · go_wp2
          go_ret
          exact ⟨⟨-1, rfl, Or.inl (by omega)⟩, HB1.out⟩
        · obtain ⟨y, rfl⟩ : ∃ y : Nat, x = (y : Int) := ⟨x.toNat, by omega⟩
          have HN : Hid (∀ r ∈ L.take (k + 1), r.addr.size ≤ left ∧ r.text.size ≤ left ∧ r.lead.size ≤ left) := by
            intro r hr
            rw [List.take_succ_eq_append_getElem hkl] at hr
            rcases List.mem_append.1 hr with hr | hr
            · exact HSm.out r hr
            · simp at hr; subst hr; omega
          go_wp2
          go_roundw
          case rel => exact ⟨k + 1, y, by omega, by go_num, rfl, by omega, HN.out, HB1⟩
          case measure => simp [intOf]; omega
      · go_wp2
        go_ret
        refine ⟨⟨m, rfl, Or.inr ⟨by omega, by omega, by omega, ?_⟩⟩, HB.out⟩
        have := HSm.out
        rwa [List.take_of_length_le (by omega)] at this

set_option maxRecDepth 100000 in
set_option maxHeartbeats 1600000 in
theorem toPg_any (r : Pg) (w : World) :
    Calls Tryd.prog 26 #[.agg #[.string r.addr, .string r.text, .string r.lead, .int .i64 r.fails]] w fun e w' => e = .returned (.agg #[.string r.addr, .string r.text, .string r.lead, .int .i64 r.fails]) ∧ Below w.heap.size w w' := by
  go_enter Tryd.func26, Tryd.ntmps26
  go_wp2
  refine bodyPost_ret (v := .agg #[.string r.addr, .string r.text, .string r.lead, .int .i64 r.fails]) (by simp [results, Tryd.results26, go_sem]) rfl ⟨rfl, ?_⟩
  exact (((Below.refl _ w).alloc (Nat.le_refl _) _).alloc (by simp) _).alloc (by simp; omega) _
theorem cells_set (x : Pg) : ∀ (L : List Pg) (i : Nat), i < L.length → FPg.cells (L.set i x) = (((((FPg.cells L).set (i * 4) (.string x.addr)).set (i * 4 + 1) (.string x.text)).set (i * 4 + 2) (.string x.lead)).set (i * 4 + 3) (.int .i64 x.fails)) := by
  intro L
  induction L with
  | nil => intro i h; simp at h
  | cons y L ih =>
    intro i h
    cases i with
    | zero => rfl
    | succ i =>
      have e := ih i (by simpa using h)
      show FPg.enc y ++ FPg.cells (L.set i x) = _
      rw [e, show (i + 1) * 4 = i * 4 + 1 + 1 + 1 + 1 from by omega]
      rfl
theorem made_cells (n : Nat) : (madeCells (Value.cells (.agg #[.string ⟨#[]⟩, .string ⟨#[]⟩, .string ⟨#[]⟩, .int .i64 0])) (n * 4)).toList = FPg.cells (List.replicate n ⟨⟨#[]⟩, ⟨#[]⟩, ⟨#[]⟩, 0⟩) := by
  have e : Value.cells (.agg #[.string ⟨#[]⟩, .string ⟨#[]⟩, .string ⟨#[]⟩, .int .i64 0]) = #[.string ⟨#[]⟩, .string ⟨#[]⟩, .string ⟨#[]⟩, .int .i64 0] := rfl
  rw [e]
  apply List.ext_getElem?
  intro j
  by_cases hj : j < n * 4
  · have h2 : j = j / 4 * FPg.k + j % 4 := by show j = j / 4 * 4 + j % 4; omega
    have h3 : j / 4 < (List.replicate n (⟨⟨#[]⟩, ⟨#[]⟩, ⟨#[]⟩, 0⟩ : Pg)).length := by simp; omega
    have h4 := FPg.cells_at (List.replicate n ⟨⟨#[]⟩, ⟨#[]⟩, ⟨#[]⟩, 0⟩) (j / 4) h3 (j % 4) (Nat.mod_lt _ (by decide))
    rw [← h2] at h4
    rw [h4, List.getElem_replicate]
    have h5 : j % 4 = 0 ∨ j % 4 = 1 ∨ j % 4 = 2 ∨ j % 4 = 3 := by omega
    rcases h5 with h | h | h | h
    · rw [h]; simp [madeCells, hj, h, FPg]
    · rw [h]; simp [madeCells, hj, h, FPg]
    · rw [h]; simp [madeCells, hj, h, FPg]
    · rw [h]; simp [madeCells, hj, h, FPg]
  · rw [List.getElem?_eq_none (by simp [madeCells]; omega), List.getElem?_eq_none (by rw [FPg.cells_len]; simp; show n * 4 ≤ j; omega)]
theorem set_takeP (L : List Pg) (k : Nat) (hk : k < L.length) (e : Pg) : (L.take k ++ List.replicate (L.length - k) e).set k L[k] = L.take (k + 1) ++ List.replicate (L.length - (k + 1)) e := by
  have hl : (L.take k).length = k := by simp; omega
  rw [List.set_append_right _ _ (by omega), hl, Nat.sub_self]
  rw [show L.length - k = (L.length - (k + 1)) + 1 by omega, List.replicate_succ, List.set_cons_zero, List.take_succ_eq_append_getElem hk, List.append_assoc]
  rfl

set_option maxRecDepth 100000 in
set_option maxHeartbeats 3200000 in
theorem toPgS_any (a0 : Option Addr) (cap : Nat) (L : List Pg) (w : World) (h : IsRows FPg w a0 cap L) (hl : L.length ≤ 1048576) :
    Calls Tryd.prog 9 #[.slice a0 L.length cap] w fun e w' => e = .returned (.slice (some ⟨w.heap.size, 0, none⟩) L.length L.length) ∧ OwnsR FPg 48 w' w.heap.size (.slice (some ⟨w.heap.size, 0, none⟩) L.length L.length) L ∧ Below w.heap.size w w' := by
  obtain ⟨i0, hi, hz0, hz1, hz2⟩ := info_pg
  obtain ⟨wm, hrun, hown, hgrow⟩ := run_make_full (P := Tryd.prog) w w.heap.size 25 48 i0 (.agg #[.string ⟨#[]⟩, .string ⟨#[]⟩, .string ⟨#[]⟩, .int .i64 0]) 4 Tryd.underlying25 hi hz0 hz1 .i64 .i64 L.length (by rw [hz2]; omega) (by unfold maxLen; omega) (Nat.le_refl _)
  have HO0 : Hid (OwnsR FPg 48 wm w.heap.size (.slice (some ⟨w.heap.size, 0, none⟩) L.length L.length) (L.take 0 ++ List.replicate (L.length - 0) ⟨⟨#[]⟩, ⟨#[]⟩, ⟨#[]⟩, 0⟩)) := by
    show OwnsR _ _ _ _ _ _
    refine OwnsR.of_row hown (by simp) ?_
    rw [made_cells]; simp
  have hb0 : Below w.heap.size w wm := Below.grown (Below.refl _ _) hgrow (Nat.le_refl _) (by intro k hk; cases hk)
  have HS : Hid (IsRows FPg w a0 cap L) := h
  have hc1 := h.1
  have hc2 := h.2.1
  unfold maxLen at hc2
  clear h hown hgrow
  go_enter Tryd.func9, Tryd.ntmps9
  go_wp2
  go_loopw [4] (fun i wr => ∃ k : Nat, k ≤ L.length ∧ i = .int .i64 (k : Int) ∧ Hid (OwnsR FPg 48 wr w.heap.size (.slice (some ⟨w.heap.size, 0, none⟩) L.length L.length) (L.take k ++ List.replicate (L.length - k) ⟨⟨#[]⟩, ⟨#[]⟩, ⟨#[]⟩, 0⟩)) ∧ Below w.heap.size w wr) (fun i _ => L.length - (intOf i).toNat)
  case atStart => exact ⟨0, Nat.zero_le _, rfl, HO0, hb0⟩
  case round =>
    obtain ⟨k, hk, rfl, HO, hbel⟩ := hrel
    clear hrun
    by_cases hlt : k < L.length
    · obtain ⟨b, o, e, c0, c1, c2, c3⟩ := pg_at (IsRows.below HS.out hbel) hlt
      subst e
      have HT : Hid _ := set_takeP L k hlt ⟨⟨#[]⟩, ⟨#[]⟩, ⟨#[]⟩, 0⟩
      have hlen : (L.take k ++ List.replicate (L.length - k) (⟨⟨#[]⟩, ⟨#[]⟩, ⟨#[]⟩, 0⟩ : Pg)).length = L.length := by simp; omega
      have HLEN : Hid _ := hlen
      clear hlen
      go_wp2_with fail
      refine (toPg_any L[k] _).mono ?_
      rintro e w1 ⟨rfl, hb1⟩
      have HO1 : Hid (OwnsR FPg 48 w1 w.heap.size (.slice (some ⟨w.heap.size, 0, none⟩) L.length L.length) (L.take k ++ List.replicate (L.length - k) ⟨⟨#[]⟩, ⟨#[]⟩, ⟨#[]⟩, 0⟩)) := HO.out.below hb1
      have hbel1 : Below w.heap.size w w1 := hbel.trans (hb1.mono hbel.size)
      have hO := HO1.out
      unfold OwnsR at hO
      rw [HLEN.out] at hO
      have hx0 : w1.cell? ⟨w.heap.size, k * 4, none⟩ = some (.string ⟨#[]⟩) := by
        rw [World.ownsRow.cellAt hO (k * 4) (by show k * 4 < L.length * 4; omega)]
        have := FPg.cells_at (L.take k ++ List.replicate (L.length - k) (⟨⟨#[]⟩, ⟨#[]⟩, ⟨#[]⟩, 0⟩ : Pg)) k (by rw [HLEN.out]; exact hlt) 0 (by decide)
        rw [show k * FPg.k + 0 = k * 4 from rfl] at this
        rw [this, List.getElem_append_right (by rw [List.length_take]; omega)]; simp [FPg]
      have hx1 : w1.cell? ⟨w.heap.size, k * 4 + 1, none⟩ = some (.string ⟨#[]⟩) := by
        rw [World.ownsRow.cellAt hO (k * 4 + 1) (by show k * 4 + 1 < L.length * 4; omega)]
        have := FPg.cells_at (L.take k ++ List.replicate (L.length - k) (⟨⟨#[]⟩, ⟨#[]⟩, ⟨#[]⟩, 0⟩ : Pg)) k (by rw [HLEN.out]; exact hlt) 1 (by decide)
        rw [show k * FPg.k + 1 = k * 4 + 1 from rfl] at this
        rw [this, List.getElem_append_right (by rw [List.length_take]; omega)]; simp [FPg]
      have hx2 : w1.cell? ⟨w.heap.size, k * 4 + 2, none⟩ = some (.string ⟨#[]⟩) := by
        rw [World.ownsRow.cellAt hO (k * 4 + 2) (by show k * 4 + 2 < L.length * 4; omega)]
        have := FPg.cells_at (L.take k ++ List.replicate (L.length - k) (⟨⟨#[]⟩, ⟨#[]⟩, ⟨#[]⟩, 0⟩ : Pg)) k (by rw [HLEN.out]; exact hlt) 2 (by decide)
        rw [show k * FPg.k + 2 = k * 4 + 2 from rfl] at this
        rw [this, List.getElem_append_right (by rw [List.length_take]; omega)]; simp [FPg]
      have hx3 : w1.cell? ⟨w.heap.size, k * 4 + 3, none⟩ = some (.int .i64 0) := by
        rw [World.ownsRow.cellAt hO (k * 4 + 3) (by show k * 4 + 3 < L.length * 4; omega)]
        have := FPg.cells_at (L.take k ++ List.replicate (L.length - k) (⟨⟨#[]⟩, ⟨#[]⟩, ⟨#[]⟩, 0⟩ : Pg)) k (by rw [HLEN.out]; exact hlt) 3 (by decide)
        rw [show k * FPg.k + 3 = k * 4 + 3 from rfl] at this
        rw [this, List.getElem_append_right (by rw [List.length_take]; omega)]; simp [FPg]
      have hfz := World.ownsRow.frozenAt hO
      have hst0 := World.ownsRow.stored hO (k * 4) (.string L[k].addr)
      have hst1 := World.ownsRow.stored hst0.1 (k * 4 + 1) (.string L[k].text)
      have hst2 := World.ownsRow.stored hst1.1 (k * 4 + 2) (.string L[k].lead)
      have hst3 := World.ownsRow.stored hst2.1 (k * 4 + 3) (.int .i64 L[k].fails)
      have HST0 : Hid _ := hst0
      have HST1 : Hid _ := hst1
      have HST2 : Hid _ := hst2
      have HST3 : Hid _ := hst3
      clear hst0 hst1 hst2 hst3 hO hb1 c0 c1 c2 c3
      generalize hp : L[k] = p at *
      go_wp2
      go_roundw
      case rel =>
        refine ⟨k + 1, by omega, by go_num, ?_, ?_⟩
        · show OwnsR _ _ _ _ _ _
          rw [← HT.out]
          refine OwnsR.of_row HST3.out.1 (by rw [List.length_set, HLEN.out]) ?_
          rw [cells_set p _ k (by rw [HLEN.out]; exact hlt)]
        · have hq0 := Below.grown hbel1 HST0.out.2 hbel1.size (by intro k hk; have := Option.some.inj hk; omega)
          have hq1 := Below.grown hq0 HST1.out.2 hq0.size (by intro k hk; have := Option.some.inj hk; omega)
          have hq2 := Below.grown hq1 HST2.out.2 hq1.size (by intro k hk; have := Option.some.inj hk; omega)
          have hq3 := Below.grown hq2 HST3.out.2 hq2.size (by intro k hk; have := Option.some.inj hk; omega)
          exact hq3
      case measure => simp [intOf]; omega
    · have e1 : L.take k ++ List.replicate (L.length - k) (⟨⟨#[]⟩, ⟨#[]⟩, ⟨#[]⟩, 0⟩ : Pg) = L := by rw [List.take_of_length_le (by omega), show L.length - k = 0 by omega]; simp
      rw [e1] at HO
      clear e1
      go_wp2
      go_ret
      exact ⟨rfl, HO.out, hbel⟩

set_option maxRecDepth 100000 in
set_option maxHeartbeats 1600000 in
theorem eqPg_any (r : Pg) (w : World) :
    Calls Tryd.prog 28 #[.agg #[.string r.addr, .string r.text, .string r.lead, .int .i64 r.fails], .agg #[.string r.addr, .string r.text, .string r.lead, .int .i64 r.fails]] w fun e w' => e = .returned (.bool true) ∧ Below w.heap.size w w' := by
  go_enter Tryd.func28, Tryd.ntmps28
  go_wp2
  go_ret
  exact ⟨rfl, ((Below.refl _ w).alloc (Nat.le_refl _) _).alloc (by simp) _⟩
set_option maxRecDepth 100000 in
set_option maxHeartbeats 1600000 in
theorem eqPgS_any (a0 : Option Addr) (cap : Nat) (b0 : Option Addr) (dap : Nat) (L : List Pg) (w : World) (hA : IsRows FPg w a0 cap L) (hB : IsRows FPg w b0 dap L) (hl : L.length ≤ 4194304) :
    Calls Tryd.prog 11 #[.slice a0 L.length cap, .slice b0 L.length dap] w fun e w' => e = .returned (.bool true) ∧ Below w.heap.size w w' := by
  have HA : Hid (IsRows FPg w a0 cap L) := hA
  have HB : Hid (IsRows FPg w b0 dap L) := hB
  clear hA hB
  go_enter Tryd.func11, Tryd.ntmps11
  go_wp2
  go_loopw [5] (fun i wr => ∃ k : Nat, k ≤ L.length ∧ i = .int .i64 (k : Int) ∧ Hid (Below w.heap.size w wr)) (fun i _ => L.length - (intOf i).toNat)
  case atStart => exact ⟨0, Nat.zero_le _, rfl, Below.refl _ _⟩
  case round =>
    obtain ⟨k, hk, rfl, HW⟩ := hrel
    by_cases hlt : k < L.length
    · obtain ⟨b, o, e, c0, c1, c2, c3⟩ := pg_at (IsRows.below HA.out HW.out) hlt
      subst e
      obtain ⟨b2, o2, e2, d0, d1, d2, d3⟩ := pg_at (IsRows.below HB.out HW.out) hlt
      subst e2
      go_wp2
      go_region_with (go_at_call 28; refine (eqPg_any L[k] wr.drew).mono ?_; rintro e w1 ⟨rfl, hb1⟩)
      all_goals
        have HB1 : Hid (Below w.heap.size w w1) := HW.out.trans ((((Below.refl _ wr).drew).trans hb1).mono HW.out.size)
        clear hb1 c0 c1 c2 c3 d0 d1 d2 d3
        go_wp2
        go_roundw
        case rel => exact ⟨k + 1, by omega, by go_num, HB1⟩
        case measure => simp [intOf]; omega
    · go_wp2
      go_ret
      exact ⟨rfl, HW.out⟩
end Go.Proofs.YtboncolbijicfaaDoor.ExPg
