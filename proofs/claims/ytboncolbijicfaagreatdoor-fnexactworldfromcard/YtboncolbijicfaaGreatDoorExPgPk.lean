/- Several texts in one: ExPg, ExPgM. -/
import Derived.Test.YtboncolbijicfaaGreatDoorRowPg
import Derived.Test.YtboncolbijicfaaGreatDoorExS
/- The exact laws' helpers on Pages: how great, copied, the same. -/
namespace Go.Proofs.YtboncolbijicfaaGreatDoor.ExPg
open Go.RowKit Go.Proofs.YtboncolbijicfaaGreatDoor.St Go.Proofs.YtboncolbijicfaaGreatDoor.EscL Go.Proofs.YtboncolbijicfaaGreatDoor.RR Go.Proofs.YtboncolbijicfaaGreatDoor.RoPg

theorem Tryz.infoPg : (Tryz.prog.info? 67).map (fun i => (i.zero, i.size, i.bytes)) = some (some (.agg #[.string ⟨#[]⟩, .string ⟨#[]⟩, .string ⟨#[]⟩, .int .i64 0]), 4, 56) := by kernel_rfl
theorem info_pg : ∃ i, Tryz.prog.info? 67 = some i ∧ i.zero = some (.agg #[.string ⟨#[]⟩, .string ⟨#[]⟩, .string ⟨#[]⟩, .int .i64 0]) ∧ i.size = 4 ∧ i.bytes = 56 := by
  have h := Tryz.infoPg
  cases hi : Tryz.prog.info? 67 with
  | none => rw [hi] at h; cases h
  | some i =>
    rw [hi] at h
    have := Option.some.inj h
    simp only [Prod.mk.injEq] at this
    exact ⟨i, rfl, this.1, this.2.1, this.2.2⟩

set_option maxRecDepth 100000 in
set_option maxHeartbeats 1600000 in
theorem szPg_any (r : Pg) (left : Nat) (w : World) (hr0 : r.addr.size ≤ maxLen) (hr1 : r.text.size ≤ maxLen) (hr2 : r.lead.size ≤ maxLen) (hl : left ≤ 4194304) :
    Calls Tryz.prog 41 #[.agg #[.string r.addr, .string r.text, .string r.lead, .int .i64 r.fails], .int .i64 (left : Int)] w fun e w' => (∃ x : Int, e = .returned (.int .i64 x) ∧ (x < 0 ∨ (0 ≤ x ∧ x + ((r.addr.size : Int) + (r.text.size : Int) + (r.lead.size : Int)) = (left : Int)))) ∧ Below w.heap.size w w' := by
  unfold maxLen at hr0 hr1 hr2
  by_cases h0 : left < r.addr.size
  · go_enter Tryz.func41, Tryz.ntmps41
    go_wp2
    go_ret
    exact ⟨⟨-1, rfl, Or.inl (by omega)⟩, (Below.refl _ _).alloc (Nat.le_refl _) _⟩
  by_cases h1 : left < r.addr.size + r.text.size
  · go_enter Tryz.func41, Tryz.ntmps41
    go_wp2
    go_ret
    exact ⟨⟨-1, rfl, Or.inl (by omega)⟩, (Below.refl _ _).alloc (Nat.le_refl _) _⟩
  by_cases h2 : left < r.addr.size + r.text.size + r.lead.size
  · go_enter Tryz.func41, Tryz.ntmps41
    go_wp2
    go_ret
    exact ⟨⟨-1, rfl, Or.inl (by omega)⟩, (Below.refl _ _).alloc (Nat.le_refl _) _⟩
  go_enter Tryz.func41, Tryz.ntmps41
  go_wp2
  go_ret
  exact ⟨⟨_, rfl, Or.inr ⟨by omega, by omega⟩⟩, (Below.refl _ _).alloc (Nat.le_refl _) _⟩

set_option maxRecDepth 100000 in
set_option maxHeartbeats 1600000 in
theorem szPgS_any (a0 : Option Addr) (cap : Nat) (L : List Pg) (left : Nat) (w : World) (h : IsRows FPg w a0 cap L) (hs : ∀ r ∈ L, PgIn r) (hl : left ≤ 4194304) :
    Calls Tryz.prog 10 #[.slice a0 L.length cap, .int .i64 (left : Int)] w fun e w' => (∃ x : Int, e = .returned (.int .i64 x) ∧ (x < 0 ∨ (0 ≤ x ∧ x ≤ left ∧ L.length ≤ left ∧ ∀ r ∈ L, r.addr.size ≤ left ∧ r.text.size ≤ left ∧ r.lead.size ≤ left))) ∧ Below w.heap.size w w' := by
  have HS : Hid (IsRows FPg w a0 cap L) := h
  have HZ : Hid (∀ r ∈ L, PgIn r) := hs
  have hc1 := h.1
  have hc2 := h.2.1
  unfold maxLen at hc2
  clear h hs
  by_cases hlt : left < L.length
  · go_enter Tryz.func10, Tryz.ntmps10
    go_wp2
    go_ret
    exact ⟨⟨-1, rfl, Or.inl (by omega)⟩, Below.refl _ _⟩
  · go_enter Tryz.func10, Tryz.ntmps10
    go_wp2
    go_loopw [1, 5] (fun x i wr => ∃ (k m : Nat), k ≤ L.length ∧ i = .int .i64 (k : Int) ∧ x = .int .i64 (m : Int) ∧ m ≤ left ∧ Hid (∀ r ∈ L.take k, r.addr.size ≤ left ∧ r.text.size ≤ left ∧ r.lead.size ≤ left) ∧ Hid (Below w.heap.size w wr)) (fun _ i _ => L.length - (intOf i).toNat)
    case atStart => exact ⟨0, left - L.length, Nat.zero_le _, rfl, by go_num, by omega, (fun r hr => by simp at hr), Below.refl _ _⟩
    case round =>
      obtain ⟨k, m, hk, rfl, rfl, hm, HSm, HB⟩ := hrel
      by_cases hkl : k < L.length
      · obtain ⟨b, o, e, c0, c1, c2, c3⟩ := pg_at (IsRows.below HS.out HB.out) hkl
        subst e
        have HZk : Hid (PgIn L[k]) := HZ.out _ (List.getElem_mem hkl)
        go_wp2_with fail
        refine (szPg_any L[k] m _ HZk.out.1 HZk.out.2.1 HZk.out.2.2.1 (by omega)).mono ?_
        rintro e w1 ⟨⟨x, rfl, hx⟩, hb1⟩
        have HB1 : Hid (Below w.heap.size w w1) := HB.out.trans (hb1.mono HB.out.size)
        clear hb1 c0 c1 c2 c3
        rcases hx with hx | ⟨hx0, hx1⟩
        · go_wp2
          go_ret
          exact ⟨⟨-1, rfl, Or.inl (by omega)⟩, HB1.out⟩
        · obtain ⟨y, rfl⟩ : ∃ y : Nat, x = (y : Int) := ⟨x.toNat, by omega⟩
          have HN : Hid (∀ r ∈ L.take (k + 1), r.addr.size ≤ left ∧ r.text.size ≤ left ∧ r.lead.size ≤ left) := by
            intro r hr
            rw [List.take_succ_eq_append_getElem hkl] at hr
            rcases List.mem_append.1 hr with hr | hr
            · exact HSm.out r hr
            · simp at hr; subst hr; omega
          go_wp2
          go_roundw
          case rel => exact ⟨k + 1, y, by omega, by go_num, rfl, by omega, HN.out, HB1⟩
          case measure => simp [intOf]; omega
      · go_wp2
        go_ret
        refine ⟨⟨m, rfl, Or.inr ⟨by omega, by omega, by omega, ?_⟩⟩, HB.out⟩
        have := HSm.out
        rwa [List.take_of_length_le (by omega)] at this

set_option maxRecDepth 100000 in
set_option maxHeartbeats 1600000 in
theorem toPg_any (r : Pg) (w : World) :
    Calls Tryz.prog 46 #[.agg #[.string r.addr, .string r.text, .string r.lead, .int .i64 r.fails]] w fun e w' => e = .returned (.agg #[.string r.addr, .string r.text, .string r.lead, .int .i64 r.fails]) ∧ Below w.heap.size w w' := by
  go_enter Tryz.func46, Tryz.ntmps46
  go_wp2
  refine bodyPost_ret (v := .agg #[.string r.addr, .string r.text, .string r.lead, .int .i64 r.fails]) (by simp [results, Tryz.results46, go_sem]) rfl ⟨rfl, ?_⟩
  exact (((Below.refl _ w).alloc (Nat.le_refl _) _).alloc (by simp) _).alloc (by simp; omega) _
theorem cells_set (x : Pg) : ∀ (L : List Pg) (i : Nat), i < L.length → FPg.cells (L.set i x) = (((((FPg.cells L).set (i * 4) (.string x.addr)).set (i * 4 + 1) (.string x.text)).set (i * 4 + 2) (.string x.lead)).set (i * 4 + 3) (.int .i64 x.fails)) := by
  intro L
  induction L with
  | nil => intro i h; simp at h
  | cons y L ih =>
    intro i h
    cases i with
    | zero => rfl
    | succ i =>
      have e := ih i (by simpa using h)
      show FPg.enc y ++ FPg.cells (L.set i x) = _
      rw [e, show (i + 1) * 4 = i * 4 + 1 + 1 + 1 + 1 from by omega]
      rfl
theorem made_cells (n : Nat) : (madeCells (Value.cells (.agg #[.string ⟨#[]⟩, .string ⟨#[]⟩, .string ⟨#[]⟩, .int .i64 0])) (n * 4)).toList = FPg.cells (List.replicate n ⟨⟨#[]⟩, ⟨#[]⟩, ⟨#[]⟩, 0⟩) := by
  have e : Value.cells (.agg #[.string ⟨#[]⟩, .string ⟨#[]⟩, .string ⟨#[]⟩, .int .i64 0]) = #[.string ⟨#[]⟩, .string ⟨#[]⟩, .string ⟨#[]⟩, .int .i64 0] := rfl
  rw [e]
  apply List.ext_getElem?
  intro j
  by_cases hj : j < n * 4
  · have h2 : j = j / 4 * FPg.k + j % 4 := by show j = j / 4 * 4 + j % 4; omega
    have h3 : j / 4 < (List.replicate n (⟨⟨#[]⟩, ⟨#[]⟩, ⟨#[]⟩, 0⟩ : Pg)).length := by simp; omega
    have h4 := FPg.cells_at (List.replicate n ⟨⟨#[]⟩, ⟨#[]⟩, ⟨#[]⟩, 0⟩) (j / 4) h3 (j % 4) (Nat.mod_lt _ (by decide))
    rw [← h2] at h4
    rw [h4, List.getElem_replicate]
    have h5 : j % 4 = 0 ∨ j % 4 = 1 ∨ j % 4 = 2 ∨ j % 4 = 3 := by omega
    rcases h5 with h | h | h | h
    · rw [h]; simp [madeCells, hj, h, FPg]
    · rw [h]; simp [madeCells, hj, h, FPg]
    · rw [h]; simp [madeCells, hj, h, FPg]
    · rw [h]; simp [madeCells, hj, h, FPg]
  · rw [List.getElem?_eq_none (by simp [madeCells]; omega), List.getElem?_eq_none (by rw [FPg.cells_len]; simp; show n * 4 ≤ j; omega)]
theorem set_takeP (L : List Pg) (k : Nat) (hk : k < L.length) (e : Pg) : (L.take k ++ List.replicate (L.length - k) e).set k L[k] = L.take (k + 1) ++ List.replicate (L.length - (k + 1)) e := by
  have hl : (L.take k).length = k := by simp; omega
  rw [List.set_append_right _ _ (by omega), hl, Nat.sub_self]
  rw [show L.length - k = (L.length - (k + 1)) + 1 by omega, List.replicate_succ, List.set_cons_zero, List.take_succ_eq_append_getElem hk, List.append_assoc]
  rfl

set_option maxRecDepth 100000 in
set_option maxHeartbeats 3200000 in
theorem toPgS_any (a0 : Option Addr) (cap : Nat) (L : List Pg) (w : World) (h : IsRows FPg w a0 cap L) (hl : L.length ≤ 1048576) :
    Calls Tryz.prog 12 #[.slice a0 L.length cap] w fun e w' => e = .returned (.slice (some ⟨w.heap.size, 0, none⟩) L.length L.length) ∧ OwnsR FPg 67 w' w.heap.size (.slice (some ⟨w.heap.size, 0, none⟩) L.length L.length) L ∧ Below w.heap.size w w' := by
  obtain ⟨i0, hi, hz0, hz1, hz2⟩ := info_pg
  obtain ⟨wm, hrun, hown, hgrow⟩ := run_make_full (P := Tryz.prog) w w.heap.size 26 67 i0 (.agg #[.string ⟨#[]⟩, .string ⟨#[]⟩, .string ⟨#[]⟩, .int .i64 0]) 4 Tryz.underlying26 hi hz0 hz1 .i64 .i64 L.length (by rw [hz2]; omega) (by unfold maxLen; omega) (Nat.le_refl _)
  have HO0 : Hid (OwnsR FPg 67 wm w.heap.size (.slice (some ⟨w.heap.size, 0, none⟩) L.length L.length) (L.take 0 ++ List.replicate (L.length - 0) ⟨⟨#[]⟩, ⟨#[]⟩, ⟨#[]⟩, 0⟩)) := by
    show OwnsR _ _ _ _ _ _
    refine OwnsR.of_row hown (by simp) ?_
    rw [made_cells]; simp
  have hb0 : Below w.heap.size w wm := Below.grown (Below.refl _ _) hgrow (Nat.le_refl _) (by intro k hk; cases hk)
  have HS : Hid (IsRows FPg w a0 cap L) := h
  have hc1 := h.1
  have hc2 := h.2.1
  unfold maxLen at hc2
  clear h hown hgrow
  go_enter Tryz.func12, Tryz.ntmps12
  go_wp2
  go_loopw [4] (fun i wr => ∃ k : Nat, k ≤ L.length ∧ i = .int .i64 (k : Int) ∧ Hid (OwnsR FPg 67 wr w.heap.size (.slice (some ⟨w.heap.size, 0, none⟩) L.length L.length) (L.take k ++ List.replicate (L.length - k) ⟨⟨#[]⟩, ⟨#[]⟩, ⟨#[]⟩, 0⟩)) ∧ Below w.heap.size w wr) (fun i _ => L.length - (intOf i).toNat)
  case atStart => exact ⟨0, Nat.zero_le _, rfl, HO0, hb0⟩
  case round =>
    obtain ⟨k, hk, rfl, HO, hbel⟩ := hrel
    clear hrun
    by_cases hlt : k < L.length
    · obtain ⟨b, o, e, c0, c1, c2, c3⟩ := pg_at (IsRows.below HS.out hbel) hlt
      subst e
      have HT : Hid _ := set_takeP L k hlt ⟨⟨#[]⟩, ⟨#[]⟩, ⟨#[]⟩, 0⟩
      have hlen : (L.take k ++ List.replicate (L.length - k) (⟨⟨#[]⟩, ⟨#[]⟩, ⟨#[]⟩, 0⟩ : Pg)).length = L.length := by simp; omega
      have HLEN : Hid _ := hlen
      clear hlen
      go_wp2_with fail
      refine (toPg_any L[k] _).mono ?_
      rintro e w1 ⟨rfl, hb1⟩
      have HO1 : Hid (OwnsR FPg 67 w1 w.heap.size (.slice (some ⟨w.heap.size, 0, none⟩) L.length L.length) (L.take k ++ List.replicate (L.length - k) ⟨⟨#[]⟩, ⟨#[]⟩, ⟨#[]⟩, 0⟩)) := HO.out.below hb1
      have hbel1 : Below w.heap.size w w1 := hbel.trans (hb1.mono hbel.size)
      have hO := HO1.out
      unfold OwnsR at hO
      rw [HLEN.out] at hO
      have hx0 : w1.cell? ⟨w.heap.size, k * 4, none⟩ = some (.string ⟨#[]⟩) := by
        rw [World.ownsRow.cellAt hO (k * 4) (by show k * 4 < L.length * 4; omega)]
        have := FPg.cells_at (L.take k ++ List.replicate (L.length - k) (⟨⟨#[]⟩, ⟨#[]⟩, ⟨#[]⟩, 0⟩ : Pg)) k (by rw [HLEN.out]; exact hlt) 0 (by decide)
        rw [show k * FPg.k + 0 = k * 4 from rfl] at this
        rw [this, List.getElem_append_right (by rw [List.length_take]; omega)]; simp [FPg]
      have hx1 : w1.cell? ⟨w.heap.size, k * 4 + 1, none⟩ = some (.string ⟨#[]⟩) := by
        rw [World.ownsRow.cellAt hO (k * 4 + 1) (by show k * 4 + 1 < L.length * 4; omega)]
        have := FPg.cells_at (L.take k ++ List.replicate (L.length - k) (⟨⟨#[]⟩, ⟨#[]⟩, ⟨#[]⟩, 0⟩ : Pg)) k (by rw [HLEN.out]; exact hlt) 1 (by decide)
        rw [show k * FPg.k + 1 = k * 4 + 1 from rfl] at this
        rw [this, List.getElem_append_right (by rw [List.length_take]; omega)]; simp [FPg]
      have hx2 : w1.cell? ⟨w.heap.size, k * 4 + 2, none⟩ = some (.string ⟨#[]⟩) := by
        rw [World.ownsRow.cellAt hO (k * 4 + 2) (by show k * 4 + 2 < L.length * 4; omega)]
        have := FPg.cells_at (L.take k ++ List.replicate (L.length - k) (⟨⟨#[]⟩, ⟨#[]⟩, ⟨#[]⟩, 0⟩ : Pg)) k (by rw [HLEN.out]; exact hlt) 2 (by decide)
        rw [show k * FPg.k + 2 = k * 4 + 2 from rfl] at this
        rw [this, List.getElem_append_right (by rw [List.length_take]; omega)]; simp [FPg]
      have hx3 : w1.cell? ⟨w.heap.size, k * 4 + 3, none⟩ = some (.int .i64 0) := by
        rw [World.ownsRow.cellAt hO (k * 4 + 3) (by show k * 4 + 3 < L.length * 4; omega)]
        have := FPg.cells_at (L.take k ++ List.replicate (L.length - k) (⟨⟨#[]⟩, ⟨#[]⟩, ⟨#[]⟩, 0⟩ : Pg)) k (by rw [HLEN.out]; exact hlt) 3 (by decide)
        rw [show k * FPg.k + 3 = k * 4 + 3 from rfl] at this
        rw [this, List.getElem_append_right (by rw [List.length_take]; omega)]; simp [FPg]
      have hfz := World.ownsRow.frozenAt hO
      have hst0 := World.ownsRow.stored hO (k * 4) (.string L[k].addr)
      have hst1 := World.ownsRow.stored hst0.1 (k * 4 + 1) (.string L[k].text)
      have hst2 := World.ownsRow.stored hst1.1 (k * 4 + 2) (.string L[k].lead)
      have hst3 := World.ownsRow.stored hst2.1 (k * 4 + 3) (.int .i64 L[k].fails)
      have HST0 : Hid _ := hst0
      have HST1 : Hid _ := hst1
      have HST2 : Hid _ := hst2
      have HST3 : Hid _ := hst3
      clear hst0 hst1 hst2 hst3 hO hb1 c0 c1 c2 c3
      generalize hp : L[k] = p at *
      go_wp2
      go_roundw
      case rel =>
        refine ⟨k + 1, by omega, by go_num, ?_, ?_⟩
        · show OwnsR _ _ _ _ _ _
          rw [← HT.out]
          refine OwnsR.of_row HST3.out.1 (by rw [List.length_set, HLEN.out]) ?_
          rw [cells_set p _ k (by rw [HLEN.out]; exact hlt)]
        · have hq0 := Below.grown hbel1 HST0.out.2 hbel1.size (by intro k hk; have := Option.some.inj hk; omega)
          have hq1 := Below.grown hq0 HST1.out.2 hq0.size (by intro k hk; have := Option.some.inj hk; omega)
          have hq2 := Below.grown hq1 HST2.out.2 hq1.size (by intro k hk; have := Option.some.inj hk; omega)
          have hq3 := Below.grown hq2 HST3.out.2 hq2.size (by intro k hk; have := Option.some.inj hk; omega)
          exact hq3
      case measure => simp [intOf]; omega
    · have e1 : L.take k ++ List.replicate (L.length - k) (⟨⟨#[]⟩, ⟨#[]⟩, ⟨#[]⟩, 0⟩ : Pg) = L := by rw [List.take_of_length_le (by omega), show L.length - k = 0 by omega]; simp
      rw [e1] at HO
      clear e1
      go_wp2
      go_ret
      exact ⟨rfl, HO.out, hbel⟩

set_option maxRecDepth 100000 in
set_option maxHeartbeats 1600000 in
theorem eqPg_any (r : Pg) (w : World) :
    Calls Tryz.prog 50 #[.agg #[.string r.addr, .string r.text, .string r.lead, .int .i64 r.fails], .agg #[.string r.addr, .string r.text, .string r.lead, .int .i64 r.fails]] w fun e w' => e = .returned (.bool true) ∧ Below w.heap.size w w' := by
  go_enter Tryz.func50, Tryz.ntmps50
  go_wp2
  go_ret
  exact ⟨rfl, ((Below.refl _ w).alloc (Nat.le_refl _) _).alloc (by simp) _⟩
set_option maxRecDepth 100000 in
set_option maxHeartbeats 1600000 in
theorem eqPgS_any (a0 : Option Addr) (cap : Nat) (b0 : Option Addr) (dap : Nat) (L : List Pg) (w : World) (hA : IsRows FPg w a0 cap L) (hB : IsRows FPg w b0 dap L) (hl : L.length ≤ 4194304) :
    Calls Tryz.prog 15 #[.slice a0 L.length cap, .slice b0 L.length dap] w fun e w' => e = .returned (.bool true) ∧ Below w.heap.size w w' := by
  have HA : Hid (IsRows FPg w a0 cap L) := hA
  have HB : Hid (IsRows FPg w b0 dap L) := hB
  clear hA hB
  go_enter Tryz.func15, Tryz.ntmps15
  go_wp2
  go_loopw [5] (fun i wr => ∃ k : Nat, k ≤ L.length ∧ i = .int .i64 (k : Int) ∧ Hid (Below w.heap.size w wr)) (fun i _ => L.length - (intOf i).toNat)
  case atStart => exact ⟨0, Nat.zero_le _, rfl, Below.refl _ _⟩
  case round =>
    obtain ⟨k, hk, rfl, HW⟩ := hrel
    by_cases hlt : k < L.length
    · obtain ⟨b, o, e, c0, c1, c2, c3⟩ := pg_at (IsRows.below HA.out HW.out) hlt
      subst e
      obtain ⟨b2, o2, e2, d0, d1, d2, d3⟩ := pg_at (IsRows.below HB.out HW.out) hlt
      subst e2
      go_wp2
      go_region_with (go_at_call 50; refine (eqPg_any L[k] wr.drew).mono ?_; rintro e w1 ⟨rfl, hb1⟩)
      all_goals
        have HB1 : Hid (Below w.heap.size w w1) := HW.out.trans ((((Below.refl _ wr).drew).trans hb1).mono HW.out.size)
        clear hb1 c0 c1 c2 c3 d0 d1 d2 d3
        go_wp2
        go_roundw
        case rel => exact ⟨k + 1, by omega, by go_num, HB1⟩
        case measure => simp [intOf]; omega
    · go_wp2
      go_ret
      exact ⟨rfl, HW.out⟩
end Go.Proofs.YtboncolbijicfaaGreatDoor.ExPg
/- A list of pages is marked. -/
namespace Go.Proofs.YtboncolbijicfaaGreatDoor.ExPg
open Go.RowKit Go.Proofs.YtboncolbijicfaaGreatDoor.EscM Go.Proofs.YtboncolbijicfaaGreatDoor.EscL Go.Proofs.YtboncolbijicfaaGreatDoor.St Go.Proofs.YtboncolbijicfaaGreatDoor.RR Go.Proofs.YtboncolbijicfaaGreatDoor.RoPg

theorem markText_int (z : Int) (w : World) (h1 : 1 ≤ z) (h2 : z ≤ 16777216) :
    Calls Tryz.prog 51 #[.int .i64 z] w fun e w' => ∃ t, e = .returned (.string t) ∧ Below w.heap.size w w' := by
  obtain ⟨n, rfl⟩ : ∃ n : Nat, z = (n : Int) := ⟨z.toNat, by omega⟩
  refine (markText_any n w (by omega) (by omega)).mono ?_
  rintro e w1 ⟨rfl, hb⟩
  exact ⟨_, rfl, hb⟩

def Pr (w : World) (base g cap n : Nat) : Prop := ∃ ys, w.ownsRow base 67 4 (.slice (some ⟨g, 0, none⟩) n cap) n ys
theorem Pr.below {w w' : World} {base g cap n : Nat} (h : Pr w base g cap n) (hb : Below w.heap.size w w') : Pr w' base g cap n := by
  obtain ⟨ys, hy⟩ := h
  obtain ⟨h1, ⟨e, _⟩ | ⟨g1, c1, cur, hv, hg, hc, r⟩⟩ := hy
  · cases e
  · exact ⟨ys, h1, Or.inr ⟨g1, c1, cur, hv, hg, by rw [hb.block g1 (Array.getElem?_eq_some_iff.1 hc).1]; exact hc, r⟩⟩
theorem Pr.cell {w : World} {base g cap n : Nat} (h : Pr w base g cap n) {j i : Nat} (hj : j < n) (hi : i < 4) : (∃ old, w.cell? ⟨g, j * 4 + i, none⟩ = some old) ∧ w.frozen? ⟨g, j * 4 + i, none⟩ = false := by
  obtain ⟨ys, hy⟩ := h
  refine ⟨?_, World.ownsRow.frozenAt hy _⟩
  rw [World.ownsRow.cellAt hy (j * 4 + i) (by omega)]
  exact ⟨_, List.getElem?_eq_getElem (by rw [hy.1]; omega)⟩
theorem Pr.set {w : World} {base g cap n : Nat} (h : Pr w base g cap n) (j : Nat) (v : Value) : Pr (w.setCell ⟨g, j, none⟩ v) base g cap n ∧ w.grownBy (w.setCell ⟨g, j, none⟩ v) (some g) := by
  obtain ⟨ys, hy⟩ := h
  have := World.ownsRow.stored hy j v
  exact ⟨⟨_, this.1⟩, this.2⟩
set_option maxRecDepth 100000 in
set_option maxHeartbeats 800000 in
theorem markPgS_any (base g cap n : Nat) (w : World) (h : Pr w base g cap n) (hl : n ≤ 1048576) :
    Calls Tryz.prog 16 #[.slice (some ⟨g, 0, none⟩) n cap, .int .i64 1] w fun e w' => (∃ z : Int, e = .returned (.int .i64 z) ∧ 1 ≤ z) ∧ w.grownBy w' (some g) := by
  have HO0 : Hid (Pr w base g cap n) := h
  have hc : n ≤ cap ∧ cap ≤ maxLen := by
    obtain ⟨ys, _, ⟨e, _⟩ | ⟨g1, c1, cur, hv, hg, _, hn, hm, _⟩⟩ := h
    · cases e
    · injection hv with _ _ e
      subst e
      exact ⟨hn, hm⟩
  obtain ⟨hc1, hc2⟩ := hc
  unfold maxLen at hc2
  clear h
  go_enter Tryz.func16, Tryz.ntmps16
  go_wp2
  go_loopw [1, 5] (fun x i wr => ∃ (j : Nat) (z : Int), j ≤ n ∧ i = .int .i64 (j : Int) ∧ x = .int .i64 z ∧ Hid (z = 1 + 4 * (j : Int)) ∧ Hid (Pr wr base g cap n) ∧ w.grownBy wr (some g)) (fun _ i _ => n - (intOf i).toNat)
  case atStart => exact ⟨0, 1, Nat.zero_le _, rfl, rfl, (by show _ = _; rfl), HO0, grown_refl _ _⟩
  case round =>
    obtain ⟨j, z, hj, rfl, rfl, hz, HO, hg⟩ := hrel
    have HG : Hid (w.grownBy wr (some g)) := hg
    clear hg
    by_cases hlt : j < n
    · have hz1 : 1 ≤ z := by have := hz.out; omega
      have hz2 : z ≤ 5000000 := by have := hz.out; omega
      go_wp2_with fail
      refine (markText_int _ _ (by omega) (by omega)).mono ?_
      rintro e w1 ⟨t1, rfl, hb1⟩
      have HO1 : Hid (Pr w1 base g cap n) := HO.out.below hb1
      have HG1 : Hid (w.grownBy w1 (some g)) := grown_trans HG.out (grown_of_below _ hb1)
      clear hb1 HO HG
      obtain ⟨⟨o1, k1⟩, f1⟩ := HO1.out.cell (i := 0) hlt (by decide)
      simp only [Nat.add_zero] at k1 f1
      have HP2 : Hid _ := HO1.out.set (j * 4) (.string t1)
      have HG2 : Hid _ := grown_trans HG1.out HP2.out.2
      clear HO1 HG1
      go_wp2_with fail
      refine (markText_int _ _ (by omega) (by omega)).mono ?_
      rintro e w2 ⟨t2, rfl, hb2⟩
      have HO3 : Hid (Pr w2 base g cap n) := HP2.out.1.below hb2
      have HG3 : Hid (w.grownBy w2 (some g)) := grown_trans HG2.out (grown_of_below _ hb2)
      clear hb2 HP2 HG2 k1 f1
      obtain ⟨⟨o3, k3⟩, f3⟩ := HO3.out.cell (i := 1) hlt (by decide)
      have HP4 : Hid _ := HO3.out.set (j * 4 + 1) (.string t2)
      have HG4 : Hid _ := grown_trans HG3.out HP4.out.2
      clear HO3 HG3
      go_wp2_with fail
      refine (markText_int _ _ (by omega) (by omega)).mono ?_
      rintro e w3 ⟨t3, rfl, hb3⟩
      have HO5 : Hid (Pr w3 base g cap n) := HP4.out.1.below hb3
      have HG5 : Hid (w.grownBy w3 (some g)) := grown_trans HG4.out (grown_of_below _ hb3)
      clear hb3 HP4 HG4 k3 f3
      obtain ⟨⟨o5, k5⟩, f5⟩ := HO5.out.cell (i := 2) hlt (by decide)
      have HP6 : Hid _ := HO5.out.set (j * 4 + 2) (.string t3)
      have HG6 : Hid _ := grown_trans HG5.out HP6.out.2
      clear HO5 HG5
      obtain ⟨⟨o7, k7⟩, f7⟩ := HP6.out.1.cell (i := 3) hlt (by decide)
      have HP8 : Hid _ := HP6.out.1.set (j * 4 + 3) (.int .i64 (z + 1 + 1 + 1))
      have HG8 : Hid _ := grown_trans HG6.out HP8.out.2
      clear HG6 HP6
      go_wp2
      go_roundw
      case rel =>
        refine ⟨j + 1, z + 1 + 1 + 1 + 1, by omega, by go_num, by go_num, ?_, HP8.out.1, HG8.out⟩
        show _ = _
        have := hz.out
        omega
      case measure => simp [intOf]; omega
    · go_wp2
      go_ret
      exact ⟨⟨_, rfl, by have := hz.out; omega⟩, HG.out⟩
end Go.Proofs.YtboncolbijicfaaGreatDoor.ExPg
