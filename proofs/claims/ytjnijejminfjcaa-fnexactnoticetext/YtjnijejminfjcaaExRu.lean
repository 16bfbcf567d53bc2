/- The exact laws' helpers on rules: how great, copied, the same. -/
import Derived.Test.YtjnijejminfjcaaLetsMath
import Derived.Test.YtjnijejminfjcaaExS
namespace Go.Proofs.Ytjnijejminfjcaa.ExR
open Go.RowKit Go.Proofs.Ytjnijejminfjcaa.St Go.Proofs.Ytjnijejminfjcaa.EscL Go.Proofs.Ytjnijejminfjcaa.RR Go.Proofs.Ytjnijejminfjcaa.LetM

theorem Try.infoRu : (Try.prog.info? 41).map (fun i => (i.zero, i.size, i.bytes)) = some (some (.agg #[.bool false, .string ⟨#[]⟩]), 2, 24) := by kernel_rfl
theorem info_rule : ∃ i, Try.prog.info? 41 = some i ∧ i.zero = some (.agg #[.bool false, .string ⟨#[]⟩]) ∧ i.size = 2 ∧ i.bytes = 24 := by
  have h := Try.infoRu
  cases hi : Try.prog.info? 41 with
  | none => rw [hi] at h; cases h
  | some i =>
    rw [hi] at h
    have := Option.some.inj h
    simp only [Prod.mk.injEq] at this
    exact ⟨i, rfl, this.1, this.2.1, this.2.2⟩

set_option maxHeartbeats 800000 in
theorem szRu_any (r : Ru) (left : Nat) (w : World) (hr : r.path.size ≤ maxLen) (hl : left ≤ 4194304) :
    Calls Try.prog 34 #[.agg #[.bool r.lt, .string r.path], .int .i64 (left : Int)] w fun e w' => (∃ x : Int, e = .returned (.int .i64 x) ∧ (x < 0 ∨ (0 ≤ x ∧ x + (r.path.size : Int) = (left : Int)))) ∧ Below w.heap.size w w' := by
  unfold maxLen at hr
  by_cases h : left < r.path.size
  · go_enter Try.func34, Try.ntmps34
    go_wp2
    go_ret
    exact ⟨⟨-1, rfl, Or.inl (by omega)⟩, (Below.refl _ _).alloc (Nat.le_refl _) _⟩
  · go_enter Try.func34, Try.ntmps34
    go_wp2
    go_ret
    exact ⟨⟨_, rfl, Or.inr ⟨by omega, by omega⟩⟩, (Below.refl _ _).alloc (Nat.le_refl _) _⟩

set_option maxHeartbeats 800000 in
theorem szRuS_any (a0 : Option Addr) (cap : Nat) (L : List Ru) (left : Nat) (w : World) (h : IsRows FRu w a0 cap L) (hs : ∀ r ∈ L, r.path.size ≤ maxLen) (hl : left ≤ 4194304) :
    Calls Try.prog 24 #[.slice a0 L.length cap, .int .i64 (left : Int)] w fun e w' => (∃ x : Int, e = .returned (.int .i64 x) ∧ (x < 0 ∨ (0 ≤ x ∧ L.length ≤ left ∧ ∀ r ∈ L, r.path.size ≤ left))) ∧ Below w.heap.size w w' := by
  have HS : Hid (IsRows FRu w a0 cap L) := h
  have HZ : Hid (∀ r ∈ L, r.path.size ≤ maxLen) := hs
  have hc1 := h.1
  have hc2 := h.2.1
  unfold maxLen at hc2
  clear h hs
  by_cases hlt : left < L.length
  · go_enter Try.func24, Try.ntmps24
    go_wp2
    go_ret
    exact ⟨⟨-1, rfl, Or.inl (by omega)⟩, Below.refl _ _⟩
  · go_enter Try.func24, Try.ntmps24
    go_wp2
    go_loopw [1, 5] (fun x i wr => ∃ (k m : Nat), k ≤ L.length ∧ i = .int .i64 (k : Int) ∧ x = .int .i64 (m : Int) ∧ m ≤ left ∧ Hid (∀ r ∈ L.take k, r.path.size ≤ left) ∧ Hid (Below w.heap.size w wr)) (fun _ i _ => L.length - (intOf i).toNat)
    case atStart => exact ⟨0, left - L.length, Nat.zero_le _, rfl, by go_num, by omega, (fun r hr => by simp at hr), Below.refl _ _⟩
    case round =>
      obtain ⟨k, m, hk, rfl, rfl, hm, HSm, HB⟩ := hrel
      by_cases hkl : k < L.length
      · obtain ⟨b, o, e, c0, c1⟩ := ru_at (IsRows.below HS.out HB.out) hkl
        subst e
        have hz := HZ.out _ (List.getElem_mem hkl)
        go_wp2_with fail
        refine (szRu_any L[k] m _ hz (by omega)).mono ?_
        rintro e w1 ⟨⟨x, rfl, hx⟩, hb1⟩
        have HB1 : Hid (Below w.heap.size w w1) := HB.out.trans (hb1.mono HB.out.size)
        clear hb1 c0 c1
        rcases hx with hx | ⟨hx0, hx1⟩
        · go_wp2
          go_ret
          exact ⟨⟨-1, rfl, Or.inl (by omega)⟩, HB1.out⟩
        · obtain ⟨y, rfl⟩ : ∃ y : Nat, x = (y : Int) := ⟨x.toNat, by omega⟩
          have HN : Hid (∀ r ∈ L.take (k + 1), r.path.size ≤ left) := by
            intro r hr
            rw [List.take_succ_eq_append_getElem hkl] at hr
            rcases List.mem_append.1 hr with hr | hr
            · exact HSm.out r hr
            · simp at hr; subst hr; omega
          go_wp2
          go_roundw
          case rel => exact ⟨k + 1, y, by omega, by go_num, rfl, by omega, HN.out, HB1⟩
          case measure => simp [intOf]; omega
      · go_wp2
        go_ret
        refine ⟨⟨m, rfl, Or.inr ⟨by omega, by omega, ?_⟩⟩, HB.out⟩
        have := HSm.out
        rwa [List.take_of_length_le (by omega)] at this

set_option maxHeartbeats 800000 in
theorem toRu_any (r : Ru) (w : World) :
    Calls Try.prog 35 #[.agg #[.bool r.lt, .string r.path]] w fun e w' => e = .returned (.agg #[.bool r.lt, .string r.path]) ∧ Below w.heap.size w w' := by
  go_enter Try.func35, Try.ntmps35
  go_wp2
  refine bodyPost_ret (v := .agg #[.bool r.lt, .string r.path]) (by simp [results, Try.results35, go_sem]) rfl ⟨rfl, ?_⟩
  exact (((Below.refl _ w).alloc (Nat.le_refl _) _).alloc (by simp) _).alloc (by simp; omega) _
theorem cells_set (x : Ru) : ∀ (L : List Ru) (i : Nat), i < L.length → FRu.cells (L.set i x) = ((FRu.cells L).set (i * 2) (.bool x.lt)).set (i * 2 + 1) (.string x.path) := by
  intro L
  induction L with
  | nil => intro i h; simp at h
  | cons y L ih =>
    intro i h
    cases i with
    | zero => rfl
    | succ i =>
      have e := ih i (by simpa using h)
      show FRu.enc y ++ FRu.cells (L.set i x) = _
      rw [e, show (i + 1) * 2 = i * 2 + 1 + 1 from by omega]
      rfl
theorem made_cells (n : Nat) : (madeCells (Value.cells (.agg #[.bool false, .string ⟨#[]⟩])) (n * 2)).toList = FRu.cells (List.replicate n ⟨false, ⟨#[]⟩⟩) := by
  have e : Value.cells (.agg #[.bool false, .string ⟨#[]⟩]) = #[.bool false, .string ⟨#[]⟩] := rfl
  rw [e]
  apply List.ext_getElem?
  intro j
  by_cases hj : j < n * 2
  · have h2 : j = j / 2 * FRu.k + j % 2 := by show j = j / 2 * 2 + j % 2; omega
    have h3 : j / 2 < (List.replicate n (⟨false, ⟨#[]⟩⟩ : Ru)).length := by simp; omega
    have h4 := FRu.cells_at (List.replicate n ⟨false, ⟨#[]⟩⟩) (j / 2) h3 (j % 2) (Nat.mod_lt _ (by decide))
    rw [← h2] at h4
    rw [h4, List.getElem_replicate]
    rcases Nat.mod_two_eq_zero_or_one j with h | h
    · rw [h]; simp [madeCells, hj, h, FRu]
    · rw [h]; simp [madeCells, hj, h, FRu]
  · rw [List.getElem?_eq_none (by simp [madeCells]; omega), List.getElem?_eq_none (by rw [FRu.cells_len]; simp; show n * 2 ≤ j; omega)]
theorem set_takeR (L : List Ru) (k : Nat) (hk : k < L.length) (e : Ru) : (L.take k ++ List.replicate (L.length - k) e).set k L[k] = L.take (k + 1) ++ List.replicate (L.length - (k + 1)) e := by
  have hl : (L.take k).length = k := by simp; omega
  rw [List.set_append_right _ _ (by omega), hl, Nat.sub_self]
  rw [show L.length - k = (L.length - (k + 1)) + 1 by omega, List.replicate_succ, List.set_cons_zero, List.take_succ_eq_append_getElem hk, List.append_assoc]
  rfl

set_option maxHeartbeats 1600000 in
theorem toRuS_any (a0 : Option Addr) (cap : Nat) (L : List Ru) (w : World) (h : IsRows FRu w a0 cap L) (hl : L.length ≤ 4194304) :
    Calls Try.prog 27 #[.slice a0 L.length cap] w fun e w' => e = .returned (.slice (some ⟨w.heap.size, 0, none⟩) L.length L.length) ∧ OwnsR FRu 41 w' w.heap.size (.slice (some ⟨w.heap.size, 0, none⟩) L.length L.length) L ∧ Below w.heap.size w w' := by
  obtain ⟨i0, hi, hz0, hz1, hz2⟩ := info_rule
  obtain ⟨wm, hrun, hown, hgrow⟩ := run_make_full (P := Try.prog) w w.heap.size 35 41 i0 (.agg #[.bool false, .string ⟨#[]⟩]) 2 Try.underlying35 hi hz0 hz1 .i64 .i64 L.length (by rw [hz2]; omega) (by unfold maxLen; omega) (Nat.le_refl _)
  have HO0 : Hid (OwnsR FRu 41 wm w.heap.size (.slice (some ⟨w.heap.size, 0, none⟩) L.length L.length) (L.take 0 ++ List.replicate (L.length - 0) ⟨false, ⟨#[]⟩⟩)) := by
    show OwnsR _ _ _ _ _ _
    refine OwnsR.of_row hown (by simp) ?_
    rw [made_cells]; simp
  have hb0 : Below w.heap.size w wm := Below.grown (Below.refl _ _) hgrow (Nat.le_refl _) (by intro k hk; cases hk)
  have HS : Hid (IsRows FRu w a0 cap L) := h
  have hc1 := h.1
  have hc2 := h.2.1
  unfold maxLen at hc2
  clear h hown hgrow
  go_enter Try.func27, Try.ntmps27
  go_wp2
  go_loopw [4] (fun i wr => ∃ k : Nat, k ≤ L.length ∧ i = .int .i64 (k : Int) ∧ Hid (OwnsR FRu 41 wr w.heap.size (.slice (some ⟨w.heap.size, 0, none⟩) L.length L.length) (L.take k ++ List.replicate (L.length - k) ⟨false, ⟨#[]⟩⟩)) ∧ Below w.heap.size w wr) (fun i _ => L.length - (intOf i).toNat)
  case atStart => exact ⟨0, Nat.zero_le _, rfl, HO0, hb0⟩
  case round =>
    obtain ⟨k, hk, rfl, HO, hbel⟩ := hrel
    clear hrun
    by_cases hlt : k < L.length
    · obtain ⟨b, o, e, c0, c1⟩ := ru_at (IsRows.below HS.out hbel) hlt
      subst e
      have HT : Hid _ := set_takeR L k hlt ⟨false, ⟨#[]⟩⟩
      have hlen : (L.take k ++ List.replicate (L.length - k) (⟨false, ⟨#[]⟩⟩ : Ru)).length = L.length := by simp; omega
      have HLEN : Hid _ := hlen
      clear hlen
      go_wp2_with fail
      refine (toRu_any L[k] _).mono ?_
      rintro e w1 ⟨rfl, hb1⟩
      have HO1 : Hid (OwnsR FRu 41 w1 w.heap.size (.slice (some ⟨w.heap.size, 0, none⟩) L.length L.length) (L.take k ++ List.replicate (L.length - k) ⟨false, ⟨#[]⟩⟩)) := HO.out.below hb1
      have hbel1 : Below w.heap.size w w1 := hbel.trans (hb1.mono hbel.size)
      have hO := HO1.out
      unfold OwnsR at hO
      rw [HLEN.out] at hO
      have hx0 : w1.cell? ⟨w.heap.size, k * 2, none⟩ = some (.bool false) := by
        rw [World.ownsRow.cellAt hO (k * 2) (by show k * 2 < L.length * 2; omega)]
        have := FRu.cells_at (L.take k ++ List.replicate (L.length - k) (⟨false, ⟨#[]⟩⟩ : Ru)) k (by rw [HLEN.out]; exact hlt) 0 (by decide)
        rw [show k * FRu.k + 0 = k * 2 from rfl] at this
        rw [this, List.getElem_append_right (by rw [List.length_take]; omega)]; simp [FRu]
      have hx1 : w1.cell? ⟨w.heap.size, k * 2 + 1, none⟩ = some (.string ⟨#[]⟩) := by
        rw [World.ownsRow.cellAt hO (k * 2 + 1) (by show k * 2 + 1 < L.length * 2; omega)]
        have := FRu.cells_at (L.take k ++ List.replicate (L.length - k) (⟨false, ⟨#[]⟩⟩ : Ru)) k (by rw [HLEN.out]; exact hlt) 1 (by decide)
        rw [show k * FRu.k + 1 = k * 2 + 1 from rfl] at this
        rw [this, List.getElem_append_right (by rw [List.length_take]; omega)]; simp [FRu]
      have hfz := World.ownsRow.frozenAt hO
      have hst := World.ownsRow.stored hO (k * 2) (.bool L[k].lt)
      have hst2 := World.ownsRow.stored hst.1 (k * 2 + 1) (.string L[k].path)
      have HST : Hid _ := hst
      have HST2 : Hid _ := hst2
      clear hst hst2 hO hb1 c0 c1
      generalize hp : L[k] = p at *
      go_wp2
      go_roundw
      case rel =>
        refine ⟨k + 1, by omega, by go_num, ?_, ?_⟩
        · show OwnsR _ _ _ _ _ _
          rw [← HT.out]
          refine OwnsR.of_row HST2.out.1 (by rw [List.length_set, HLEN.out]) ?_
          rw [cells_set p _ k (by rw [HLEN.out]; exact hlt)]
        · have hb2 := Below.grown hbel1 HST.out.2 hbel1.size (by intro k hk; have := Option.some.inj hk; omega)
          exact Below.grown hb2 HST2.out.2 hb2.size (by intro k hk; have := Option.some.inj hk; omega)
      case measure => simp [intOf]; omega
    · have e1 : L.take k ++ List.replicate (L.length - k) (⟨false, ⟨#[]⟩⟩ : Ru) = L := by rw [List.take_of_length_le (by omega), show L.length - k = 0 by omega]; simp
      rw [e1] at HO
      clear e1
      go_wp2
      go_ret
      exact ⟨rfl, HO.out, hbel⟩

set_option maxHeartbeats 800000 in
theorem eqRu_any (r : Ru) (w : World) :
    Calls Try.prog 38 #[.agg #[.bool r.lt, .string r.path], .agg #[.bool r.lt, .string r.path]] w fun e w' => e = .returned (.bool true) ∧ Below w.heap.size w w' := by
  go_enter Try.func38, Try.ntmps38
  go_wp2
  go_ret
  exact ⟨rfl, ((Below.refl _ w).alloc (Nat.le_refl _) _).alloc (by simp) _⟩
set_option maxHeartbeats 800000 in
theorem eqRuS_any (a0 : Option Addr) (cap : Nat) (b0 : Option Addr) (dap : Nat) (L : List Ru) (w : World) (hA : IsRows FRu w a0 cap L) (hB : IsRows FRu w b0 dap L) (hl : L.length ≤ 4194304) :
    Calls Try.prog 32 #[.slice a0 L.length cap, .slice b0 L.length dap] w fun e w' => e = .returned (.bool true) ∧ Below w.heap.size w w' := by
  have HA : Hid (IsRows FRu w a0 cap L) := hA
  have HB : Hid (IsRows FRu w b0 dap L) := hB
  clear hA hB
  go_enter Try.func32, Try.ntmps32
  go_wp2
  go_loopw [5] (fun i wr => ∃ k : Nat, k ≤ L.length ∧ i = .int .i64 (k : Int) ∧ Hid (Below w.heap.size w wr)) (fun i _ => L.length - (intOf i).toNat)
  case atStart => exact ⟨0, Nat.zero_le _, rfl, Below.refl _ _⟩
  case round =>
    obtain ⟨k, hk, rfl, HW⟩ := hrel
    by_cases hlt : k < L.length
    · obtain ⟨b, o, e, c0, c1⟩ := ru_at (IsRows.below HA.out HW.out) hlt
      subst e
      obtain ⟨b2, o2, e2, d0, d1⟩ := ru_at (IsRows.below HB.out HW.out) hlt
      subst e2
      go_wp2
      go_region_with (go_at_call 38; refine (eqRu_any L[k] wr.drew).mono ?_; rintro e w1 ⟨rfl, hb1⟩)
      all_goals
        have HB1 : Hid (Below w.heap.size w w1) := HW.out.trans ((((Below.refl _ wr).drew).trans hb1).mono HW.out.size)
        clear hb1 c0 c1 d0 d1
        go_wp2
        go_roundw
        case rel => exact ⟨k + 1, by omega, by go_num, HB1⟩
        case measure => simp [intOf]; omega
    · go_wp2
      go_ret
      exact ⟨rfl, HW.out⟩
end Go.Proofs.Ytjnijejminfjcaa.ExR
