/- FnLetsLongest: for every code, RuleLets of the rules and the way drawn of it is told by the longest patterns, letting first. The card ties two tables of unicode/utf8 to the program's text; no other condition. -/
import Derived.Test.YtemobclefdodjaaDoorRows
import Derived.WalkKit
import Derived.ProofKit
import Derived.OpenShut
import Derived.ShutString
import Derived.ChangeOld
import Derived.Below
import Derived.Test.YtemobclefdodjaaDoorCards
import Derived.Test.YtemobclefdodjaaDoorTie
import Derived.Test.YtemobclefdodjaaDoorHasDoor
import Derived.Test.YtemobclefdodjaaDoorLets1
import Derived.Test.YtemobclefdodjaaDoorLets2
import Derived.Test.YtemobclefdodjaaDoorLetsLaws
import Derived.Test.YtemobclefdodjaaDoorDraw12
import Derived.Lay
import Derived.LaidOnce
import Derived.SevenTiedAt
namespace Go.Proofs.YtemobclefdodjaaDoor.fnLetsLongest
open Go.ChangeShapes Go.WideShapes Go.ChangeAt Go.RowKit
open Go.ChangeMaps (open_string shut_string)
set_option linter.unusedVariables false
open Go.Proofs.YtemobclefdodjaaDoor.EscL Go.Proofs.YtemobclefdodjaaDoor.EscM Go.Proofs.YtemobclefdodjaaDoor.RR Go.Proofs.YtemobclefdodjaaDoor.LetM

set_option maxRecDepth 100000 in
set_option maxHeartbeats 6400000 in
theorem walk (a0 : Option Addr) (len0 cap0 : Nat) (z0 : List Int) (w : World) (w0 : Dr.IsRow .u8 w a0 len0 cap0 z0) (hL : laidMetH Tryd.prog Rows.fnLetsLongestRow.laid w) (hsh : w.ShapedOpen Tryd.prog) :
    Calls Tryd.prog 8 #[.slice a0 len0 cap0] w fun e w' => e = .returned (.bool true) ∧ Below w.heap.size w w' := by
  have HM : Hid (Ha.Mx w) := Ha.mx_of hsh
  clear hsh hL
  by_cases hlong : (1048576 : Int) < len0
  · go_enter Tryd.func8, Tryd.ntmps8
    go_wp2
    go_ret
    exact ⟨rfl, Below.refl _ _⟩
  · go_enter Tryd.func8, Tryd.ntmps8
    go_wp2_with fail
    refine (Dr.drawLets_any a0 len0 cap0 z0 w w0).mono ?_
    rintro e w1 ⟨L, a1, c1, path, rfl, hO, hl, hLs, hps, hb1⟩
    have hsm : path.size ≤ maxLen := by unfold maxLen; omega
    have hl4 : L.length ≤ 4194304 := by omega
    have HLm : Hid (∀ r ∈ L, r.path.size ≤ maxLen) := fun r hr => Nat.le_trans (hLs r hr) (by decide)
    have HL16 : Hid (∀ r ∈ L, r.path.size ≤ 16) := hLs
    have HB1 : Hid (Below w.heap.size w w1) := hb1
    have HI1 : Hid (IsRows FRu w1 a1 c1 L) := hO.rowsOf
    have hc1 := hO.rowsOf.1
    clear hb1 hLs hO
    go_wp2_with fail
    refine (Le.implLets_any a1 c1 L path _ (HM.out.below HB1.out) HI1.out hl4 HLm.out hsm).mono ?_
    rintro e w2 ⟨rfl, hb2⟩
    have HB2 : Hid (Below w.heap.size w w2) := HB1.out.trans (hb2.mono HB1.out.size)
    have HI2 : Hid (IsRows FRu w2 a1 c1 L) := IsRows.below HI1.out hb2
    clear hb2 HB1 HI1
    go_wp2_with fail
    refine (LeS.specLets_any a1 c1 L path _ HI2.out hl4 HLm.out hsm).mono ?_
    rintro e w3 ⟨rfl, hb3⟩
    have HB3 : Hid (Below w.heap.size w w3) := HB2.out.trans (hb3.mono HB2.out.size)
    have HI3 : Hid (IsRows FRu w3 a1 c1 L) := IsRows.below HI2.out hb3
    clear hb3 HB2 HI2
    have HCH : Hid _ := lets_char L path.data.toList
    go_wp2
    go_loopw [6, 7] (fun b i wr => ∃ k : Nat, k ≤ L.length ∧ i = .int .i64 (k : Int) ∧ b = .int .i64 (bestN (L.take k) path.data.toList : Int) ∧ Hid (Below w3.heap.size w3 wr)) (fun _ i _ => L.length - (intOf i).toNat)
    case atStart => exact ⟨0, Nat.zero_le _, rfl, rfl, Below.refl _ _⟩
    case round =>
      obtain ⟨k, hk, rfl, rfl, HB⟩ := hrel
      by_cases hlt : k < L.length
      · obtain ⟨B, off, e1, c0, c1⟩ := ru_at (IsRows.below HI3.out HB.out) hlt
        subst e1
        have hr := HLm.out L[k] (List.getElem_mem _)
        have hr16 := HL16.out L[k] (List.getElem_mem _)
        have hbd := best_bound (L.take k) path.data.toList
        have HSN : Hid _ := best_snoc hlt path.data.toList
        obtain ⟨m, hm⟩ : ∃ m, bestN (L.take k) path.data.toList = m := ⟨_, rfl⟩
        simp only [hm] at HSN hbd ⊢
        clear hm
        go_wp2_with fail
        refine (Ha.implHas_any L[k].path path _ ((HM.out.below HB3.out).below HB.out) hr hsm).mono ?_
        rintro e w4 ⟨rfl, hb4⟩
        have d1 : w4.cell? ⟨B, off + k * 2 + 1, none⟩ = some (.string L[k].path) := (hb4.cell (St.cell_block c1)).trans c1
        have HB4 : Hid (Below w3.heap.size w3 w4) := HB.out.trans (hb4.mono HB.out.size)
        clear hb4 c0 c1
        cases hh : HasM.hasL L[k].path.data.toList path.data.toList with
        | false =>
          have HN : Hid (bestN (L.take (k + 1)) path.data.toList = m) := by show _ = _; rw [HSN.out]; unfold bestStep has; rw [hh]; rfl
          clear hh
          go_wp2
          go_roundw
          case rel => exact ⟨k + 1, by omega, by go_num, by rw [HN.out], HB4⟩
          case measure => simp [intOf]; omega
        | true =>
          have HN : Hid (bestN (L.take (k + 1)) path.data.toList = max m L[k].path.size) := by show _ = _; rw [HSN.out]; unfold bestStep has; rw [hh]; rfl
          have HX : Hid (max (m : Int) (L[k].path.size : Int) = ((max m L[k].path.size : Nat) : Int)) := by show _ = _; omega
          clear hh
          go_wp2
          go_roundw
          case rel => exact ⟨k + 1, by omega, by go_num, by rw [HN.out, ← HX.out], HB4⟩
          case measure => simp [intOf]; omega
      · have HBE : Hid (bestN (L.take k) path.data.toList = bestN L path.data.toList) := by show _ = _; rw [List.take_of_length_le (by omega)]
        have hbd := best_bound L path.data.toList
        rw [HBE.out]
        generalize bestN L path.data.toList = m at *
        go_wp2
        go_loopw [8, 9] (fun t i wr => ∃ k : Nat, k ≤ L.length ∧ i = .int .i64 (k : Int) ∧ t = .bool (decide (m = 0) || someB (L.take k) path.data.toList m) ∧ Hid (Below w3.heap.size w3 wr)) (fun _ i _ => L.length - (intOf i).toNat)
        case atStart =>
          refine ⟨0, Nat.zero_le _, rfl, ?_, HB⟩
          have : (((m : Nat) : Int) == 0) = (decide (m = 0) || someB (L.take 0) path.data.toList m) := by
            rw [show someB (L.take 0) path.data.toList m = false from rfl, Bool.or_false, Bool.eq_iff_iff, beq_iff_eq, decide_eq_true_eq]; omega
          rw [← this]
        case round =>
          obtain ⟨j, hj, rfl, rfl, HC⟩ := hrel
          by_cases hjl : j < L.length
          · obtain ⟨B, off, e1, c0, c1⟩ := ru_at (IsRows.below HI3.out HC.out) hjl
            subst e1
            have hr := HLm.out L[j] (List.getElem_mem _)
            have hr16 := HL16.out L[j] (List.getElem_mem _)
            have HSN : Hid _ := some_snoc hjl path.data.toList m
            obtain ⟨t, ht⟩ : ∃ t, (decide (m = 0) || someB (L.take j) path.data.toList m) = t := ⟨_, rfl⟩
            have HTN : Hid ((decide (m = 0) || someB (L.take (j + 1)) path.data.toList m) = (t || oneB path.data.toList m L[j])) := by show _ = _; rw [HSN.out, ← Bool.or_assoc, ht]
            rw [ht]
            clear ht HSN
            have HO1 : Hid (oneB path.data.toList m L[j] = (L[j].lt && (decide (L[j].path.size = m) && HasM.hasL L[j].path.data.toList path.data.toList))) := rfl
            cases t with
            | true =>
              go_wp2
              go_roundw
              case rel => exact ⟨j + 1, by omega, by go_num, by rw [HTN.out]; rfl, HC⟩
              case measure => simp [intOf]; omega
            | false =>
              cases hlt' : L[j].lt with
              | false =>
                rw [hlt'] at c0 HO1
                go_wp2
                go_roundw
                case rel => exact ⟨j + 1, by omega, by go_num, by rw [HTN.out, HO1.out]; rfl, HC⟩
                case measure => simp [intOf]; omega
              | true =>
                rw [hlt'] at c0 HO1
                by_cases hsz : L[j].path.size = m
                · have hsz' : ((L[j].path.size : Int) == (m : Int)) = true := by rw [hsz]; simp
                  rw [decide_eq_true hsz] at HO1
                  clear hsz
                  go_wp2_with fail
                  refine (Ha.implHas_any L[j].path path _ ((HM.out.below HB3.out).below HC.out) hr hsm).mono ?_
                  rintro e w5 ⟨rfl, hb5⟩
                  have HC5 : Hid (Below w3.heap.size w3 w5) := HC.out.trans (hb5.mono HC.out.size)
                  clear hb5 c0 c1
                  go_wp2
                  go_roundw
                  case rel => exact ⟨j + 1, by omega, by go_num, by rw [HTN.out, HO1.out]; simp, HC5⟩
                  case measure => simp [intOf]; omega
                · have hsz' : ((L[j].path.size : Int) == (m : Int)) = false := by simp; omega
                  rw [decide_eq_false hsz] at HO1
                  go_wp2
                  go_roundw
                  case rel => exact ⟨j + 1, by omega, by go_num, by rw [HTN.out, HO1.out]; rfl, HC⟩
                  case measure => simp [intOf]; omega
          · have HF : Hid (letsL L path.data.toList = (decide (m = 0) || someB (L.take j) path.data.toList m)) := by show _ = _; rw [List.take_of_length_le (by omega)]; exact HCH.out
            rw [← HF.out]
            go_wp2
            go_ret
            exact ⟨rfl, HB3.out.trans (HC.out.mono HB3.out.size)⟩

theorem own : ownKnob Tryd.prog.godebug = none := by kernel_rfl
theorem laidOut : laidOutB Tryd.prog = true := by kernel_rfl

/-! ### THE ROW's STEP -/
set_option maxRecDepth 100000 in
theorem lifted (os : Os) (started : os.Started) (H : Type) (enc : TypeId × Value → H) :
    ReturnsInHanded {} Tryd.checked os 8 .any (fun w args => (Rows.fnLetsLongestSpec.pre enc Tryd.prog Tryd.f8 [] false w args ∧ laidMetH Tryd.prog Rows.fnLetsLongestRow.laid w) ∧ sizedMet enc Tryd.prog Tryd.f8 (OpenSpec.ofChange Rows.fnLetsLongestSpec) false w args)
      (Rows.fnLetsLongestSpec.post enc Tryd.prog Tryd.f8 false true false false) := by
  refine returnsInHanded_of_calls own started (by kernel_rfl)
    (ChangeSpec.witness_shaped (enc := enc) (C := Tryd.checked) (os := os) (X := fun w _ => laidMetH Tryd.prog Rows.fnLetsLongestRow.laid w) false (World.laidAll Tryd.prog os Rows.fnLetsLongestRow.laid) #[.slice none 0 0] 8 (World.laidAll_os _ _ _)
      (World.shaped_of_ZipB (by kernel_rfl) (by kernel_rfl)) (by kernel_rfl) (by kernel_rfl) (by kernel_rfl)
      (by rw [MakeChecks.laidMetH_plain _ _ _ (by kernel_rfl)]; exact laidMet_laidAll _ (by kernel_rfl) (by kernel_rfl))) ?_
  intro w tape i _ hsh _ hok hpre _
  obtain ⟨_, _, _, fn', hfn', _, _, _, _, hval1⟩ := hok
  obtain rfl : fn' = Tryd.f8 := Option.some.inj (hfn'.symm.trans Tryd.func8)
  obtain ⟨⟨⟨ds, gs, before, hw, _⟩, hL0⟩, _⟩ := hpre
  have hW := DataW.Whole.of_heap (w' := w.forCall tape i) (by rfl) hw
  have hL : laidMetH Tryd.prog Rows.fnLetsLongestRow.laid (w.forCall tape i) := hL0.of_heap (by rfl)
  have hb : ∃ base, ∀ (j : Nat) t v, Tryd.f8.params[j]? = some t → i.args[j]? = some v → Value.okWide Tryd.prog (w.forCall tape i) .any base t v := ⟨_, hval1⟩
  clear hval1 hfn' hL0 hw
  suffices h : Calls Tryd.checked.prog 8 i.args (w.forCall tape i) fun e W' => ∃ v, e = .returned v ∧ Rows.fnLetsLongestSpec.post enc Tryd.checked.prog Tryd.f8 false true false false (w.forCall tape i) i.args v W' from
    h.mono fun e W' ⟨v, he, hp⟩ => by subst he; exact ChangeSpec.post_blind hp
  generalize hWe : w.forCall tape i = W at *
  generalize i.args = args at *
  clear hWe
  obtain ⟨base, hval⟩ := hb
  have hW' := hW
  obtain ⟨p, q, hA0, hV, rfl, hfz, hnd⟩ := hW
  have hA : DataW.TrodAll enc Tryd.prog W 0 (fun _ => true) true Tryd.f8.params.toList args.toList ds p := hA0
  rw [Tryd.params8] at hA hval
  obtain ⟨v0, vs0, d0, ds0, p0, q0, hargs, rfl, rfl, h0, r0⟩ := trodAll_cons hA
  obtain ⟨rfl, rfl, rfl⟩ := trodAll_nil r0
  obtain rfl : args = #[v0] := by cases args; simp_all
  obtain ⟨rfl, rfl⟩ := trodVars_none hV
  obtain ⟨a0, len0, cap0, rfl⟩ := okWide_slice Tryd.underlying22 (hval 0 22 v0 rfl rfl)
  have k0 := h0
  have lt0 : ∀ x ∈ p0, x.block < W.heap.size := by obtain ⟨m, hm⟩ := k0; exact DataW.trod_lt m _ _ _ hm
  obtain ⟨z0, w0⟩ : ∃ zs, Dr.IsRow .u8 W a0 len0 cap0 zs := by
    obtain ⟨fuel, hf⟩ := h0
    rcases open_ints Tryd.underlying22 Tryd.underlying5 (by kernel_rfl) hf with ⟨hcs, _⟩ | ⟨x, l, c, zs, hcs, _, hl, hm, hz, _, hcell, hwz⟩
    · simp [Value.cells] at hcs
      obtain ⟨rfl, rfl, rfl⟩ := hcs
      exact ⟨[], .inl ⟨rfl, rfl, rfl, rfl⟩⟩
    · simp [Value.cells] at hcs
      obtain ⟨rfl, rfl, rfl⟩ := hcs
      exact ⟨zs, .inr ⟨_, rfl, hl, hm, by simpa using hz, hcell, hwz⟩⟩
  clear hA0
  refine (walk a0 len0 cap0 z0 W w0 hL hsh).mono fun e W' ⟨he, bel⟩ => ?_
  subst he
  exact ⟨_, rfl, _, _, _, [], _, [], hW', trodAll_mk1 (shut_bool Tryd.underlying4 _), (trodAll_cons_mk (Below.trod laidOut (by kernel_rfl) (of_decide_eq_true (by kernel_rfl)) k0 bel lt0) trodAll_mk0), rfl, bel.frame _, fun h => by cases h⟩

theorem over : Rows.fnLetsLongestRow.holds Tryd.pinned (OpenSpec.ofChange Rows.fnLetsLongestSpec) :=
  OpenClaim.holds_of_wide 8 Tryd.f8 rfl rfl rfl rfl rfl rfl rfl ⟨rfl, rfl, rfl, rfl, rfl⟩ rfl rfl rfl rfl rfl (by kernel_rfl) Tryd.func8 (by kernel_rfl)
    (of_decide_eq_true (by kernel_rfl)) (by unfold Func.isWrapper; first | (rw [if_pos (by decide +kernel)]; kernel_rfl) | (rw [if_neg (by decide +kernel)]; exact ⟨rfl, rfl⟩))
    (fun os started H enc _ => lifted os started H enc)

theorem proved : Rows.FnLetsLongestCardSaid :=
  Claim7.holds_tied_plain_at .later [] [.data, .pinned] true _ false over (fun _ h => by cases h) (by kernel_rfl) (fun _ h => by cases h) fnLetsLongest_row_tie rfl ⟨rfl, rfl⟩ (by kernel_rfl) rfl
    (fun f fn hf hfn => by
      obtain rfl : f = 8 := Option.some.inj ((show Tryd.prog.funcNamed "loop.example/pedlar/laws.FnLetsLongest" = some 8 by kernel_rfl).symm.trans hf) |>.symm
      obtain rfl : fn = Tryd.f8 := (Option.some.inj (Tryd.func8.symm.trans hfn)).symm
      exact ⟨by kernel_rfl, fun j t ht => by
        rw [Tryd.params8] at ht
        have hm : t ∈ [22] := by simpa using Array.mem_of_getElem? ht
        have hall : ([22].all fun u => !Tryd.prog.wantsStandIn u) = true := by kernel_rfl
        exact (show Tryd.prog.wantsStandIn t = false by simpa using List.all_eq_true.1 hall t hm)⟩)
    (by kernel_rfl)
end Go.Proofs.YtemobclefdodjaaDoor.fnLetsLongest
