/- FnRuleEnd: for every code, with its end the pattern drawn of it has nothing more than without. The card ties two tables of unicode/utf8 to the program's text; no other condition. -/
import Derived.Test.YtemobclefdodjaaDoorRows
import Derived.WalkKit
import Derived.ProofKit
import Derived.OpenShut
import Derived.ShutString
import Derived.ChangeOld
import Derived.Below
import Derived.Test.YtemobclefdodjaaDoorCards
import Derived.Test.YtemobclefdodjaaDoorTie
import Derived.Test.YtemobclefdodjaaDoorHasDoor
import Derived.Test.YtemobclefdodjaaDoorDraw11
import Derived.Test.YtemobclefdodjaaDoorWayMath
import Derived.Lay
import Derived.LaidOnce
import Derived.SevenTiedAt
namespace Go.Proofs.YtemobclefdodjaaDoor.fnRuleEnd
open Go.ChangeShapes Go.WideShapes Go.ChangeAt Go.RowKit
open Go.ChangeMaps (open_string shut_string)
set_option linter.unusedVariables false
open Go.Proofs.YtemobclefdodjaaDoor.EscL Go.Proofs.YtemobclefdodjaaDoor.EscM Go.Proofs.YtemobclefdodjaaDoor.Ru1 Go.Proofs.YtemobclefdodjaaDoor.RuleM Go.Proofs.YtemobclefdodjaaDoor.HasM

theorem ended {p path : ByteArray} (h : ruleL p.data.toList = true) (he : endsB p.data.toList = false) (hs : path.size ≤ 60) : hasL (p ++ (⟨#[36]⟩ : ByteArray)).data.toList path.data.toList = true → hasL p.data.toList path.data.toList = true := by
  rw [ByteArray.data_append, Array.toList_append]
  show hasL (p.data.toList ++ [36]) _ = true → _
  intro hx
  rw [has_match (has_rule hx).1 (by rw [len_eq]; exact hs)] at hx
  rw [has_match h (by rw [len_eq]; exact hs)]
  exact match_end_dollar _ _ (not_ends h he) hx

set_option maxRecDepth 100000 in
set_option maxHeartbeats 6400000 in
theorem walk (a0 : Option Addr) (len0 cap0 : Nat) (z0 : List Int) (w : World) (w0 : Dr.IsRow .u8 w a0 len0 cap0 z0) (hL : laidMetH Tryd.prog Rows.fnRuleEndRow.laid w) (hsh : w.ShapedOpen Tryd.prog) :
    Calls Tryd.prog 6 #[.slice a0 len0 cap0] w fun e w' => e = .returned (.bool true) ∧ Below w.heap.size w w' := by
  have HM : Hid (Ha.Mx w) := Ha.mx_of hsh
  clear hsh hL
  by_cases hlong : (1048576 : Int) < len0
  · go_enter Tryd.func6, Tryd.ntmps6
    go_wp2
    go_ret
    exact ⟨rfl, Below.refl _ _⟩
  · go_enter Tryd.func6, Tryd.ntmps6
    go_wp2_with fail
    refine (Dr.drawHas_any a0 len0 cap0 z0 w w0).mono ?_
    rintro e w1 ⟨p, path, rfl, hp, hpath, hpA, hb1⟩
    have HPA : Hid _ := hpA
    clear hpA
    have hpm : p.size ≤ maxLen := by unfold maxLen; omega
    have hsm : path.size ≤ maxLen := by unfold maxLen; omega
    have HB1 : Hid (Below w.heap.size w w1) := hb1
    have HM1 : Hid (Ha.Mx w1) := HM.out.below hb1
    clear hb1 HM
    go_wp2_with fail
    refine (Ha.implHas_any p path _ HM1.out hpm hsm).mono ?_
    rintro e w2 ⟨rfl, hb2⟩
    have HB2 : Hid (Below w.heap.size w w2) := HB1.out.trans (hb2.mono HB1.out.size)
    have HM2 : Hid (Ha.Mx w2) := HM1.out.below hb2
    clear hb2 HB1 HM1
    go_wp2_with fail
    refine (HaS.specHas_any p path _ hpm hsm).mono ?_
    rintro e w3 ⟨rfl, hb3⟩
    have HB3 : Hid (Below w.heap.size w w3) := HB2.out.trans (hb3.mono HB2.out.size)
    have HM3 : Hid (Ha.Mx w3) := HM2.out.below hb3
    clear hb3 HB2 HM2
    cases hr : ruleL p.data.toList with
    | false =>
      have HR : Hid _ := hr
      clear hr
      go_wp2_with fail
      refine (specRule_any p _ hpm).mono ?_
      rintro e w4 ⟨rfl, hw⟩
      rw [HR.out]
      have HB4 : Hid (Below w.heap.size w w4) := by rw [hw]; exact HB3.out
      have HM4 : Hid (Ha.Mx w4) := by rw [hw]; exact HM3.out
      clear hw HB3 HM3
      go_wp2_with fail
      refine (HaS.specHas_any p path _ hpm hsm).mono ?_
      rintro e w5 ⟨rfl, hb⟩
      have HB5 : Hid (Below w.heap.size w w5) := HB4.out.trans (hb.mono HB4.out.size)
      clear hb
      go_wp2
      go_ret
      exact ⟨rfl, HB5.out⟩
    | true =>
      have HR : Hid _ := hr
      clear hr
      go_wp2_with fail
      refine (specRule_any p _ hpm).mono ?_
      rintro e w4 ⟨rfl, hw⟩
      rw [HR.out]
      have HB4 : Hid (Below w.heap.size w w4) := by rw [hw]; exact HB3.out
      have HM4 : Hid (Ha.Mx w4) := by rw [hw]; exact HM3.out
      clear hw HB3 HM3
      go_wp2_with fail
      refine (Ha.ends_any p _ (by omega)).mono ?_
      rintro e w5 ⟨rfl, n5, hw⟩
      have HB5 : Hid (Below w.heap.size w w5) := by rw [hw]; exact below_drewN HB4.out n5
      have HM5 : Hid (Ha.Mx w5) := by rw [hw]; exact HM4.out.drewN n5
      clear hw HB4 HM4
      cases he : endsB p.data.toList with
      | true =>
        go_wp2_with fail
        refine (HaS.specHas_any p path _ hpm hsm).mono ?_
        rintro e w6 ⟨rfl, hb⟩
        have HB6 : Hid (Below w.heap.size w w6) := HB5.out.trans (hb.mono HB5.out.size)
        clear hb
        go_wp2
        go_ret
        exact ⟨rfl, HB6.out⟩
      | false =>
        have HE : Hid _ := he
        clear he
        by_cases h16 : p.size < 16
        · have h16' : ¬ (16 : Int) ≤ (p.size : Int) := by omega
          have HS : Hid _ := ended HR.out HE.out hpath
          have hx1 : (p ++ (⟨#[36]⟩ : ByteArray)).size ≤ maxLen := by unfold maxLen; rw [ByteArray.size_append]; show _ + 1 ≤ _; omega
          have hx2 : ¬ 9223372036854775807 < p.size + (⟨#[36]⟩ : ByteArray).size := by show ¬ _ < _ + 1; omega
          cases hx : hasL (p ++ (⟨#[36]⟩ : ByteArray)).data.toList path.data.toList with
          | false =>
            have HX : Hid _ := hx
            clear hx
            go_wp2_with fail
            refine (Ha.implHas_any (p ++ (⟨#[36]⟩ : ByteArray)) path _ HM5.out hx1 hsm).mono ?_
            rintro e w6 ⟨rfl, hb⟩
            rw [HX.out]
            have HB6 : Hid (Below w.heap.size w w6) := HB5.out.trans (hb.mono HB5.out.size)
            have HM6 : Hid (Ha.Mx w6) := HM5.out.below hb
            clear hb HB5 HM5
            go_wp2
            go_ret
            exact ⟨rfl, HB6.out⟩
          | true =>
            have HX : Hid _ := hx
            have HH : Hid _ := HS.out hx
            clear hx
            go_wp2_with fail
            refine (Ha.implHas_any (p ++ (⟨#[36]⟩ : ByteArray)) path _ HM5.out hx1 hsm).mono ?_
            rintro e w6 ⟨rfl, hb⟩
            rw [HX.out, HH.out]
            have HB6 : Hid (Below w.heap.size w w6) := HB5.out.trans (hb.mono HB5.out.size)
            have HM6 : Hid (Ha.Mx w6) := HM5.out.below hb
            clear hb HB5 HM5
            go_wp2
            go_ret
            exact ⟨rfl, HB6.out⟩
        · have h16' : (16 : Int) ≤ (p.size : Int) := by omega
          go_wp2_with fail
          refine (HaS.specHas_any p path _ hpm hsm).mono ?_
          rintro e w6 ⟨rfl, hb⟩
          have HB6 : Hid (Below w.heap.size w w6) := HB5.out.trans (hb.mono HB5.out.size)
          clear hb
          go_wp2
          go_ret
          exact ⟨rfl, HB6.out⟩

theorem own : ownKnob Tryd.prog.godebug = none := by kernel_rfl
theorem laidOut : laidOutB Tryd.prog = true := by kernel_rfl

/-! ### THE ROW's STEP -/
set_option maxRecDepth 100000 in
theorem lifted (os : Os) (started : os.Started) (H : Type) (enc : TypeId × Value → H) :
    ReturnsInHanded {} Tryd.checked os 6 .any (fun w args => (Rows.fnRuleEndSpec.pre enc Tryd.prog Tryd.f6 [] false w args ∧ laidMetH Tryd.prog Rows.fnRuleEndRow.laid w) ∧ sizedMet enc Tryd.prog Tryd.f6 (OpenSpec.ofChange Rows.fnRuleEndSpec) false w args)
      (Rows.fnRuleEndSpec.post enc Tryd.prog Tryd.f6 false true false false) := by
  refine returnsInHanded_of_calls own started (by kernel_rfl)
    (ChangeSpec.witness_shaped (enc := enc) (C := Tryd.checked) (os := os) (X := fun w _ => laidMetH Tryd.prog Rows.fnRuleEndRow.laid w) false (World.laidAll Tryd.prog os Rows.fnRuleEndRow.laid) #[.slice none 0 0] 8 (World.laidAll_os _ _ _)
      (World.shaped_of_ZipB (by kernel_rfl) (by kernel_rfl)) (by kernel_rfl) (by kernel_rfl) (by kernel_rfl)
      (by rw [MakeChecks.laidMetH_plain _ _ _ (by kernel_rfl)]; exact laidMet_laidAll _ (by kernel_rfl) (by kernel_rfl))) ?_
  intro w tape i _ hsh _ hok hpre _
  obtain ⟨_, _, _, fn', hfn', _, _, _, _, hval1⟩ := hok
  obtain rfl : fn' = Tryd.f6 := Option.some.inj (hfn'.symm.trans Tryd.func6)
  obtain ⟨⟨⟨ds, gs, before, hw, _⟩, hL0⟩, _⟩ := hpre
  have hW := DataW.Whole.of_heap (w' := w.forCall tape i) (by rfl) hw
  have hL : laidMetH Tryd.prog Rows.fnRuleEndRow.laid (w.forCall tape i) := hL0.of_heap (by rfl)
  have hb : ∃ base, ∀ (j : Nat) t v, Tryd.f6.params[j]? = some t → i.args[j]? = some v → Value.okWide Tryd.prog (w.forCall tape i) .any base t v := ⟨_, hval1⟩
  clear hval1 hfn' hL0 hw
  suffices h : Calls Tryd.checked.prog 6 i.args (w.forCall tape i) fun e W' => ∃ v, e = .returned v ∧ Rows.fnRuleEndSpec.post enc Tryd.checked.prog Tryd.f6 false true false false (w.forCall tape i) i.args v W' from
    h.mono fun e W' ⟨v, he, hp⟩ => by subst he; exact ChangeSpec.post_blind hp
  generalize hWe : w.forCall tape i = W at *
  generalize i.args = args at *
  clear hWe
  obtain ⟨base, hval⟩ := hb
  have hW' := hW
  obtain ⟨p, q, hA0, hV, rfl, hfz, hnd⟩ := hW
  have hA : DataW.TrodAll enc Tryd.prog W 0 (fun _ => true) true Tryd.f6.params.toList args.toList ds p := hA0
  rw [Tryd.params6] at hA hval
  obtain ⟨v0, vs0, d0, ds0, p0, q0, hargs, rfl, rfl, h0, r0⟩ := trodAll_cons hA
  obtain ⟨rfl, rfl, rfl⟩ := trodAll_nil r0
  obtain rfl : args = #[v0] := by cases args; simp_all
  obtain ⟨rfl, rfl⟩ := trodVars_none hV
  obtain ⟨a0, len0, cap0, rfl⟩ := okWide_slice Tryd.underlying22 (hval 0 22 v0 rfl rfl)
  have k0 := h0
  have lt0 : ∀ x ∈ p0, x.block < W.heap.size := by obtain ⟨m, hm⟩ := k0; exact DataW.trod_lt m _ _ _ hm
  obtain ⟨z0, w0⟩ : ∃ zs, Dr.IsRow .u8 W a0 len0 cap0 zs := by
    obtain ⟨fuel, hf⟩ := h0
    rcases open_ints Tryd.underlying22 Tryd.underlying5 (by kernel_rfl) hf with ⟨hcs, _⟩ | ⟨x, l, c, zs, hcs, _, hl, hm, hz, _, hcell, hwz⟩
    · simp [Value.cells] at hcs
      obtain ⟨rfl, rfl, rfl⟩ := hcs
      exact ⟨[], .inl ⟨rfl, rfl, rfl, rfl⟩⟩
    · simp [Value.cells] at hcs
      obtain ⟨rfl, rfl, rfl⟩ := hcs
      exact ⟨zs, .inr ⟨_, rfl, hl, hm, by simpa using hz, hcell, hwz⟩⟩
  clear hA0
  refine (walk a0 len0 cap0 z0 W w0 hL hsh).mono fun e W' ⟨he, bel⟩ => ?_
  subst he
  exact ⟨_, rfl, _, _, _, [], _, [], hW', trodAll_mk1 (shut_bool Tryd.underlying4 _), (trodAll_cons_mk (Below.trod laidOut (by kernel_rfl) (of_decide_eq_true (by kernel_rfl)) k0 bel lt0) trodAll_mk0), rfl, bel.frame _, fun h => by cases h⟩

theorem over : Rows.fnRuleEndRow.holds Tryd.pinned (OpenSpec.ofChange Rows.fnRuleEndSpec) :=
  OpenClaim.holds_of_wide 6 Tryd.f6 rfl rfl rfl rfl rfl rfl rfl ⟨rfl, rfl, rfl, rfl, rfl⟩ rfl rfl rfl rfl rfl (by kernel_rfl) Tryd.func6 (by kernel_rfl)
    (of_decide_eq_true (by kernel_rfl)) (by unfold Func.isWrapper; first | (rw [if_pos (by decide +kernel)]; kernel_rfl) | (rw [if_neg (by decide +kernel)]; exact ⟨rfl, rfl⟩))
    (fun os started H enc _ => lifted os started H enc)

theorem proved : Rows.FnRuleEndCardSaid :=
  Claim7.holds_tied_plain_at .later [] [.data, .pinned] true _ false over (fun _ h => by cases h) (by kernel_rfl) (fun _ h => by cases h) fnRuleEnd_row_tie rfl ⟨rfl, rfl⟩ (by kernel_rfl) rfl
    (fun f fn hf hfn => by
      obtain rfl : f = 6 := Option.some.inj ((show Tryd.prog.funcNamed "loop.example/pedlar/laws.FnRuleEnd" = some 6 by kernel_rfl).symm.trans hf) |>.symm
      obtain rfl : fn = Tryd.f6 := (Option.some.inj (Tryd.func6.symm.trans hfn)).symm
      exact ⟨by kernel_rfl, fun j t ht => by
        rw [Tryd.params6] at ht
        have hm : t ∈ [22] := by simpa using Array.mem_of_getElem? ht
        have hall : ([22].all fun u => !Tryd.prog.wantsStandIn u) = true := by kernel_rfl
        exact (show Tryd.prog.wantsStandIn t = false by simpa using List.all_eq_true.1 hall t hm)⟩)
    (by kernel_rfl)
end Go.Proofs.YtemobclefdodjaaDoor.fnRuleEnd
