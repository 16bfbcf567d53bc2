/- FnExactRuleLets: at all rules and every way RuleLets of the program answers as the model's, and writes into no rule. The card ties two tables of unicode/utf8 to the program's text; no other condition. -/
import Derived.Test.YtcdbdhdaegmnjaaDoorRows
import Derived.WalkKit
import Derived.ProofKit
import Derived.OpenShut
import Derived.ShutString
import Derived.ChangeOld
import Derived.Below
import Derived.Test.YtcdbdhdaegmnjaaDoorCards
import Derived.Test.YtcdbdhdaegmnjaaDoorTie
import Derived.Test.YtcdbdhdaegmnjaaDoorLets1
import Derived.Test.YtcdbdhdaegmnjaaDoorLets2
import Derived.Test.YtcdbdhdaegmnjaaDoorExRu
import Derived.Test.YtcdbdhdaegmnjaaDoorOpenRu
import Derived.Lay
import Derived.LaidOnce
import Derived.SevenTiedAt
namespace Go.Proofs.YtcdbdhdaegmnjaaDoor.fnExactRuleLets
open Go.ChangeShapes Go.WideShapes Go.ChangeAt Go.RowKit
open Go.ChangeMaps (open_string shut_string)
set_option linter.unusedVariables false
open Go.Proofs.YtcdbdhdaegmnjaaDoor.EscL Go.Proofs.YtcdbdhdaegmnjaaDoor.EscM Go.Proofs.YtcdbdhdaegmnjaaDoor.RR Go.Proofs.YtcdbdhdaegmnjaaDoor.LetM Go.Proofs.YtcdbdhdaegmnjaaDoor.ExR

set_option maxRecDepth 100000 in
set_option maxHeartbeats 3200000 in
theorem walk (a0 : Option Addr) (cap0 : Nat) (L : List Ru) (a1 : ByteArray) (w : World) (w0 : IsRows FRu w a0 cap0 L) (s0 : ∀ r ∈ L, r.path.size ≤ maxLen) (w1 : a1.size ≤ maxLen) (hL : laidMetH Tryd.prog Rows.fnExactRuleLetsRow.laid w) (hsh : w.ShapedOpen Tryd.prog) :
    Calls Tryd.prog 4 #[.slice a0 L.length cap0, .string a1] w fun e w' => e = .returned (.bool true) ∧ Below w.heap.size w w' := by
  have HM : Hid (Ha.Mx w) := Ha.mx_of hsh
  have HS : Hid (IsRows FRu w a0 cap0 L) := w0
  have HZ : Hid (∀ r ∈ L, r.path.size ≤ maxLen) := s0
  have h1 := w1
  unfold maxLen at h1
  clear hsh hL w0 s0
  by_cases hlong : 1048576 < a1.size
  · go_enter Tryd.func4, Tryd.ntmps4
    go_wp2
    go_ret
    exact ⟨rfl, Below.refl _ _⟩
  go_enter Tryd.func4, Tryd.ntmps4
  go_wp2_with fail
  refine (szRuS_any a0 cap0 L 1048576 _ HS.out HZ.out (by omega)).mono ?_
  rintro e w2 ⟨⟨x, rfl, hx⟩, hb2⟩
  have HB2 : Hid (Below w.heap.size w w2) := hb2
  clear hb2
  rcases hx with hx | ⟨hx, hlen, _⟩
  · go_wp2
    go_ret
    exact ⟨rfl, HB2.out⟩
  · have hx' : ¬ x < 0 := by omega
    go_wp2_with fail
    refine (toRuS_any a0 cap0 L _ (IsRows.below HS.out HB2.out) (by omega)).mono ?_
    rintro e w3 ⟨rfl, hO3, hb3⟩
    have HB3 : Hid (Below w.heap.size w w3) := HB2.out.trans (hb3.mono HB2.out.size)
    have HO3 : Hid _ := hO3.rowsOf
    clear hO3 hb3
    go_wp2_with fail
    refine (LeS.specLets_any _ _ L a1 _ HO3.out (by omega) HZ.out w1).mono ?_
    rintro e w4 ⟨rfl, hb4⟩
    have HB4 : Hid (Below w.heap.size w w4) := HB3.out.trans (hb4.mono HB3.out.size)
    clear hb4 HB3
    go_wp2_with fail
    refine (toRuS_any a0 cap0 L _ (IsRows.below HS.out HB4.out) (by omega)).mono ?_
    rintro e w5 ⟨rfl, hO5, hb5⟩
    have HB5 : Hid (Below w.heap.size w w5) := HB4.out.trans (hb5.mono HB4.out.size)
    have HO5 : Hid _ := hO5.rowsOf
    clear hO5 hb5 HB4
    generalize w4.heap.size = G at *
    go_wp2_with fail
    refine (Le.implLets_any _ _ L a1 _ (HM.out.below HB5.out) HO5.out (by omega) HZ.out w1).mono ?_
    rintro e w6 ⟨rfl, hb6⟩
    have HB6 : Hid (Below w.heap.size w w6) := HB5.out.trans (hb6.mono HB5.out.size)
    have HO6 : Hid (IsRows FRu w6 (some ⟨G, 0, none⟩) L.length L) := IsRows.below HO5.out hb6
    clear hb6 HB5 HO5
    go_wp2_with fail
    refine (toRuS_any a0 cap0 L _ (IsRows.below HS.out HB6.out) (by omega)).mono ?_
    rintro e w7 ⟨rfl, hO7, hb7⟩
    have HB7 : Hid (Below w.heap.size w w7) := HB6.out.trans (hb7.mono HB6.out.size)
    have HO7 : Hid _ := hO7.rowsOf
    have HO67 : Hid (IsRows FRu w7 (some ⟨G, 0, none⟩) L.length L) := IsRows.below HO6.out hb7
    clear hO7 hb7 HB6 HO6
    go_wp2_with fail
    refine (eqRuS_any _ _ _ _ L _ HO67.out HO7.out (by omega)).mono ?_
    rintro e w8 ⟨rfl, hb8⟩
    have HB8 : Hid (Below w.heap.size w w8) := HB7.out.trans (hb8.mono HB7.out.size)
    clear hb8
    go_wp2
    go_ret
    exact ⟨rfl, HB8.out⟩

theorem own : ownKnob Tryd.prog.godebug = none := by kernel_rfl
theorem laidOut : laidOutB Tryd.prog = true := by kernel_rfl

/-! ### THE ROW's STEP -/
set_option maxRecDepth 100000 in
theorem lifted (os : Os) (started : os.Started) (H : Type) (enc : TypeId × Value → H) :
    ReturnsInHanded {} Tryd.checked os 4 .any (fun w args => (Rows.fnExactRuleLetsSpec.pre enc Tryd.prog Tryd.f4 [] false w args ∧ laidMetH Tryd.prog Rows.fnExactRuleLetsRow.laid w) ∧ sizedMet enc Tryd.prog Tryd.f4 (OpenSpec.ofChange Rows.fnExactRuleLetsSpec) false w args)
      (Rows.fnExactRuleLetsSpec.post enc Tryd.prog Tryd.f4 false true false false) := by
  refine returnsInHanded_of_calls own started (by kernel_rfl)
    (ChangeSpec.witness_shaped (enc := enc) (C := Tryd.checked) (os := os) (X := fun w _ => laidMetH Tryd.prog Rows.fnExactRuleLetsRow.laid w) false (World.laidAll Tryd.prog os Rows.fnExactRuleLetsRow.laid) #[.slice none 0 0, .string ByteArray.empty] 8 (World.laidAll_os _ _ _)
      (World.shaped_of_ZipB (by kernel_rfl) (by kernel_rfl)) (by kernel_rfl) (by kernel_rfl) (by kernel_rfl)
      (by rw [MakeChecks.laidMetH_plain _ _ _ (by kernel_rfl)]; exact laidMet_laidAll _ (by kernel_rfl) (by kernel_rfl))) ?_
  intro w tape i _ hsh _ hok hpre _
  obtain ⟨_, _, _, fn', hfn', _, _, _, _, hval1⟩ := hok
  obtain rfl : fn' = Tryd.f4 := Option.some.inj (hfn'.symm.trans Tryd.func4)
  obtain ⟨⟨⟨ds, gs, before, hw, _⟩, hL0⟩, _⟩ := hpre
  have hW := DataW.Whole.of_heap (w' := w.forCall tape i) (by rfl) hw
  have hL : laidMetH Tryd.prog Rows.fnExactRuleLetsRow.laid (w.forCall tape i) := hL0.of_heap (by rfl)
  have hb : ∃ base, ∀ (j : Nat) t v, Tryd.f4.params[j]? = some t → i.args[j]? = some v → Value.okWide Tryd.prog (w.forCall tape i) .any base t v := ⟨_, hval1⟩
  clear hval1 hfn' hL0 hw
  suffices h : Calls Tryd.checked.prog 4 i.args (w.forCall tape i) fun e W' => ∃ v, e = .returned v ∧ Rows.fnExactRuleLetsSpec.post enc Tryd.checked.prog Tryd.f4 false true false false (w.forCall tape i) i.args v W' from
    h.mono fun e W' ⟨v, he, hp⟩ => by subst he; exact ChangeSpec.post_blind hp
  generalize hWe : w.forCall tape i = W at *
  generalize i.args = args at *
  clear hWe
  obtain ⟨base, hval⟩ := hb
  have hW' := hW
  obtain ⟨p, q, hA0, hV, rfl, hfz, hnd⟩ := hW
  have hA : DataW.TrodAll enc Tryd.prog W 0 (fun _ => true) true Tryd.f4.params.toList args.toList ds p := hA0
  rw [Tryd.params4] at hA hval
  obtain ⟨v0, vs0, d0, ds0, p0, q0, hargs, rfl, rfl, h0, r0⟩ := trodAll_cons hA
  obtain ⟨v1, vs1, d1, ds1, p1, q1, rfl, rfl, rfl, h1, r1⟩ := trodAll_cons r0
  obtain ⟨rfl, rfl, rfl⟩ := trodAll_nil r1
  obtain rfl : args = #[v0, v1] := by cases args; simp_all
  obtain ⟨rfl, rfl⟩ := trodVars_none hV
  obtain ⟨a0, len0, cap0, rfl⟩ := okWide_slice Tryd.underlying23 (hval 0 23 v0 rfl rfl)
  have k0 := h0
  have lt0 : ∀ x ∈ p0, x.block < W.heap.size := by obtain ⟨m, hm⟩ := k0; exact DataW.trod_lt m _ _ _ hm
  obtain ⟨L0, hL0, w0, s0⟩ : ∃ L : List LetM.Ru, len0 = L.length ∧ RR.IsRows LetM.FRu W a0 cap0 L ∧ ∀ r ∈ L, r.path.size ≤ maxLen := by
    obtain ⟨fuel, hf⟩ := h0
    rcases Deep.open_slice_pairs Tryd.underlying23 Tryd.underlying38 (by kernel_rfl) rfl rfl (by kernel_rfl) (by kernel_rfl) hf with ⟨hcs, _⟩ | ⟨x, l, c, m, n, V0, V1, D0, D1, P0, P1, hcs, _, hl, hm, hmm, _, hx⟩
    · simp [Value.cells] at hcs
      obtain ⟨rfl, rfl, rfl⟩ := hcs
      exact ⟨[], rfl, RR.IsRows.nil _ _, by simp⟩
    · simp [Value.cells] at hcs
      obtain ⟨rfl, rfl, rfl⟩ := hcs
      simp at hmm
      subst hmm
      refine OpR.open_rules hl hm (V0 := V0) (V1 := V1) fun i hi => ?_
      obtain ⟨x0, x1, x2, x3⟩ := hx i hi
      refine ⟨x0, x1, ?_, ?_⟩
      · obtain ⟨b, hb, _⟩ := DataW.trod_bool Tryd.underlying4 x2
        exact ⟨b, by simpa using hb⟩
      · obtain ⟨s, hs, _, hz⟩ := DataW.trod_string Tryd.underlying9 x3
        exact ⟨s, by simpa using hs, hz⟩
  subst hL0
  obtain ⟨a1, rfl, rfl, rfl, w1⟩ := open_string Tryd.underlying9 (hval 1 9 v1 rfl rfl) h1
  clear hA0
  refine (walk a0 cap0 L0 a1 W w0 s0 w1 hL hsh).mono fun e W' ⟨he, bel⟩ => ?_
  subst he
  exact ⟨_, rfl, _, _, _, [], _, [], hW', trodAll_mk1 (shut_bool Tryd.underlying4 _), (trodAll_cons_mk (Below.trod laidOut (by kernel_rfl) (of_decide_eq_true (by kernel_rfl)) k0 bel lt0) (trodAll_cons_mk (shut_string Tryd.underlying9 w1) trodAll_mk0)), rfl, bel.frame _, fun h => by cases h⟩

theorem over : Rows.fnExactRuleLetsRow.holds Tryd.pinned (OpenSpec.ofChange Rows.fnExactRuleLetsSpec) :=
  OpenClaim.holds_of_wide 4 Tryd.f4 rfl rfl rfl rfl rfl rfl rfl ⟨rfl, rfl, rfl, rfl, rfl⟩ rfl rfl rfl rfl rfl (by kernel_rfl) Tryd.func4 (by kernel_rfl)
    (of_decide_eq_true (by kernel_rfl)) (by unfold Func.isWrapper; first | (rw [if_pos (by decide +kernel)]; kernel_rfl) | (rw [if_neg (by decide +kernel)]; exact ⟨rfl, rfl⟩))
    (fun os started H enc _ => lifted os started H enc)

theorem proved : Rows.FnExactRuleLetsCardSaid :=
  Claim7.holds_tied_plain_at .later [] [.data, .pinned] true _ false over (fun _ h => by cases h) (by kernel_rfl) (fun _ h => by cases h) fnExactRuleLets_row_tie rfl ⟨rfl, rfl⟩ (by kernel_rfl) rfl
    (fun f fn hf hfn => by
      obtain rfl : f = 4 := Option.some.inj ((show Tryd.prog.funcNamed "loop.example/pedlar/laws.FnExactRuleLets" = some 4 by kernel_rfl).symm.trans hf) |>.symm
      obtain rfl : fn = Tryd.f4 := (Option.some.inj (Tryd.func4.symm.trans hfn)).symm
      exact ⟨by kernel_rfl, fun j t ht => by
        rw [Tryd.params4] at ht
        have hm : t ∈ [23, 9] := by simpa using Array.mem_of_getElem? ht
        have hall : ([23, 9].all fun u => !Tryd.prog.wantsStandIn u) = true := by kernel_rfl
        exact (show Tryd.prog.wantsStandIn t = false by simpa using List.all_eq_true.1 hall t hm)⟩)
    (by kernel_rfl)
end Go.Proofs.YtcdbdhdaegmnjaaDoor.fnExactRuleLets
