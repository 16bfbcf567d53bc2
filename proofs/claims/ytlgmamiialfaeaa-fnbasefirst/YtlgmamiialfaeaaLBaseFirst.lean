/- FnBaseFirst: for every code, of the page drawn of it the base is the model's; a mark with an at ahead is the base, one without changes nothing. No condition. -/
import Derived.Test.YtlgmamiialfaeaaRows
import Derived.WalkKit
import Derived.ProofKit
import Derived.OpenShut
import Derived.ShutString
import Derived.ChangeOld
import Derived.Below
import Derived.Test.YtlgmamiialfaeaaPage4
import Derived.Test.YtlgmamiialfaeaaPage5
namespace Go.Proofs.Ytlgmamiialfaeaa.fnBaseFirst
open Go.ChangeShapes Go.WideShapes Go.ChangeAt Go.RowKit
open Go.ChangeMaps (open_string shut_string)
set_option linter.unusedVariables false
open Go.Proofs.Ytlgmamiialfaeaa.EscM Go.Proofs.Ytlgmamiialfaeaa.EscL Go.Proofs.Ytlgmamiialfaeaa.ReadM Go.Proofs.Ytlgmamiialfaeaa.St Go.Proofs.Ytlgmamiialfaeaa.PgM Go.Proofs.Ytlgmamiialfaeaa.Dr Go.Proofs.Ytlgmamiialfaeaa.Pg

set_option maxRecDepth 100000 in
set_option maxHeartbeats 6400000 in
theorem walk (a0 : Option Addr) (len0 cap0 : Nat) (z0 : List Int) (w : World) (w0 : Dr.IsRow .u8 w a0 len0 cap0 z0) :
    Calls Try.prog 6 #[.slice a0 len0 cap0] w fun e w' => e = .returned (.bool true) ∧ Below w.heap.size w w' := by
  by_cases hlong : (1048576 : Int) < len0
  · go_enter Try.func6, Try.ntmps6
    go_wp2
    go_ret
    exact ⟨rfl, Below.refl _ _⟩
  · go_enter Try.func6, Try.ntmps6
    go_wp2_with fail
    refine (Dr.drawBase_any a0 len0 cap0 z0 w w0).mono ?_
    rintro e w1 ⟨s, rfl, hs6, hb1⟩
    have HB1 : Hid (Below w.heap.size w w1) := hb1
    have hsm : s.size ≤ maxLen := by unfold maxLen; omega
    have HSM : Hid _ := hsm
    have hbz := base_size s
    clear hb1 hsm
    go_wp2_with fail
    refine (specBase_any s _ (by omega)).mono ?_
    rintro e w2 ⟨rfl, hb2⟩
    have HB2 : Hid (Below w.heap.size w w2) := HB1.out.trans (hb2.mono HB1.out.size)
    clear hb2 HB1
    go_wp2_with fail
    refine (implBase_any s _ HSM.out).mono ?_
    rintro e w3 ⟨rfl, hb3⟩
    have HB3 : Hid (Below w.heap.size w w3) := HB2.out.trans (hb3.mono HB2.out.size)
    clear hb3 HB2
    by_cases hz : 292 < s.size
    · generalize (baseF s).1 = bt at *
      generalize (baseF s).2 = bo at *
      cases bo
      all_goals
        go_wp2
        go_ret
        exact ⟨rfl, HB3.out⟩
    · have HQ1 : Hid _ := base_at s (by omega)
      have HQ2 : Hid _ := base_q s (by omega)
      have hz1 : ((⟨#[60, 64, 113, 62]⟩ : ByteArray) ++ s).size ≤ maxLen := by rw [sz_app]; have : (⟨#[60, 64, 113, 62]⟩ : ByteArray).size = 4 := rfl; unfold maxLen; omega
      have hz2' : ((⟨#[60, 113, 62]⟩ : ByteArray) ++ s).size ≤ maxLen := by rw [sz_app]; have : (⟨#[60, 113, 62]⟩ : ByteArray).size = 3 := rfl; unfold maxLen; omega
      have HZ1 : Hid _ := hz1
      have HZ2 : Hid _ := hz2'
      clear hz1 hz2'
      generalize baseF s = bb at *
      obtain ⟨bt, bo⟩ := bb
      dsimp only at *
      cases bo
      all_goals
        go_wp2_with fail
        refine (implBase_any _ _ HZ1.out).mono ?_
        rintro e w5 ⟨rfl, hb5⟩
        rw [HQ1.out]
        have HB5 : Hid (Below w.heap.size w w5) := HB3.out.trans (hb5.mono HB3.out.size)
        clear hb5
        go_wp2_with fail
        refine (implBase_any _ _ HZ2.out).mono ?_
        rintro e w6 ⟨rfl, hb6⟩
        rw [HQ2.out]
        have HB6 : Hid (Below w.heap.size w w6) := HB5.out.trans (hb6.mono HB5.out.size)
        clear hb6
        go_wp2
        go_ret
        exact ⟨rfl, HB6.out⟩

theorem own : ownKnob Try.prog.godebug = none := by kernel_rfl
theorem laidOut : laidOutB Try.prog = true := by kernel_rfl

/-! ### THE ROW's STEP -/
set_option maxRecDepth 100000 in
theorem lifted (os : Os) (started : os.Started) (H : Type) (enc : TypeId × Value → H) :
    ReturnsInHanded {} Try.checked os 6 .any (Rows.fnBaseFirstSpec.pre6 enc Try.prog Try.f6 Rows.fnBaseFirstRow.domain false) (Rows.fnBaseFirstSpec.post enc Try.prog Try.f6 false true false false) := by
  refine returnsInHanded_of_change (C := Try.checked) own started (by kernel_rfl) Try.func6
    (ChangeSpec.witness6 (enc := enc) (C := Try.checked) false ⟨#[], #[.slice none 0 0], []⟩ 8 (by kernel_rfl) (by kernel_rfl) (by kernel_rfl) (by kernel_rfl)) ?_
  intro W base args ds gs before hval0 hW hcnd _
  have hval : ∀ (j : Nat) t v, Try.f6.params[j]? = some t → args[j]? = some v → Value.okWide Try.prog W .any base t v := hval0
  have hW' := hW
  obtain ⟨p, q, hA0, hV, rfl, hfz, hnd⟩ := hW
  have hA : DataW.TrodAll enc Try.prog W 0 (fun _ => true) true Try.f6.params.toList args.toList ds p := hA0
  rw [Try.params6] at hA hval
  obtain ⟨v0, vs0, d0, ds0, p0, q0, hargs, rfl, rfl, h0, r0⟩ := trodAll_cons hA
  obtain ⟨rfl, rfl, rfl⟩ := trodAll_nil r0
  obtain rfl : args = #[v0] := by cases args; simp_all
  obtain ⟨rfl, rfl⟩ := trodVars_none hV
  obtain ⟨a0, len0, cap0, rfl⟩ := okWide_slice Try.underlying22 (hval 0 22 v0 rfl rfl)
  have k0 := h0
  have lt0 : ∀ x ∈ p0, x.block < W.heap.size := by obtain ⟨m, hm⟩ := k0; exact DataW.trod_lt m _ _ _ hm
  obtain ⟨z0, w0⟩ : ∃ zs, Dr.IsRow .u8 W a0 len0 cap0 zs := by
    obtain ⟨fuel, hf⟩ := h0
    rcases open_ints Try.underlying22 Try.underlying5 (by kernel_rfl) hf with ⟨hcs, _⟩ | ⟨x, l, c, zs, hcs, _, hl, hm, hz, _, hcell, hwz⟩
    · simp [Value.cells] at hcs
      obtain ⟨rfl, rfl, rfl⟩ := hcs
      exact ⟨[], .inl ⟨rfl, rfl, rfl, rfl⟩⟩
    · simp [Value.cells] at hcs
      obtain ⟨rfl, rfl, rfl⟩ := hcs
      exact ⟨zs, .inr ⟨_, rfl, hl, hm, by simpa using hz, hcell, hwz⟩⟩
  clear hA0 hval0
  refine (walk a0 len0 cap0 z0 W w0).mono fun e W' ⟨he, bel⟩ => ?_
  subst he
  exact ⟨_, rfl, _, _, _, [], _, [], hW', trodAll_mk1 (shut_bool Try.underlying4 _), (trodAll_cons_mk (Below.trod laidOut (by kernel_rfl) (of_decide_eq_true (by kernel_rfl)) k0 bel lt0) trodAll_mk0), rfl, bel.frame _, fun h => by cases h⟩

theorem over : Rows.fnBaseFirstRow.holds Try.pinned (OpenSpec.ofChange Rows.fnBaseFirstSpec) :=
  OpenClaim.holds_of_wide 6 Try.f6 rfl rfl rfl rfl rfl rfl rfl ⟨rfl, rfl, rfl, rfl, rfl⟩ rfl rfl rfl rfl rfl (by kernel_rfl) Try.func6 (by kernel_rfl)
    (of_decide_eq_true (by kernel_rfl)) (by unfold Func.isWrapper; first | (rw [if_pos (by decide +kernel)]; kernel_rfl) | (rw [if_neg (by decide +kernel)]; exact ⟨rfl, rfl⟩))
    (fun os started H enc _ => lifted os started H enc)

theorem proved : Rows.FnBaseFirstSaid := over
end Go.Proofs.Ytlgmamiialfaeaa.fnBaseFirst
