/- FnPathClean: for every code, of the parts drawn of it PathClean leaves nothing empty or of dots, nothing that was not there, and twice is once. No condition. -/
import Derived.Test.YtggafbkdjipjpaaRows
import Derived.WalkKit
import Derived.ProofKit
import Derived.OpenShut
import Derived.ShutString
import Derived.ChangeOld
import Derived.Below
import Derived.Test.YtggafbkdjipjpaaPath1
import Derived.Test.YtggafbkdjipjpaaCmp
import Derived.Test.YtggafbkdjipjpaaDraw3
namespace Go.Proofs.Ytggafbkdjipjpaa.fnPathClean
open Go.ChangeShapes Go.WideShapes Go.ChangeAt Go.RowKit
open Go.ChangeMaps (open_string shut_string)
set_option linter.unusedVariables false
open Go.Proofs.Ytggafbkdjipjpaa.St Go.Proofs.Ytggafbkdjipjpaa.PathM

set_option maxHeartbeats 1600000 in
theorem walk (a0 : Option Addr) (len0 cap0 : Nat) (z0 : List Int) (w : World) (w0 : Dr.IsRow .u8 w a0 len0 cap0 z0) :
    Calls Try.prog 7 #[.slice a0 len0 cap0] w fun e w' => e = .returned (.bool true) ∧ Below w.heap.size w w' := by
  by_cases hlong : (1048576 : Int) < len0
  · go_enter Try.func7, Try.ntmps7
    go_wp2
    go_ret
    exact ⟨rfl, Below.refl _ _⟩
  · go_enter Try.func7, Try.ntmps7
    go_wp2_with fail
    refine (Dr.drawPath_any a0 len0 cap0 z0 w w0).mono ?_
    rintro e w1 ⟨g, c, L, rfl, hO1, hL, hb1⟩
    obtain ⟨_, _, e1, hS1⟩ := hO1.strs
    injection e1 with e2 _ e3
    subst e2; subst e3
    have HL : Hid (IsStrs w1 (some ⟨g, 0, none⟩) c L) := hS1
    clear hO1 hS1 w0
    have hlen := clean_len L
    go_wp2_with fail
    refine (implPath_any _ _ L _ HL.out (by omega)).mono ?_
    rintro e w2 ⟨vx, rfl, hO2, hb2⟩
    obtain ⟨ax, cx, rfl, hSx⟩ := hO2.strs
    have HX2 : Hid (IsStrs w2 ax cx (cleanL L)) := hSx
    clear hO2 hSx
    go_wp2_with fail
    refine (specPath_any _ _ L _ (HL.out.below hb2) (by omega)).mono ?_
    rintro e w3 ⟨vy, rfl, hO3, hb3⟩
    obtain ⟨ay, cy, rfl, hSy⟩ := hO3.strs
    have HY3 : Hid (IsStrs w3 ay cy (cleanL L)) := hSy
    have HX3 : Hid (IsStrs w3 ax cx (cleanL L)) := HX2.out.below hb3
    have HL3 : Hid (IsStrs w3 (some ⟨g, 0, none⟩) c L) := (HL.out.below hb2).below hb3
    have hb13 : Below w.heap.size w w3 := hb1.trans ((hb2.mono hb1.size).trans (hb3.mono (Nat.le_trans hb1.size hb2.size)))
    clear hO3 hSy HX2 HL hb1 hb2 hb3
    go_wp2_with fail
    refine (texts_any _ _ _ _ _ _ _ HX3.out HY3.out (by omega) (by omega)).mono ?_
    rintro e w4 ⟨rfl, n, rfl⟩
    rw [decide_eq_true (rfl : cleanL L = cleanL L)]
    have HX4 : Hid (IsStrs (w3.drewN n) ax cx (cleanL L)) := HX3.out.keep fun _ _ => rfl
    have HL4 : Hid (IsStrs (w3.drewN n) (some ⟨g, 0, none⟩) c L) := HL3.out.keep fun _ _ => rfl
    have hb14 : Below w.heap.size w (w3.drewN n) := below_drewN hb13 n
    clear HX3 HY3 HL3 hb13
    go_wp2_with fail
    refine (has_any _ _ _ _ _ HX4.out (by omega)).mono ?_
    rintro e w5 ⟨rfl, rfl⟩
    rw [hasB_no.2 (not_empty L)]
    go_wp2_with fail
    refine (has_any _ _ _ _ _ HX4.out (by omega)).mono ?_
    rintro e w5 ⟨rfl, rfl⟩
    rw [hasB_no.2 (not_dot L)]
    go_wp2_with fail
    refine (has_any _ _ _ _ _ HX4.out (by omega)).mono ?_
    rintro e w5 ⟨rfl, rfl⟩
    rw [hasB_no.2 (not_up L)]
    go_wp2_with fail
    refine (within_any _ _ _ _ _ _ _ HX4.out HL4.out (by omega) (by omega) (clean_sub L)).mono ?_
    rintro e w5 ⟨rfl, rfl⟩
    go_wp2_with fail
    refine (implPath_any _ _ (cleanL L) _ HX4.out (by omega)).mono ?_
    rintro e w6 ⟨vz, rfl, hO6, hb6⟩
    rw [clean_twice] at hO6
    obtain ⟨az, cz, rfl, hSz⟩ := hO6.strs
    have HZ6 : Hid (IsStrs w6 az cz (cleanL L)) := hSz
    have HX6 : Hid (IsStrs w6 ax cx (cleanL L)) := HX4.out.below hb6
    have hb16 : Below w.heap.size w w6 := hb14.trans (hb6.mono hb14.size)
    clear hO6 hSz HX4 HL4 hb14 hb6
    go_wp2_with fail
    refine (texts_any _ _ _ _ _ _ _ HZ6.out HX6.out (by omega) (by omega)).mono ?_
    rintro e w7 ⟨rfl, n2, rfl⟩
    rw [decide_eq_true (rfl : cleanL L = cleanL L)]
    go_wp2
    go_ret
    exact ⟨rfl, below_drewN hb16 n2⟩

theorem own : ownKnob Try.prog.godebug = none := by kernel_rfl
theorem laidOut : laidOutB Try.prog = true := by kernel_rfl

/-! ### THE ROW's STEP -/
set_option maxRecDepth 100000 in
theorem lifted (os : Os) (started : os.Started) (H : Type) (enc : TypeId × Value → H) :
    ReturnsInHanded {} Try.checked os 7 .any (Rows.fnPathCleanSpec.pre6 enc Try.prog Try.f7 Rows.fnPathCleanRow.domain false) (Rows.fnPathCleanSpec.post enc Try.prog Try.f7 false true false false) := by
  refine returnsInHanded_of_change (C := Try.checked) own started (by kernel_rfl) Try.func7
    (ChangeSpec.witness6 (enc := enc) (C := Try.checked) false ⟨#[], #[.slice none 0 0], []⟩ 8 (by kernel_rfl) (by kernel_rfl) (by kernel_rfl) (by kernel_rfl)) ?_
  intro W base args ds gs before hval0 hW hcnd _
  have hval : ∀ (j : Nat) t v, Try.f7.params[j]? = some t → args[j]? = some v → Value.okWide Try.prog W .any base t v := hval0
  have hW' := hW
  obtain ⟨p, q, hA0, hV, rfl, hfz, hnd⟩ := hW
  have hA : DataW.TrodAll enc Try.prog W 0 (fun _ => true) true Try.f7.params.toList args.toList ds p := hA0
  rw [Try.params7] at hA hval
  obtain ⟨v0, vs0, d0, ds0, p0, q0, hargs, rfl, rfl, h0, r0⟩ := trodAll_cons hA
  obtain ⟨rfl, rfl, rfl⟩ := trodAll_nil r0
  obtain rfl : args = #[v0] := by cases args; simp_all
  obtain ⟨rfl, rfl⟩ := trodVars_none hV
  obtain ⟨a0, len0, cap0, rfl⟩ := okWide_slice Try.underlying22 (hval 0 22 v0 rfl rfl)
  have k0 := h0
  have lt0 : ∀ x ∈ p0, x.block < W.heap.size := by obtain ⟨m, hm⟩ := k0; exact DataW.trod_lt m _ _ _ hm
  obtain ⟨z0, w0⟩ : ∃ zs, Dr.IsRow .u8 W a0 len0 cap0 zs := by
    obtain ⟨fuel, hf⟩ := h0
    rcases open_ints Try.underlying22 Try.underlying5 (by kernel_rfl) hf with ⟨hcs, _⟩ | ⟨x, l, c, zs, hcs, _, hl, hm, hz, _, hcell, hwz⟩
    · simp [Value.cells] at hcs
      obtain ⟨rfl, rfl, rfl⟩ := hcs
      exact ⟨[], .inl ⟨rfl, rfl, rfl, rfl⟩⟩
    · simp [Value.cells] at hcs
      obtain ⟨rfl, rfl, rfl⟩ := hcs
      exact ⟨zs, .inr ⟨_, rfl, hl, hm, by simpa using hz, hcell, hwz⟩⟩
  clear hA0 hval0
  refine (walk a0 len0 cap0 z0 W w0).mono fun e W' ⟨he, bel⟩ => ?_
  subst he
  exact ⟨_, rfl, _, _, _, [], _, [], hW', trodAll_mk1 (shut_bool Try.underlying4 _), (trodAll_cons_mk (Below.trod laidOut (by kernel_rfl) (of_decide_eq_true (by kernel_rfl)) k0 bel lt0) trodAll_mk0), rfl, bel.frame _, fun h => by cases h⟩

theorem over : Rows.fnPathCleanRow.holds Try.pinned (OpenSpec.ofChange Rows.fnPathCleanSpec) :=
  OpenClaim.holds_of_wide 7 Try.f7 rfl rfl rfl rfl rfl rfl rfl ⟨rfl, rfl, rfl, rfl, rfl⟩ rfl rfl rfl rfl rfl (by kernel_rfl) Try.func7 (by kernel_rfl)
    (of_decide_eq_true (by kernel_rfl)) (by unfold Func.isWrapper; first | (rw [if_pos (by decide +kernel)]; kernel_rfl) | (rw [if_neg (by decide +kernel)]; exact ⟨rfl, rfl⟩))
    (fun os started H enc _ => lifted os started H enc)

theorem proved : Rows.FnPathCleanSaid := over
end Go.Proofs.Ytggafbkdjipjpaa.fnPathClean
