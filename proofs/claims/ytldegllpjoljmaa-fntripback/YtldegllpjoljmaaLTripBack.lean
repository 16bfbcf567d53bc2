/- FnTripBack: for every code, of the number drawn of it TripBack is as the model's, 0 where it is none of 1 to 3, else twice that of one less. No condition. -/
import Derived.Test.YtldegllpjoljmaaRows
import Derived.WalkKit
import Derived.ProofKit
import Derived.OpenShut
import Derived.ShutString
import Derived.ChangeOld
import Derived.Below
import Derived.Test.YtldegllpjoljmaaBack1
import Derived.Test.YtldegllpjoljmaaDraw2
namespace Go.Proofs.Ytldegllpjoljmaa.fnTripBack
open Go.ChangeShapes Go.WideShapes Go.ChangeAt Go.RowKit
open Go.ChangeMaps (open_string shut_string)
set_option linter.unusedVariables false
open Go.Proofs.Ytldegllpjoljmaa.Bk

set_option maxHeartbeats 800000 in
theorem draw_any (a0 : Option Addr) (len0 cap0 : Nat) (z0 : List Int) (w : World) (w0 : Dr.IsRow .u8 w a0 len0 cap0 z0) :
    Calls Try.prog 5 #[.slice a0 len0 cap0] w fun e w' => (∃ x : Nat, x < 7 ∧ e = .returned (.int .i64 ((x : Int) - 1))) ∧ Below w.heap.size w w' := by
  go_enter Try.func5, Try.ntmps5
  go_wp2_with fail
  refine (Dr.open_any a0 len0 cap0 z0 _ w0).mono ?_
  rintro e w1 ⟨rfl, hr, hb1⟩
  go_wp2_with fail
  refine (Dr.pick_any _ _ _ 7 _ hr (by omega) (by omega) (by omega)).mono ?_
  rintro e w2 ⟨x, rfl, hx, hr2, hg2⟩
  have hx' : x < 7 := by omega
  go_wp2
  go_ret
  exact ⟨⟨x, hx', rfl⟩, hb1.trans (Dr.grown_below hg2 hb1.size (Nat.le_refl _))⟩

set_option maxHeartbeats 800000 in
theorem walk (a0 : Option Addr) (len0 cap0 : Nat) (z0 : List Int) (w : World) (w0 : Dr.IsRow .u8 w a0 len0 cap0 z0) :
    Calls Try.prog 3 #[.slice a0 len0 cap0] w fun e w' => e = .returned (.bool true) ∧ Below w.heap.size w w' := by
  by_cases hlong : (1048576 : Int) < len0
  · go_enter Try.func3, Try.ntmps3
    go_wp2
    go_ret
    exact ⟨rfl, Below.refl _ _⟩
  · go_enter Try.func3, Try.ntmps3
    go_wp2_with fail
    refine (draw_any a0 len0 cap0 z0 w w0).mono ?_
    rintro e w1 ⟨⟨x, hx, rfl⟩, hb1⟩
    have hn : (x : Int) - 1 = -1 ∨ (x : Int) - 1 = 0 ∨ (x : Int) - 1 = 1 ∨ (x : Int) - 1 = 2 ∨ (x : Int) - 1 = 3 ∨ (x : Int) - 1 = 4 ∨ (x : Int) - 1 = 5 := by omega
    generalize (x : Int) - 1 = n at hn
    clear hx
    obtain rfl | rfl | rfl | rfl | rfl | rfl | rfl := hn
    all_goals
      go_wp2_with fail
      refine (implBack_any _ _).mono ?_
      rintro e w2 ⟨rfl, rfl⟩
      simp only [backI]
      go_wp2_with fail
      refine (specBack_any _ _).mono ?_
      rintro e w3 ⟨rfl, hb3⟩
      simp only [backI]
      have hb13 : Below w.heap.size w w3 := hb1.trans (hb3.mono hb1.size)
      go_wp2_with fail
      first
        | (go_ret; exact ⟨rfl, hb13⟩)
        | (refine (implBack_any _ _).mono ?_
           rintro e w4 ⟨rfl, rfl⟩
           simp only [backI]
           go_wp2_with fail
           first
             | (go_ret; exact ⟨rfl, hb13⟩)
             | (refine (implBack_any _ _).mono ?_
                rintro e w5 ⟨rfl, rfl⟩
                simp only [backI]
                go_wp2
                go_ret
                exact ⟨rfl, hb13⟩)
             | (refine (specBack_any _ _).mono ?_
                rintro e w5 ⟨rfl, hb5⟩
                simp only [backI]
                have hb15 : Below w.heap.size w w5 := hb13.trans (hb5.mono hb13.size)
                go_wp2
                go_ret
                exact ⟨rfl, hb15⟩)
             | fail)
        | (refine (specBack_any _ _).mono ?_
           rintro e w4 ⟨rfl, hb4⟩
           simp only [backI]
           have hb14 : Below w.heap.size w w4 := hb13.trans (hb4.mono hb13.size)
           go_wp2
           go_ret
           exact ⟨rfl, hb14⟩)
        | fail

theorem own : ownKnob Try.prog.godebug = none := by kernel_rfl
theorem laidOut : laidOutB Try.prog = true := by kernel_rfl

/-! ### THE ROW's STEP -/
set_option maxRecDepth 100000 in
theorem lifted (os : Os) (started : os.Started) (H : Type) (enc : TypeId × Value → H) :
    ReturnsInHanded {} Try.checked os 3 .any (Rows.fnTripBackSpec.pre6 enc Try.prog Try.f3 Rows.fnTripBackRow.domain false) (Rows.fnTripBackSpec.post enc Try.prog Try.f3 false true false false) := by
  refine returnsInHanded_of_change (C := Try.checked) own started (by kernel_rfl) Try.func3
    (ChangeSpec.witness6 (enc := enc) (C := Try.checked) false ⟨#[], #[.slice none 0 0], []⟩ 8 (by kernel_rfl) (by kernel_rfl) (by kernel_rfl) (by kernel_rfl)) ?_
  intro W base args ds gs before hval0 hW hcnd _
  have hval : ∀ (j : Nat) t v, Try.f3.params[j]? = some t → args[j]? = some v → Value.okWide Try.prog W .any base t v := hval0
  have hW' := hW
  obtain ⟨p, q, hA0, hV, rfl, hfz, hnd⟩ := hW
  have hA : DataW.TrodAll enc Try.prog W 0 (fun _ => true) true Try.f3.params.toList args.toList ds p := hA0
  rw [Try.params3] at hA hval
  obtain ⟨v0, vs0, d0, ds0, p0, q0, hargs, rfl, rfl, h0, r0⟩ := trodAll_cons hA
  obtain ⟨rfl, rfl, rfl⟩ := trodAll_nil r0
  obtain rfl : args = #[v0] := by cases args; simp_all
  obtain ⟨rfl, rfl⟩ := trodVars_none hV
  obtain ⟨a0, len0, cap0, rfl⟩ := okWide_slice Try.underlying22 (hval 0 22 v0 rfl rfl)
  have k0 := h0
  have lt0 : ∀ x ∈ p0, x.block < W.heap.size := by obtain ⟨m, hm⟩ := k0; exact DataW.trod_lt m _ _ _ hm
  obtain ⟨z0, w0⟩ : ∃ zs, Dr.IsRow .u8 W a0 len0 cap0 zs := by
    obtain ⟨fuel, hf⟩ := h0
    rcases open_ints Try.underlying22 Try.underlying5 (by kernel_rfl) hf with ⟨hcs, _⟩ | ⟨x, l, c, zs, hcs, _, hl, hm, hz, _, hcell, hwz⟩
    · simp [Value.cells] at hcs
      obtain ⟨rfl, rfl, rfl⟩ := hcs
      exact ⟨[], .inl ⟨rfl, rfl, rfl, rfl⟩⟩
    · simp [Value.cells] at hcs
      obtain ⟨rfl, rfl, rfl⟩ := hcs
      exact ⟨zs, .inr ⟨_, rfl, hl, hm, by simpa using hz, hcell, hwz⟩⟩
  clear hA0 hval0
  refine (walk a0 len0 cap0 z0 W w0).mono fun e W' ⟨he, bel⟩ => ?_
  subst he
  exact ⟨_, rfl, _, _, _, [], _, [], hW', trodAll_mk1 (shut_bool Try.underlying4 _), (trodAll_cons_mk (Below.trod laidOut (by kernel_rfl) (of_decide_eq_true (by kernel_rfl)) k0 bel lt0) trodAll_mk0), rfl, bel.frame _, fun h => by cases h⟩

theorem over : Rows.fnTripBackRow.holds Try.pinned (OpenSpec.ofChange Rows.fnTripBackSpec) :=
  OpenClaim.holds_of_wide 3 Try.f3 rfl rfl rfl rfl rfl rfl rfl ⟨rfl, rfl, rfl, rfl, rfl⟩ rfl rfl rfl rfl rfl (by kernel_rfl) Try.func3 (by kernel_rfl)
    (of_decide_eq_true (by kernel_rfl)) (by unfold Func.isWrapper; first | (rw [if_pos (by decide +kernel)]; kernel_rfl) | (rw [if_neg (by decide +kernel)]; exact ⟨rfl, rfl⟩))
    (fun os started H enc _ => lifted os started H enc)

theorem proved : Rows.FnTripBackSaid := over
end Go.Proofs.Ytldegllpjoljmaa.fnTripBack
