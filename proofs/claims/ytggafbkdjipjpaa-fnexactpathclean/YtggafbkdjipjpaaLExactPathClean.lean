/- FnExactPathClean: at every list of parts PathClean of the program answers as the model's; it writes into no argument and keeps nothing of one; its answer owns its memory, behind another call too. No condition. -/
import Derived.Test.YtggafbkdjipjpaaRows
import Derived.WalkKit
import Derived.ProofKit
import Derived.OpenShut
import Derived.ShutString
import Derived.ChangeOld
import Derived.Below
import Derived.SliceStrings
import Derived.Test.YtggafbkdjipjpaaPath1
import Derived.Test.YtggafbkdjipjpaaExS
namespace Go.Proofs.Ytggafbkdjipjpaa.fnExactPathClean
open Go.ChangeShapes Go.WideShapes Go.ChangeAt Go.RowKit
open Go.ChangeMaps (open_string shut_string)
set_option linter.unusedVariables false
open Go.Proofs.Ytggafbkdjipjpaa.St Go.Proofs.Ytggafbkdjipjpaa.PathM

set_option maxHeartbeats 3200000 in
theorem walk (a0 : Option Addr) (cap0 : Nat) (L : List ByteArray) (w : World) (w0 : IsStrs w a0 cap0 L) (s0 : ∀ s ∈ L, s.size ≤ maxLen) :
    Calls Try.prog 12 #[.slice a0 L.length cap0] w fun e w' => e = .returned (.bool true) ∧ Below w.heap.size w w' := by
  have HA : Hid (IsStrs w a0 cap0 L) := w0
  have HZ : Hid (∀ s ∈ L, s.size ≤ maxLen) := s0
  clear w0 s0
  go_enter Try.func12, Try.ntmps12
  go_wp2_with fail
  refine (szS_any a0 cap0 L 1048576 _ HA.out HZ.out (by omega)).mono ?_
  rintro e w1 ⟨⟨x, rfl, hx⟩, rfl⟩
  rcases hx with hx | ⟨hx0, _, hlen⟩
  · go_wp2
    go_ret
    exact ⟨rfl, Below.refl _ _⟩
  have hcl := clean_len L
  -- w0 := spec.PathClean(toStringS(aParts))
  go_wp2_with fail
  refine (toS_any a0 cap0 L _ HA.out (by omega)).mono ?_
  rintro e w2 ⟨rfl, hO2, hb2⟩
  obtain ⟨_, _, e1, hS2⟩ := hO2.strs
  injection e1 with e2 _ e3
  subst e2; subst e3
  go_wp2_with fail
  refine (specPath_any _ _ L _ hS2 (by omega)).mono ?_
  rintro e w3 ⟨vw, rfl, hOw, hb3⟩
  obtain ⟨aw, cw, rfl, hSw⟩ := hOw.strs
  have HW3 : Hid (IsStrs w3 aw cw (cleanL L)) := hSw
  have hb13 : Below w1.heap.size w1 w3 := hb2.trans (hb3.mono hb2.size)
  have HA3 : Hid (IsStrs w3 a0 cap0 L) := HA.out.below hb13
  clear hO2 hS2 hOw hSw hb2 hb3 HA
  -- x0 := toStringS(aParts)
  go_wp2_with fail
  refine (toS_any a0 cap0 L _ HA3.out (by omega)).mono ?_
  rintro e w4 ⟨rfl, hO4, hb4⟩
  have HX4 : Hid (Owns w4 w3.heap.size (.slice (some ⟨w3.heap.size, 0, none⟩) L.length L.length) L) := hO4
  have hx4 : w3.heap.size < w4.heap.size := by
    have := World.ownsRow.lt hO4 w3.heap.size rfl
    omega
  clear hO4
  -- g0 := impl.PathClean(x0)
  go_wp2_with fail
  refine (implPath_any _ _ L _ HX4.out.strsOf (by omega)).mono ?_
  rintro e w5 ⟨vg, rfl, hO5, hb5⟩
  obtain ⟨ag, cg, rfl, hS5⟩ := hO5.strs
  have HG5 : Hid (Owns w5 w4.heap.size (.slice ag (cleanL L).length cg) (cleanL L)) := hO5
  have HX5 : Hid (Owns w5 w3.heap.size (.slice (some ⟨w3.heap.size, 0, none⟩) L.length L.length) L) := Owns.below HX4.out hb5
  have b5 : Below w3.heap.size w3 w5 := hb4.trans (hb5.mono (by omega))
  have z5 := hb5.size
  clear hO5 hS5 hb4 hb5 HX4
  -- the same
  go_wp2_with fail
  refine (eqStringS_any _ _ _ _ _ _ _ HG5.out.strsOf (HW3.out.below b5) (by omega) (by omega)).mono ?_
  rintro e w6 ⟨rfl, n6, rfl⟩
  rw [decide_eq_true (rfl : cleanL L = cleanL L)]
  have HG6 : Hid (Owns (w5.drewN n6) w4.heap.size (.slice ag (cleanL L).length cg) (cleanL L)) := HG5.out
  have HX6 : Hid (Owns (w5.drewN n6) w3.heap.size (.slice (some ⟨w3.heap.size, 0, none⟩) L.length L.length) L) := HX5.out
  have b6 : Below w3.heap.size w3 (w5.drewN n6) := below_drewN b5 n6
  have z6 : w4.heap.size ≤ (w5.drewN n6).heap.size := z5
  clear HG5 HX5 b5 z5
  generalize w5.drewN n6 = w6 at *
  -- the argument is as it was
  go_wp2_with fail
  refine (toS_any a0 cap0 L _ (HA3.out.below b6) (by omega)).mono ?_
  rintro e w7 ⟨rfl, hO7, hb7⟩
  have HG7 : Hid (Owns w7 w4.heap.size (.slice ag (cleanL L).length cg) (cleanL L)) := Owns.below HG6.out hb7
  have HX7 : Hid (Owns w7 w3.heap.size (.slice (some ⟨w3.heap.size, 0, none⟩) L.length L.length) L) := Owns.below HX6.out hb7
  have b7 : Below w3.heap.size w3 w7 := b6.trans (hb7.mono (by omega))
  have z7 : w4.heap.size ≤ w7.heap.size := Nat.le_trans z6 hb7.size
  clear HG6 HX6 b6 z6 hb7
  go_wp2_with fail
  refine (eqStringS_any _ _ _ _ _ _ _ HX7.out.strsOf hO7.strsOf (by omega) (by omega)).mono ?_
  rintro e w8 ⟨rfl, n8, rfl⟩
  rw [decide_eq_true (rfl : L = L)]
  have HG8 : Hid (Owns (w7.drewN n8) w4.heap.size (.slice ag (cleanL L).length cg) (cleanL L)) := HG7.out
  have HX8 : Hid (Owns (w7.drewN n8) w3.heap.size (.slice (some ⟨w3.heap.size, 0, none⟩) L.length L.length) L) := HX7.out
  have b8 : Below w3.heap.size w3 (w7.drewN n8) := below_drewN b7 n8
  have z8 : w4.heap.size ≤ (w7.drewN n8).heap.size := z7
  clear HG7 HX7 b7 z7 hO7
  generalize w7.drewN n8 = w8 at *
  -- k = markStringS(x0, k)
  go_wp2_with fail
  refine (markS_any w3.heap.size _ _ L 1 _ HX8.out (by omega) (by omega) (by omega)).mono ?_
  rintro e w9 ⟨rfl, _, hg9⟩
  have HG9 : Hid (Owns w9 w4.heap.size (.slice ag (cleanL L).length cg) (cleanL L)) := Owns.keptR HG8.out hg9 hx4
  have b9 : Below w3.heap.size w3 w9 := b8.trans (grown_low w3.heap.size hg9 (by omega) (by intro k hk; simp [Value.ownBlock] at hk; omega))
  have z9 : w4.heap.size ≤ w9.heap.size := Nat.le_trans z8 hg9.size
  clear HG8 HX8 b8 z8 hg9
  go_wp2_with fail
  refine (eqStringS_any _ _ _ _ _ _ _ HG9.out.strsOf (HW3.out.below b9) (by omega) (by omega)).mono ?_
  rintro e w10 ⟨rfl, n10, rfl⟩
  rw [decide_eq_true (rfl : cleanL L = cleanL L)]
  have HG10 : Hid (Owns (w9.drewN n10) w4.heap.size (.slice ag (cleanL L).length cg) (cleanL L)) := HG9.out
  have b10 : Below w3.heap.size w3 (w9.drewN n10) := below_drewN b9 n10
  have z10 : w4.heap.size ≤ (w9.drewN n10).heap.size := z9
  clear HG9 b9 z9
  generalize w9.drewN n10 = w10 at *
  -- m = markStringS(g0, m)
  go_wp2_with fail
  refine (markS_any w4.heap.size _ _ (cleanL L) 1 _ HG10.out (by omega) (by omega) (by omega)).mono ?_
  rintro e w11 ⟨rfl, hM, hg11⟩
  have HM11 : Hid (Owns w11 w4.heap.size (.slice ag (cleanL L).length cg) (marks 1 (cleanL L).length)) := hM
  have b11 : Below w3.heap.size w3 w11 := b10.trans (grown_low w3.heap.size hg11 (by omega) (by intro k hk; have := Owns.block HG10.out k hk; omega))
  have z11 : w4.heap.size ≤ w11.heap.size := Nat.le_trans z10 hg11.size
  clear HG10 b10 z10 hg11 hM
  -- q = heldStringS(g0, q)
  go_wp2_with fail
  refine (held_any _ _ (cleanL L).length 1 _ HM11.out.strsOf (by omega) (by omega) (by omega)).mono ?_
  rintro e w12 ⟨rfl, hb12⟩
  have HM12 : Hid (Owns w12 w4.heap.size (.slice ag (cleanL L).length cg) (marks 1 (cleanL L).length)) := Owns.below HM11.out hb12
  have b12 : Below w3.heap.size w3 w12 := b11.trans (hb12.mono (by omega))
  have z12 : w4.heap.size ≤ w12.heap.size := Nat.le_trans z11 hb12.size
  clear HM11 b11 z11 hb12
  -- h0 := impl.PathClean(toStringS(aParts))
  go_wp2_with fail
  refine (toS_any a0 cap0 L _ (HA3.out.below b12) (by omega)).mono ?_
  rintro e w13 ⟨rfl, hO13, hb13'⟩
  go_wp2_with fail
  refine (implPath_any _ _ L _ hO13.strsOf (by omega)).mono ?_
  rintro e w14 ⟨vh, rfl, hO14, hb14⟩
  obtain ⟨ah, ch, rfl, hS14⟩ := hO14.strs
  have HH14 : Hid (IsStrs w14 ah ch (cleanL L)) := hS14
  have HM14 : Hid (Owns w14 w4.heap.size (.slice ag (cleanL L).length cg) (marks 1 (cleanL L).length)) := Owns.below (Owns.below HM12.out hb13') hb14
  have b14 : Below w3.heap.size w3 w14 := (b12.trans (hb13'.mono (by omega))).trans (hb14.mono (by have := hb13'.size; omega))
  have z14 : w4.heap.size ≤ w14.heap.size := Nat.le_trans z12 (Nat.le_trans hb13'.size hb14.size)
  clear HM12 b12 z12 hO13 hO14 hb13' hb14 hS14
  go_wp2_with fail
  refine (eqStringS_any _ _ _ _ _ _ _ HH14.out (HW3.out.below b14) (by omega) (by omega)).mono ?_
  rintro e w15 ⟨rfl, n15, rfl⟩
  rw [decide_eq_true (rfl : cleanL L = cleanL L)]
  have HM15 : Hid (Owns (w14.drewN n15) w4.heap.size (.slice ag (cleanL L).length cg) (marks 1 (cleanL L).length)) := HM14.out
  have b15 : Below w3.heap.size w3 (w14.drewN n15) := below_drewN b14 n15
  have z15 : w4.heap.size ≤ (w14.drewN n15).heap.size := z14
  clear HM14 HH14 b14 z14
  generalize w14.drewN n15 = w15 at *
  go_wp2_with fail
  refine (held_any _ _ (cleanL L).length 1 _ HM15.out.strsOf (by omega) (by omega) (by omega)).mono ?_
  rintro e w16 ⟨rfl, hb16⟩
  go_wp2
  go_ret
  exact ⟨rfl, hb13.trans ((b15.trans (hb16.mono (by omega))).mono hb13.size)⟩

theorem own : ownKnob Try.prog.godebug = none := by kernel_rfl
theorem laidOut : laidOutB Try.prog = true := by kernel_rfl

/-! ### THE ROW's STEP -/
set_option maxRecDepth 100000 in
theorem lifted (os : Os) (started : os.Started) (H : Type) (enc : TypeId × Value → H) :
    ReturnsInHanded {} Try.checked os 12 .any (Rows.fnExactPathCleanSpec.pre6 enc Try.prog Try.f12 Rows.fnExactPathCleanRow.domain false) (Rows.fnExactPathCleanSpec.post enc Try.prog Try.f12 false true false false) := by
  refine returnsInHanded_of_change (C := Try.checked) own started (by kernel_rfl) Try.func12
    (ChangeSpec.witness6 (enc := enc) (C := Try.checked) false ⟨#[], #[.slice none 0 0], []⟩ 8 (by kernel_rfl) (by kernel_rfl) (by kernel_rfl) (by kernel_rfl)) ?_
  intro W base args ds gs before hval0 hW hcnd _
  have hval : ∀ (j : Nat) t v, Try.f12.params[j]? = some t → args[j]? = some v → Value.okWide Try.prog W .any base t v := hval0
  have hW' := hW
  obtain ⟨p, q, hA0, hV, rfl, hfz, hnd⟩ := hW
  have hA : DataW.TrodAll enc Try.prog W 0 (fun _ => true) true Try.f12.params.toList args.toList ds p := hA0
  rw [Try.params12] at hA hval
  obtain ⟨v0, vs0, d0, ds0, p0, q0, hargs, rfl, rfl, h0, r0⟩ := trodAll_cons hA
  obtain ⟨rfl, rfl, rfl⟩ := trodAll_nil r0
  obtain rfl : args = #[v0] := by cases args; simp_all
  obtain ⟨rfl, rfl⟩ := trodVars_none hV
  obtain ⟨a0, len0, cap0, rfl⟩ := okWide_slice Try.underlying29 (hval 0 29 v0 rfl rfl)
  have k0 := h0
  have lt0 : ∀ x ∈ p0, x.block < W.heap.size := by obtain ⟨m, hm⟩ := k0; exact DataW.trod_lt m _ _ _ hm
  obtain ⟨L0, hL0, w0, s0⟩ : ∃ L : List ByteArray, len0 = L.length ∧ St.IsStrs W a0 cap0 L ∧ ∀ s ∈ L, s.size ≤ maxLen := by
    obtain ⟨fuel, hf⟩ := h0
    rcases open_strings Try.underlying29 Try.underlying9 (by kernel_rfl) hf with ⟨hcs, _⟩ | ⟨x, l, c, ss, hcs, _, hl, hm, hz, _, hcell, hws⟩
    · simp [Value.cells] at hcs
      obtain ⟨rfl, rfl, rfl⟩ := hcs
      exact ⟨[], rfl, ⟨by simp, by simp, fun _ => rfl, fun h => absurd rfl h⟩, by simp⟩
    · simp [Value.cells] at hcs
      obtain ⟨rfl, rfl, rfl⟩ := hcs
      exact St.open_strs hl hm (by simpa using hz) hcell hws
  subst hL0
  clear hA0 hval0
  refine (walk a0 cap0 L0 W w0 s0).mono fun e W' ⟨he, bel⟩ => ?_
  subst he
  exact ⟨_, rfl, _, _, _, [], _, [], hW', trodAll_mk1 (shut_bool Try.underlying4 _), (trodAll_cons_mk (Below.trod laidOut (by kernel_rfl) (of_decide_eq_true (by kernel_rfl)) k0 bel lt0) trodAll_mk0), rfl, bel.frame _, fun h => by cases h⟩

theorem over : Rows.fnExactPathCleanRow.holds Try.pinned (OpenSpec.ofChange Rows.fnExactPathCleanSpec) :=
  OpenClaim.holds_of_wide 12 Try.f12 rfl rfl rfl rfl rfl rfl rfl ⟨rfl, rfl, rfl, rfl, rfl⟩ rfl rfl rfl rfl rfl (by kernel_rfl) Try.func12 (by kernel_rfl)
    (of_decide_eq_true (by kernel_rfl)) (by unfold Func.isWrapper; first | (rw [if_pos (by decide +kernel)]; kernel_rfl) | (rw [if_neg (by decide +kernel)]; exact ⟨rfl, rfl⟩))
    (fun os started H enc _ => lifted os started H enc)

theorem proved : Rows.FnExactPathCleanSaid := over
end Go.Proofs.Ytggafbkdjipjpaa.fnExactPathClean
