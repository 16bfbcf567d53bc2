/- FnLinksRound: for every code, of the page drawn of it the links are the model's, and neither they nor the base change with what stands in round brackets ahead. No condition. -/
import Derived.Test.YtlgmamiialfaeaaRows
import Derived.WalkKit
import Derived.ProofKit
import Derived.OpenShut
import Derived.ShutString
import Derived.ChangeOld
import Derived.Below
import Derived.Test.YtlgmamiialfaeaaPage4
import Derived.Test.YtlgmamiialfaeaaPage5
namespace Go.Proofs.Ytlgmamiialfaeaa.fnLinksRound
open Go.ChangeShapes Go.WideShapes Go.ChangeAt Go.RowKit
open Go.ChangeMaps (open_string shut_string)
set_option linter.unusedVariables false
open Go.Proofs.Ytlgmamiialfaeaa.EscM Go.Proofs.Ytlgmamiialfaeaa.EscL Go.Proofs.Ytlgmamiialfaeaa.ReadM Go.Proofs.Ytlgmamiialfaeaa.St Go.Proofs.Ytlgmamiialfaeaa.PgM Go.Proofs.Ytlgmamiialfaeaa.Dr Go.Proofs.Ytlgmamiialfaeaa.Pg

set_option maxRecDepth 100000 in
set_option maxHeartbeats 6400000 in
theorem walk (a0 : Option Addr) (len0 cap0 : Nat) (z0 : List Int) (w : World) (w0 : Dr.IsRow .u8 w a0 len0 cap0 z0) :
    Calls Try.prog 4 #[.slice a0 len0 cap0] w fun e w' => e = .returned (.bool true) ∧ Below w.heap.size w w' := by
  obtain ⟨i0, hi, hz0, hz1, hz2⟩ := info_parts Try.infoS
  by_cases hlong : (1048576 : Int) < len0
  · go_enter Try.func4, Try.ntmps4
    go_wp2
    go_ret
    exact ⟨rfl, Below.refl _ _⟩
  · go_enter Try.func4, Try.ntmps4
    go_wp2_with fail
    refine (Dr.drawLinks_any a0 len0 cap0 z0 w w0).mono ?_
    rintro e w1 ⟨s, rfl, hs6, hb1⟩
    have HB1 : Hid (Below w.heap.size w w1) := hb1
    have hsm : s.size ≤ maxLen := by unfold maxLen; omega
    have HSM : Hid _ := hsm
    have hln := links_len s
    clear hb1 hsm
    go_wp2_with fail
    refine (implLinks_any s _ HSM.out).mono ?_
    rintro e w2 ⟨v2, rfl, hO2, hb2⟩
    obtain ⟨a2, c2, rfl, hS2⟩ := hO2.strs
    have HB2 : Hid (Below w.heap.size w w2) := HB1.out.trans (hb2.mono HB1.out.size)
    have HS2 : Hid (IsStrs w2 a2 c2 (linksF s)) := hS2
    clear hO2 hb2 hS2 HB1
    go_wp2_with fail
    refine (specLinks_any s _ (by omega)).mono ?_
    rintro e w3 ⟨v3, rfl, hO3, hb3⟩
    obtain ⟨a3, c3, rfl, hS3⟩ := hO3.strs
    have HB3 : Hid (Below w.heap.size w w3) := HB2.out.trans (hb3.mono HB2.out.size)
    have HS3 : Hid (IsStrs w3 a2 c2 (linksF s)) := HS2.out.below hb3
    have HT3 : Hid (IsStrs w3 a3 c3 (linksF s)) := hS3
    clear hO3 hb3 hS3 HB2 HS2
    go_wp2_with fail
    refine (texts_any _ _ (linksF s) _ _ (linksF s) _ HS3.out HT3.out (by omega) (by omega)).mono ?_
    rintro e w4 ⟨rfl, n4, hw4⟩
    rw [decide_eq_true rfl]
    have HB4 : Hid (Below w.heap.size w w4) := by subst hw4; exact below_drewN HB3.out n4
    have HS4 : Hid (IsStrs w4 a2 c2 (linksF s)) := by subst hw4; exact HS3.out.drewN n4
    clear hw4 HB3 HS3 HT3
    by_cases hz : 292 < s.size
    · go_wp2_with fail
      refine (specLinks_any s _ (by omega)).mono ?_
      rintro e w5 ⟨v5, rfl, hO5, hb5⟩
      obtain ⟨a5, c5, rfl, hS5⟩ := hO5.strs
      have HB5 : Hid (Below w.heap.size w w5) := HB4.out.trans (hb5.mono HB4.out.size)
      have HS5 : Hid (IsStrs w5 a2 c2 (linksF s)) := HS4.out.below hb5
      have HT5 : Hid (IsStrs w5 a5 c5 (linksF s)) := hS5
      clear hO5 hb5 hS5
      go_wp2_with fail
      refine (texts_any _ _ (linksF s) _ _ (linksF s) _ HS5.out HT5.out (by omega) (by omega)).mono ?_
      rintro e w6 ⟨rfl, n6, hw6⟩
      rw [decide_eq_true rfl]
      have HB6 : Hid (Below w.heap.size w w6) := by subst hw6; exact below_drewN HB5.out n6
      clear hw6
      go_wp2
      go_ret
      exact ⟨rfl, HB6.out⟩
    · have HQ1 : Hid _ := links_round s (by omega)
      have HQ2 : Hid _ := links_shut s (by omega)
      have HQ3 : Hid _ := base_round s (by omega)
      have hz1 : ((⟨#[40, 60, 113, 62, 41]⟩ : ByteArray) ++ s).size ≤ maxLen := by rw [sz_app]; have : (⟨#[40, 60, 113, 62, 41]⟩ : ByteArray).size = 5 := rfl; unfold maxLen; omega
      have hz2' : ((⟨#[62, 32, 41]⟩ : ByteArray) ++ s).size ≤ maxLen := by rw [sz_app]; have : (⟨#[62, 32, 41]⟩ : ByteArray).size = 3 := rfl; unfold maxLen; omega
      have HZ1 : Hid _ := hz1
      have HZ2 : Hid _ := hz2'
      clear hz1 hz2'
      have hbz := base_size s
      go_wp2_with fail
      refine (implBase_any _ _ HZ1.out).mono ?_
      rintro e w5 ⟨rfl, hb5⟩
      rw [HQ3.out]
      have HB5 : Hid (Below w.heap.size w w5) := HB4.out.trans (hb5.mono HB4.out.size)
      have HS5 : Hid (IsStrs w5 a2 c2 (linksF s)) := HS4.out.below hb5
      clear hb5 HB4 HS4
      go_wp2_with fail
      refine (implBase_any s _ HSM.out).mono ?_
      rintro e w6 ⟨rfl, hb6⟩
      have HB6 : Hid (Below w.heap.size w w6) := HB5.out.trans (hb6.mono HB5.out.size)
      have HS6 : Hid (IsStrs w6 a2 c2 (linksF s)) := HS5.out.below hb6
      clear hb6 HB5 HS5
      generalize (baseF s).1 = bt at *
      generalize (baseF s).2 = bo at *
      go_wp2_with fail
      refine (implLinks_any _ _ HZ1.out).mono ?_
      rintro e w7 ⟨v7, rfl, hO7, hb7⟩
      rw [HQ1.out] at hO7
      obtain ⟨a7, c7, rfl, hS7⟩ := hO7.strs
      have HB7 : Hid (Below w.heap.size w w7) := HB6.out.trans (hb7.mono HB6.out.size)
      have HS7 : Hid (IsStrs w7 a2 c2 (linksF s)) := HS6.out.below hb7
      have HT7 : Hid (IsStrs w7 a7 c7 (linksF s)) := hS7
      clear hO7 hb7 hS7 HB6 HS6
      go_wp2_with fail
      refine (texts_any _ _ (linksF s) _ _ (linksF s) _ HT7.out HS7.out (by omega) (by omega)).mono ?_
      rintro e w8 ⟨rfl, n8, hw8⟩
      rw [decide_eq_true rfl]
      have HB8 : Hid (Below w.heap.size w w8) := by subst hw8; exact below_drewN HB7.out n8
      have HS8 : Hid (IsStrs w8 a2 c2 (linksF s)) := by subst hw8; exact HS7.out.drewN n8
      clear hw8 HB7 HS7 HT7
      go_wp2_with fail
      refine (implLinks_any _ _ HZ2.out).mono ?_
      rintro e w9 ⟨v9, rfl, hO9, hb9⟩
      rw [HQ2.out] at hO9
      obtain ⟨a9, c9, rfl, hS9⟩ := hO9.strs
      have HB9 : Hid (Below w.heap.size w w9) := HB8.out.trans (hb9.mono HB8.out.size)
      have HS9 : Hid (IsStrs w9 a2 c2 (linksF s)) := HS8.out.below hb9
      have HT9 : Hid (IsStrs w9 a9 c9 (linksF s)) := hS9
      clear hO9 hb9 hS9 HB8 HS8
      go_wp2_with fail
      refine (texts_any _ _ (linksF s) _ _ (linksF s) _ HT9.out HS9.out (by omega) (by omega)).mono ?_
      rintro e w10 ⟨rfl, n10, hw10⟩
      rw [decide_eq_true rfl]
      have HB10 : Hid (Below w.heap.size w w10) := by subst hw10; exact below_drewN HB9.out n10
      have HS10 : Hid (IsStrs w10 a2 c2 (linksF s)) := by subst hw10; exact HS9.out.drewN n10
      clear hw10 HB9 HS9 HT9
      cases bo
      all_goals
        go_wp2
        go_ret
        exact ⟨rfl, HB10.out⟩

theorem own : ownKnob Try.prog.godebug = none := by kernel_rfl
theorem laidOut : laidOutB Try.prog = true := by kernel_rfl

/-! ### THE ROW's STEP -/
set_option maxRecDepth 100000 in
theorem lifted (os : Os) (started : os.Started) (H : Type) (enc : TypeId × Value → H) :
    ReturnsInHanded {} Try.checked os 4 .any (Rows.fnLinksRoundSpec.pre6 enc Try.prog Try.f4 Rows.fnLinksRoundRow.domain false) (Rows.fnLinksRoundSpec.post enc Try.prog Try.f4 false true false false) := by
  refine returnsInHanded_of_change (C := Try.checked) own started (by kernel_rfl) Try.func4
    (ChangeSpec.witness6 (enc := enc) (C := Try.checked) false ⟨#[], #[.slice none 0 0], []⟩ 8 (by kernel_rfl) (by kernel_rfl) (by kernel_rfl) (by kernel_rfl)) ?_
  intro W base args ds gs before hval0 hW hcnd _
  have hval : ∀ (j : Nat) t v, Try.f4.params[j]? = some t → args[j]? = some v → Value.okWide Try.prog W .any base t v := hval0
  have hW' := hW
  obtain ⟨p, q, hA0, hV, rfl, hfz, hnd⟩ := hW
  have hA : DataW.TrodAll enc Try.prog W 0 (fun _ => true) true Try.f4.params.toList args.toList ds p := hA0
  rw [Try.params4] at hA hval
  obtain ⟨v0, vs0, d0, ds0, p0, q0, hargs, rfl, rfl, h0, r0⟩ := trodAll_cons hA
  obtain ⟨rfl, rfl, rfl⟩ := trodAll_nil r0
  obtain rfl : args = #[v0] := by cases args; simp_all
  obtain ⟨rfl, rfl⟩ := trodVars_none hV
  obtain ⟨a0, len0, cap0, rfl⟩ := okWide_slice Try.underlying22 (hval 0 22 v0 rfl rfl)
  have k0 := h0
  have lt0 : ∀ x ∈ p0, x.block < W.heap.size := by obtain ⟨m, hm⟩ := k0; exact DataW.trod_lt m _ _ _ hm
  obtain ⟨z0, w0⟩ : ∃ zs, Dr.IsRow .u8 W a0 len0 cap0 zs := by
    obtain ⟨fuel, hf⟩ := h0
    rcases open_ints Try.underlying22 Try.underlying5 (by kernel_rfl) hf with ⟨hcs, _⟩ | ⟨x, l, c, zs, hcs, _, hl, hm, hz, _, hcell, hwz⟩
    · simp [Value.cells] at hcs
      obtain ⟨rfl, rfl, rfl⟩ := hcs
      exact ⟨[], .inl ⟨rfl, rfl, rfl, rfl⟩⟩
    · simp [Value.cells] at hcs
      obtain ⟨rfl, rfl, rfl⟩ := hcs
      exact ⟨zs, .inr ⟨_, rfl, hl, hm, by simpa using hz, hcell, hwz⟩⟩
  clear hA0 hval0
  refine (walk a0 len0 cap0 z0 W w0).mono fun e W' ⟨he, bel⟩ => ?_
  subst he
  exact ⟨_, rfl, _, _, _, [], _, [], hW', trodAll_mk1 (shut_bool Try.underlying4 _), (trodAll_cons_mk (Below.trod laidOut (by kernel_rfl) (of_decide_eq_true (by kernel_rfl)) k0 bel lt0) trodAll_mk0), rfl, bel.frame _, fun h => by cases h⟩

theorem over : Rows.fnLinksRoundRow.holds Try.pinned (OpenSpec.ofChange Rows.fnLinksRoundSpec) :=
  OpenClaim.holds_of_wide 4 Try.f4 rfl rfl rfl rfl rfl rfl rfl ⟨rfl, rfl, rfl, rfl, rfl⟩ rfl rfl rfl rfl rfl (by kernel_rfl) Try.func4 (by kernel_rfl)
    (of_decide_eq_true (by kernel_rfl)) (by unfold Func.isWrapper; first | (rw [if_pos (by decide +kernel)]; kernel_rfl) | (rw [if_neg (by decide +kernel)]; exact ⟨rfl, rfl⟩))
    (fun os started H enc _ => lifted os started H enc)

theorem proved : Rows.FnLinksRoundSaid := over
end Go.Proofs.Ytlgmamiialfaeaa.fnLinksRound
