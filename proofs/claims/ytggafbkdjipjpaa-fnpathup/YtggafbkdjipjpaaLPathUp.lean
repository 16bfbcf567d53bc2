/- FnPathUp: for every code, behind the parts drawn of it a part and a step up are nothing, dots and nothing are nothing, and a step up takes the last part, if there is one. No condition. -/
import Derived.Test.YtggafbkdjipjpaaRows
import Derived.WalkKit
import Derived.ProofKit
import Derived.OpenShut
import Derived.ShutString
import Derived.ChangeOld
import Derived.Below
import Derived.Test.YtggafbkdjipjpaaPath1
import Derived.Test.YtggafbkdjipjpaaCmp
import Derived.Test.YtggafbkdjipjpaaDraw3
namespace Go.Proofs.Ytggafbkdjipjpaa.fnPathUp
open Go.ChangeShapes Go.WideShapes Go.ChangeAt Go.RowKit
open Go.ChangeMaps (open_string shut_string)
set_option linter.unusedVariables false
open Go.Proofs.Ytggafbkdjipjpaa.St Go.Proofs.Ytggafbkdjipjpaa.PathM

set_option maxHeartbeats 3200000 in
theorem walk (a0 : Option Addr) (len0 cap0 : Nat) (z0 : List Int) (w : World) (w0 : Dr.IsRow .u8 w a0 len0 cap0 z0) :
    Calls Try.prog 9 #[.slice a0 len0 cap0] w fun e w' => e = .returned (.bool true) ∧ Below w.heap.size w w' := by
  by_cases hlong : (1048576 : Int) < len0
  · go_enter Try.func9, Try.ntmps9
    go_wp2
    go_ret
    exact ⟨rfl, Below.refl _ _⟩
  · obtain ⟨i0, hi, hz0, hz1, hz2⟩ := info_parts Try.infoS
    go_enter Try.func9, Try.ntmps9
    go_wp2_with fail
    refine (Dr.drawPath_any a0 len0 cap0 z0 w w0).mono ?_
    rintro e w1 ⟨g, c, L, rfl, hO1, hL, hb1⟩
    obtain ⟨_, _, e1, hS1⟩ := hO1.strs
    injection e1 with e2 _ e3
    subst e2; subst e3
    have HL : Hid (IsStrs w1 (some ⟨g, 0, none⟩) c L) := hS1
    clear hO1 hS1 w0
    have hlen := clean_len L
    go_wp2_with fail
    refine (implPath_any _ _ L _ HL.out (by omega)).mono ?_
    rintro e w2 ⟨vx, rfl, hO2, hb2⟩
    obtain ⟨ax, cx, rfl, hSx⟩ := hO2.strs
    have HX2 : Hid (IsStrs w2 ax cx (cleanL L)) := hSx
    clear hO2 hSx
    go_wp2_with fail
    refine (specPath_any _ _ L _ (HL.out.below hb2) (by omega)).mono ?_
    rintro e w3 ⟨vy, rfl, hO3, hb3⟩
    obtain ⟨ay, cy, rfl, hSy⟩ := hO3.strs
    have HY3 : Hid (IsStrs w3 ay cy (cleanL L)) := hSy
    have HX3 : Hid (IsStrs w3 ax cx (cleanL L)) := HX2.out.below hb3
    have HL3 : Hid (IsStrs w3 (some ⟨g, 0, none⟩) c L) := (HL.out.below hb2).below hb3
    have hb13 : Below w.heap.size w w3 := hb1.trans ((hb2.mono hb1.size).trans (hb3.mono (Nat.le_trans hb1.size hb2.size)))
    clear hO3 hSy HX2 HL hb1 hb2 hb3
    go_wp2_with fail
    refine (texts_any _ _ _ _ _ _ _ HX3.out HY3.out (by omega) (by omega)).mono ?_
    rintro e w4 ⟨rfl, n, rfl⟩
    rw [decide_eq_true (rfl : cleanL L = cleanL L)]
    have HX4 : Hid (IsStrs (w3.drewN n) ax cx (cleanL L)) := HX3.out.keep fun _ _ => rfl
    have HL4 : Hid (IsStrs (w3.drewN n) (some ⟨g, 0, none⟩) c L) := HL3.out.keep fun _ _ => rfl
    have hb14 : Below w.heap.size w (w3.drewN n) := below_drewN hb13 n
    clear HX3 HY3 HL3 hb13
    generalize w3.drewN n = W at *
    go_wp2_with (first
      | (at_builtin; refine wpList_append_own _ rfl (.tmp 20) (.tmp 21) 29 rfl W.heap.size 9 i0 (.string ⟨#[]⟩) 1 16 Try.underlying29 hi hz0 hz1 hz2 rfl (by decide) (.slice (some ⟨W.heap.size, 0, none⟩) 0 0) 0 [] rfl (Owns.empty W W.heap.size (Nat.le_refl _)) ⟨g, 0, none⟩ L.length c (cellsS L) rfl (by simp [cellsS]) (HL4.out.news (alloc_keep _ _)) (cellsS_one L) (by unfold maxLen; omega) (by omega) (by simp) ?_; intro v1 W1 ho1 hg1 _)
      | (at_builtin; refine wpList_append_own _ rfl (.tmp 22) (.tmp 23) 29 rfl W.heap.size 9 i0 (.string ⟨#[]⟩) 1 16 Try.underlying29 hi hz0 hz1 hz2 rfl (by decide) v1 _ _ rfl (World.ownsRow.alloc ho1 _) ⟨W1.heap.size, 0, none⟩ 2 2 [.string ⟨#[113]⟩, .string ⟨#[46, 46]⟩] rfl rfl (cell_two_new _ _ _ _) (by intro u hu; simp at hu; rcases hu with rfl | rfl <;> rfl) (by unfold maxLen; omega) (by omega) (by have := hg1.size; simp at this ⊢; omega) ?_; intro v2 W2 ho2 hg2 _)
      | fail)
    obtain ⟨hOv, hbv⟩ := two_app (M := [⟨#[113]⟩, ⟨#[46, 46]⟩]) hg1 ho1 hg2 ho2 (by simp) (by simp)
    obtain ⟨av, cv, hvv, hSv⟩ := hOv.strs
    have HV : Hid _ := hSv
    have HLn : Hid (IsStrs W2 (some ⟨g, 0, none⟩) c L) := HL4.out.below hbv
    have HXn : Hid (IsStrs W2 ax cx (cleanL L)) := HX4.out.below hbv
    have hbn : Below w.heap.size w W2 := hb14.trans (hbv.mono hb14.size)
    have hlM : (L ++ ([⟨#[113]⟩, ⟨#[46, 46]⟩] : List ByteArray)).length ≤ 100 := by simp; omega
    clear hOv hSv ho1 hg1 ho2 hg2 HL4 HX4 hb14
    subst hvv
    refine (implPath_any _ _ (L ++ ([⟨#[113]⟩, ⟨#[46, 46]⟩] : List ByteArray)) _ HV.out (by omega)).mono ?_
    rintro e upW ⟨vu, rfl, hOu, hbu⟩
    rw [clean_in_up] at hOu
    obtain ⟨aup, cup, rfl, hSu⟩ := hOu.strs
    have Hup : Hid (IsStrs upW aup cup (cleanL L)) := hSu
    have HL4 : Hid (IsStrs upW (some ⟨g, 0, none⟩) c L) := HLn.out.below hbu
    have HX4 : Hid (IsStrs upW ax cx (cleanL L)) := HXn.out.below hbu
    have hb14 : Below w.heap.size w upW := hbn.trans (hbu.mono hbn.size)
    clear hOu hSu HV HLn HXn hbn hbu hlM hbv
    go_wp2_with (first
      | (at_builtin; refine wpList_append_own _ rfl (.tmp 26) (.tmp 27) 29 rfl upW.heap.size 9 i0 (.string ⟨#[]⟩) 1 16 Try.underlying29 hi hz0 hz1 hz2 rfl (by decide) (.slice (some ⟨upW.heap.size, 0, none⟩) 0 0) 0 [] rfl (Owns.empty upW upW.heap.size (Nat.le_refl _)) ⟨g, 0, none⟩ L.length c (cellsS L) rfl (by simp [cellsS]) (HL4.out.news (alloc_keep _ _)) (cellsS_one L) (by unfold maxLen; omega) (by omega) (by simp) ?_; intro v1 W1 ho1 hg1 _)
      | (at_builtin; refine wpList_append_own _ rfl (.tmp 28) (.tmp 29) 29 rfl upW.heap.size 9 i0 (.string ⟨#[]⟩) 1 16 Try.underlying29 hi hz0 hz1 hz2 rfl (by decide) v1 _ _ rfl (World.ownsRow.alloc ho1 _) ⟨W1.heap.size, 0, none⟩ 2 2 [.string ⟨#[46]⟩, .string ⟨#[]⟩] rfl rfl (cell_two_new _ _ _ _) (by intro u hu; simp at hu; rcases hu with rfl | rfl <;> rfl) (by unfold maxLen; omega) (by omega) (by have := hg1.size; simp at this ⊢; omega) ?_; intro v2 W2 ho2 hg2 _)
      | fail)
    obtain ⟨hOv, hbv⟩ := two_app (M := [⟨#[46]⟩, ⟨#[]⟩]) hg1 ho1 hg2 ho2 (by simp) (by simp)
    obtain ⟨av, cv, hvv, hSv⟩ := hOv.strs
    have HV : Hid _ := hSv
    have HLn : Hid (IsStrs W2 (some ⟨g, 0, none⟩) c L) := HL4.out.below hbv
    have HXn : Hid (IsStrs W2 ax cx (cleanL L)) := HX4.out.below hbv
    have Hupn : Hid (IsStrs W2 aup cup (cleanL L)) := Hup.out.below hbv
    have hbn : Below w.heap.size w W2 := hb14.trans (hbv.mono hb14.size)
    have hlM : (L ++ ([⟨#[46]⟩, ⟨#[]⟩] : List ByteArray)).length ≤ 100 := by simp; omega
    clear hOv hSv ho1 hg1 ho2 hg2 HL4 HX4 hb14 Hup
    subst hvv
    refine (implPath_any _ _ (L ++ ([⟨#[46]⟩, ⟨#[]⟩] : List ByteArray)) _ HV.out (by omega)).mono ?_
    rintro e idlW ⟨vu, rfl, hOu, hbu⟩
    rw [clean_idle] at hOu
    obtain ⟨aidl, cidl, rfl, hSu⟩ := hOu.strs
    have Hidl : Hid (IsStrs idlW aidl cidl (cleanL L)) := hSu
    have HL4 : Hid (IsStrs idlW (some ⟨g, 0, none⟩) c L) := HLn.out.below hbu
    have HX4 : Hid (IsStrs idlW ax cx (cleanL L)) := HXn.out.below hbu
    have Hup : Hid (IsStrs idlW aup cup (cleanL L)) := Hupn.out.below hbu
    have hb14 : Below w.heap.size w idlW := hbn.trans (hbu.mono hbn.size)
    clear hOu hSu HV HLn HXn hbn hbu hlM hbv Hupn
    go_wp2_with (first
      | (at_builtin; refine wpList_append_own _ rfl (.tmp 32) (.tmp 33) 29 rfl idlW.heap.size 9 i0 (.string ⟨#[]⟩) 1 16 Try.underlying29 hi hz0 hz1 hz2 rfl (by decide) (.slice (some ⟨idlW.heap.size, 0, none⟩) 0 0) 0 [] rfl (Owns.empty idlW idlW.heap.size (Nat.le_refl _)) ⟨g, 0, none⟩ L.length c (cellsS L) rfl (by simp [cellsS]) (HL4.out.news (alloc_keep _ _)) (cellsS_one L) (by unfold maxLen; omega) (by omega) (by simp) ?_; intro v1 W1 ho1 hg1 _)
      | (at_builtin; refine wpList_append_own _ rfl (.tmp 34) (.tmp 35) 29 rfl idlW.heap.size 9 i0 (.string ⟨#[]⟩) 1 16 Try.underlying29 hi hz0 hz1 hz2 rfl (by decide) v1 _ _ rfl (World.ownsRow.alloc ho1 _) ⟨W1.heap.size, 0, none⟩ 1 1 [.string ⟨#[46, 46]⟩] rfl rfl (cell_one_new _ _ _) (by intro u hu; simp at hu; subst hu; rfl) (by unfold maxLen; omega) (by omega) (by have := hg1.size; simp at this ⊢; omega) ?_; intro v2 W2 ho2 hg2 _)
      | fail)
    obtain ⟨hOv, hbv⟩ := two_app (M := [⟨#[46, 46]⟩]) hg1 ho1 hg2 ho2 (by simp) (by simp)
    obtain ⟨av, cv, hvv, hSv⟩ := hOv.strs
    have HV : Hid _ := hSv
    have HLn : Hid (IsStrs W2 (some ⟨g, 0, none⟩) c L) := HL4.out.below hbv
    have HXn : Hid (IsStrs W2 ax cx (cleanL L)) := HX4.out.below hbv
    have Hupn : Hid (IsStrs W2 aup cup (cleanL L)) := Hup.out.below hbv
    have Hidln : Hid (IsStrs W2 aidl cidl (cleanL L)) := Hidl.out.below hbv
    have hbn : Below w.heap.size w W2 := hb14.trans (hbv.mono hb14.size)
    have hlM : (L ++ ([⟨#[46, 46]⟩] : List ByteArray)).length ≤ 100 := by simp; omega
    clear hOv hSv ho1 hg1 ho2 hg2 HL4 HX4 hb14 Hup Hidl
    subst hvv
    refine (implPath_any _ _ (L ++ ([⟨#[46, 46]⟩] : List ByteArray)) _ HV.out (by omega)).mono ?_
    rintro e otW ⟨vu, rfl, hOu, hbu⟩
    rw [clean_out] at hOu
    obtain ⟨aot, cot, rfl, hSu⟩ := hOu.strs
    have Hot : Hid (IsStrs otW aot cot (cleanL L).dropLast) := hSu
    have HL4 : Hid (IsStrs otW (some ⟨g, 0, none⟩) c L) := HLn.out.below hbu
    have HX4 : Hid (IsStrs otW ax cx (cleanL L)) := HXn.out.below hbu
    have Hup : Hid (IsStrs otW aup cup (cleanL L)) := Hupn.out.below hbu
    have Hidl : Hid (IsStrs otW aidl cidl (cleanL L)) := Hidln.out.below hbu
    have hb14 : Below w.heap.size w otW := hbn.trans (hbu.mono hbn.size)
    clear hOu hSu HV HLn HXn hbn hbu hlM hbv Hupn Hidln
    generalize cleanL L = X at *
    go_wp2_with fail
    refine (texts_any _ _ _ _ _ _ _ Hup.out HX4.out (by omega) (by omega)).mono ?_
    rintro e w5 ⟨rfl, n5, rfl⟩
    rw [decide_eq_true (rfl : X = X)]
    go_wp2_with fail
    refine (texts_any _ _ _ _ _ _ _ (IsStrs.drewN Hidl.out _) (IsStrs.drewN HX4.out _) (by omega) (by omega)).mono ?_
    rintro e w6 ⟨rfl, n6, rfl⟩
    rw [decide_eq_true (rfl : X = X)]
    have hcx := HX4.out.1
    have hcm := HX4.out.2.1
    unfold maxLen at hcm
    by_cases hX0 : X.length = 0
    · have hX1 : X = [] := List.eq_nil_of_length_eq_zero hX0
      subst hX1
      clear hX0
      go_wp2_with fail
      refine (texts_n _ _ _ ([] : List ByteArray) _ _ _ ([] : List ByteArray) _ rfl rfl (IsStrs.drewN Hot.out _) (IsStrs.drewN HX4.out _) (by simp) (by simp)).mono ?_
      rintro e w7 ⟨rfl, n7, rfl⟩
      rw [decide_eq_true (rfl : ([] : List ByteArray) = [])]
      go_wp2
      go_ret
      exact ⟨rfl, below_drewN hb14 _⟩
    · go_wp2_with fail
      have hc := HX4.out.cut (X.length - 1)
      rw [← List.dropLast_eq_take] at hc
      refine (texts_n _ _ _ X.dropLast _ _ _ X.dropLast _ (by simp) (by simp) (IsStrs.drewN Hot.out _) (IsStrs.drewN hc _) (by omega) (by omega)).mono ?_
      rintro e w7 ⟨rfl, n7, rfl⟩
      rw [decide_eq_true (rfl : X.dropLast = X.dropLast)]
      go_wp2
      go_ret
      exact ⟨rfl, below_drewN hb14 _⟩

theorem own : ownKnob Try.prog.godebug = none := by kernel_rfl
theorem laidOut : laidOutB Try.prog = true := by kernel_rfl

/-! ### THE ROW's STEP -/
set_option maxRecDepth 100000 in
theorem lifted (os : Os) (started : os.Started) (H : Type) (enc : TypeId × Value → H) :
    ReturnsInHanded {} Try.checked os 9 .any (Rows.fnPathUpSpec.pre6 enc Try.prog Try.f9 Rows.fnPathUpRow.domain false) (Rows.fnPathUpSpec.post enc Try.prog Try.f9 false true false false) := by
  refine returnsInHanded_of_change (C := Try.checked) own started (by kernel_rfl) Try.func9
    (ChangeSpec.witness6 (enc := enc) (C := Try.checked) false ⟨#[], #[.slice none 0 0], []⟩ 8 (by kernel_rfl) (by kernel_rfl) (by kernel_rfl) (by kernel_rfl)) ?_
  intro W base args ds gs before hval0 hW hcnd _
  have hval : ∀ (j : Nat) t v, Try.f9.params[j]? = some t → args[j]? = some v → Value.okWide Try.prog W .any base t v := hval0
  have hW' := hW
  obtain ⟨p, q, hA0, hV, rfl, hfz, hnd⟩ := hW
  have hA : DataW.TrodAll enc Try.prog W 0 (fun _ => true) true Try.f9.params.toList args.toList ds p := hA0
  rw [Try.params9] at hA hval
  obtain ⟨v0, vs0, d0, ds0, p0, q0, hargs, rfl, rfl, h0, r0⟩ := trodAll_cons hA
  obtain ⟨rfl, rfl, rfl⟩ := trodAll_nil r0
  obtain rfl : args = #[v0] := by cases args; simp_all
  obtain ⟨rfl, rfl⟩ := trodVars_none hV
  obtain ⟨a0, len0, cap0, rfl⟩ := okWide_slice Try.underlying22 (hval 0 22 v0 rfl rfl)
  have k0 := h0
  have lt0 : ∀ x ∈ p0, x.block < W.heap.size := by obtain ⟨m, hm⟩ := k0; exact DataW.trod_lt m _ _ _ hm
  obtain ⟨z0, w0⟩ : ∃ zs, Dr.IsRow .u8 W a0 len0 cap0 zs := by
    obtain ⟨fuel, hf⟩ := h0
    rcases open_ints Try.underlying22 Try.underlying5 (by kernel_rfl) hf with ⟨hcs, _⟩ | ⟨x, l, c, zs, hcs, _, hl, hm, hz, _, hcell, hwz⟩
    · simp [Value.cells] at hcs
      obtain ⟨rfl, rfl, rfl⟩ := hcs
      exact ⟨[], .inl ⟨rfl, rfl, rfl, rfl⟩⟩
    · simp [Value.cells] at hcs
      obtain ⟨rfl, rfl, rfl⟩ := hcs
      exact ⟨zs, .inr ⟨_, rfl, hl, hm, by simpa using hz, hcell, hwz⟩⟩
  clear hA0 hval0
  refine (walk a0 len0 cap0 z0 W w0).mono fun e W' ⟨he, bel⟩ => ?_
  subst he
  exact ⟨_, rfl, _, _, _, [], _, [], hW', trodAll_mk1 (shut_bool Try.underlying4 _), (trodAll_cons_mk (Below.trod laidOut (by kernel_rfl) (of_decide_eq_true (by kernel_rfl)) k0 bel lt0) trodAll_mk0), rfl, bel.frame _, fun h => by cases h⟩

theorem over : Rows.fnPathUpRow.holds Try.pinned (OpenSpec.ofChange Rows.fnPathUpSpec) :=
  OpenClaim.holds_of_wide 9 Try.f9 rfl rfl rfl rfl rfl rfl rfl ⟨rfl, rfl, rfl, rfl, rfl⟩ rfl rfl rfl rfl rfl (by kernel_rfl) Try.func9 (by kernel_rfl)
    (of_decide_eq_true (by kernel_rfl)) (by unfold Func.isWrapper; first | (rw [if_pos (by decide +kernel)]; kernel_rfl) | (rw [if_neg (by decide +kernel)]; exact ⟨rfl, rfl⟩))
    (fun os started H enc _ => lifted os started H enc)

theorem proved : Rows.FnPathUpSaid := over
end Go.Proofs.Ytggafbkdjipjpaa.fnPathUp
