/- FnLinksMore: for every code, of the page drawn of it the links are the model's; with a mark ahead they are that and those, with one that is no link, or a base, just those. No condition. -/
import Derived.Test.YtlgmamiialfaeaaRows
import Derived.WalkKit
import Derived.ProofKit
import Derived.OpenShut
import Derived.ShutString
import Derived.ChangeOld
import Derived.Below
import Derived.Test.YtlgmamiialfaeaaPage4
import Derived.Test.YtlgmamiialfaeaaPage5
namespace Go.Proofs.Ytlgmamiialfaeaa.fnLinksMore
open Go.ChangeShapes Go.WideShapes Go.ChangeAt Go.RowKit
open Go.ChangeMaps (open_string shut_string)
set_option linter.unusedVariables false
open Go.Proofs.Ytlgmamiialfaeaa.EscM Go.Proofs.Ytlgmamiialfaeaa.EscL Go.Proofs.Ytlgmamiialfaeaa.ReadM Go.Proofs.Ytlgmamiialfaeaa.St Go.Proofs.Ytlgmamiialfaeaa.PgM Go.Proofs.Ytlgmamiialfaeaa.Dr Go.Proofs.Ytlgmamiialfaeaa.Pg

theorem own_one (w : World) (x : ByteArray) : (w.alloc (.cells #[.string x] 9)).ownsRow w.heap.size 9 1 (.slice (some ⟨w.heap.size, 0, none⟩) 1 1) 1 [.string x] := by
  refine ⟨rfl, Or.inr ⟨w.heap.size, 1, #[.string x], rfl, Nat.le_refl _, heap_new w _, Nat.le_refl _, by decide, rfl, rfl⟩⟩

set_option maxRecDepth 100000 in
set_option maxHeartbeats 6400000 in
theorem walk (a0 : Option Addr) (len0 cap0 : Nat) (z0 : List Int) (w : World) (w0 : Dr.IsRow .u8 w a0 len0 cap0 z0) :
    Calls Try.prog 3 #[.slice a0 len0 cap0] w fun e w' => e = .returned (.bool true) ∧ Below w.heap.size w w' := by
  obtain ⟨i0, hi, hz0, hz1, hz2⟩ := info_parts Try.infoS
  by_cases hlong : (1048576 : Int) < len0
  · go_enter Try.func3, Try.ntmps3
    go_wp2
    go_ret
    exact ⟨rfl, Below.refl _ _⟩
  · go_enter Try.func3, Try.ntmps3
    go_wp2_with fail
    refine (Dr.drawLinks_any a0 len0 cap0 z0 w w0).mono ?_
    rintro e w1 ⟨s, rfl, hs6, hb1⟩
    have HB1 : Hid (Below w.heap.size w w1) := hb1
    have hsm : s.size ≤ maxLen := by unfold maxLen; omega
    have HSM : Hid _ := hsm
    have hln := links_len s
    clear hb1 hsm
    go_wp2_with fail
    refine (implLinks_any s _ HSM.out).mono ?_
    rintro e w2 ⟨v2, rfl, hO2, hb2⟩
    obtain ⟨a2, c2, rfl, hS2⟩ := hO2.strs
    have HB2 : Hid (Below w.heap.size w w2) := HB1.out.trans (hb2.mono HB1.out.size)
    have HS2 : Hid (IsStrs w2 a2 c2 (linksF s)) := hS2
    clear hO2 hb2 hS2 HB1
    go_wp2_with fail
    refine (specLinks_any s _ (by omega)).mono ?_
    rintro e w3 ⟨v3, rfl, hO3, hb3⟩
    obtain ⟨a3, c3, rfl, hS3⟩ := hO3.strs
    have HB3 : Hid (Below w.heap.size w w3) := HB2.out.trans (hb3.mono HB2.out.size)
    have HS3 : Hid (IsStrs w3 a2 c2 (linksF s)) := HS2.out.below hb3
    have HT3 : Hid (IsStrs w3 a3 c3 (linksF s)) := hS3
    clear hO3 hb3 hS3 HB2 HS2
    go_wp2_with fail
    refine (texts_any _ _ (linksF s) _ _ (linksF s) _ HS3.out HT3.out (by omega) (by omega)).mono ?_
    rintro e w4 ⟨rfl, n4, hw4⟩
    rw [decide_eq_true rfl]
    have HB4 : Hid (Below w.heap.size w w4) := by subst hw4; exact below_drewN HB3.out n4
    have HS4 : Hid (IsStrs w4 a2 c2 (linksF s)) := by subst hw4; exact HS3.out.drewN n4
    clear hw4 HB3 HS3 HT3
    by_cases hz : 292 < s.size
    · go_wp2_with fail
      refine (specLinks_any s _ (by omega)).mono ?_
      rintro e w5 ⟨v5, rfl, hO5, hb5⟩
      obtain ⟨a5, c5, rfl, hS5⟩ := hO5.strs
      have HB5 : Hid (Below w.heap.size w w5) := HB4.out.trans (hb5.mono HB4.out.size)
      have HS5 : Hid (IsStrs w5 a2 c2 (linksF s)) := HS4.out.below hb5
      have HT5 : Hid (IsStrs w5 a5 c5 (linksF s)) := hS5
      clear hO5 hb5 hS5
      go_wp2_with fail
      refine (texts_any _ _ (linksF s) _ _ (linksF s) _ HS5.out HT5.out (by omega) (by omega)).mono ?_
      rintro e w6 ⟨rfl, n6, hw6⟩
      rw [decide_eq_true rfl]
      have HB6 : Hid (Below w.heap.size w w6) := by subst hw6; exact below_drewN HB5.out n6
      clear hw6
      go_wp2
      go_ret
      exact ⟨rfl, HB6.out⟩
    · have HQ1 : Hid _ := links_q s (by omega)
      have HQ2 : Hid _ := links_no s (by omega)
      have HQ3 : Hid _ := links_at s (by omega)
      have hz1 : ((⟨#[60, 113, 62]⟩ : ByteArray) ++ s).size ≤ maxLen := by rw [sz_app]; have : (⟨#[60, 113, 62]⟩ : ByteArray).size = 3 := rfl; unfold maxLen; omega
      have hz2' : ((⟨#[60, 33, 113, 62]⟩ : ByteArray) ++ s).size ≤ maxLen := by rw [sz_app]; have : (⟨#[60, 33, 113, 62]⟩ : ByteArray).size = 4 := rfl; unfold maxLen; omega
      have hz3 : ((⟨#[60, 64, 113, 62]⟩ : ByteArray) ++ s).size ≤ maxLen := by rw [sz_app]; have : (⟨#[60, 64, 113, 62]⟩ : ByteArray).size = 4 := rfl; unfold maxLen; omega
      have HZ1 : Hid _ := hz1
      have HZ2 : Hid _ := hz2'
      have HZ3 : Hid _ := hz3
      clear hz1 hz2' hz3
      go_wp2_with fail
      refine (implLinks_any _ _ HZ1.out).mono ?_
      rintro e w5 ⟨v5, rfl, hO5, hb5⟩
      rw [HQ1.out] at hO5
      obtain ⟨a5, c5, rfl, hS5⟩ := hO5.strs
      have HB5 : Hid (Below w.heap.size w w5) := HB4.out.trans (hb5.mono HB4.out.size)
      have HS5 : Hid (IsStrs w5 a2 c2 (linksF s)) := HS4.out.below hb5
      have HT5 : Hid (IsStrs w5 a5 c5 ([⟨#[113]⟩] ++ linksF s)) := hS5
      have hlq : ([⟨#[113]⟩] ++ linksF s : List ByteArray).length ≤ 301 := by simp; omega
      clear hO5 hb5 hS5 HB4 HS4
      have HX : Hid (([⟨#[113]⟩] ++ linksF s : List ByteArray).length = (linksF s).length + 1) := by show _ = _; simp
      generalize hLQ : ([⟨#[113]⟩] ++ linksF s : List ByteArray) = LQ at *
      have HLQ : Hid _ := hLQ
      clear hLQ
      go_wp2_with (first
        | (at_builtin; refine wpList_app rfl (.tmp 30) (.tmp 31) 24 rfl w5.heap.size 9 i0 (.string ⟨#[]⟩) 1 16 Try.underlying24 hi hz0 hz1 hz2 rfl (by decide) (.slice (some ⟨w5.heap.size, 0, none⟩) 1 1) 1 [.string ⟨#[113]⟩] rfl (own_one w5 _) a2 (linksF s).length c2 (cellsS (linksF s)) rfl HS5.out.none (by simp [cellsS]) (HS5.out.newsAny (alloc_keep _ _)) (cellsS_one _) (by unfold maxLen; omega) (by omega) (by simp) ?_; intro v6 w6 ho6 hg6)
        | fail)
      have hO6 : Owns w6 w5.heap.size v6 LQ := Owns.of_row ho6 (by rw [HX.out]; omega) (by rw [← HLQ.out]; rfl)
      have hb6 : Below w5.heap.size w5 w6 := Below.grown ((Below.refl _ _).alloc (Nat.le_refl _) _) hg6 (by simp) (by intro k hk; simp [Value.ownBlock] at hk; omega)
      obtain ⟨a6, c6, rfl, hS6⟩ := hO6.strs
      have HB6 : Hid (Below w.heap.size w w6) := HB5.out.trans (hb6.mono HB5.out.size)
      have HS6 : Hid (IsStrs w6 a2 c2 (linksF s)) := HS5.out.below hb6
      have HT6 : Hid (IsStrs w6 a5 c5 LQ) := HT5.out.below hb6
      have HU6 : Hid (IsStrs w6 a6 c6 LQ) := hS6
      clear ho6 hg6 hO6 hb6 hS6 HB5 HS5 HT5
      refine (texts_any _ _ LQ _ _ LQ _ HT6.out HU6.out (by omega) (by omega)).mono ?_
      rintro e w7 ⟨rfl, n7, hw7⟩
      rw [decide_eq_true rfl]
      have HB7 : Hid (Below w.heap.size w w7) := by subst hw7; exact below_drewN HB6.out n7
      have HS7 : Hid (IsStrs w7 a2 c2 (linksF s)) := by subst hw7; exact HS6.out.drewN n7
      clear hw7 HB6 HS6 HT6 HU6
      go_wp2_with fail
      refine (implLinks_any _ _ HZ2.out).mono ?_
      rintro e w8 ⟨v8, rfl, hO8, hb8⟩
      rw [HQ2.out] at hO8
      obtain ⟨a8, c8, rfl, hS8⟩ := hO8.strs
      have HB8 : Hid (Below w.heap.size w w8) := HB7.out.trans (hb8.mono HB7.out.size)
      have HS8 : Hid (IsStrs w8 a2 c2 (linksF s)) := HS7.out.below hb8
      have HT8 : Hid (IsStrs w8 a8 c8 (linksF s)) := hS8
      clear hO8 hb8 hS8 HB7 HS7
      go_wp2_with fail
      refine (texts_any _ _ (linksF s) _ _ (linksF s) _ HT8.out HS8.out (by omega) (by omega)).mono ?_
      rintro e w9 ⟨rfl, n9, hw9⟩
      rw [decide_eq_true rfl]
      have HB9 : Hid (Below w.heap.size w w9) := by subst hw9; exact below_drewN HB8.out n9
      have HS9 : Hid (IsStrs w9 a2 c2 (linksF s)) := by subst hw9; exact HS8.out.drewN n9
      clear hw9 HB8 HS8 HT8
      go_wp2_with fail
      refine (implLinks_any _ _ HZ3.out).mono ?_
      rintro e w10 ⟨v10, rfl, hO10, hb10⟩
      rw [HQ3.out] at hO10
      obtain ⟨a10, c10, rfl, hS10⟩ := hO10.strs
      have HB10 : Hid (Below w.heap.size w w10) := HB9.out.trans (hb10.mono HB9.out.size)
      have HS10 : Hid (IsStrs w10 a2 c2 (linksF s)) := HS9.out.below hb10
      have HT10 : Hid (IsStrs w10 a10 c10 (linksF s)) := hS10
      clear hO10 hb10 hS10 HB9 HS9
      go_wp2_with fail
      refine (texts_any _ _ (linksF s) _ _ (linksF s) _ HT10.out HS10.out (by omega) (by omega)).mono ?_
      rintro e w11 ⟨rfl, n11, hw11⟩
      rw [decide_eq_true rfl]
      have HB11 : Hid (Below w.heap.size w w11) := by subst hw11; exact below_drewN HB10.out n11
      clear hw11 HB10 HS10 HT10
      go_wp2
      go_ret
      exact ⟨rfl, HB11.out⟩

theorem own : ownKnob Try.prog.godebug = none := by kernel_rfl
theorem laidOut : laidOutB Try.prog = true := by kernel_rfl

/-! ### THE ROW's STEP -/
set_option maxRecDepth 100000 in
theorem lifted (os : Os) (started : os.Started) (H : Type) (enc : TypeId × Value → H) :
    ReturnsInHanded {} Try.checked os 3 .any (Rows.fnLinksMoreSpec.pre6 enc Try.prog Try.f3 Rows.fnLinksMoreRow.domain false) (Rows.fnLinksMoreSpec.post enc Try.prog Try.f3 false true false false) := by
  refine returnsInHanded_of_change (C := Try.checked) own started (by kernel_rfl) Try.func3
    (ChangeSpec.witness6 (enc := enc) (C := Try.checked) false ⟨#[], #[.slice none 0 0], []⟩ 8 (by kernel_rfl) (by kernel_rfl) (by kernel_rfl) (by kernel_rfl)) ?_
  intro W base args ds gs before hval0 hW hcnd _
  have hval : ∀ (j : Nat) t v, Try.f3.params[j]? = some t → args[j]? = some v → Value.okWide Try.prog W .any base t v := hval0
  have hW' := hW
  obtain ⟨p, q, hA0, hV, rfl, hfz, hnd⟩ := hW
  have hA : DataW.TrodAll enc Try.prog W 0 (fun _ => true) true Try.f3.params.toList args.toList ds p := hA0
  rw [Try.params3] at hA hval
  obtain ⟨v0, vs0, d0, ds0, p0, q0, hargs, rfl, rfl, h0, r0⟩ := trodAll_cons hA
  obtain ⟨rfl, rfl, rfl⟩ := trodAll_nil r0
  obtain rfl : args = #[v0] := by cases args; simp_all
  obtain ⟨rfl, rfl⟩ := trodVars_none hV
  obtain ⟨a0, len0, cap0, rfl⟩ := okWide_slice Try.underlying22 (hval 0 22 v0 rfl rfl)
  have k0 := h0
  have lt0 : ∀ x ∈ p0, x.block < W.heap.size := by obtain ⟨m, hm⟩ := k0; exact DataW.trod_lt m _ _ _ hm
  obtain ⟨z0, w0⟩ : ∃ zs, Dr.IsRow .u8 W a0 len0 cap0 zs := by
    obtain ⟨fuel, hf⟩ := h0
    rcases open_ints Try.underlying22 Try.underlying5 (by kernel_rfl) hf with ⟨hcs, _⟩ | ⟨x, l, c, zs, hcs, _, hl, hm, hz, _, hcell, hwz⟩
    · simp [Value.cells] at hcs
      obtain ⟨rfl, rfl, rfl⟩ := hcs
      exact ⟨[], .inl ⟨rfl, rfl, rfl, rfl⟩⟩
    · simp [Value.cells] at hcs
      obtain ⟨rfl, rfl, rfl⟩ := hcs
      exact ⟨zs, .inr ⟨_, rfl, hl, hm, by simpa using hz, hcell, hwz⟩⟩
  clear hA0 hval0
  refine (walk a0 len0 cap0 z0 W w0).mono fun e W' ⟨he, bel⟩ => ?_
  subst he
  exact ⟨_, rfl, _, _, _, [], _, [], hW', trodAll_mk1 (shut_bool Try.underlying4 _), (trodAll_cons_mk (Below.trod laidOut (by kernel_rfl) (of_decide_eq_true (by kernel_rfl)) k0 bel lt0) trodAll_mk0), rfl, bel.frame _, fun h => by cases h⟩

theorem over : Rows.fnLinksMoreRow.holds Try.pinned (OpenSpec.ofChange Rows.fnLinksMoreSpec) :=
  OpenClaim.holds_of_wide 3 Try.f3 rfl rfl rfl rfl rfl rfl rfl ⟨rfl, rfl, rfl, rfl, rfl⟩ rfl rfl rfl rfl rfl (by kernel_rfl) Try.func3 (by kernel_rfl)
    (of_decide_eq_true (by kernel_rfl)) (by unfold Func.isWrapper; first | (rw [if_pos (by decide +kernel)]; kernel_rfl) | (rw [if_neg (by decide +kernel)]; exact ⟨rfl, rfl⟩))
    (fun os started H enc _ => lifted os started H enc)

theorem proved : Rows.FnLinksMoreSaid := over
end Go.Proofs.Ytlgmamiialfaeaa.fnLinksMore
