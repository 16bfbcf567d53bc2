/- FnLinksNone: for every code, the page drawn of it has no more links than ends of marks, and the same as the model's; of an empty page there are none. No condition. -/
import Derived.Test.YtlgmamiialfaeaaRows
import Derived.WalkKit
import Derived.ProofKit
import Derived.OpenShut
import Derived.ShutString
import Derived.ChangeOld
import Derived.Below
import Derived.Test.YtlgmamiialfaeaaPage4
import Derived.Test.YtlgmamiialfaeaaPage5
namespace Go.Proofs.Ytlgmamiialfaeaa.fnLinksNone
open Go.ChangeShapes Go.WideShapes Go.ChangeAt Go.RowKit
open Go.ChangeMaps (open_string shut_string)
set_option linter.unusedVariables false
open Go.Proofs.Ytlgmamiialfaeaa.EscM Go.Proofs.Ytlgmamiialfaeaa.EscL Go.Proofs.Ytlgmamiialfaeaa.ReadM Go.Proofs.Ytlgmamiialfaeaa.St Go.Proofs.Ytlgmamiialfaeaa.PgM Go.Proofs.Ytlgmamiialfaeaa.Dr Go.Proofs.Ytlgmamiialfaeaa.Pg

theorem count_step (s : ByteArray) (k : Nat) (h : k < s.size) : ((s.data.toList.take (k + 1)).filter fun b => decide ((b.toNat : Int) = 62)).length = ((s.data.toList.take k).filter fun b => decide ((b.toNat : Int) = 62)).length + if ((s[k]'h).toNat : Int) = 62 then 1 else 0 := by
  have hl : k < s.data.toList.length := by simpa using h
  rw [List.take_succ_eq_append_getElem hl, List.filter_append, List.length_append]
  congr 1
  have e : s.data.toList[k] = s[k]'h := rfl
  rw [e]
  by_cases hb : ((s[k]'h).toNat : Int) = 62
  · rw [if_pos hb, List.filter_cons_of_pos (by simpa using hb)]; rfl
  · rw [if_neg hb, List.filter_cons_of_neg (by simpa using hb)]; rfl

set_option maxRecDepth 100000 in
set_option maxHeartbeats 6400000 in
theorem walk (a0 : Option Addr) (len0 cap0 : Nat) (z0 : List Int) (w : World) (w0 : Dr.IsRow .u8 w a0 len0 cap0 z0) :
    Calls Try.prog 5 #[.slice a0 len0 cap0] w fun e w' => e = .returned (.bool true) ∧ Below w.heap.size w w' := by
  obtain ⟨i0, hi, hz0, hz1, hz2⟩ := info_parts Try.infoS
  by_cases hlong : (1048576 : Int) < len0
  · go_enter Try.func5, Try.ntmps5
    go_wp2
    go_ret
    exact ⟨rfl, Below.refl _ _⟩
  · go_enter Try.func5, Try.ntmps5
    go_wp2_with fail
    refine (Dr.drawLinks_any a0 len0 cap0 z0 w w0).mono ?_
    rintro e w1 ⟨s, rfl, hs6, hb1⟩
    have HB1 : Hid (Below w.heap.size w w1) := hb1
    have hsm : s.size ≤ maxLen := by unfold maxLen; omega
    have HSM : Hid _ := hsm
    have hln := links_len s
    clear hb1 hsm
    go_wp2_with fail
    refine (implLinks_any s _ HSM.out).mono ?_
    rintro e w2 ⟨v2, rfl, hO2, hb2⟩
    obtain ⟨a2, c2, rfl, hS2⟩ := hO2.strs
    have HB2 : Hid (Below w.heap.size w w2) := HB1.out.trans (hb2.mono HB1.out.size)
    have HS2 : Hid (IsStrs w2 a2 c2 (linksF s)) := hS2
    clear hO2 hb2 hS2 HB1
    go_wp2_with fail
    refine (specLinks_any s _ (by omega)).mono ?_
    rintro e w3 ⟨v3, rfl, hO3, hb3⟩
    obtain ⟨a3, c3, rfl, hS3⟩ := hO3.strs
    have HB3 : Hid (Below w.heap.size w w3) := HB2.out.trans (hb3.mono HB2.out.size)
    have HS3 : Hid (IsStrs w3 a2 c2 (linksF s)) := HS2.out.below hb3
    have HT3 : Hid (IsStrs w3 a3 c3 (linksF s)) := hS3
    clear hO3 hb3 hS3 HB2 HS2
    go_wp2_with fail
    refine (texts_any _ _ (linksF s) _ _ (linksF s) _ HS3.out HT3.out (by omega) (by omega)).mono ?_
    rintro e w4 ⟨rfl, n4, hw4⟩
    rw [decide_eq_true rfl]
    have HB4 : Hid (Below w.heap.size w w4) := by subst hw4; exact below_drewN HB3.out n4
    have HS4 : Hid (IsStrs w4 a2 c2 (linksF s)) := by subst hw4; exact HS3.out.drewN n4
    clear hw4 HB3 HS3 HT3
    have HC : Hid _ := links_count s
    go_wp2
    go_loop [5, 6] (fun m i => ∃ k c : Nat, k ≤ s.size ∧ i = .int .i64 (k : Int) ∧ m = .int .i64 (c : Int) ∧ c ≤ k ∧ Hid (((s.data.toList.take k).filter fun b => decide ((b.toNat : Int) = 62)).length = c)) (fun _ i => s.size - (intOf i).toNat)
    case atStart => exact ⟨0, 0, Nat.zero_le _, rfl, rfl, Nat.le_refl _, rfl⟩
    case round =>
      obtain ⟨k, c, hk, rfl, rfl, hck, HN⟩ := hrel
      by_cases hlt : k < s.size
      · have HS : Hid _ := count_step s k hlt
        by_cases hb : ((s[k]'hlt).toNat : Int) = 62
        · rw [if_pos hb, HN.out] at HS
          go_wp2
          go_round
          case rel => exact ⟨k + 1, c + 1, by omega, by go_num, by go_num, by omega, HS.out⟩
          case measure => simp [intOf]; omega
        · rw [if_neg hb, HN.out] at HS
          have eb : (((s[k]'hlt).toNat : Int) == 62) = false := by simp; omega
          go_wp2
          go_round
          case rel => exact ⟨k + 1, c, by omega, by go_num, rfl, by omega, HS.out⟩
          case measure => simp [intOf]; omega
      · have hle : (linksF s).length ≤ c := by
          have h1 := HC.out
          have h2 := HN.out
          rw [List.take_of_length_le (by simp; omega)] at h2
          omega
        have hle2 : ((linksF s).length : Int) ≤ (c : Int) := by omega
        go_wp2_with fail
        refine (implLinks_any ⟨#[]⟩ _ (by decide)).mono ?_
        rintro e w5 ⟨v5, rfl, hO5, hb5⟩
        rw [links_nothing] at hO5
        obtain ⟨a5, c5, rfl, hS5⟩ := hO5.strs
        have HB5 : Hid (Below w.heap.size w w5) := HB4.out.trans (hb5.mono HB4.out.size)
        clear hO5 hb5 hS5
        go_wp2
        go_ret
        exact ⟨rfl, HB5.out⟩

theorem own : ownKnob Try.prog.godebug = none := by kernel_rfl
theorem laidOut : laidOutB Try.prog = true := by kernel_rfl

/-! ### THE ROW's STEP -/
set_option maxRecDepth 100000 in
theorem lifted (os : Os) (started : os.Started) (H : Type) (enc : TypeId × Value → H) :
    ReturnsInHanded {} Try.checked os 5 .any (Rows.fnLinksNoneSpec.pre6 enc Try.prog Try.f5 Rows.fnLinksNoneRow.domain false) (Rows.fnLinksNoneSpec.post enc Try.prog Try.f5 false true false false) := by
  refine returnsInHanded_of_change (C := Try.checked) own started (by kernel_rfl) Try.func5
    (ChangeSpec.witness6 (enc := enc) (C := Try.checked) false ⟨#[], #[.slice none 0 0], []⟩ 8 (by kernel_rfl) (by kernel_rfl) (by kernel_rfl) (by kernel_rfl)) ?_
  intro W base args ds gs before hval0 hW hcnd _
  have hval : ∀ (j : Nat) t v, Try.f5.params[j]? = some t → args[j]? = some v → Value.okWide Try.prog W .any base t v := hval0
  have hW' := hW
  obtain ⟨p, q, hA0, hV, rfl, hfz, hnd⟩ := hW
  have hA : DataW.TrodAll enc Try.prog W 0 (fun _ => true) true Try.f5.params.toList args.toList ds p := hA0
  rw [Try.params5] at hA hval
  obtain ⟨v0, vs0, d0, ds0, p0, q0, hargs, rfl, rfl, h0, r0⟩ := trodAll_cons hA
  obtain ⟨rfl, rfl, rfl⟩ := trodAll_nil r0
  obtain rfl : args = #[v0] := by cases args; simp_all
  obtain ⟨rfl, rfl⟩ := trodVars_none hV
  obtain ⟨a0, len0, cap0, rfl⟩ := okWide_slice Try.underlying22 (hval 0 22 v0 rfl rfl)
  have k0 := h0
  have lt0 : ∀ x ∈ p0, x.block < W.heap.size := by obtain ⟨m, hm⟩ := k0; exact DataW.trod_lt m _ _ _ hm
  obtain ⟨z0, w0⟩ : ∃ zs, Dr.IsRow .u8 W a0 len0 cap0 zs := by
    obtain ⟨fuel, hf⟩ := h0
    rcases open_ints Try.underlying22 Try.underlying5 (by kernel_rfl) hf with ⟨hcs, _⟩ | ⟨x, l, c, zs, hcs, _, hl, hm, hz, _, hcell, hwz⟩
    · simp [Value.cells] at hcs
      obtain ⟨rfl, rfl, rfl⟩ := hcs
      exact ⟨[], .inl ⟨rfl, rfl, rfl, rfl⟩⟩
    · simp [Value.cells] at hcs
      obtain ⟨rfl, rfl, rfl⟩ := hcs
      exact ⟨zs, .inr ⟨_, rfl, hl, hm, by simpa using hz, hcell, hwz⟩⟩
  clear hA0 hval0
  refine (walk a0 len0 cap0 z0 W w0).mono fun e W' ⟨he, bel⟩ => ?_
  subst he
  exact ⟨_, rfl, _, _, _, [], _, [], hW', trodAll_mk1 (shut_bool Try.underlying4 _), (trodAll_cons_mk (Below.trod laidOut (by kernel_rfl) (of_decide_eq_true (by kernel_rfl)) k0 bel lt0) trodAll_mk0), rfl, bel.frame _, fun h => by cases h⟩

theorem over : Rows.fnLinksNoneRow.holds Try.pinned (OpenSpec.ofChange Rows.fnLinksNoneSpec) :=
  OpenClaim.holds_of_wide 5 Try.f5 rfl rfl rfl rfl rfl rfl rfl ⟨rfl, rfl, rfl, rfl, rfl⟩ rfl rfl rfl rfl rfl (by kernel_rfl) Try.func5 (by kernel_rfl)
    (of_decide_eq_true (by kernel_rfl)) (by unfold Func.isWrapper; first | (rw [if_pos (by decide +kernel)]; kernel_rfl) | (rw [if_neg (by decide +kernel)]; exact ⟨rfl, rfl⟩))
    (fun os started H enc _ => lifted os started H enc)

theorem proved : Rows.FnLinksNoneSaid := over
end Go.Proofs.Ytlgmamiialfaeaa.fnLinksNone
