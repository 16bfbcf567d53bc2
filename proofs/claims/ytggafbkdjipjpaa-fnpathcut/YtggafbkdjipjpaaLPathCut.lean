/- FnPathCut: for every two codes, PathClean of the parts drawn of the first is PathClean of what it leaves of the first of them, and the rest behind, cut anywhere. No condition. -/
import Derived.Test.YtggafbkdjipjpaaRows
import Derived.WalkKit
import Derived.ProofKit
import Derived.OpenShut
import Derived.ShutString
import Derived.ChangeOld
import Derived.Below
import Derived.Test.YtggafbkdjipjpaaPath1
import Derived.Test.YtggafbkdjipjpaaCmp
import Derived.Test.YtggafbkdjipjpaaDraw3
import Derived.Test.YtggafbkdjipjpaaStep
namespace Go.Proofs.Ytggafbkdjipjpaa.fnPathCut
open Go.ChangeShapes Go.WideShapes Go.ChangeAt Go.RowKit
open Go.ChangeMaps (open_string shut_string)
set_option linter.unusedVariables false
open Go.Proofs.Ytggafbkdjipjpaa.St Go.Proofs.Ytggafbkdjipjpaa.PathM

theorem cut_app {W W1 W2 : World} {o1 : Obj} {v1 v2 : Value} {F D : List ByteArray} {n m : Nat} (h1 : (W.alloc o1).drew.grownBy W1 (Value.slice (some ⟨W.heap.size, 0, none⟩) 0 0).ownBlock) (ho1 : W1.ownsRow W.heap.size 9 1 v1 n ([] ++ cellsS F))
    (h2 : W1.grownBy W2 v1.ownBlock) (ho2 : W2.ownsRow W.heap.size 9 1 v2 m ([] ++ cellsS F ++ cellsS D)) (hn : n = F.length) (hm : m = (F ++ D).length) : ∃ a2 c2, v2 = .slice a2 (F ++ D).length c2 ∧ IsStrs W2 a2 c2 (F ++ D) ∧ Below W.heap.size W W2 := by
  have hO1 : Owns W1 W.heap.size v1 F := Owns.of_row ho1 hn (by simp)
  have hb1 : Below W.heap.size W W1 := Below.grown (((Below.refl _ _).alloc (Nat.le_refl _) _).drew) h1 (by simp) (by intro k hk; simp [Value.ownBlock] at hk; omega)
  have hO2 : Owns W2 W.heap.size v2 (F ++ D) := Owns.of_row ho2 hm (by simp [cellsS])
  obtain ⟨a2, c2, hv, hS⟩ := hO2.strs
  exact ⟨a2, c2, hv, hS, Below.grown hb1 h2 hb1.size (Owns.block hO1)⟩

set_option maxHeartbeats 3200000 in
theorem walk (a0 : Option Addr) (len0 cap0 : Nat) (z0 : List Int) (a1 : Option Addr) (len1 cap1 : Nat) (z1 : List Int) (w : World) (w0 : Dr.IsRow .u8 w a0 len0 cap0 z0) (w1 : Dr.IsRow .u8 w a1 len1 cap1 z1) :
    Calls Try.prog 8 #[.slice a0 len0 cap0, .slice a1 len1 cap1] w fun e w' => e = .returned (.bool true) ∧ Below w.heap.size w w' := by
  by_cases hlong : (1048576 : Int) < len0
  · go_enter Try.func8, Try.ntmps8
    go_wp2
    go_ret
    exact ⟨rfl, Below.refl _ _⟩
  by_cases hlong1 : (1048576 : Int) < len1
  · go_enter Try.func8, Try.ntmps8
    go_wp2
    go_ret
    exact ⟨rfl, Below.refl _ _⟩
  clear w1
  obtain ⟨i0, hi, hz0, hz1, hz2⟩ := info_parts Try.infoS
  go_enter Try.func8, Try.ntmps8
  go_wp2_with fail
  refine (Dr.drawPath_any a0 len0 cap0 z0 w w0).mono ?_
  rintro e w1 ⟨g, c, L, rfl, hO1, hL, hb1⟩
  obtain ⟨_, _, e1, hS1⟩ := hO1.strs
  injection e1 with e2 _ e3
  subst e2; subst e3
  have HL : Hid (IsStrs w1 (some ⟨g, 0, none⟩) c L) := hS1
  clear hO1 hS1 w0
  have hlen := clean_len L
  go_wp2_with fail
  refine (implPath_any _ _ L _ HL.out (by omega)).mono ?_
  rintro e w2 ⟨vx, rfl, hO2, hb2⟩
  obtain ⟨ax, cx, rfl, hSx⟩ := hO2.strs
  have HX2 : Hid (IsStrs w2 ax cx (cleanL L)) := hSx
  clear hO2 hSx
  go_wp2_with fail
  refine (specPath_any _ _ L _ (HL.out.below hb2) (by omega)).mono ?_
  rintro e w3 ⟨vy, rfl, hO3, hb3⟩
  obtain ⟨ay, cy, rfl, hSy⟩ := hO3.strs
  have HY3 : Hid (IsStrs w3 ay cy (cleanL L)) := hSy
  have HX3 : Hid (IsStrs w3 ax cx (cleanL L)) := HX2.out.below hb3
  have HL3 : Hid (IsStrs w3 (some ⟨g, 0, none⟩) c L) := (HL.out.below hb2).below hb3
  have hb13 : Below w.heap.size w w3 := hb1.trans ((hb2.mono hb1.size).trans (hb3.mono (Nat.le_trans hb1.size hb2.size)))
  clear hO3 hSy HX2 HL hb1 hb2 hb3
  go_wp2_with fail
  refine (texts_any _ _ _ _ _ _ _ HX3.out HY3.out (by omega) (by omega)).mono ?_
  rintro e w4 ⟨rfl, n, rfl⟩
  rw [decide_eq_true (rfl : cleanL L = cleanL L)]
  have HX4 : Hid (IsStrs (w3.drewN n) ax cx (cleanL L)) := HX3.out.keep fun _ _ => rfl
  have HL4 : Hid (IsStrs (w3.drewN n) (some ⟨g, 0, none⟩) c L) := HL3.out.keep fun _ _ => rfl
  have hb14 : Below w.heap.size w (w3.drewN n) := below_drewN hb13 n
  clear HX3 HY3 HL3 hb13
  generalize w3.drewN n = W at *
  -- the cut
  obtain ⟨k, hk⟩ : ∃ k : Nat, (len1 : Int) % ((L.length : Int) + 1) = (k : Int) := ⟨((len1 : Int) % ((L.length : Int) + 1)).toNat, (Int.toNat_of_nonneg (Int.emod_nonneg _ (by omega))).symm⟩
  have hkL : k ≤ L.length := by have := Int.emod_lt_of_pos (len1 : Int) (show (0 : Int) < (L.length : Int) + 1 by omega); omega
  have hkI : (k : Int) ≤ (L.length : Int) := by omega
  have hcap := HL4.out.1
  have hcm := HL4.out.2.1
  unfold maxLen at hcm
  go_wp2_with fail
  have hlk : (L.take k).length = k := by simp; omega
  refine (implPath_n _ k _ (L.take k) _ hlk (HL4.out.cut k) (by omega)).mono ?_
  rintro e w5 ⟨vf, rfl, hO5, hb5⟩
  have hlf := clean_len (L.take k)
  rw [hlk] at hlf
  obtain ⟨af, cf, rfl, hSf⟩ := hO5.strs
  have HF5 : Hid (IsStrs w5 af cf (cleanL (L.take k))) := hSf
  have HL5 : Hid (IsStrs w5 (some ⟨g, 0, none⟩) c L) := HL4.out.below hb5
  have HX5 : Hid (IsStrs w5 ax cx (cleanL L)) := HX4.out.below hb5
  have hb15 : Below w.heap.size w w5 := hb14.trans (hb5.mono hb14.size)
  have HC : Hid (cleanL (cleanL (L.take k) ++ L.drop k) = cleanL L) := by show _ = _; rw [clean_cut, List.take_append_drop]
  clear hO5 hSf HL4 HX4 hb14 hb5 hlk
  generalize cleanL (L.take k) = F at *
  have hk0 : (0 : Int) ≤ (k : Int) := by omega
  have HD5 : Hid (IsStrs w5 (if c = k then some ⟨g, 0, none⟩ else some ⟨g, k, none⟩) (c - k) (L.drop k)) := by
    show IsStrs _ _ _ _
    by_cases hck : c = k
    · rw [if_pos hck]
      have : L.drop k = [] := List.drop_eq_nil_of_le (by omega)
      rw [this]
      exact ⟨by simp, by unfold maxLen; omega, (fun e => by cases e), fun h => absurd rfl h⟩
    · rw [if_neg hck]
      have := HL5.out.from k hkL
      simpa using this
  go_wp2_with fail
  go_region_law (first
      | (refine step_app rfl (.tmp 36) (.tmp 37) 29 rfl w5.heap.size 9 i0 (.string ⟨#[]⟩) 1 16 Try.underlying29 hi hz0 hz1 hz2 rfl (by decide) (.slice (some ⟨w5.heap.size, 0, none⟩) 0 0) 0 [] (by simp [Act.eval]) (World.ownsRow.drew (Owns.empty w5 w5.heap.size (Nat.le_refl _))) af F.length cf (cellsS F) (by simp [Act.eval]) HF5.out.none (by simp [cellsS]) (by exact HF5.out.newsAny (alloc_keep _ _)) (cellsS_one F) (by unfold maxLen; omega) (by omega) (by simp) ?_; intro v1 W1 ho1 hg1)
      | (refine step_app rfl (.tmp 38) (.tmp 41) 29 rfl w5.heap.size 9 i0 (.string ⟨#[]⟩) 1 16 Try.underlying29 hi hz0 hz1 hz2 rfl (by decide) v1 _ _ (by simp [Act.eval]) ho1 (if c = k then some ⟨g, 0, none⟩ else some ⟨g, k, none⟩) (L.length - k) (c - k) (cellsS (L.drop k)) (by simp [Act.eval]) (by intro e; split at e <;> cases e) (by simp [cellsS]) (by exact HD5.out.newsAny (fun q hq => by rw [hg1.block q (by simp; omega) (by simp [Value.ownBlock]; omega)]; exact alloc_keep _ _ q hq)) (cellsS_one _) (by unfold maxLen; omega) (by omega) (by have := hg1.size; simp at this ⊢; omega) ?_; intro v2 W2 ho2 hg2)
      | (go_simp; go_at_call 18; obtain ⟨a2, c2, hv2, hS2, hb2⟩ := cut_app hg1 ho1 hg2 ho2 (by simp) (by simp); subst hv2; refine (implPath_any _ _ (F ++ L.drop k) _ hS2 (by simp; omega)).mono ?_; rintro e w6 ⟨vz, rfl, hO6, hb6⟩; obtain ⟨az, cz, rfl, hSz⟩ := hO6.strs; rw [HC.out] at hSz; clear hO6)
      | (go_simp; go_at_call 19; refine (texts_n _ _ _ (cleanL L) _ _ _ (cleanL L) _ (by rw [HC.out]) rfl hSz ((HX5.out.below hb2).below hb6) (by rw [HC.out]; omega) (by omega)).mono ?_; rintro e w7 ⟨rfl, n7, rfl⟩)
      | fail)
  all_goals
    go_wp2
    all_goals
      go_ret
      exact ⟨by simp, below_drewN ((hb15.trans (hb2.mono hb15.size)).trans (hb6.mono (Nat.le_trans hb15.size hb2.size))) _⟩

theorem own : ownKnob Try.prog.godebug = none := by kernel_rfl
theorem laidOut : laidOutB Try.prog = true := by kernel_rfl

/-! ### THE ROW's STEP -/
set_option maxRecDepth 100000 in
theorem lifted (os : Os) (started : os.Started) (H : Type) (enc : TypeId × Value → H) :
    ReturnsInHanded {} Try.checked os 8 .any (Rows.fnPathCutSpec.pre6 enc Try.prog Try.f8 Rows.fnPathCutRow.domain false) (Rows.fnPathCutSpec.post enc Try.prog Try.f8 false true false false) := by
  refine returnsInHanded_of_change (C := Try.checked) own started (by kernel_rfl) Try.func8
    (ChangeSpec.witness6 (enc := enc) (C := Try.checked) false ⟨#[], #[.slice none 0 0, .slice none 0 0], []⟩ 8 (by kernel_rfl) (by kernel_rfl) (by kernel_rfl) (by kernel_rfl)) ?_
  intro W base args ds gs before hval0 hW hcnd _
  have hval : ∀ (j : Nat) t v, Try.f8.params[j]? = some t → args[j]? = some v → Value.okWide Try.prog W .any base t v := hval0
  have hW' := hW
  obtain ⟨p, q, hA0, hV, rfl, hfz, hnd⟩ := hW
  have hA : DataW.TrodAll enc Try.prog W 0 (fun _ => true) true Try.f8.params.toList args.toList ds p := hA0
  rw [Try.params8] at hA hval
  obtain ⟨v0, vs0, d0, ds0, p0, q0, hargs, rfl, rfl, h0, r0⟩ := trodAll_cons hA
  obtain ⟨v1, vs1, d1, ds1, p1, q1, rfl, rfl, rfl, h1, r1⟩ := trodAll_cons r0
  obtain ⟨rfl, rfl, rfl⟩ := trodAll_nil r1
  obtain rfl : args = #[v0, v1] := by cases args; simp_all
  obtain ⟨rfl, rfl⟩ := trodVars_none hV
  obtain ⟨a0, len0, cap0, rfl⟩ := okWide_slice Try.underlying22 (hval 0 22 v0 rfl rfl)
  have k0 := h0
  have lt0 : ∀ x ∈ p0, x.block < W.heap.size := by obtain ⟨m, hm⟩ := k0; exact DataW.trod_lt m _ _ _ hm
  obtain ⟨z0, w0⟩ : ∃ zs, Dr.IsRow .u8 W a0 len0 cap0 zs := by
    obtain ⟨fuel, hf⟩ := h0
    rcases open_ints Try.underlying22 Try.underlying5 (by kernel_rfl) hf with ⟨hcs, _⟩ | ⟨x, l, c, zs, hcs, _, hl, hm, hz, _, hcell, hwz⟩
    · simp [Value.cells] at hcs
      obtain ⟨rfl, rfl, rfl⟩ := hcs
      exact ⟨[], .inl ⟨rfl, rfl, rfl, rfl⟩⟩
    · simp [Value.cells] at hcs
      obtain ⟨rfl, rfl, rfl⟩ := hcs
      exact ⟨zs, .inr ⟨_, rfl, hl, hm, by simpa using hz, hcell, hwz⟩⟩
  obtain ⟨a1, len1, cap1, rfl⟩ := okWide_slice Try.underlying22 (hval 1 22 v1 rfl rfl)
  have k1 := h1
  have lt1 : ∀ x ∈ p1, x.block < W.heap.size := by obtain ⟨m, hm⟩ := k1; exact DataW.trod_lt m _ _ _ hm
  obtain ⟨z1, w1⟩ : ∃ zs, Dr.IsRow .u8 W a1 len1 cap1 zs := by
    obtain ⟨fuel, hf⟩ := h1
    rcases open_ints Try.underlying22 Try.underlying5 (by kernel_rfl) hf with ⟨hcs, _⟩ | ⟨x, l, c, zs, hcs, _, hl, hm, hz, _, hcell, hwz⟩
    · simp [Value.cells] at hcs
      obtain ⟨rfl, rfl, rfl⟩ := hcs
      exact ⟨[], .inl ⟨rfl, rfl, rfl, rfl⟩⟩
    · simp [Value.cells] at hcs
      obtain ⟨rfl, rfl, rfl⟩ := hcs
      exact ⟨zs, .inr ⟨_, rfl, hl, hm, by simpa using hz, hcell, hwz⟩⟩
  clear hA0 hval0
  refine (walk a0 len0 cap0 z0 a1 len1 cap1 z1 W w0 w1).mono fun e W' ⟨he, bel⟩ => ?_
  subst he
  exact ⟨_, rfl, _, _, _, [], _, [], hW', trodAll_mk1 (shut_bool Try.underlying4 _), (trodAll_cons_mk (Below.trod laidOut (by kernel_rfl) (of_decide_eq_true (by kernel_rfl)) k0 bel lt0) (trodAll_cons_mk (Below.trod laidOut (by kernel_rfl) (of_decide_eq_true (by kernel_rfl)) k1 bel lt1) trodAll_mk0)), rfl, bel.frame _, fun h => by cases h⟩

theorem over : Rows.fnPathCutRow.holds Try.pinned (OpenSpec.ofChange Rows.fnPathCutSpec) :=
  OpenClaim.holds_of_wide 8 Try.f8 rfl rfl rfl rfl rfl rfl rfl ⟨rfl, rfl, rfl, rfl, rfl⟩ rfl rfl rfl rfl rfl (by kernel_rfl) Try.func8 (by kernel_rfl)
    (of_decide_eq_true (by kernel_rfl)) (by unfold Func.isWrapper; first | (rw [if_pos (by decide +kernel)]; kernel_rfl) | (rw [if_neg (by decide +kernel)]; exact ⟨rfl, rfl⟩))
    (fun os started H enc _ => lifted os started H enc)

theorem proved : Rows.FnPathCutSaid := over
end Go.Proofs.Ytggafbkdjipjpaa.fnPathCut
