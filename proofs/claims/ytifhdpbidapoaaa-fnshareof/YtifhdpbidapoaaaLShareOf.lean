/- FnShareOf: for every code, of the house and the number drawn of it ShareOf is as the model's, -1 or one of so many, and the first if there is one. No condition. -/
import Derived.Test.YtifhdpbidapoaaaRows
import Derived.WalkKit
import Derived.ProofKit
import Derived.OpenShut
import Derived.ShutString
import Derived.ChangeOld
import Derived.Below
import Derived.Test.YtifhdpbidapoaaaHs1
import Derived.Test.YtifhdpbidapoaaaDraw2
namespace Go.Proofs.Ytifhdpbidapoaaa.fnShareOf
open Go.ChangeShapes Go.WideShapes Go.ChangeAt Go.RowKit
open Go.ChangeMaps (open_string shut_string)
set_option linter.unusedVariables false
open Go.Proofs.Ytifhdpbidapoaaa.Hs Go.Proofs.Ytifhdpbidapoaaa.AddrM

theorem share_bd (s : ByteArray) (n : Int) : -1 ≤ shareI s n ∧ shareI s n < max n 1 := by
  unfold shareI
  split
  · next h =>
    have h1 := Int.emod_nonneg ((sumL s.data.toList : Nat) : Int) (b := n) (by omega)
    have h2 := Int.emod_lt_of_pos ((sumL s.data.toList : Nat) : Int) (b := n) (by omega)
    omega
  · omega
theorem share_one (s : ByteArray) (n : Int) (h : 0 ≤ shareI s n) : shareI s 1 = 0 := by
  unfold shareI at h ⊢
  split at h
  · next hh => rw [if_pos ⟨hh.1, by omega, by omega⟩]; omega
  · omega

set_option maxHeartbeats 800000 in
theorem draw_any (a0 : Option Addr) (len0 cap0 : Nat) (z0 : List Int) (w : World) (w0 : Dr.IsRow .u8 w a0 len0 cap0 z0) :
    Calls Try.prog 5 #[.slice a0 len0 cap0] w fun e w' => (∃ (s : ByteArray) (x : Nat), s.size ≤ 16 ∧ x < 5 ∧ e = .returned (.tuple #[.string s, .int .i64 (x : Int)])) ∧ Below w.heap.size w w' := by
  go_enter Try.func5, Try.ntmps5
  go_wp2_with fail
  refine (Dr.open_any a0 len0 cap0 z0 _ w0).mono ?_
  rintro e w1 ⟨rfl, hr, hb1⟩
  have hle := hr.le
  go_wp2_with fail
  refine (Dr.of_lit _ _ _ w1.heap.size 7 _ _ (fun s => decide (s.size ≤ 16)) _ (hr.alloc _) (by omega) (by omega) (Dr.heap_new _ _) rfl (by decide) (by decide) (by decide)).mono ?_
  rintro e w2 ⟨t, rfl, ht, hr2, hg2⟩
  have ht' : t.size ≤ 16 := of_decide_eq_true ht
  clear ht
  go_wp2_with fail
  refine (Dr.pick_any _ _ _ 5 _ hr2 (by omega) (by omega) (by omega)).mono ?_
  rintro e w3 ⟨x, rfl, hx, hr3, hg3⟩
  have hx' : x < 5 := by omega
  go_wp2
  go_ret2
  have b2 := hb1.trans (Dr.grown_below (Dr.grown_trans (Dr.grown_alloc _ _ _) hg2) hb1.size (Nat.le_refl _))
  exact ⟨⟨t, x, ht', hx', rfl⟩, b2.trans (Dr.grown_below hg3 b2.size (Nat.le_refl _))⟩

set_option maxHeartbeats 800000 in
theorem walk (a0 : Option Addr) (len0 cap0 : Nat) (z0 : List Int) (w : World) (w0 : Dr.IsRow .u8 w a0 len0 cap0 z0) :
    Calls Try.prog 3 #[.slice a0 len0 cap0] w fun e w' => e = .returned (.bool true) ∧ Below w.heap.size w w' := by
  by_cases hlong : (1048576 : Int) < len0
  · go_enter Try.func3, Try.ntmps3
    go_wp2
    go_ret
    exact ⟨rfl, Below.refl _ _⟩
  · go_enter Try.func3, Try.ntmps3
    go_wp2_with fail
    refine (draw_any a0 len0 cap0 z0 w w0).mono ?_
    rintro e w1 ⟨⟨s, x, hs, hx, rfl⟩, hb1⟩
    have hsm : s.size ≤ maxLen := by unfold maxLen; omega
    obtain ⟨hb, hbt⟩ := share_bd s x
    have HO : Hid (0 ≤ shareI s x → shareI s 1 = 0) := share_one s x
    go_wp2_with fail
    refine (implShare_any s x _ hsm).mono ?_
    rintro e w2 ⟨rfl, rfl⟩
    have hmax : (if (x : Int) < 1 then 1 else (x : Int)) = max (x : Int) 1 := by split <;> omega
    go_wp2_with fail
    refine (specShare_any s x _ hsm).mono ?_
    rintro e w3 ⟨rfl, rfl⟩
    by_cases hneg : shareI s (x : Int) < 0
    · have hneg' : decide (shareI s (x : Int) < 0) = true := decide_eq_true hneg
      generalize shareI s (x : Int) = y at *
      go_wp2
      go_ret
      exact ⟨rfl, hb1⟩
    · have h10 := HO.out (by omega)
      generalize shareI s (x : Int) = y at *
      go_wp2_with fail
      refine (implShare_any s 1 _ hsm).mono ?_
      rintro e w4 ⟨rfl, rfl⟩
      rw [h10]
      go_wp2
      go_ret
      exact ⟨rfl, hb1⟩

theorem own : ownKnob Try.prog.godebug = none := by kernel_rfl
theorem laidOut : laidOutB Try.prog = true := by kernel_rfl

/-! ### THE ROW's STEP -/
set_option maxRecDepth 100000 in
theorem lifted (os : Os) (started : os.Started) (H : Type) (enc : TypeId × Value → H) :
    ReturnsInHanded {} Try.checked os 3 .any (Rows.fnShareOfSpec.pre6 enc Try.prog Try.f3 Rows.fnShareOfRow.domain false) (Rows.fnShareOfSpec.post enc Try.prog Try.f3 false true false false) := by
  refine returnsInHanded_of_change (C := Try.checked) own started (by kernel_rfl) Try.func3
    (ChangeSpec.witness6 (enc := enc) (C := Try.checked) false ⟨#[], #[.slice none 0 0], []⟩ 8 (by kernel_rfl) (by kernel_rfl) (by kernel_rfl) (by kernel_rfl)) ?_
  intro W base args ds gs before hval0 hW hcnd _
  have hval : ∀ (j : Nat) t v, Try.f3.params[j]? = some t → args[j]? = some v → Value.okWide Try.prog W .any base t v := hval0
  have hW' := hW
  obtain ⟨p, q, hA0, hV, rfl, hfz, hnd⟩ := hW
  have hA : DataW.TrodAll enc Try.prog W 0 (fun _ => true) true Try.f3.params.toList args.toList ds p := hA0
  rw [Try.params3] at hA hval
  obtain ⟨v0, vs0, d0, ds0, p0, q0, hargs, rfl, rfl, h0, r0⟩ := trodAll_cons hA
  obtain ⟨rfl, rfl, rfl⟩ := trodAll_nil r0
  obtain rfl : args = #[v0] := by cases args; simp_all
  obtain ⟨rfl, rfl⟩ := trodVars_none hV
  obtain ⟨a0, len0, cap0, rfl⟩ := okWide_slice Try.underlying22 (hval 0 22 v0 rfl rfl)
  have k0 := h0
  have lt0 : ∀ x ∈ p0, x.block < W.heap.size := by obtain ⟨m, hm⟩ := k0; exact DataW.trod_lt m _ _ _ hm
  obtain ⟨z0, w0⟩ : ∃ zs, Dr.IsRow .u8 W a0 len0 cap0 zs := by
    obtain ⟨fuel, hf⟩ := h0
    rcases open_ints Try.underlying22 Try.underlying5 (by kernel_rfl) hf with ⟨hcs, _⟩ | ⟨x, l, c, zs, hcs, _, hl, hm, hz, _, hcell, hwz⟩
    · simp [Value.cells] at hcs
      obtain ⟨rfl, rfl, rfl⟩ := hcs
      exact ⟨[], .inl ⟨rfl, rfl, rfl, rfl⟩⟩
    · simp [Value.cells] at hcs
      obtain ⟨rfl, rfl, rfl⟩ := hcs
      exact ⟨zs, .inr ⟨_, rfl, hl, hm, by simpa using hz, hcell, hwz⟩⟩
  clear hA0 hval0
  refine (walk a0 len0 cap0 z0 W w0).mono fun e W' ⟨he, bel⟩ => ?_
  subst he
  exact ⟨_, rfl, _, _, _, [], _, [], hW', trodAll_mk1 (shut_bool Try.underlying4 _), (trodAll_cons_mk (Below.trod laidOut (by kernel_rfl) (of_decide_eq_true (by kernel_rfl)) k0 bel lt0) trodAll_mk0), rfl, bel.frame _, fun h => by cases h⟩

theorem over : Rows.fnShareOfRow.holds Try.pinned (OpenSpec.ofChange Rows.fnShareOfSpec) :=
  OpenClaim.holds_of_wide 3 Try.f3 rfl rfl rfl rfl rfl rfl rfl ⟨rfl, rfl, rfl, rfl, rfl⟩ rfl rfl rfl rfl rfl (by kernel_rfl) Try.func3 (by kernel_rfl)
    (of_decide_eq_true (by kernel_rfl)) (by unfold Func.isWrapper; first | (rw [if_pos (by decide +kernel)]; kernel_rfl) | (rw [if_neg (by decide +kernel)]; exact ⟨rfl, rfl⟩))
    (fun os started H enc _ => lifted os started H enc)

theorem proved : Rows.FnShareOfSaid := over
end Go.Proofs.Ytifhdpbidapoaaa.fnShareOf
