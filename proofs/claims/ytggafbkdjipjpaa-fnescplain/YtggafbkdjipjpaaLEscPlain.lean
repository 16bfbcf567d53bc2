/- FnEscPlain: for every code, what EscNorm writes of the text drawn of it are bytes that stand for themselves, and signs. No condition. -/
import Derived.Test.YtggafbkdjipjpaaRows
import Derived.WalkKit
import Derived.ProofKit
import Derived.OpenShut
import Derived.ShutString
import Derived.ChangeOld
import Derived.Below
import Derived.Test.YtggafbkdjipjpaaEscSpec
import Derived.Test.YtggafbkdjipjpaaDraw2
import Derived.Test.YtggafbkdjipjpaaEscLaws
namespace Go.Proofs.Ytggafbkdjipjpaa.fnEscPlain
open Go.ChangeShapes Go.WideShapes Go.ChangeAt Go.RowKit
open Go.ChangeMaps (open_string shut_string)
set_option linter.unusedVariables false
open Go.Proofs.Ytggafbkdjipjpaa.EscL Go.Proofs.Ytggafbkdjipjpaa.EscM

theorem at_step (x : ByteArray) (k : Nat) (hk : k < x.size) (h : escN (x.data.toList.drop k) = some (x.data.toList.drop k)) :
    (((x[k]'hk).toNat : Int) ≠ 37 ∧ plainZ (x[k]'hk).toNat = true ∧ escN (x.data.toList.drop (k + 1)) = some (x.data.toList.drop (k + 1))) ∨
    (((x[k]'hk).toNat : Int) = 37 ∧ k + 2 < x.size ∧ escN (x.data.toList.drop (k + 3)) = some (x.data.toList.drop (k + 3))) := by
  rcases written_step h _ _ (drop_cons x k hk) with ⟨h1, h2, h3⟩ | ⟨h1, a, b, r', h2, h3⟩
  · exact Or.inl ⟨ne37.1 h1, h2, h3⟩
  · refine Or.inr ⟨by rw [h1]; rfl, ?_, ?_⟩
    · have := congrArg List.length h2
      simp at this; omega
    · have : x.data.toList.drop (k + 3) = r' := by
        have e : x.data.toList.drop (k + 3) = (x.data.toList.drop (k + 1)).drop 2 := by rw [List.drop_drop]
        rw [e, h2]; rfl
      rw [this]; exact h3

set_option maxHeartbeats 1600000 in
theorem walk (a0 : Option Addr) (len0 cap0 : Nat) (z0 : List Int) (w : World) (w0 : Dr.IsRow .u8 w a0 len0 cap0 z0) :
    Calls Try.prog 4 #[.slice a0 len0 cap0] w fun e w' => e = .returned (.bool true) ∧ Below w.heap.size w w' := by
  by_cases hlong : (1048576 : Int) < len0
  · go_enter Try.func4, Try.ntmps4
    go_wp2
    go_ret
    exact ⟨rfl, Below.refl _ _⟩
  · go_enter Try.func4, Try.ntmps4
    go_wp2_with fail
    refine (Dr.drawEsc_any a0 len0 cap0 z0 w w0).mono ?_
    rintro e w1 ⟨s, rfl, hs, hb1⟩
    have hsm : s.size ≤ maxLen := by unfold maxLen; omega
    go_wp2_with fail
    refine (specEsc_any s _ hsm).mono ?_
    rintro e w2 ⟨rfl, hb2⟩
    go_wp2_with fail
    refine (implEsc_any s _ hsm).mono ?_
    rintro e w3 ⟨rfl, hb3⟩
    have hb13 : Below w.heap.size w w3 := hb1.trans ((hb2.mono hb1.size).trans (hb3.mono (Nat.le_trans hb1.size hb2.size)))
    have hl180 := escS_size s
    cases hok : escB s with
    | false =>
      go_wp2
      go_ret
      exact ⟨rfl, hb13⟩
    | true =>
      have HW : Hid (escN (escS s).data.toList = some (escS s).data.toList) := by
        obtain ⟨_, x, hx, he⟩ := escB_true hok
        show _ = _
        rw [he]; exact escN_twice hx
      generalize escS s = x at *
      go_wp2
      go_loop [8] (fun i => ∃ k : Nat, k ≤ x.size ∧ i = .int .i64 (k : Int) ∧ Hid (escN (x.data.toList.drop k) = some (x.data.toList.drop k))) (fun i => x.size - (intOf i).toNat)
      case atStart => exact ⟨0, Nat.zero_le _, rfl, HW.out⟩
      case round =>
        obtain ⟨k, hk, rfl, HK⟩ := hrel
        by_cases hlt : k < x.size
        · rcases at_step x k hlt HK.out with ⟨h37, hp, hn⟩ | ⟨h37, h2, hn⟩
          · have HN : Hid _ := hn
            have hp' := of_decide_eq_true hp
            clear hn hp
            have h37b : ((((x[k]'hlt).toNat : Int)) == 37) = false := by simpa using h37
            clear h37
            rcases hp' with ⟨p1, p2⟩ | ⟨p1, p2⟩ | p1 | p1
            · go_wp2
              go_round
              case rel => exact ⟨k + 1, by omega, by go_num, HN.out⟩
              case measure => simp [intOf]; omega
            · have p3 : ¬ (97 : Int) ≤ (x[k]'hlt).toNat := by omega
              go_wp2
              go_round
              case rel => exact ⟨k + 1, by omega, by go_num, HN.out⟩
              case measure => simp [intOf]; omega
            · go_wp2
              go_round
              case rel => exact ⟨k + 1, by omega, by go_num, HN.out⟩
              case measure => simp [intOf]; omega
            · go_wp2
              go_round
              case rel => exact ⟨k + 1, by omega, by go_num, HN.out⟩
              case measure => simp [intOf]; omega
          · have HN : Hid _ := hn
            clear hn
            go_wp2
            go_round
            case rel => exact ⟨k + 3, by omega, by go_num, HN.out⟩
            case measure => simp [intOf]; omega
        · go_wp2
          go_ret
          exact ⟨rfl, hb13⟩

theorem own : ownKnob Try.prog.godebug = none := by kernel_rfl
theorem laidOut : laidOutB Try.prog = true := by kernel_rfl

/-! ### THE ROW's STEP -/
set_option maxRecDepth 100000 in
theorem lifted (os : Os) (started : os.Started) (H : Type) (enc : TypeId × Value → H) :
    ReturnsInHanded {} Try.checked os 4 .any (Rows.fnEscPlainSpec.pre6 enc Try.prog Try.f4 Rows.fnEscPlainRow.domain false) (Rows.fnEscPlainSpec.post enc Try.prog Try.f4 false true false false) := by
  refine returnsInHanded_of_change (C := Try.checked) own started (by kernel_rfl) Try.func4
    (ChangeSpec.witness6 (enc := enc) (C := Try.checked) false ⟨#[], #[.slice none 0 0], []⟩ 8 (by kernel_rfl) (by kernel_rfl) (by kernel_rfl) (by kernel_rfl)) ?_
  intro W base args ds gs before hval0 hW hcnd _
  have hval : ∀ (j : Nat) t v, Try.f4.params[j]? = some t → args[j]? = some v → Value.okWide Try.prog W .any base t v := hval0
  have hW' := hW
  obtain ⟨p, q, hA0, hV, rfl, hfz, hnd⟩ := hW
  have hA : DataW.TrodAll enc Try.prog W 0 (fun _ => true) true Try.f4.params.toList args.toList ds p := hA0
  rw [Try.params4] at hA hval
  obtain ⟨v0, vs0, d0, ds0, p0, q0, hargs, rfl, rfl, h0, r0⟩ := trodAll_cons hA
  obtain ⟨rfl, rfl, rfl⟩ := trodAll_nil r0
  obtain rfl : args = #[v0] := by cases args; simp_all
  obtain ⟨rfl, rfl⟩ := trodVars_none hV
  obtain ⟨a0, len0, cap0, rfl⟩ := okWide_slice Try.underlying22 (hval 0 22 v0 rfl rfl)
  have k0 := h0
  have lt0 : ∀ x ∈ p0, x.block < W.heap.size := by obtain ⟨m, hm⟩ := k0; exact DataW.trod_lt m _ _ _ hm
  obtain ⟨z0, w0⟩ : ∃ zs, Dr.IsRow .u8 W a0 len0 cap0 zs := by
    obtain ⟨fuel, hf⟩ := h0
    rcases open_ints Try.underlying22 Try.underlying5 (by kernel_rfl) hf with ⟨hcs, _⟩ | ⟨x, l, c, zs, hcs, _, hl, hm, hz, _, hcell, hwz⟩
    · simp [Value.cells] at hcs
      obtain ⟨rfl, rfl, rfl⟩ := hcs
      exact ⟨[], .inl ⟨rfl, rfl, rfl, rfl⟩⟩
    · simp [Value.cells] at hcs
      obtain ⟨rfl, rfl, rfl⟩ := hcs
      exact ⟨zs, .inr ⟨_, rfl, hl, hm, by simpa using hz, hcell, hwz⟩⟩
  clear hA0 hval0
  refine (walk a0 len0 cap0 z0 W w0).mono fun e W' ⟨he, bel⟩ => ?_
  subst he
  exact ⟨_, rfl, _, _, _, [], _, [], hW', trodAll_mk1 (shut_bool Try.underlying4 _), (trodAll_cons_mk (Below.trod laidOut (by kernel_rfl) (of_decide_eq_true (by kernel_rfl)) k0 bel lt0) trodAll_mk0), rfl, bel.frame _, fun h => by cases h⟩

theorem over : Rows.fnEscPlainRow.holds Try.pinned (OpenSpec.ofChange Rows.fnEscPlainSpec) :=
  OpenClaim.holds_of_wide 4 Try.f4 rfl rfl rfl rfl rfl rfl rfl ⟨rfl, rfl, rfl, rfl, rfl⟩ rfl rfl rfl rfl rfl (by kernel_rfl) Try.func4 (by kernel_rfl)
    (of_decide_eq_true (by kernel_rfl)) (by unfold Func.isWrapper; first | (rw [if_pos (by decide +kernel)]; kernel_rfl) | (rw [if_neg (by decide +kernel)]; exact ⟨rfl, rfl⟩))
    (fun os started H enc _ => lifted os started H enc)

theorem proved : Rows.FnEscPlainSaid := over
end Go.Proofs.Ytggafbkdjipjpaa.fnEscPlain
