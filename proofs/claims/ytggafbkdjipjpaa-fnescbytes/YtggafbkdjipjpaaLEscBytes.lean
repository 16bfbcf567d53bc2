/- FnEscBytes: for every code, what EscNorm writes of the text drawn of it means as many bytes, and is at most three times as long. No condition. -/
import Derived.Test.YtggafbkdjipjpaaRows
import Derived.WalkKit
import Derived.ProofKit
import Derived.OpenShut
import Derived.ShutString
import Derived.ChangeOld
import Derived.Below
import Derived.Test.YtggafbkdjipjpaaEscSpec
import Derived.Test.YtggafbkdjipjpaaDraw2
import Derived.Test.YtggafbkdjipjpaaEscLaws
namespace Go.Proofs.Ytggafbkdjipjpaa.fnEscBytes
open Go.ChangeShapes Go.WideShapes Go.ChangeAt Go.RowKit
open Go.ChangeMaps (open_string shut_string)
set_option linter.unusedVariables false
open Go.Proofs.Ytggafbkdjipjpaa.EscL Go.Proofs.Ytggafbkdjipjpaa.EscM

theorem drop_bytes (x : ByteArray) (k : Nat) (hk : k < x.size) : bytesN (x.data.toList.drop k) = if ((x[k]'hk).toNat : Int) = 37 then 1 + bytesN (x.data.toList.drop (k + 3)) else 1 + bytesN (x.data.toList.drop (k + 1)) := by
  rw [drop_cons x k hk, bytesN_cons]
  by_cases h : ((x[k]'hk).toNat : Int) = 37
  · have h37 : x[k]'hk = 37 := UInt8.toNat.inj (by simp; omega)
    rw [if_pos h, if_pos h37, List.drop_drop]
  · rw [if_neg h, if_neg (ne37.2 h)]

set_option maxHeartbeats 800000 in
theorem bytes_any (x : ByteArray) (w : World) (hx : x.size ≤ 10000) :
    Calls Try.prog 16 #[.string x] w fun e w' => e = .returned (.int .i64 (bytesN x.data.toList : Nat)) ∧ w' = w := by
  go_enter Try.func16, Try.ntmps16
  go_wp2
  go_loop [3, 4] (fun n i => ∃ k m : Nat, k ≤ x.size + 2 ∧ i = .int .i64 (k : Int) ∧ n = .int .i64 (m : Int) ∧ m ≤ k ∧ Hid (bytesN x.data.toList = m + bytesN (x.data.toList.drop k))) (fun _ i => x.size + 3 - (intOf i).toNat)
  case atStart => exact ⟨0, 0, by omega, rfl, rfl, by omega, by show _ = _; simp⟩
  case round =>
    obtain ⟨k, m, hk, rfl, rfl, hm, HB⟩ := hrel
    by_cases hlt : k < x.size
    · have HD : Hid _ := drop_bytes x k hlt
      by_cases h37 : ((x[k]'hlt).toNat : Int) = 37
      · go_wp2
        go_round
        case rel => exact ⟨k + 3, m + 1, by omega, by go_num, by go_num, by omega, by show _ = _; rw [HB.out, HD.out, if_pos h37]; omega⟩
        case measure => simp [intOf]; omega
      · go_wp2
        go_round
        case rel => exact ⟨k + 1, m + 1, by omega, by go_num, by go_num, by omega, by show _ = _; rw [HB.out, HD.out, if_neg h37]; omega⟩
        case measure => simp [intOf]; omega
    · have HE : Hid (bytesN x.data.toList = m) := by
        show _ = _
        rw [HB.out, List.drop_eq_nil_of_le (by simp; omega)]; simp [bytesN]
      go_wp2
      go_ret
      exact ⟨by rw [HE.out]; rfl, rfl⟩

set_option maxHeartbeats 800000 in
theorem walk (a0 : Option Addr) (len0 cap0 : Nat) (z0 : List Int) (w : World) (w0 : Dr.IsRow .u8 w a0 len0 cap0 z0) :
    Calls Try.prog 6 #[.slice a0 len0 cap0] w fun e w' => e = .returned (.bool true) ∧ Below w.heap.size w w' := by
  by_cases hlong : (1048576 : Int) < len0
  · go_enter Try.func6, Try.ntmps6
    go_wp2
    go_ret
    exact ⟨rfl, Below.refl _ _⟩
  · go_enter Try.func6, Try.ntmps6
    go_wp2_with fail
    refine (Dr.drawEsc_any a0 len0 cap0 z0 w w0).mono ?_
    rintro e w1 ⟨s, rfl, hs, hb1⟩
    have hsm : s.size ≤ maxLen := by unfold maxLen; omega
    go_wp2_with fail
    refine (specEsc_any s _ hsm).mono ?_
    rintro e w2 ⟨rfl, hb2⟩
    go_wp2_with fail
    refine (implEsc_any s _ hsm).mono ?_
    rintro e w3 ⟨rfl, hb3⟩
    have hb13 : Below w.heap.size w w3 := hb1.trans ((hb2.mono hb1.size).trans (hb3.mono (Nat.le_trans hb1.size hb2.size)))
    have hl180 := escS_size s
    cases hok : escB s with
    | false =>
      go_wp2
      go_ret
      exact ⟨rfl, hb13⟩
    | true =>
      have hB : bytesN (escS s).data.toList = bytesN s.data.toList ∧ (escS s).size ≤ 3 * bytesN s.data.toList := by
        obtain ⟨_, x, hx, he⟩ := escB_true hok
        have := esc_bytes hx
        rw [he]
        exact ⟨this.1, by show x.toArray.size ≤ _; simpa using this.2⟩
      obtain ⟨hB1, hB2⟩ := hB
      have hB3 := bytesN_le _ s.data.toList (Nat.le_refl _)
      have HB1 : Hid _ := hB1
      have hB4 : bytesN s.data.toList ≤ 10000 := by simp at hB3; omega
      clear hB1 hB3
      go_wp2_with fail
      refine (bytes_any (escS s) _ (by omega)).mono ?_
      rintro e w4 ⟨rfl, rfl⟩
      rw [HB1.out]
      have hB5 : ((escS s).size : Int) ≤ 3 * ((bytesN s.data.toList : Nat) : Int) := by omega
      go_wp2_with fail
      refine (bytes_any s _ (by omega)).mono ?_
      rintro e w5 ⟨rfl, rfl⟩
      go_wp2_with fail
      refine (bytes_any s _ (by omega)).mono ?_
      rintro e w6 ⟨rfl, rfl⟩
      go_wp2
      go_ret
      exact ⟨rfl, hb13⟩

theorem own : ownKnob Try.prog.godebug = none := by kernel_rfl
theorem laidOut : laidOutB Try.prog = true := by kernel_rfl

/-! ### THE ROW's STEP -/
set_option maxRecDepth 100000 in
theorem lifted (os : Os) (started : os.Started) (H : Type) (enc : TypeId × Value → H) :
    ReturnsInHanded {} Try.checked os 6 .any (Rows.fnEscBytesSpec.pre6 enc Try.prog Try.f6 Rows.fnEscBytesRow.domain false) (Rows.fnEscBytesSpec.post enc Try.prog Try.f6 false true false false) := by
  refine returnsInHanded_of_change (C := Try.checked) own started (by kernel_rfl) Try.func6
    (ChangeSpec.witness6 (enc := enc) (C := Try.checked) false ⟨#[], #[.slice none 0 0], []⟩ 8 (by kernel_rfl) (by kernel_rfl) (by kernel_rfl) (by kernel_rfl)) ?_
  intro W base args ds gs before hval0 hW hcnd _
  have hval : ∀ (j : Nat) t v, Try.f6.params[j]? = some t → args[j]? = some v → Value.okWide Try.prog W .any base t v := hval0
  have hW' := hW
  obtain ⟨p, q, hA0, hV, rfl, hfz, hnd⟩ := hW
  have hA : DataW.TrodAll enc Try.prog W 0 (fun _ => true) true Try.f6.params.toList args.toList ds p := hA0
  rw [Try.params6] at hA hval
  obtain ⟨v0, vs0, d0, ds0, p0, q0, hargs, rfl, rfl, h0, r0⟩ := trodAll_cons hA
  obtain ⟨rfl, rfl, rfl⟩ := trodAll_nil r0
  obtain rfl : args = #[v0] := by cases args; simp_all
  obtain ⟨rfl, rfl⟩ := trodVars_none hV
  obtain ⟨a0, len0, cap0, rfl⟩ := okWide_slice Try.underlying22 (hval 0 22 v0 rfl rfl)
  have k0 := h0
  have lt0 : ∀ x ∈ p0, x.block < W.heap.size := by obtain ⟨m, hm⟩ := k0; exact DataW.trod_lt m _ _ _ hm
  obtain ⟨z0, w0⟩ : ∃ zs, Dr.IsRow .u8 W a0 len0 cap0 zs := by
    obtain ⟨fuel, hf⟩ := h0
    rcases open_ints Try.underlying22 Try.underlying5 (by kernel_rfl) hf with ⟨hcs, _⟩ | ⟨x, l, c, zs, hcs, _, hl, hm, hz, _, hcell, hwz⟩
    · simp [Value.cells] at hcs
      obtain ⟨rfl, rfl, rfl⟩ := hcs
      exact ⟨[], .inl ⟨rfl, rfl, rfl, rfl⟩⟩
    · simp [Value.cells] at hcs
      obtain ⟨rfl, rfl, rfl⟩ := hcs
      exact ⟨zs, .inr ⟨_, rfl, hl, hm, by simpa using hz, hcell, hwz⟩⟩
  clear hA0 hval0
  refine (walk a0 len0 cap0 z0 W w0).mono fun e W' ⟨he, bel⟩ => ?_
  subst he
  exact ⟨_, rfl, _, _, _, [], _, [], hW', trodAll_mk1 (shut_bool Try.underlying4 _), (trodAll_cons_mk (Below.trod laidOut (by kernel_rfl) (of_decide_eq_true (by kernel_rfl)) k0 bel lt0) trodAll_mk0), rfl, bel.frame _, fun h => by cases h⟩

theorem over : Rows.fnEscBytesRow.holds Try.pinned (OpenSpec.ofChange Rows.fnEscBytesSpec) :=
  OpenClaim.holds_of_wide 6 Try.f6 rfl rfl rfl rfl rfl rfl rfl ⟨rfl, rfl, rfl, rfl, rfl⟩ rfl rfl rfl rfl rfl (by kernel_rfl) Try.func6 (by kernel_rfl)
    (of_decide_eq_true (by kernel_rfl)) (by unfold Func.isWrapper; first | (rw [if_pos (by decide +kernel)]; kernel_rfl) | (rw [if_neg (by decide +kernel)]; exact ⟨rfl, rfl⟩))
    (fun os started H enc _ => lifted os started H enc)

theorem proved : Rows.FnEscBytesSaid := over
end Go.Proofs.Ytggafbkdjipjpaa.fnEscBytes
