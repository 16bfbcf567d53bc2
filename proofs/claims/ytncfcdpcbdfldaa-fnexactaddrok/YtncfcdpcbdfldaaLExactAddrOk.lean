/- FnExactAddrOk: at every address AddrOk of the program answers as the model's, and writes into no argument. No condition. -/
import Derived.Test.YtncfcdpcbdfldaaRows
import Derived.WalkKit
import Derived.ProofKit
import Derived.OpenShut
import Derived.ShutString
import Derived.ChangeOld
import Derived.Below
import Derived.SliceStrings
import Derived.Lib.SmallJoins
import Derived.Test.YtncfcdpcbdfldaaAddr6
namespace Go.Proofs.Ytncfcdpcbdfldaa.fnExactAddrOk
open Go.ChangeShapes Go.WideShapes Go.ChangeAt Go.RowKit
open Go.ChangeMaps (open_string shut_string)
set_option linter.unusedVariables false
open Go.Proofs.Ytncfcdpcbdfldaa.St Go.Proofs.Ytncfcdpcbdfldaa.AddrM Go.Proofs.Ytncfcdpcbdfldaa.Ad1

set_option maxHeartbeats 3200000 in
theorem walk (A : Ad) (a0 : Option Addr) (cap : Nat) (w : World) (hS : IsStrs w a0 cap A.parts) (h1 : A.house.size ≤ maxLen) (h2 : ∀ s ∈ A.parts, s.size ≤ maxLen) (h3 : A.ask.size ≤ maxLen) :
    Calls Try.prog 7 #[.agg #[.string A.house, .slice a0 A.parts.length cap, .bool A.asks, .string A.ask]] w fun e w' => e = .returned (.bool true) ∧ Below w.heap.size w w' := by
  have HS : Hid (IsStrs w a0 cap A.parts) := hS
  have H2 : Hid (∀ s ∈ A.parts, s.size ≤ maxLen) := h2
  clear hS h2
  go_enter Try.func7, Try.ntmps7
  go_wp2_with fail
  refine (szAddr_any A a0 cap _ (HS.out.keep (alloc_keep _ _)) h1 H2.out h3).mono ?_
  rintro e w1 ⟨⟨x, rfl, hx⟩, hb1⟩
  have hb : Below (w.heap.size + 1) (w.alloc (.cells #[.string A.house, .slice a0 A.parts.length cap, .bool A.asks, .string A.ask] 36)) w1 := by simpa using hb1
  clear hb1
  rcases hx with hx | ⟨hx0, hbk⟩
  · go_wp2
    go_ret
    exact ⟨rfl, box_below hb⟩
  have hB : bulkA A ≤ 4194304 := by omega
  have hl : A.parts.length ≤ 4194304 := by unfold bulkA at hB; omega
  obtain ⟨c0, c1, c2, c3⟩ := box_cells hb
  -- the model's
  go_wp2_with fail
  refine (toAddr_any A a0 cap _ (box_strs HS.out hb) hB).mono ?_
  rintro e w2 ⟨g2, rfl, hO2, hb2⟩
  have hbb2 := box_next hb hb2
  go_wp2_with fail
  refine (specOk_any A _ _ _ hO2.strsOf hB).mono ?_
  rintro e w3 ⟨rfl, hb3⟩
  have hbb3 := box_next hbb2 hb3
  obtain ⟨d0, d1, d2, d3⟩ := box_cells hbb3
  clear c0 c1 c2 c3 hb hO2 hb2 hbb2 hb3
  -- x0
  go_wp2_with fail
  refine (toAddr_any A a0 cap _ (box_strs HS.out hbb3) hB).mono ?_
  rintro e w4 ⟨g4, rfl, hO4, hb4⟩
  have hbb4 := box_next hbb3 hb4
  have HO4 : Hid (Owns w4 w3.heap.size (.slice (some ⟨g4, 0, none⟩) A.parts.length A.parts.length) A.parts) := hO4
  clear d0 d1 d2 d3 hbb3 hO4 hb4
  go_wp2_with fail
  refine (implOk_any A _ _ _ (HO4.out.strsOf.keep (alloc_keep _ _)) hB).mono ?_
  rintro e w5 ⟨rfl, hb5⟩
  have hx5 : Below (w4.heap.size + 1) (w4.alloc (.cells #[.string A.house, .slice (some ⟨g4, 0, none⟩) A.parts.length A.parts.length, .bool A.asks, .string A.ask] 25)) w5 := by simpa using hb5
  have hbb5 : Below (w.heap.size + 1) (w.alloc (.cells #[.string A.house, .slice a0 A.parts.length cap, .bool A.asks, .string A.ask] 36)) w5 := box_next hbb4 (box_below hx5)
  have HX5 : Hid (IsStrs w5 (some ⟨g4, 0, none⟩) A.parts.length A.parts) := box_strs HO4.out.strsOf hx5
  obtain ⟨c0, c1, c2, c3⟩ := box_cells hbb5
  obtain ⟨e0, e1, e2, e3⟩ := box_cells hx5
  clear hb5 hbb4 HO4
  go_wp2
  have hbd : Below (w.heap.size + 1) (w.alloc (.cells #[.string A.house, .slice a0 A.parts.length cap, .bool A.asks, .string A.ask] 36)) w5.drew := hbb5.drew
  have hxd : Below (w4.heap.size + 1) (w4.alloc (.cells #[.string A.house, .slice (some ⟨g4, 0, none⟩) A.parts.length A.parts.length, .bool A.asks, .string A.ask] 25)) w5.drew := hx5.drew
  have HXd : Hid (IsStrs w5.drew (some ⟨g4, 0, none⟩) A.parts.length A.parts) := HX5.out
  go_region_with (first
    | (go_at_call 24; refine (toAddr_any A a0 cap _ (box_strs HS.out hbd) hB).mono ?_; rintro e w6 ⟨g6, rfl, hO6, hb6⟩; have hS6 : Hid (IsStrs w6 (some ⟨g6, 0, none⟩) A.parts.length A.parts) := hO6.strsOf; have hX6 : Hid (IsStrs w6 (some ⟨g4, 0, none⟩) A.parts.length A.parts) := HXd.out.below hb6; have hbb6 := box_next hbd hb6; obtain ⟨k0, k1, k2, k3⟩ := box_cells (box_next hxd hb6); clear hO6 hb6)
    | (go_at_call 25; refine (eqAddr_same A _ _ _ _ _ hX6.out hS6.out hl).mono ?_; rintro e w7 ⟨rfl, hb7⟩))
  all_goals
    go_wp2
    go_ret
    exact ⟨rfl, box_below (box_next hbb6 hb7)⟩

theorem own : ownKnob Try.prog.godebug = none := by kernel_rfl
theorem laidOut : laidOutB Try.prog = true := by kernel_rfl

/-! ### THE ROW's STEP -/
set_option maxRecDepth 100000 in
theorem lifted (os : Os) (started : os.Started) (H : Type) (enc : TypeId × Value → H) :
    ReturnsInHanded {} Try.checked os 7 .any (Rows.fnExactAddrOkSpec.pre6 enc Try.prog Try.f7 Rows.fnExactAddrOkRow.domain false) (Rows.fnExactAddrOkSpec.post enc Try.prog Try.f7 false true false false) := by
  refine returnsInHanded_of_change (C := Try.checked) own started (by kernel_rfl) Try.func7
    (ChangeSpec.witness6 (enc := enc) (C := Try.checked) false ⟨#[], #[.agg #[.string ByteArray.empty, .slice none 0 0, .bool false, .string ByteArray.empty]], []⟩ 8 (by kernel_rfl) (by kernel_rfl) (by kernel_rfl) (by kernel_rfl)) ?_
  intro W base args ds gs before hval0 hW hcnd _
  have hval : ∀ (j : Nat) t v, Try.f7.params[j]? = some t → args[j]? = some v → Value.okWide Try.prog W .any base t v := hval0
  have hW' := hW
  obtain ⟨p, q, hA0, hV, rfl, hfz, hnd⟩ := hW
  have hA : DataW.TrodAll enc Try.prog W 0 (fun _ => true) true Try.f7.params.toList args.toList ds p := hA0
  rw [Try.params7] at hA hval
  obtain ⟨v0, vs0, d0, ds0, p0, q0, hargs, rfl, rfl, h0, r0⟩ := trodAll_cons hA
  obtain ⟨rfl, rfl, rfl⟩ := trodAll_nil r0
  obtain rfl : args = #[v0] := by cases args; simp_all
  obtain ⟨rfl, rfl⟩ := trodVars_none hV
  have k0 := h0
  have lt0 : ∀ x ∈ p0, x.block < W.heap.size := by obtain ⟨m, hm⟩ := k0; exact DataW.trod_lt m _ _ _ hm
  obtain ⟨A0, a0, cap0, hv0, w0, s1, s2, s3⟩ : ∃ (A : AddrM.Ad) (a0 : Option Addr) (cap : Nat), v0 = .agg #[.string A.house, .slice a0 A.parts.length cap, .bool A.asks, .string A.ask] ∧ St.IsStrs W a0 cap A.parts ∧ A.house.size ≤ maxLen ∧ (∀ s ∈ A.parts, s.size ≤ maxLen) ∧ A.ask.size ≤ maxLen := by
    obtain ⟨x0, x1, x2, x3, y0, y1, y2, y3, m, rfl, _, _, g0, g1, g2, g3⟩ := Joins.open_agg4 Try.underlying36 (by kernel_rfl) (by kernel_rfl) (hval 0 36 v0 rfl rfl) h0
    obtain ⟨hs, e0, _, z0⟩ := DataW.trod_string Try.underlying9 g0
    obtain ⟨q, e2, _⟩ := DataW.trod_bool Try.underlying4 g2
    obtain ⟨qs, e3, _, z3⟩ := DataW.trod_string Try.underlying9 g3
    simp at e0 e2 e3
    subst e0 e2 e3
    rcases open_strings Try.underlying23 Try.underlying9 (by kernel_rfl) g1 with ⟨hcs, _⟩ | ⟨x, l, c, ss, hcs, _, hl, hm, hz, _, hcell, hws⟩
    · simp at hcs
      subst hcs
      exact ⟨⟨hs, [], q, qs⟩, none, 0, rfl, ⟨by simp, by simp, fun _ => rfl, fun h => absurd rfl h⟩, z0, by simp, z3⟩
    · simp at hcs
      subst hcs
      obtain ⟨L, hL, hI, hZ⟩ := St.open_strs hl hm (by simpa using hz) hcell hws
      subst hL
      exact ⟨⟨hs, L, q, qs⟩, some x, c, rfl, hI, z0, hZ, z3⟩
  subst hv0
  clear hA0 hval0
  refine (walk A0 a0 cap0 W w0 s1 s2 s3).mono fun e W' ⟨he, bel⟩ => ?_
  subst he
  exact ⟨_, rfl, _, _, _, [], _, [], hW', trodAll_mk1 (shut_bool Try.underlying4 _), (trodAll_cons_mk (Below.trod laidOut (by kernel_rfl) (of_decide_eq_true (by kernel_rfl)) k0 bel lt0) trodAll_mk0), rfl, bel.frame _, fun h => by cases h⟩

theorem over : Rows.fnExactAddrOkRow.holds Try.pinned (OpenSpec.ofChange Rows.fnExactAddrOkSpec) :=
  OpenClaim.holds_of_wide 7 Try.f7 rfl rfl rfl rfl rfl rfl rfl ⟨rfl, rfl, rfl, rfl, rfl⟩ rfl rfl rfl rfl rfl (by kernel_rfl) Try.func7 (by kernel_rfl)
    (of_decide_eq_true (by kernel_rfl)) (by unfold Func.isWrapper; first | (rw [if_pos (by decide +kernel)]; kernel_rfl) | (rw [if_neg (by decide +kernel)]; exact ⟨rfl, rfl⟩))
    (fun os started H enc _ => lifted os started H enc)

theorem proved : Rows.FnExactAddrOkSaid := over
end Go.Proofs.Ytncfcdpcbdfldaa.fnExactAddrOk
