/- FnExactAddrJoin: at every address and text AddrJoin of the program answers as the model's; it writes into no argument and keeps nothing of one; its answer owns its memory. The card ties two tables of unicode/utf8 to the program's text; no other condition. -/
import Derived.Test.YtboncolbijicfaaDoorRows
import Derived.WalkKit
import Derived.ProofKit
import Derived.OpenShut
import Derived.ShutString
import Derived.ChangeOld
import Derived.Below
import Derived.Test.YtboncolbijicfaaDoorCards
import Derived.Test.YtboncolbijicfaaDoorTie
import Derived.Test.YtboncolbijicfaaDoorWExactAddrJoin
import Derived.Test.YtboncolbijicfaaDoorReadAny
import Derived.Test.YtboncolbijicfaaDoorMarkA
import Derived.Test.YtboncolbijicfaaDoorAddr6
import Derived.SliceStrings
import Derived.Lib.SmallJoins
import Derived.Shelf.Vars
import Derived.Lay
import Derived.LaidOnce
import Derived.SevenTiedAt
namespace Go.Proofs.YtboncolbijicfaaDoor.fnExactAddrJoin
open Go.ChangeShapes Go.WideShapes Go.ChangeAt Go.RowKit
open Go.ChangeMaps (open_string shut_string)
set_option linter.unusedVariables false
open Go.Proofs.YtboncolbijicfaaDoor.EscL Go.Proofs.YtboncolbijicfaaDoor.EscM Go.Proofs.YtboncolbijicfaaDoor.ReadM Go.Proofs.YtboncolbijicfaaDoor.St Go.Proofs.YtboncolbijicfaaDoor.AddrM Go.Proofs.YtboncolbijicfaaDoor.Ad1 Go.Proofs.YtboncolbijicfaaDoor.Rd1 Go.Proofs.YtboncolbijicfaaDoor.RdA Go.Proofs.YtboncolbijicfaaDoor.MkA Go.Proofs.YtboncolbijicfaaDoor.JnM

theorem own : ownKnob Tryd.prog.godebug = none := by kernel_rfl
theorem laidOut : laidOutB Tryd.prog = true := by kernel_rfl

/-! ### THE ROW's STEP -/
set_option maxRecDepth 100000 in
theorem lifted (os : Os) (started : os.Started) (H : Type) (enc : TypeId × Value → H) :
    ReturnsInHanded {} Tryd.checked os 6 .any (fun w args => (Rows.fnExactAddrJoinSpec.pre enc Tryd.prog Tryd.f6 [] false w args ∧ laidMetH Tryd.prog Rows.fnExactAddrJoinRow.laid w) ∧ sizedMet enc Tryd.prog Tryd.f6 (OpenSpec.ofChange Rows.fnExactAddrJoinSpec) false w args)
      (Rows.fnExactAddrJoinSpec.post enc Tryd.prog Tryd.f6 false true false false) := by
  refine returnsInHanded_of_calls own started (by kernel_rfl)
    (ChangeSpec.witness_shaped (enc := enc) (C := Tryd.checked) (os := os) (X := fun w _ => laidMetH Tryd.prog Rows.fnExactAddrJoinRow.laid w) false (World.laidAll Tryd.prog os Rows.fnExactAddrJoinRow.laid) #[.agg #[.string ByteArray.empty, .slice none 0 0, .bool false, .string ByteArray.empty], .string ByteArray.empty] 8 (World.laidAll_os _ _ _)
      (World.shaped_of_ZipB (by kernel_rfl) (by kernel_rfl)) (by kernel_rfl) (by kernel_rfl) (by kernel_rfl)
      (by rw [MakeChecks.laidMetH_plain _ _ _ (by kernel_rfl)]; exact laidMet_laidAll _ (by kernel_rfl) (by kernel_rfl))) ?_
  intro w tape i _ hsh _ hok hpre _
  obtain ⟨_, _, _, fn', hfn', _, _, _, _, hval1⟩ := hok
  obtain rfl : fn' = Tryd.f6 := Option.some.inj (hfn'.symm.trans Tryd.func6)
  obtain ⟨⟨⟨ds, gs, before, hw, _⟩, hL0⟩, _⟩ := hpre
  have hW := DataW.Whole.of_heap (w' := w.forCall tape i) (by rfl) hw
  have hL : laidMetH Tryd.prog Rows.fnExactAddrJoinRow.laid (w.forCall tape i) := hL0.of_heap (by rfl)
  have hb : ∃ base, ∀ (j : Nat) t v, Tryd.f6.params[j]? = some t → i.args[j]? = some v → Value.okWide Tryd.prog (w.forCall tape i) .any base t v := ⟨_, hval1⟩
  clear hval1 hfn' hL0 hw
  suffices h : Calls Tryd.checked.prog 6 i.args (w.forCall tape i) fun e W' => ∃ v, e = .returned v ∧ Rows.fnExactAddrJoinSpec.post enc Tryd.checked.prog Tryd.f6 false true false false (w.forCall tape i) i.args v W' from
    h.mono fun e W' ⟨v, he, hp⟩ => by subst he; exact ChangeSpec.post_blind hp
  generalize hWe : w.forCall tape i = W at *
  generalize i.args = args at *
  clear hWe
  obtain ⟨base, hval⟩ := hb
  have hW' := hW
  obtain ⟨p, q, hA0, hV, rfl, hfz, hnd⟩ := hW
  have hA : DataW.TrodAll enc Tryd.prog W 0 (fun _ => true) true Tryd.f6.params.toList args.toList ds p := hA0
  rw [Tryd.params6] at hA hval
  obtain ⟨v0, vs0, d0, ds0, p0, q0, hargs, rfl, rfl, h0, r0⟩ := trodAll_cons hA
  obtain ⟨v1, vs1, d1, ds1, p1, q1, rfl, rfl, rfl, h1, r1⟩ := trodAll_cons r0
  obtain ⟨rfl, rfl, rfl⟩ := trodAll_nil r1
  obtain rfl : args = #[v0, v1] := by cases args; simp_all
  obtain ⟨rfl, rfl⟩ := trodVars_none hV
  have k0 := h0
  have lt0 : ∀ x ∈ p0, x.block < W.heap.size := by obtain ⟨m, hm⟩ := k0; exact DataW.trod_lt m _ _ _ hm
  obtain ⟨A0, a0, cap0, hv0, w0, s0a, s0b, s0c⟩ : ∃ (A : AddrM.Ad) (a0 : Option Addr) (cap : Nat), v0 = .agg #[.string A.house, .slice a0 A.parts.length cap, .bool A.asks, .string A.ask] ∧ St.IsStrs W a0 cap A.parts ∧ A.house.size ≤ maxLen ∧ (∀ s ∈ A.parts, s.size ≤ maxLen) ∧ A.ask.size ≤ maxLen := by
    obtain ⟨x0, x1, x2, x3, y0, y1, y2, y3, m, rfl, _, _, g0, g1, g2, g3⟩ := Joins.open_agg4 Tryd.underlying40 (by kernel_rfl) (by kernel_rfl) (hval 0 40 v0 rfl rfl) h0
    obtain ⟨hs, e0, _, z0⟩ := DataW.trod_string Tryd.underlying9 g0
    obtain ⟨q, e2, _⟩ := DataW.trod_bool Tryd.underlying4 g2
    obtain ⟨qs, e3, _, z3⟩ := DataW.trod_string Tryd.underlying9 g3
    simp at e0 e2 e3
    subst e0 e2 e3
    rcases open_strings Tryd.underlying32 Tryd.underlying9 (by kernel_rfl) g1 with ⟨hcs, _⟩ | ⟨x, l, c, ss, hcs, _, hl, hm, hz, _, hcell, hws⟩
    · simp at hcs
      subst hcs
      exact ⟨⟨hs, [], q, qs⟩, none, 0, rfl, ⟨by simp, by simp, fun _ => rfl, fun h => absurd rfl h⟩, z0, by simp, z3⟩
    · simp at hcs
      subst hcs
      obtain ⟨L, hL, hI, hZ⟩ := St.open_strs hl hm (by simpa using hz) hcell hws
      subst hL
      exact ⟨⟨hs, L, q, qs⟩, some x, c, rfl, hI, z0, hZ, z3⟩
  subst hv0
  obtain ⟨a1, rfl, rfl, rfl, w1⟩ := open_string Tryd.underlying9 (hval 1 9 v1 rfl rfl) h1
  clear hA0
  refine (walk A0 a0 cap0 a1 W w0 s0a s0b s0c w1 hL hsh).mono fun e W' ⟨he, bel⟩ => ?_
  subst he
  exact ⟨_, rfl, _, _, _, [], _, [], hW', trodAll_mk1 (shut_bool Tryd.underlying4 _), (trodAll_cons_mk (Below.trod laidOut (by kernel_rfl) (of_decide_eq_true (by kernel_rfl)) k0 bel lt0) (trodAll_cons_mk (shut_string Tryd.underlying9 w1) trodAll_mk0)), rfl, bel.frame _, fun h => by cases h⟩

theorem over : Rows.fnExactAddrJoinRow.holds Tryd.pinned (OpenSpec.ofChange Rows.fnExactAddrJoinSpec) :=
  OpenClaim.holds_of_wide 6 Tryd.f6 rfl rfl rfl rfl rfl rfl rfl ⟨rfl, rfl, rfl, rfl, rfl⟩ rfl rfl rfl rfl rfl (by kernel_rfl) Tryd.func6 (by kernel_rfl)
    (of_decide_eq_true (by kernel_rfl)) (by unfold Func.isWrapper; first | (rw [if_pos (by decide +kernel)]; kernel_rfl) | (rw [if_neg (by decide +kernel)]; exact ⟨rfl, rfl⟩))
    (fun os started H enc _ => lifted os started H enc)

theorem proved : Rows.FnExactAddrJoinCardSaid :=
  Claim7.holds_tied_plain_at .later [] [.data, .pinned] true _ false over (fun _ h => by cases h) (by kernel_rfl) (fun _ h => by cases h) fnExactAddrJoin_row_tie rfl ⟨rfl, rfl⟩ (by kernel_rfl) rfl
    (fun f fn hf hfn => by
      obtain rfl : f = 6 := Option.some.inj ((show Tryd.prog.funcNamed "loop.example/pedlar/laws.FnExactAddrJoin" = some 6 by kernel_rfl).symm.trans hf) |>.symm
      obtain rfl : fn = Tryd.f6 := (Option.some.inj (Tryd.func6.symm.trans hfn)).symm
      exact ⟨by kernel_rfl, fun j t ht => by
        rw [Tryd.params6] at ht
        have hm : t ∈ [40, 9] := by simpa using Array.mem_of_getElem? ht
        have hall : ([40, 9].all fun u => !Tryd.prog.wantsStandIn u) = true := by kernel_rfl
        exact (show Tryd.prog.wantsStandIn t = false by simpa using List.all_eq_true.1 hall t hm)⟩)
    (by kernel_rfl)
end Go.Proofs.YtboncolbijicfaaDoor.fnExactAddrJoin
