/- FnJoinOk: for every code, where one comes from the address drawn of it by what is written there is ok, and in the same house, unless a whole address is written. The card ties two tables of unicode/utf8 to the program's text; no other condition. -/
import Derived.Test.YtbfiopcdclcdhaaDoorRows
import Derived.WalkKit
import Derived.ProofKit
import Derived.OpenShut
import Derived.ShutString
import Derived.ChangeOld
import Derived.Below
import Derived.Test.YtbfiopcdclcdhaaDoorCards
import Derived.Test.YtbfiopcdclcdhaaDoorTie
import Derived.Test.YtbfiopcdclcdhaaDoorDraw10
import Derived.Lay
import Derived.LaidOnce
import Derived.SevenTiedAt
namespace Go.Proofs.YtbfiopcdclcdhaaDoor.fnJoinOk
open Go.ChangeShapes Go.WideShapes Go.ChangeAt Go.RowKit
open Go.ChangeMaps (open_string shut_string)
set_option linter.unusedVariables false
open Go.Proofs.YtbfiopcdclcdhaaDoor.EscM Go.Proofs.YtbfiopcdclcdhaaDoor.St Go.Proofs.YtbfiopcdclcdhaaDoor.AddrM Go.Proofs.YtbfiopcdclcdhaaDoor.ReadM Go.Proofs.YtbfiopcdclcdhaaDoor.EscL Go.Proofs.YtbfiopcdclcdhaaDoor.Ad1 Go.Proofs.YtbfiopcdclcdhaaDoor.Dr Go.Proofs.YtbfiopcdclcdhaaDoor.Tw Go.Proofs.YtbfiopcdclcdhaaDoor.RB Go.Proofs.YtbfiopcdclcdhaaDoor.Im Go.Proofs.YtbfiopcdclcdhaaDoor.Rd1 Go.Proofs.YtbfiopcdclcdhaaDoor.Door Go.Proofs.YtbfiopcdclcdhaaDoor.JnM Go.Proofs.YtbfiopcdclcdhaaDoor.Jn

theorem cut_two {l : List UInt8} (h : ¬ l.take 2 = [47, 47]) : ¬ (cutL 35 l).1.take 2 = [47, 47] := by
  intro e
  apply h
  cases l with
  | nil => simp [cutL] at e
  | cons a l =>
    rw [cut_cons] at e
    by_cases ha : (a.toNat : Int) = 35
    · rw [if_pos ha] at e; simp at e
    · rw [if_neg ha] at e
      cases l with
      | nil => simp [cutL] at e
      | cons b l =>
        rw [cut_cons] at e
        by_cases hb : (b.toNat : Int) = 35
        · rw [if_pos hb] at e; simp at e
        · rw [if_neg hb] at e
          simp at e
          simp [e.1, e.2]
theorem go_house {P A : Ad} {l : List UInt8} (h : ¬ l.take 2 = [47, 47]) (e : goF P l = some A) : A.house = P.house := by
  unfold goF at e
  rw [if_neg h] at e
  split at e
  · have := Option.some.inj e; subst this; rfl
  · split at e
    · exact way_house e
    · split at e
      · exact way_house e
      · exact way_house e
theorem join_house {P A : Ad} {l : List UInt8} (h : ¬ l.take 2 = [47, 47]) (e : joinF P l = some A) : A.house = P.house := by
  unfold joinF at e
  split at e
  · split at e
    · cases e
    · exact go_house (cut_two h) e
  · cases e

set_option maxRecDepth 100000 in
set_option maxHeartbeats 6400000 in
theorem walk (a0 : Option Addr) (len0 cap0 : Nat) (z0 : List Int) (w : World) (w0 : Dr.IsRow .u8 w a0 len0 cap0 z0) (hL : laidMetH Tryd.prog Rows.fnJoinOkRow.laid w) (hsh : w.ShapedOpen Tryd.prog) :
    Calls Tryd.prog 10 #[.slice a0 len0 cap0] w fun e w' => e = .returned (.bool true) ∧ Below w.heap.size w w' := by
  have HM : Hid (Mx w) := mx_of hsh
  clear hsh hL
  by_cases hlong : (1048576 : Int) < len0
  · go_enter Tryd.func10, Tryd.ntmps10
    go_wp2
    go_ret
    exact ⟨rfl, Below.refl _ _⟩
  · go_enter Tryd.func10, Tryd.ntmps10
    go_wp2_with fail
    refine (Dr.drawJoin_any a0 len0 cap0 z0 w w0).mono ?_
    rintro e w1 ⟨P, p1, q1, ref, rfl, hO1, hbk, hrs, hra, hb1⟩
    have HA : Hid (ascii ref) := ascii_of hra
    have HP1 : Hid (At w (w1.alloc (.cells #[.string P.house, .slice p1 P.parts.length q1, .bool P.asks, .string P.ask] 25)) w1.heap.size P p1 q1) := At.new hO1 (Nat.le_refl _)
    have HB1 : Hid (Below w.heap.size w (w1.alloc (.cells #[.string P.house, .slice p1 P.parts.length q1, .bool P.asks, .string P.ask] 25))) := hb1.alloc hb1.size _
    have hbk4 : bulkA P ≤ 4194304 := by omega
    have hpl4 : P.parts.length ≤ 4194304 := by have := bulkA_bd P; omega
    obtain ⟨F, hF⟩ : ∃ F, w1.heap.size = F := ⟨_, rfl⟩
    rw [hF] at HP1
    clear hO1 hb1 hra
    go_wp2_with fail
    refine (specJoin_any P ref p1 q1 _ HP1.out.strs hbk hrs).mono ?_
    rintro e w2 ⟨A, told, a1, c1, rfl, hans, hO2, hb2⟩
    have HANS : Hid (Ans (joinF P ref.data.toList) A told) := hans
    have hb2a := hb2.alloc hb2.size (.cells #[.string A.house, .slice a1 A.parts.length c1, .bool A.asks, .string A.ask] 25)
    have HP2 : Hid _ := HP1.out.below hb2a
    have HX2 : Hid (At w (w2.alloc (.cells #[.string A.house, .slice a1 A.parts.length c1, .bool A.asks, .string A.ask] 25)) w2.heap.size A a1 c1) := At.new hO2 HB1.out.size
    have HB2 : Hid (Below w.heap.size w (w2.alloc (.cells #[.string A.house, .slice a1 A.parts.length c1, .bool A.asks, .string A.ask] 25))) := HB1.out.trans (hb2a.mono HB1.out.size)
    have HM2 : Hid (Mx (w2.alloc (.cells #[.string A.house, .slice a1 A.parts.length c1, .bool A.asks, .string A.ask] 25))) := HM.out.keep fun k hk => HB2.out.block k hk
    obtain ⟨G, hG⟩ : ∃ G, w2.heap.size = G := ⟨_, rfl⟩
    rw [hG] at HX2
    clear hb2 hb2a hO2 hans HB1 HP1 hF
    have hpp := HP2.out
    obtain ⟨f0, f1, f2, f3⟩ := hpp.cells
    clear hpp
    go_wp2_with fail
    refine (implJoin_ascii P ref p1 q1 _ HM2.out HP2.out.strs hbk hrs HA.out).mono ?_
    rintro e w3 ⟨A', ok, b1, d1, rfl, hans, hO3, hb3⟩
    obtain ⟨hA', hok'⟩ := ans_same HANS.out hans
    subst hA' hok'
    clear hans f0 f1 f2 f3
    have hb3a := hb3.alloc hb3.size (.cells #[.string A'.house, .slice b1 A'.parts.length d1, .bool A'.asks, .string A'.ask] 25)
    have HP3 : Hid _ := HP2.out.below hb3a
    have HX3 : Hid _ := HX2.out.below hb3a
    have HY3 : Hid (At w (w3.alloc (.cells #[.string A'.house, .slice b1 A'.parts.length d1, .bool A'.asks, .string A'.ask] 25)) w3.heap.size A' b1 d1) := At.new hO3 HB2.out.size
    have HB3 : Hid (Below w.heap.size w (w3.alloc (.cells #[.string A'.house, .slice b1 A'.parts.length d1, .bool A'.asks, .string A'.ask] 25))) := HB2.out.trans (hb3a.mono HB2.out.size)
    obtain ⟨hl4, hk4⟩ := ansJ_bulk HANS.out
    obtain ⟨H, hH⟩ : ∃ H, w3.heap.size = H := ⟨_, rfl⟩
    rw [hH] at HY3
    clear hb3 hb3a hO3 HB2 HP2 HX2 HM2 hG
    have hpp := HX3.out
    obtain ⟨c0, c1', c2, c3⟩ := hpp.cells
    clear hpp
    have hpp := HY3.out
    obtain ⟨d0, d1', d2, d3⟩ := hpp.cells
    clear hpp
    go_wp2_with fail
    refine (lpAddr_any A' A' b1 d1 a1 c1 _ HY3.out.strs HX3.out.strs hl4 hl4).mono ?_
    rintro e w5 ⟨rfl, hb5⟩
    rw [same_self]
    have HP5 : Hid (At w w5 F P p1 q1) := HP3.out.below hb5
    have HX5 : Hid (At w w5 G A' a1 c1) := HX3.out.below hb5
    have HY5 : Hid (At w w5 H A' b1 d1) := HY3.out.below hb5
    have HB5 : Hid (Below w.heap.size w w5) := HB3.out.trans (hb5.mono HB3.out.size)
    have HM5 : Hid (Mx w5) := HM.out.keep fun k hk => HB5.out.block k hk
    clear hb5 hH HB3 HP3 HX3 HY3 c0 c1' c2 c3 d0 d1' d2 d3
    have hpp := HP5.out
    obtain ⟨f0, f1, f2, f3⟩ := hpp.cells
    clear hpp
    have hpp := HX5.out
    obtain ⟨c0, c1', c2, c3⟩ := hpp.cells
    clear hpp
    have hpp := HY5.out
    obtain ⟨d0, d1', d2, d3⟩ := hpp.cells
    clear hpp
    cases ok with
    | false =>
      go_wp2_with fail
      refine (lpAddr_any A' A' b1 d1 a1 c1 _ HY5.out.strs HX5.out.strs hl4 hl4).mono ?_
      rintro e w6 ⟨rfl, hb6⟩
      rw [same_self]
      have HB6 : Hid (Below w.heap.size w w6) := HB5.out.trans (hb6.mono HB5.out.size)
      clear hb6
      go_wp2
      go_ret
      exact ⟨rfl, HB6.out⟩
    | true =>
      have HR : Hid (joinF P ref.data.toList = some A') := ans_yes HANS.out rfl
      have HK : Hid (okB A' = true) := join_ok HR.out
      have HH : Hid (¬ ref.data.toList.take 2 = [47, 47] → A'.house = P.house) := fun h => join_house h HR.out
      clear HANS
      by_cases h2 : ref.size < 2
      · have HE : Hid (A'.house = P.house) := HH.out (by intro e; have := congrArg List.length e; simp at this; omega)
        go_wp2_with fail
        refine (implOk_any A' b1 d1 _ HY5.out.strs hk4).mono ?_
        rintro e w6 ⟨rfl, hb6⟩
        rw [HK.out]
        have HP6 : Hid _ := HP5.out.below hb6
        have HY6 : Hid _ := HY5.out.below hb6
        have HB6 : Hid (Below w.heap.size w w6) := HB5.out.trans (hb6.mono HB5.out.size)
        clear hb6 f0 f1 f2 f3 c0 c1' c2 c3 d0 d1' d2 d3
        have hpp := HP6.out
        obtain ⟨f0, f1, f2, f3⟩ := hpp.cells
        clear hpp
        have hpp := HY6.out
        obtain ⟨d0, d1', d2, d3⟩ := hpp.cells
        clear hpp
        rw [HE.out] at d0
        go_wp2
        go_ret
        exact ⟨rfl, HB6.out⟩
      · cases hw : ((ref.extract 0 2).toList == [47, 47]) with
        | true =>
          go_wp2_with fail
          refine (implOk_any A' b1 d1 _ HY5.out.strs hk4).mono ?_
          rintro e w6 ⟨rfl, hb6⟩
          rw [HK.out]
          have HB6 : Hid (Below w.heap.size w w6) := HB5.out.trans (hb6.mono HB5.out.size)
          clear hb6
          go_wp2
          go_ret
          exact ⟨rfl, HB6.out⟩
        | false =>
          have HE : Hid (A'.house = P.house) := HH.out (by
            intro e
            rw [pre_ext, e] at hw
            simp at hw)
          go_wp2_with fail
          refine (implOk_any A' b1 d1 _ HY5.out.strs hk4).mono ?_
          rintro e w6 ⟨rfl, hb6⟩
          rw [HK.out]
          have HP6 : Hid _ := HP5.out.below hb6
          have HY6 : Hid _ := HY5.out.below hb6
          have HB6 : Hid (Below w.heap.size w w6) := HB5.out.trans (hb6.mono HB5.out.size)
          clear hb6 f0 f1 f2 f3 c0 c1' c2 c3 d0 d1' d2 d3
          have hpp := HP6.out
          obtain ⟨f0, f1, f2, f3⟩ := hpp.cells
          clear hpp
          have hpp := HY6.out
          obtain ⟨d0, d1', d2, d3⟩ := hpp.cells
          clear hpp
          rw [HE.out] at d0
          go_wp2
          go_ret
          exact ⟨rfl, HB6.out⟩

theorem own : ownKnob Tryd.prog.godebug = none := by kernel_rfl
theorem laidOut : laidOutB Tryd.prog = true := by kernel_rfl

/-! ### THE ROW's STEP -/
set_option maxRecDepth 100000 in
theorem lifted (os : Os) (started : os.Started) (H : Type) (enc : TypeId × Value → H) :
    ReturnsInHanded {} Tryd.checked os 10 .any (fun w args => (Rows.fnJoinOkSpec.pre enc Tryd.prog Tryd.f10 [] false w args ∧ laidMetH Tryd.prog Rows.fnJoinOkRow.laid w) ∧ sizedMet enc Tryd.prog Tryd.f10 (OpenSpec.ofChange Rows.fnJoinOkSpec) false w args)
      (Rows.fnJoinOkSpec.post enc Tryd.prog Tryd.f10 false true false false) := by
  refine returnsInHanded_of_calls own started (by kernel_rfl)
    (ChangeSpec.witness_shaped (enc := enc) (C := Tryd.checked) (os := os) (X := fun w _ => laidMetH Tryd.prog Rows.fnJoinOkRow.laid w) false (World.laidAll Tryd.prog os Rows.fnJoinOkRow.laid) #[.slice none 0 0] 8 (World.laidAll_os _ _ _)
      (World.shaped_of_ZipB (by kernel_rfl) (by kernel_rfl)) (by kernel_rfl) (by kernel_rfl) (by kernel_rfl)
      (by rw [MakeChecks.laidMetH_plain _ _ _ (by kernel_rfl)]; exact laidMet_laidAll _ (by kernel_rfl) (by kernel_rfl))) ?_
  intro w tape i _ hsh _ hok hpre _
  obtain ⟨_, _, _, fn', hfn', _, _, _, _, hval1⟩ := hok
  obtain rfl : fn' = Tryd.f10 := Option.some.inj (hfn'.symm.trans Tryd.func10)
  obtain ⟨⟨⟨ds, gs, before, hw, _⟩, hL0⟩, _⟩ := hpre
  have hW := DataW.Whole.of_heap (w' := w.forCall tape i) (by rfl) hw
  have hL : laidMetH Tryd.prog Rows.fnJoinOkRow.laid (w.forCall tape i) := hL0.of_heap (by rfl)
  have hb : ∃ base, ∀ (j : Nat) t v, Tryd.f10.params[j]? = some t → i.args[j]? = some v → Value.okWide Tryd.prog (w.forCall tape i) .any base t v := ⟨_, hval1⟩
  clear hval1 hfn' hL0 hw
  suffices h : Calls Tryd.checked.prog 10 i.args (w.forCall tape i) fun e W' => ∃ v, e = .returned v ∧ Rows.fnJoinOkSpec.post enc Tryd.checked.prog Tryd.f10 false true false false (w.forCall tape i) i.args v W' from
    h.mono fun e W' ⟨v, he, hp⟩ => by subst he; exact ChangeSpec.post_blind hp
  generalize hWe : w.forCall tape i = W at *
  generalize i.args = args at *
  clear hWe
  obtain ⟨base, hval⟩ := hb
  have hW' := hW
  obtain ⟨p, q, hA0, hV, rfl, hfz, hnd⟩ := hW
  have hA : DataW.TrodAll enc Tryd.prog W 0 (fun _ => true) true Tryd.f10.params.toList args.toList ds p := hA0
  rw [Tryd.params10] at hA hval
  obtain ⟨v0, vs0, d0, ds0, p0, q0, hargs, rfl, rfl, h0, r0⟩ := trodAll_cons hA
  obtain ⟨rfl, rfl, rfl⟩ := trodAll_nil r0
  obtain rfl : args = #[v0] := by cases args; simp_all
  obtain ⟨rfl, rfl⟩ := trodVars_none hV
  obtain ⟨a0, len0, cap0, rfl⟩ := okWide_slice Tryd.underlying22 (hval 0 22 v0 rfl rfl)
  have k0 := h0
  have lt0 : ∀ x ∈ p0, x.block < W.heap.size := by obtain ⟨m, hm⟩ := k0; exact DataW.trod_lt m _ _ _ hm
  obtain ⟨z0, w0⟩ : ∃ zs, Dr.IsRow .u8 W a0 len0 cap0 zs := by
    obtain ⟨fuel, hf⟩ := h0
    rcases open_ints Tryd.underlying22 Tryd.underlying5 (by kernel_rfl) hf with ⟨hcs, _⟩ | ⟨x, l, c, zs, hcs, _, hl, hm, hz, _, hcell, hwz⟩
    · simp [Value.cells] at hcs
      obtain ⟨rfl, rfl, rfl⟩ := hcs
      exact ⟨[], .inl ⟨rfl, rfl, rfl, rfl⟩⟩
    · simp [Value.cells] at hcs
      obtain ⟨rfl, rfl, rfl⟩ := hcs
      exact ⟨zs, .inr ⟨_, rfl, hl, hm, by simpa using hz, hcell, hwz⟩⟩
  clear hA0
  refine (walk a0 len0 cap0 z0 W w0 hL hsh).mono fun e W' ⟨he, bel⟩ => ?_
  subst he
  exact ⟨_, rfl, _, _, _, [], _, [], hW', trodAll_mk1 (shut_bool Tryd.underlying4 _), (trodAll_cons_mk (Below.trod laidOut (by kernel_rfl) (of_decide_eq_true (by kernel_rfl)) k0 bel lt0) trodAll_mk0), rfl, bel.frame _, fun h => by cases h⟩

theorem over : Rows.fnJoinOkRow.holds Tryd.pinned (OpenSpec.ofChange Rows.fnJoinOkSpec) :=
  OpenClaim.holds_of_wide 10 Tryd.f10 rfl rfl rfl rfl rfl rfl rfl ⟨rfl, rfl, rfl, rfl, rfl⟩ rfl rfl rfl rfl rfl (by kernel_rfl) Tryd.func10 (by kernel_rfl)
    (of_decide_eq_true (by kernel_rfl)) (by unfold Func.isWrapper; first | (rw [if_pos (by decide +kernel)]; kernel_rfl) | (rw [if_neg (by decide +kernel)]; exact ⟨rfl, rfl⟩))
    (fun os started H enc _ => lifted os started H enc)

theorem proved : Rows.FnJoinOkCardSaid :=
  Claim7.holds_tied_plain_at .later [] [.data, .pinned] true _ false over (fun _ h => by cases h) (by kernel_rfl) (fun _ h => by cases h) fnJoinOk_row_tie rfl ⟨rfl, rfl⟩ (by kernel_rfl) rfl
    (fun f fn hf hfn => by
      obtain rfl : f = 10 := Option.some.inj ((show Tryd.prog.funcNamed "loop.example/pedlar/laws.FnJoinOk" = some 10 by kernel_rfl).symm.trans hf) |>.symm
      obtain rfl : fn = Tryd.f10 := (Option.some.inj (Tryd.func10.symm.trans hfn)).symm
      exact ⟨by kernel_rfl, fun j t ht => by
        rw [Tryd.params10] at ht
        have hm : t ∈ [22] := by simpa using Array.mem_of_getElem? ht
        have hall : ([22].all fun u => !Tryd.prog.wantsStandIn u) = true := by kernel_rfl
        exact (show Tryd.prog.wantsStandIn t = false by simpa using List.all_eq_true.1 hall t hm)⟩)
    (by kernel_rfl)
end Go.Proofs.YtbfiopcdclcdhaaDoor.fnJoinOk
