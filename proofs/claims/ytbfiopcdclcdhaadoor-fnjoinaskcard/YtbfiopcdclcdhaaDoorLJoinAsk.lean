/- FnJoinAsk: for every code, what is asked alone leaves all parts of the address drawn of it. The card ties two tables of unicode/utf8 to the program's text; no other condition. -/
import Derived.Test.YtbfiopcdclcdhaaDoorRows
import Derived.WalkKit
import Derived.ProofKit
import Derived.OpenShut
import Derived.ShutString
import Derived.ChangeOld
import Derived.Below
import Derived.Test.YtbfiopcdclcdhaaDoorCards
import Derived.Test.YtbfiopcdclcdhaaDoorTie
import Derived.Test.YtbfiopcdclcdhaaDoorDraw10
import Derived.Lay
import Derived.LaidOnce
import Derived.SevenTiedAt
namespace Go.Proofs.YtbfiopcdclcdhaaDoor.fnJoinAsk
open Go.ChangeShapes Go.WideShapes Go.ChangeAt Go.RowKit
open Go.ChangeMaps (open_string shut_string)
set_option linter.unusedVariables false
open Go.Proofs.YtbfiopcdclcdhaaDoor.EscM Go.Proofs.YtbfiopcdclcdhaaDoor.St Go.Proofs.YtbfiopcdclcdhaaDoor.AddrM Go.Proofs.YtbfiopcdclcdhaaDoor.ReadM Go.Proofs.YtbfiopcdclcdhaaDoor.EscL Go.Proofs.YtbfiopcdclcdhaaDoor.Ad1 Go.Proofs.YtbfiopcdclcdhaaDoor.Dr Go.Proofs.YtbfiopcdclcdhaaDoor.Tw Go.Proofs.YtbfiopcdclcdhaaDoor.RB Go.Proofs.YtbfiopcdclcdhaaDoor.Im Go.Proofs.YtbfiopcdclcdhaaDoor.Rd1 Go.Proofs.YtbfiopcdclcdhaaDoor.Door Go.Proofs.YtbfiopcdclcdhaaDoor.JnM Go.Proofs.YtbfiopcdclcdhaaDoor.Jn

theorem join_q {P : Ad} (h : okB P = true) : joinF P (⟨#[63, 113]⟩ : ByteArray).data.toList = if okB ⟨P.house, P.parts, true, ⟨#[113]⟩⟩ then some ⟨P.house, P.parts, true, ⟨#[113]⟩⟩ else none := by
  obtain ⟨_, _, h3, _, _, _⟩ := ok_parts h
  have hg : ∀ p ∈ P.parts, PathM.good p := fun p hp => (part_norm' (List.all_eq_true.1 h3 p hp)).2
  rw [join_go h (by decide)]
  have e : (cutL 35 (⟨#[63, 113]⟩ : ByteArray).data.toList).1 = [63, 113] := by decide
  rw [e, go_ask (by rfl), way_cut (show cutL 63 [63, 113] = ([], [113], true) by decide)]
  have e2 : normS (splitS 47 (bs [])) = some [⟨#[]⟩] := by decide
  have e3 : escB (bs [113]) = true := by decide
  have e4 : escS (bs [113]) = ⟨#[113]⟩ := by decide
  rw [e2, e3, e4]
  simp only [if_true]
  rw [PathM.clean_snoc, PathM.do_none, PathM.clean_same _ hg]

set_option maxRecDepth 100000 in
set_option maxHeartbeats 6400000 in
theorem walk (a0 : Option Addr) (len0 cap0 : Nat) (z0 : List Int) (w : World) (w0 : Dr.IsRow .u8 w a0 len0 cap0 z0) (hL : laidMetH Tryd.prog Rows.fnJoinAskRow.laid w) (hsh : w.ShapedOpen Tryd.prog) :
    Calls Tryd.prog 12 #[.slice a0 len0 cap0] w fun e w' => e = .returned (.bool true) ∧ Below w.heap.size w w' := by
  have HM : Hid (Mx w) := mx_of hsh
  clear hsh hL
  by_cases hlong : (1048576 : Int) < len0
  · go_enter Tryd.func12, Tryd.ntmps12
    go_wp2
    go_ret
    exact ⟨rfl, Below.refl _ _⟩
  · go_enter Tryd.func12, Tryd.ntmps12
    go_wp2_with fail
    refine (Dr.drawJoin_any a0 len0 cap0 z0 w w0).mono ?_
    rintro e w1 ⟨P, p1, q1, ref, rfl, hO1, hbk, hrs, hra, hb1⟩
    have HA : Hid (ascii ref) := ascii_of hra
    have HP1 : Hid (At w (w1.alloc (.cells #[.string P.house, .slice p1 P.parts.length q1, .bool P.asks, .string P.ask] 25)) w1.heap.size P p1 q1) := At.new hO1 (Nat.le_refl _)
    have HB1 : Hid (Below w.heap.size w (w1.alloc (.cells #[.string P.house, .slice p1 P.parts.length q1, .bool P.asks, .string P.ask] 25))) := hb1.alloc hb1.size _
    have hbk4 : bulkA P ≤ 4194304 := by omega
    have hpl4 : P.parts.length ≤ 4194304 := by have := bulkA_bd P; omega
    obtain ⟨F, hF⟩ : ∃ F, w1.heap.size = F := ⟨_, rfl⟩
    rw [hF] at HP1
    clear hO1 hb1 hra
    go_wp2_with fail
    refine (specJoin_any P ref p1 q1 _ HP1.out.strs hbk hrs).mono ?_
    rintro e w2 ⟨A, told, a1, c1, rfl, hans, hO2, hb2⟩
    have HANS : Hid (Ans (joinF P ref.data.toList) A told) := hans
    have hb2a := hb2.alloc hb2.size (.cells #[.string A.house, .slice a1 A.parts.length c1, .bool A.asks, .string A.ask] 25)
    have HP2 : Hid _ := HP1.out.below hb2a
    have HX2 : Hid (At w (w2.alloc (.cells #[.string A.house, .slice a1 A.parts.length c1, .bool A.asks, .string A.ask] 25)) w2.heap.size A a1 c1) := At.new hO2 HB1.out.size
    have HB2 : Hid (Below w.heap.size w (w2.alloc (.cells #[.string A.house, .slice a1 A.parts.length c1, .bool A.asks, .string A.ask] 25))) := HB1.out.trans (hb2a.mono HB1.out.size)
    have HM2 : Hid (Mx (w2.alloc (.cells #[.string A.house, .slice a1 A.parts.length c1, .bool A.asks, .string A.ask] 25))) := HM.out.keep fun k hk => HB2.out.block k hk
    obtain ⟨G, hG⟩ : ∃ G, w2.heap.size = G := ⟨_, rfl⟩
    rw [hG] at HX2
    clear hb2 hb2a hO2 hans HB1 HP1 hF
    have hpp := HP2.out
    obtain ⟨f0, f1, f2, f3⟩ := hpp.cells
    clear hpp
    go_wp2_with fail
    refine (implJoin_ascii P ref p1 q1 _ HM2.out HP2.out.strs hbk hrs HA.out).mono ?_
    rintro e w3 ⟨A', ok, b1, d1, rfl, hans, hO3, hb3⟩
    obtain ⟨hA', hok'⟩ := ans_same HANS.out hans
    subst hA' hok'
    clear hans f0 f1 f2 f3
    have hb3a := hb3.alloc hb3.size (.cells #[.string A'.house, .slice b1 A'.parts.length d1, .bool A'.asks, .string A'.ask] 25)
    have HP3 : Hid _ := HP2.out.below hb3a
    have HX3 : Hid _ := HX2.out.below hb3a
    have HY3 : Hid (At w (w3.alloc (.cells #[.string A'.house, .slice b1 A'.parts.length d1, .bool A'.asks, .string A'.ask] 25)) w3.heap.size A' b1 d1) := At.new hO3 HB2.out.size
    have HB3 : Hid (Below w.heap.size w (w3.alloc (.cells #[.string A'.house, .slice b1 A'.parts.length d1, .bool A'.asks, .string A'.ask] 25))) := HB2.out.trans (hb3a.mono HB2.out.size)
    obtain ⟨hl4, hk4⟩ := ansJ_bulk HANS.out
    obtain ⟨H, hH⟩ : ∃ H, w3.heap.size = H := ⟨_, rfl⟩
    rw [hH] at HY3
    clear hb3 hb3a hO3 HB2 HP2 HX2 HM2 hG
    have hpp := HX3.out
    obtain ⟨c0, c1', c2, c3⟩ := hpp.cells
    clear hpp
    have hpp := HY3.out
    obtain ⟨d0, d1', d2, d3⟩ := hpp.cells
    clear hpp
    go_wp2_with fail
    refine (lpAddr_any A' A' b1 d1 a1 c1 _ HY3.out.strs HX3.out.strs hl4 hl4).mono ?_
    rintro e w5 ⟨rfl, hb5⟩
    rw [same_self]
    have HP5 : Hid (At w w5 F P p1 q1) := HP3.out.below hb5
    have HX5 : Hid (At w w5 G A' a1 c1) := HX3.out.below hb5
    have HY5 : Hid (At w w5 H A' b1 d1) := HY3.out.below hb5
    have HB5 : Hid (Below w.heap.size w w5) := HB3.out.trans (hb5.mono HB3.out.size)
    have HM5 : Hid (Mx w5) := HM.out.keep fun k hk => HB5.out.block k hk
    clear hb5 hH HB3 HP3 HX3 HY3 c0 c1' c2 c3 d0 d1' d2 d3
    have hpp := HP5.out
    obtain ⟨f0, f1, f2, f3⟩ := hpp.cells
    clear hpp
    have hpp := HX5.out
    obtain ⟨c0, c1', c2, c3⟩ := hpp.cells
    clear hpp
    have hpp := HY5.out
    obtain ⟨d0, d1', d2, d3⟩ := hpp.cells
    clear hpp
    cases hok : okB P with
    | false =>
      have HOK : Hid _ := hok
      clear hok
      go_wp2_with fail
      refine (specOk_any P p1 q1 _ HP5.out.strs hbk4).mono ?_
      rintro e w6 ⟨rfl, hb6⟩
      rw [HOK.out]
      have HX6 : Hid _ := HX5.out.below hb6
      have HY6 : Hid _ := HY5.out.below hb6
      have HB6 : Hid (Below w.heap.size w w6) := HB5.out.trans (hb6.mono HB5.out.size)
      clear hb6 f0 f1 f2 f3 c0 c1' c2 c3 d0 d1' d2 d3
      have hpp := HX6.out
      obtain ⟨c0, c1', c2, c3⟩ := hpp.cells
      clear hpp
      have hpp := HY6.out
      obtain ⟨d0, d1', d2, d3⟩ := hpp.cells
      clear hpp
      go_wp2_with fail
      refine (lpAddr_any A' A' b1 d1 a1 c1 _ HY6.out.strs HX6.out.strs hl4 hl4).mono ?_
      rintro e w7 ⟨rfl, hb7⟩
      rw [same_self]
      have HB7 : Hid (Below w.heap.size w w7) := HB6.out.trans (hb7.mono HB6.out.size)
      clear hb7
      go_wp2
      go_ret
      exact ⟨rfl, HB7.out⟩
    | true =>
      have HOK : Hid _ := hok
      clear hok
      have HJ : Hid _ := join_q HOK.out
      clear HANS
      go_wp2_with fail
      refine (specOk_any P p1 q1 _ HP5.out.strs hbk4).mono ?_
      rintro e w6 ⟨rfl, hb6⟩
      rw [HOK.out]
      have HP6 : Hid (At w w6 F P p1 q1) := HP5.out.below hb6
      have HB6 : Hid (Below w.heap.size w w6) := HB5.out.trans (hb6.mono HB5.out.size)
      have HM6 : Hid (Mx w6) := HM5.out.below hb6
      clear hb6 HX5 HY5 HB5 HM5 f0 f1 f2 f3 c0 c1' c2 c3 d0 d1' d2 d3
      have hpp := HP6.out
      obtain ⟨f0, f1, f2, f3⟩ := hpp.cells
      clear hpp
      go_wp2_with fail
      refine (implJoin_ascii P _ p1 q1 _ HM6.out HP6.out.strs hbk (by decide) (ascii_of (by decide))).mono ?_
      rintro e w7 ⟨B7, o7, x7, y7, rfl, hans, hO, hb⟩
      have HR7 : Hid (Ans _ B7 o7) := hans
      have hba := hb.alloc hb.size (.cells #[.string B7.house, .slice x7 B7.parts.length y7, .bool B7.asks, .string B7.ask] 25)
      have HP7 : Hid (At w (w7.alloc (.cells #[.string B7.house, .slice x7 B7.parts.length y7, .bool B7.asks, .string B7.ask] 25)) F P p1 q1) := HP6.out.below hba
      have HB7 : Hid (Below w.heap.size w (w7.alloc (.cells #[.string B7.house, .slice x7 B7.parts.length y7, .bool B7.asks, .string B7.ask] 25))) := HB6.out.trans (hba.mono HB6.out.size)
      have HM7 : Hid (Mx (w7.alloc (.cells #[.string B7.house, .slice x7 B7.parts.length y7, .bool B7.asks, .string B7.ask] 25))) := HM6.out.below hba
      have HK7 : Hid (At w (w7.alloc (.cells #[.string B7.house, .slice x7 B7.parts.length y7, .bool B7.asks, .string B7.ask] 25)) w7.heap.size B7 x7 y7) := At.new hO HB6.out.size
      obtain ⟨K7, hK7⟩ : ∃ K, w7.heap.size = K := ⟨_, rfl⟩
      rw [hK7] at HK7
      obtain ⟨hl7, hk7⟩ := ansJ_bulk HR7.out
      clear hans hO hb hba HP6 HB6 HM6 f0 f1 f2 f3
      have hpp := HP7.out
      obtain ⟨f0, f1, f2, f3⟩ := hpp.cells
      clear hpp
      have HR : Hid (Ans (if okB ⟨P.house, P.parts, true, ⟨#[113]⟩⟩ then some ⟨P.house, P.parts, true, ⟨#[113]⟩⟩ else none) B7 o7) := by show Ans _ _ _; rw [← HJ.out]; exact HR7.out
      clear HR7 HJ
      cases o7 with
      | false =>
        go_wp2
        go_ret
        exact ⟨rfl, HB7.out⟩
      | true =>
        have hE : B7 = ⟨P.house, P.parts, true, ⟨#[113]⟩⟩ := by
          have h := ans_yes HR.out rfl
          split at h
          · exact (Option.some.inj h).symm
          · cases h
        clear HR
        have hpp := HK7.out
        obtain ⟨k0, k1, k2, k3⟩ := hpp.cells
        clear hpp
        have HE : Hid _ := hE
        clear hE
        go_wp2_with fail
        refine (lpAddr_any B7 ⟨P.house, P.parts, true, ⟨#[113]⟩⟩ x7 y7 p1 q1 _ HK7.out.strs HP7.out.strs hl7 hpl4).mono ?_
        rintro e w8 ⟨rfl, hb8⟩
        rw [HE.out, same_self]
        have HB8 : Hid (Below w.heap.size w w8) := HB7.out.trans (hb8.mono HB7.out.size)
        clear hb8
        go_wp2
        go_ret
        exact ⟨rfl, HB8.out⟩

theorem own : ownKnob Tryd.prog.godebug = none := by kernel_rfl
theorem laidOut : laidOutB Tryd.prog = true := by kernel_rfl

/-! ### THE ROW's STEP -/
set_option maxRecDepth 100000 in
theorem lifted (os : Os) (started : os.Started) (H : Type) (enc : TypeId × Value → H) :
    ReturnsInHanded {} Tryd.checked os 12 .any (fun w args => (Rows.fnJoinAskSpec.pre enc Tryd.prog Tryd.f12 [] false w args ∧ laidMetH Tryd.prog Rows.fnJoinAskRow.laid w) ∧ sizedMet enc Tryd.prog Tryd.f12 (OpenSpec.ofChange Rows.fnJoinAskSpec) false w args)
      (Rows.fnJoinAskSpec.post enc Tryd.prog Tryd.f12 false true false false) := by
  refine returnsInHanded_of_calls own started (by kernel_rfl)
    (ChangeSpec.witness_shaped (enc := enc) (C := Tryd.checked) (os := os) (X := fun w _ => laidMetH Tryd.prog Rows.fnJoinAskRow.laid w) false (World.laidAll Tryd.prog os Rows.fnJoinAskRow.laid) #[.slice none 0 0] 8 (World.laidAll_os _ _ _)
      (World.shaped_of_ZipB (by kernel_rfl) (by kernel_rfl)) (by kernel_rfl) (by kernel_rfl) (by kernel_rfl)
      (by rw [MakeChecks.laidMetH_plain _ _ _ (by kernel_rfl)]; exact laidMet_laidAll _ (by kernel_rfl) (by kernel_rfl))) ?_
  intro w tape i _ hsh _ hok hpre _
  obtain ⟨_, _, _, fn', hfn', _, _, _, _, hval1⟩ := hok
  obtain rfl : fn' = Tryd.f12 := Option.some.inj (hfn'.symm.trans Tryd.func12)
  obtain ⟨⟨⟨ds, gs, before, hw, _⟩, hL0⟩, _⟩ := hpre
  have hW := DataW.Whole.of_heap (w' := w.forCall tape i) (by rfl) hw
  have hL : laidMetH Tryd.prog Rows.fnJoinAskRow.laid (w.forCall tape i) := hL0.of_heap (by rfl)
  have hb : ∃ base, ∀ (j : Nat) t v, Tryd.f12.params[j]? = some t → i.args[j]? = some v → Value.okWide Tryd.prog (w.forCall tape i) .any base t v := ⟨_, hval1⟩
  clear hval1 hfn' hL0 hw
  suffices h : Calls Tryd.checked.prog 12 i.args (w.forCall tape i) fun e W' => ∃ v, e = .returned v ∧ Rows.fnJoinAskSpec.post enc Tryd.checked.prog Tryd.f12 false true false false (w.forCall tape i) i.args v W' from
    h.mono fun e W' ⟨v, he, hp⟩ => by subst he; exact ChangeSpec.post_blind hp
  generalize hWe : w.forCall tape i = W at *
  generalize i.args = args at *
  clear hWe
  obtain ⟨base, hval⟩ := hb
  have hW' := hW
  obtain ⟨p, q, hA0, hV, rfl, hfz, hnd⟩ := hW
  have hA : DataW.TrodAll enc Tryd.prog W 0 (fun _ => true) true Tryd.f12.params.toList args.toList ds p := hA0
  rw [Tryd.params12] at hA hval
  obtain ⟨v0, vs0, d0, ds0, p0, q0, hargs, rfl, rfl, h0, r0⟩ := trodAll_cons hA
  obtain ⟨rfl, rfl, rfl⟩ := trodAll_nil r0
  obtain rfl : args = #[v0] := by cases args; simp_all
  obtain ⟨rfl, rfl⟩ := trodVars_none hV
  obtain ⟨a0, len0, cap0, rfl⟩ := okWide_slice Tryd.underlying22 (hval 0 22 v0 rfl rfl)
  have k0 := h0
  have lt0 : ∀ x ∈ p0, x.block < W.heap.size := by obtain ⟨m, hm⟩ := k0; exact DataW.trod_lt m _ _ _ hm
  obtain ⟨z0, w0⟩ : ∃ zs, Dr.IsRow .u8 W a0 len0 cap0 zs := by
    obtain ⟨fuel, hf⟩ := h0
    rcases open_ints Tryd.underlying22 Tryd.underlying5 (by kernel_rfl) hf with ⟨hcs, _⟩ | ⟨x, l, c, zs, hcs, _, hl, hm, hz, _, hcell, hwz⟩
    · simp [Value.cells] at hcs
      obtain ⟨rfl, rfl, rfl⟩ := hcs
      exact ⟨[], .inl ⟨rfl, rfl, rfl, rfl⟩⟩
    · simp [Value.cells] at hcs
      obtain ⟨rfl, rfl, rfl⟩ := hcs
      exact ⟨zs, .inr ⟨_, rfl, hl, hm, by simpa using hz, hcell, hwz⟩⟩
  clear hA0
  refine (walk a0 len0 cap0 z0 W w0 hL hsh).mono fun e W' ⟨he, bel⟩ => ?_
  subst he
  exact ⟨_, rfl, _, _, _, [], _, [], hW', trodAll_mk1 (shut_bool Tryd.underlying4 _), (trodAll_cons_mk (Below.trod laidOut (by kernel_rfl) (of_decide_eq_true (by kernel_rfl)) k0 bel lt0) trodAll_mk0), rfl, bel.frame _, fun h => by cases h⟩

theorem over : Rows.fnJoinAskRow.holds Tryd.pinned (OpenSpec.ofChange Rows.fnJoinAskSpec) :=
  OpenClaim.holds_of_wide 12 Tryd.f12 rfl rfl rfl rfl rfl rfl rfl ⟨rfl, rfl, rfl, rfl, rfl⟩ rfl rfl rfl rfl rfl (by kernel_rfl) Tryd.func12 (by kernel_rfl)
    (of_decide_eq_true (by kernel_rfl)) (by unfold Func.isWrapper; first | (rw [if_pos (by decide +kernel)]; kernel_rfl) | (rw [if_neg (by decide +kernel)]; exact ⟨rfl, rfl⟩))
    (fun os started H enc _ => lifted os started H enc)

theorem proved : Rows.FnJoinAskCardSaid :=
  Claim7.holds_tied_plain_at .later [] [.data, .pinned] true _ false over (fun _ h => by cases h) (by kernel_rfl) (fun _ h => by cases h) fnJoinAsk_row_tie rfl ⟨rfl, rfl⟩ (by kernel_rfl) rfl
    (fun f fn hf hfn => by
      obtain rfl : f = 12 := Option.some.inj ((show Tryd.prog.funcNamed "loop.example/pedlar/laws.FnJoinAsk" = some 12 by kernel_rfl).symm.trans hf) |>.symm
      obtain rfl : fn = Tryd.f12 := (Option.some.inj (Tryd.func12.symm.trans hfn)).symm
      exact ⟨by kernel_rfl, fun j t ht => by
        rw [Tryd.params12] at ht
        have hm : t ∈ [22] := by simpa using Array.mem_of_getElem? ht
        have hall : ([22].all fun u => !Tryd.prog.wantsStandIn u) = true := by kernel_rfl
        exact (show Tryd.prog.wantsStandIn t = false by simpa using List.all_eq_true.1 hall t hm)⟩)
    (by kernel_rfl)
end Go.Proofs.YtbfiopcdclcdhaaDoor.fnJoinAsk
