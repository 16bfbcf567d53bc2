/- FnAddrCross: for every code, a cross and what is behind it change nothing of what is read of the text drawn of it. The card ties two tables of unicode/utf8 to the program's text; no other condition. -/
import Derived.Test.YtbfiopcdclcdhaaDoorRows
import Derived.WalkKit
import Derived.ProofKit
import Derived.OpenShut
import Derived.ShutString
import Derived.ChangeOld
import Derived.Below
import Derived.Test.YtbfiopcdclcdhaaDoorCards
import Derived.Test.YtbfiopcdclcdhaaDoorTie
import Derived.Test.YtbfiopcdclcdhaaDoorDoor
import Derived.Lay
import Derived.LaidOnce
import Derived.SevenTiedAt
namespace Go.Proofs.YtbfiopcdclcdhaaDoor.fnAddrCross
open Go.ChangeShapes Go.WideShapes Go.ChangeAt Go.RowKit
open Go.ChangeMaps (open_string shut_string)
set_option linter.unusedVariables false
open Go.Proofs.YtbfiopcdclcdhaaDoor.St Go.Proofs.YtbfiopcdclcdhaaDoor.AddrM Go.Proofs.YtbfiopcdclcdhaaDoor.ReadM Go.Proofs.YtbfiopcdclcdhaaDoor.EscL Go.Proofs.YtbfiopcdclcdhaaDoor.Ad1 Go.Proofs.YtbfiopcdclcdhaaDoor.Dr Go.Proofs.YtbfiopcdclcdhaaDoor.Tw Go.Proofs.YtbfiopcdclcdhaaDoor.RB Go.Proofs.YtbfiopcdclcdhaaDoor.Im Go.Proofs.YtbfiopcdclcdhaaDoor.Rd1 Go.Proofs.YtbfiopcdclcdhaaDoor.Door

set_option maxRecDepth 100000 in
set_option maxHeartbeats 6400000 in
theorem walk (a0 : Option Addr) (len0 cap0 : Nat) (z0 : List Int) (w : World) (w0 : Dr.IsRow .u8 w a0 len0 cap0 z0) (hL : laidMetH Tryd.prog Rows.fnAddrCrossRow.laid w) (hsh : w.ShapedOpen Tryd.prog) :
    Calls Tryd.prog 6 #[.slice a0 len0 cap0] w fun e w' => e = .returned (.bool true) ∧ Below w.heap.size w w' := by
  have HM : Hid (Mx w) := mx_of hsh
  clear hsh hL
  by_cases hlong : (1048576 : Int) < len0
  · go_enter Tryd.func6, Tryd.ntmps6
    go_wp2
    go_ret
    exact ⟨rfl, Below.refl _ _⟩
  · go_enter Tryd.func6, Tryd.ntmps6
    go_wp2_with fail
    refine (Dr.drawRead_any a0 len0 cap0 z0 w w0).mono ?_
    rintro e w1 ⟨raw, rfl, hrs, hra, hb1⟩
    have HA : Hid (ascii raw) := ascii_of hra
    have HB1 : Hid (Below w.heap.size w w1) := hb1
    clear hb1 hra
    go_wp2_with fail
    refine (specRead_any raw _ (by omega)).mono ?_
    rintro e w2 ⟨A, told, a1, c1, rfl, hans, hO, hb2⟩
    have HANS : Hid (Ans (readF raw.data.toList) A told) := hans
    have HX2 : Hid (Dr.Box (w2.alloc (.cells #[.string A.house, .slice a1 A.parts.length c1, .bool A.asks, .string A.ask] 25)) w2.heap.size (.string A.house) (.slice a1 A.parts.length c1) (.bool A.asks) (.string A.ask)) := Dr.heap_new w2 _
    have HO2 : Hid (Owns (w2.alloc (.cells #[.string A.house, .slice a1 A.parts.length c1, .bool A.asks, .string A.ask] 25)) w.heap.size (.slice a1 A.parts.length c1) A.parts) := Owns.mono (Owns.keep hO (alloc_keep w2 _)) HB1.out.size
    have hb2w := HB1.out.trans (hb2.mono HB1.out.size)
    have HB2 : Hid (Below w.heap.size w (w2.alloc (.cells #[.string A.house, .slice a1 A.parts.length c1, .bool A.asks, .string A.ask] 25))) := hb2w.alloc hb2w.size _
    have HM2 : Hid (Mx (w2.alloc (.cells #[.string A.house, .slice a1 A.parts.length c1, .bool A.asks, .string A.ask] 25))) := HM.out.keep fun k hk => HB2.out.block k hk
    obtain ⟨G, hG⟩ : ∃ G, w2.heap.size = G := ⟨_, rfl⟩
    rw [hG] at HX2
    clear hb2 hO hans HB1 hb2w
    go_wp2_with fail
    refine (implRead_ascii raw _ HM2.out (by omega) HA.out).mono ?_
    rintro e w3 ⟨A', ok, b1, d1, rfl, hans, hO, hb3⟩
    obtain ⟨hA', hok'⟩ := ans_same HANS.out hans
    subst hA' hok'
    clear hans
    have HX3 : Hid (Dr.Box w3 G (.string A'.house) (.slice a1 A'.parts.length c1) (.bool A'.asks) (.string A'.ask)) := HX2.out.grown (grown_of_below none hb3) (by simp)
    have HO3 : Hid (Owns w3 w.heap.size (.slice a1 A'.parts.length c1) A'.parts) := Owns.below HO2.out hb3
    have HP3 : Hid (Owns w3 w.heap.size (.slice b1 A'.parts.length d1) A'.parts) := Owns.mono hO HB2.out.size
    have HB3 : Hid (Below w.heap.size w w3) := HB2.out.trans (hb3.mono HB2.out.size)
    clear hb3 hO HX2 HO2 HM2 HB2 hG
    have HT : Hid (Tw.Two w (w3.alloc (.cells #[.string A'.house, .slice b1 A'.parts.length d1, .bool A'.asks, .string A'.ask] 25)) G w3.heap.size A' A' a1 c1 b1 d1) :=
      ⟨HX3.out.grown (grown_alloc w3 _ none) (by simp), Dr.heap_new w3 _, Owns.keep HO3.out (alloc_keep w3 _), Owns.keep HP3.out (alloc_keep w3 _), HB3.out.alloc HB3.out.size _⟩
    obtain ⟨H, hH⟩ : ∃ H, w3.heap.size = H := ⟨_, rfl⟩
    rw [hH] at HT
    have hb5 : A'.parts.length ≤ 4194304 ∧ bulkA A' ≤ 4194304 := ans_bulk HANS.out
    obtain ⟨hl4, hk4⟩ := hb5
    clear HX3 HO3 HP3 HB3
    have hT := HT.out
    obtain ⟨⟨c0, c1', c2, c3⟩, d0, d1', d2, d3⟩ := hT.cells
    clear hT
    go_wp2_with fail
    refine (lpAddr_any A' A' b1 d1 a1 c1 _ HT.out.strs2 HT.out.strs1 hl4 hl4).mono ?_
    rintro e w5 ⟨rfl, hb5⟩
    rw [same_self]
    have HT5 : Hid _ := HT.out.below hb5
    have HM5 : Hid (Mx w5) := HM.out.keep fun k hk => HT5.out.low.block k hk
    clear HT hb5 hH c0 c1' c2 c3 d0 d1' d2 d3
    have hT := HT5.out
    obtain ⟨⟨c0, c1', c2, c3⟩, d0, d1', d2, d3⟩ := hT.cells
    clear hT
    cases ok
    all_goals
      by_cases hz : 58 < raw.size
      · go_wp2_with fail
        refine (lpAddr_any A' A' b1 d1 a1 c1 _ HT5.out.strs2 HT5.out.strs1 hl4 hl4).mono ?_
        rintro e w6 ⟨rfl, hb6⟩
        rw [same_self]
        have HT6 : Hid _ := HT5.out.below hb6
        clear hb6
        go_wp2
        go_ret
        exact ⟨rfl, HT6.out.low⟩
      · have HRX : Hid (readF (raw ++ ⟨#[35, 120]⟩).data.toList = readF raw.data.toList) := by
          show _ = _
          rw [data_append]
          exact RL.read_cross _ (by simp; omega)
        have HAX : Hid (ascii (raw ++ ⟨#[35, 120]⟩)) := ascii_app HA.out (ascii_of (by decide))
        have hpz : (raw ++ ⟨#[35, 120]⟩).size ≤ 60 := by
          rw [ByteArray.size_append]
          have : (⟨#[35, 120]⟩ : ByteArray).size = 2 := rfl
          omega
        have HPZ : Hid _ := hpz
        clear hpz
        go_wp2_with fail
        refine (implRead_ascii _ _ HM5.out HPZ.out HAX.out).mono ?_
        rintro e w7 ⟨B, ok2, x7, e7, rfl, hans, hO7, hb7⟩
        rw [HRX.out] at hans
        obtain ⟨hB, hok2⟩ := ans_same HANS.out hans
        subst hok2 hB
        clear hans
        have hb8 : Below w5.heap.size w5 (w7.alloc (.cells #[.string B.house, .slice x7 B.parts.length e7, .bool B.asks, .string B.ask] 25)) := hb7.alloc hb7.size _
        have HT8 : Hid _ := HT5.out.below hb8
        have HX8 : Hid (Dr.Box (w7.alloc (.cells #[.string B.house, .slice x7 B.parts.length e7, .bool B.asks, .string B.ask] 25)) w7.heap.size (.string B.house) (.slice x7 B.parts.length e7) (.bool B.asks) (.string B.ask)) := Dr.heap_new w7 _
        have HO8 : Hid (Owns (w7.alloc (.cells #[.string B.house, .slice x7 B.parts.length e7, .bool B.asks, .string B.ask] 25)) w5.heap.size (.slice x7 B.parts.length e7) B.parts) := Owns.keep hO7 (alloc_keep w7 _)
        obtain ⟨J, hJ⟩ : ∃ J, w7.heap.size = J := ⟨_, rfl⟩
        rw [hJ] at HX8
        clear hb7 hO7 hb8 HT5 HM5 c0 c1' c2 c3 d0 d1' d2 d3
        have hT := HT8.out
        obtain ⟨⟨c0, c1', c2, c3⟩, d0, d1', d2, d3⟩ := hT.cells
        clear hT
        have hx := HX8.out
        obtain ⟨⟨x0, x1, x2, x3⟩, xf⟩ := hx.cells
        clear hx
        go_wp2_with fail
        refine (lpAddr_any B B x7 e7 b1 d1 _ (Owns.strsOf HO8.out) HT8.out.strs2 hl4 hl4).mono ?_
        rintro e w10 ⟨rfl, hb10⟩
        rw [same_self]
        have HT10 : Hid _ := HT8.out.below hb10
        clear hb10
        go_wp2
        go_ret
        exact ⟨rfl, HT10.out.low⟩

theorem own : ownKnob Tryd.prog.godebug = none := by kernel_rfl
theorem laidOut : laidOutB Tryd.prog = true := by kernel_rfl

/-! ### THE ROW's STEP -/
set_option maxRecDepth 100000 in
theorem lifted (os : Os) (started : os.Started) (H : Type) (enc : TypeId × Value → H) :
    ReturnsInHanded {} Tryd.checked os 6 .any (fun w args => (Rows.fnAddrCrossSpec.pre enc Tryd.prog Tryd.f6 [] false w args ∧ laidMetH Tryd.prog Rows.fnAddrCrossRow.laid w) ∧ sizedMet enc Tryd.prog Tryd.f6 (OpenSpec.ofChange Rows.fnAddrCrossSpec) false w args)
      (Rows.fnAddrCrossSpec.post enc Tryd.prog Tryd.f6 false true false false) := by
  refine returnsInHanded_of_calls own started (by kernel_rfl)
    (ChangeSpec.witness_shaped (enc := enc) (C := Tryd.checked) (os := os) (X := fun w _ => laidMetH Tryd.prog Rows.fnAddrCrossRow.laid w) false (World.laidAll Tryd.prog os Rows.fnAddrCrossRow.laid) #[.slice none 0 0] 8 (World.laidAll_os _ _ _)
      (World.shaped_of_ZipB (by kernel_rfl) (by kernel_rfl)) (by kernel_rfl) (by kernel_rfl) (by kernel_rfl)
      (by rw [MakeChecks.laidMetH_plain _ _ _ (by kernel_rfl)]; exact laidMet_laidAll _ (by kernel_rfl) (by kernel_rfl))) ?_
  intro w tape i _ hsh _ hok hpre _
  obtain ⟨_, _, _, fn', hfn', _, _, _, _, hval1⟩ := hok
  obtain rfl : fn' = Tryd.f6 := Option.some.inj (hfn'.symm.trans Tryd.func6)
  obtain ⟨⟨⟨ds, gs, before, hw, _⟩, hL0⟩, _⟩ := hpre
  have hW := DataW.Whole.of_heap (w' := w.forCall tape i) (by rfl) hw
  have hL : laidMetH Tryd.prog Rows.fnAddrCrossRow.laid (w.forCall tape i) := hL0.of_heap (by rfl)
  have hb : ∃ base, ∀ (j : Nat) t v, Tryd.f6.params[j]? = some t → i.args[j]? = some v → Value.okWide Tryd.prog (w.forCall tape i) .any base t v := ⟨_, hval1⟩
  clear hval1 hfn' hL0 hw
  suffices h : Calls Tryd.checked.prog 6 i.args (w.forCall tape i) fun e W' => ∃ v, e = .returned v ∧ Rows.fnAddrCrossSpec.post enc Tryd.checked.prog Tryd.f6 false true false false (w.forCall tape i) i.args v W' from
    h.mono fun e W' ⟨v, he, hp⟩ => by subst he; exact ChangeSpec.post_blind hp
  generalize hWe : w.forCall tape i = W at *
  generalize i.args = args at *
  clear hWe
  obtain ⟨base, hval⟩ := hb
  have hW' := hW
  obtain ⟨p, q, hA0, hV, rfl, hfz, hnd⟩ := hW
  have hA : DataW.TrodAll enc Tryd.prog W 0 (fun _ => true) true Tryd.f6.params.toList args.toList ds p := hA0
  rw [Tryd.params6] at hA hval
  obtain ⟨v0, vs0, d0, ds0, p0, q0, hargs, rfl, rfl, h0, r0⟩ := trodAll_cons hA
  obtain ⟨rfl, rfl, rfl⟩ := trodAll_nil r0
  obtain rfl : args = #[v0] := by cases args; simp_all
  obtain ⟨rfl, rfl⟩ := trodVars_none hV
  obtain ⟨a0, len0, cap0, rfl⟩ := okWide_slice Tryd.underlying22 (hval 0 22 v0 rfl rfl)
  have k0 := h0
  have lt0 : ∀ x ∈ p0, x.block < W.heap.size := by obtain ⟨m, hm⟩ := k0; exact DataW.trod_lt m _ _ _ hm
  obtain ⟨z0, w0⟩ : ∃ zs, Dr.IsRow .u8 W a0 len0 cap0 zs := by
    obtain ⟨fuel, hf⟩ := h0
    rcases open_ints Tryd.underlying22 Tryd.underlying5 (by kernel_rfl) hf with ⟨hcs, _⟩ | ⟨x, l, c, zs, hcs, _, hl, hm, hz, _, hcell, hwz⟩
    · simp [Value.cells] at hcs
      obtain ⟨rfl, rfl, rfl⟩ := hcs
      exact ⟨[], .inl ⟨rfl, rfl, rfl, rfl⟩⟩
    · simp [Value.cells] at hcs
      obtain ⟨rfl, rfl, rfl⟩ := hcs
      exact ⟨zs, .inr ⟨_, rfl, hl, hm, by simpa using hz, hcell, hwz⟩⟩
  clear hA0
  refine (walk a0 len0 cap0 z0 W w0 hL hsh).mono fun e W' ⟨he, bel⟩ => ?_
  subst he
  exact ⟨_, rfl, _, _, _, [], _, [], hW', trodAll_mk1 (shut_bool Tryd.underlying4 _), (trodAll_cons_mk (Below.trod laidOut (by kernel_rfl) (of_decide_eq_true (by kernel_rfl)) k0 bel lt0) trodAll_mk0), rfl, bel.frame _, fun h => by cases h⟩

theorem over : Rows.fnAddrCrossRow.holds Tryd.pinned (OpenSpec.ofChange Rows.fnAddrCrossSpec) :=
  OpenClaim.holds_of_wide 6 Tryd.f6 rfl rfl rfl rfl rfl rfl rfl ⟨rfl, rfl, rfl, rfl, rfl⟩ rfl rfl rfl rfl rfl (by kernel_rfl) Tryd.func6 (by kernel_rfl)
    (of_decide_eq_true (by kernel_rfl)) (by unfold Func.isWrapper; first | (rw [if_pos (by decide +kernel)]; kernel_rfl) | (rw [if_neg (by decide +kernel)]; exact ⟨rfl, rfl⟩))
    (fun os started H enc _ => lifted os started H enc)

theorem proved : Rows.FnAddrCrossCardSaid :=
  Claim7.holds_tied_plain_at .later [] [.data, .pinned] true _ false over (fun _ h => by cases h) (by kernel_rfl) (fun _ h => by cases h) fnAddrCross_row_tie rfl ⟨rfl, rfl⟩ (by kernel_rfl) rfl
    (fun f fn hf hfn => by
      obtain rfl : f = 6 := Option.some.inj ((show Tryd.prog.funcNamed "loop.example/pedlar/laws.FnAddrCross" = some 6 by kernel_rfl).symm.trans hf) |>.symm
      obtain rfl : fn = Tryd.f6 := (Option.some.inj (Tryd.func6.symm.trans hfn)).symm
      exact ⟨by kernel_rfl, fun j t ht => by
        rw [Tryd.params6] at ht
        have hm : t ∈ [22] := by simpa using Array.mem_of_getElem? ht
        have hall : ([22].all fun u => !Tryd.prog.wantsStandIn u) = true := by kernel_rfl
        exact (show Tryd.prog.wantsStandIn t = false by simpa using List.all_eq_true.1 hall t hm)⟩)
    (by kernel_rfl)
end Go.Proofs.YtbfiopcdclcdhaaDoor.fnAddrCross
