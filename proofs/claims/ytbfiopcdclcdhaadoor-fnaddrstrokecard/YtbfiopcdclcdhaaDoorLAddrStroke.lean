/- FnAddrStroke: for every code, a stroke, and a dot, at the end change nothing of what is read of the text drawn of it, if nothing is asked in it, and no cross is there. The card ties two tables of unicode/utf8 to the program's text; no other condition. -/
import Derived.Test.YtbfiopcdclcdhaaDoorRows
import Derived.WalkKit
import Derived.ProofKit
import Derived.OpenShut
import Derived.ShutString
import Derived.ChangeOld
import Derived.Below
import Derived.Test.YtbfiopcdclcdhaaDoorCards
import Derived.Test.YtbfiopcdclcdhaaDoorTie
import Derived.Test.YtbfiopcdclcdhaaDoorDoor
import Derived.Lay
import Derived.LaidOnce
import Derived.SevenTiedAt
namespace Go.Proofs.YtbfiopcdclcdhaaDoor.fnAddrStroke
open Go.ChangeShapes Go.WideShapes Go.ChangeAt Go.RowKit
open Go.ChangeMaps (open_string shut_string)
set_option linter.unusedVariables false
open Go.Proofs.YtbfiopcdclcdhaaDoor.St Go.Proofs.YtbfiopcdclcdhaaDoor.AddrM Go.Proofs.YtbfiopcdclcdhaaDoor.ReadM Go.Proofs.YtbfiopcdclcdhaaDoor.EscL Go.Proofs.YtbfiopcdclcdhaaDoor.Ad1 Go.Proofs.YtbfiopcdclcdhaaDoor.Dr Go.Proofs.YtbfiopcdclcdhaaDoor.Tw Go.Proofs.YtbfiopcdclcdhaaDoor.RB Go.Proofs.YtbfiopcdclcdhaaDoor.Im Go.Proofs.YtbfiopcdclcdhaaDoor.Rd1 Go.Proofs.YtbfiopcdclcdhaaDoor.Door

def bareP (b : UInt8) : Bool := !((b.toNat : Int) == 63) && !((b.toNat : Int) == 35)
def bareB (s : ByteArray) : Bool := s.data.toList.all bareP
theorem bare_take {s : ByteArray} {k : Nat} (h : k < s.size) (h0 : (s.data.toList.take k).all bareP = true) (h1 : bareP (s[k]'h) = true) : (s.data.toList.take (k + 1)).all bareP = true := by
  have hl : k < s.data.toList.length := by simpa using h
  rw [List.take_succ_eq_append_getElem hl, List.all_append, h0]
  have e : s.data.toList[k] = s[k]'h := rfl
  rw [e]
  simp [h1]
theorem bare_not {s : ByteArray} {k : Nat} (h : k < s.size) (h1 : bareP (s[k]'h) = false) : bareB s = false := by
  unfold bareB
  rw [List.all_eq_false]
  exact ⟨s[k]'h, by
    have hl : k < s.data.toList.length := by simpa using h
    exact List.getElem_mem hl, by rw [h1]; simp⟩

set_option maxRecDepth 100000 in
set_option maxHeartbeats 1600000 in
theorem bare_any (s : ByteArray) (w : World) (hs : s.size ≤ 60) :
    Calls Tryd.prog 23 #[.string s] w fun e w' => e = .returned (.bool (bareB s)) ∧ w' = w := by
  go_enter Tryd.func23, Tryd.ntmps23
  go_wp2
  go_loop [3] (fun i => ∃ k : Nat, k ≤ s.size ∧ i = .int .i64 (k : Int) ∧ Hid ((s.data.toList.take k).all bareP = true)) (fun i => s.size - (intOf i).toNat)
  case atStart => exact ⟨0, Nat.zero_le _, rfl, by show _ = _; simp⟩
  case round =>
    obtain ⟨k, hk, rfl, HP⟩ := hrel
    by_cases hlt : k < s.size
    · by_cases h1 : ((s[k]'hlt).toNat : Int) = 63
      · have HN : Hid (bareB s = false) := bare_not hlt (by unfold bareP; rw [h1]; rfl)
        go_wp2
        go_ret
        exact ⟨ret_bool HN.out.symm, rfl⟩
      · have e1 : (((s[k]'hlt).toNat : Int) == 63) = false := by simp; omega
        by_cases h2 : ((s[k]'hlt).toNat : Int) = 35
        · have HN : Hid (bareB s = false) := bare_not hlt (by unfold bareP; rw [h2]; rfl)
          go_wp2
          go_ret
          exact ⟨ret_bool HN.out.symm, rfl⟩
        · have e2 : (((s[k]'hlt).toNat : Int) == 35) = false := by simp; omega
          have HN : Hid _ := bare_take hlt HP.out (by unfold bareP; rw [e1, e2]; rfl)
          go_wp2
          go_round
          case rel => exact ⟨k + 1, by omega, by go_num, HN.out⟩
          case measure => simp [intOf]; omega
    · have HS : Hid (bareB s = true) := by
        show _ = _
        have := HP.out
        rwa [List.take_of_length_le (by simp; omega)] at this
      go_wp2
      go_ret
      exact ⟨ret_bool HS.out.symm, rfl⟩
theorem bare_all {s : ByteArray} (h : bareB s = true) : ∀ b ∈ s.data.toList, (b.toNat : Int) ≠ 63 ∧ (b.toNat : Int) ≠ 35 := by
  intro b hb
  unfold bareB at h
  have := List.all_eq_true.1 h b hb
  unfold bareP at this
  simp at this
  omega

set_option maxRecDepth 100000 in
set_option maxHeartbeats 6400000 in
theorem walk (a0 : Option Addr) (len0 cap0 : Nat) (z0 : List Int) (w : World) (w0 : Dr.IsRow .u8 w a0 len0 cap0 z0) (hL : laidMetH Tryd.prog Rows.fnAddrStrokeRow.laid w) (hsh : w.ShapedOpen Tryd.prog) :
    Calls Tryd.prog 7 #[.slice a0 len0 cap0] w fun e w' => e = .returned (.bool true) ∧ Below w.heap.size w w' := by
  have HM : Hid (Mx w) := mx_of hsh
  clear hsh hL
  by_cases hlong : (1048576 : Int) < len0
  · go_enter Tryd.func7, Tryd.ntmps7
    go_wp2
    go_ret
    exact ⟨rfl, Below.refl _ _⟩
  · go_enter Tryd.func7, Tryd.ntmps7
    go_wp2_with fail
    refine (Dr.drawRead_any a0 len0 cap0 z0 w w0).mono ?_
    rintro e w1 ⟨raw, rfl, hrs, hra, hb1⟩
    have HA : Hid (ascii raw) := ascii_of hra
    have HB1 : Hid (Below w.heap.size w w1) := hb1
    clear hb1 hra
    go_wp2_with fail
    refine (specRead_any raw _ (by omega)).mono ?_
    rintro e w2 ⟨A, told, a1, c1, rfl, hans, hO, hb2⟩
    have HANS : Hid (Ans (readF raw.data.toList) A told) := hans
    have HX2 : Hid (Dr.Box (w2.alloc (.cells #[.string A.house, .slice a1 A.parts.length c1, .bool A.asks, .string A.ask] 25)) w2.heap.size (.string A.house) (.slice a1 A.parts.length c1) (.bool A.asks) (.string A.ask)) := Dr.heap_new w2 _
    have HO2 : Hid (Owns (w2.alloc (.cells #[.string A.house, .slice a1 A.parts.length c1, .bool A.asks, .string A.ask] 25)) w.heap.size (.slice a1 A.parts.length c1) A.parts) := Owns.mono (Owns.keep hO (alloc_keep w2 _)) HB1.out.size
    have hb2w := HB1.out.trans (hb2.mono HB1.out.size)
    have HB2 : Hid (Below w.heap.size w (w2.alloc (.cells #[.string A.house, .slice a1 A.parts.length c1, .bool A.asks, .string A.ask] 25))) := hb2w.alloc hb2w.size _
    have HM2 : Hid (Mx (w2.alloc (.cells #[.string A.house, .slice a1 A.parts.length c1, .bool A.asks, .string A.ask] 25))) := HM.out.keep fun k hk => HB2.out.block k hk
    obtain ⟨G, hG⟩ : ∃ G, w2.heap.size = G := ⟨_, rfl⟩
    rw [hG] at HX2
    clear hb2 hO hans HB1 hb2w
    go_wp2_with fail
    refine (implRead_ascii raw _ HM2.out (by omega) HA.out).mono ?_
    rintro e w3 ⟨A', ok, b1, d1, rfl, hans, hO, hb3⟩
    obtain ⟨hA', hok'⟩ := ans_same HANS.out hans
    subst hA' hok'
    clear hans
    have HX3 : Hid (Dr.Box w3 G (.string A'.house) (.slice a1 A'.parts.length c1) (.bool A'.asks) (.string A'.ask)) := HX2.out.grown (grown_of_below none hb3) (by simp)
    have HO3 : Hid (Owns w3 w.heap.size (.slice a1 A'.parts.length c1) A'.parts) := Owns.below HO2.out hb3
    have HP3 : Hid (Owns w3 w.heap.size (.slice b1 A'.parts.length d1) A'.parts) := Owns.mono hO HB2.out.size
    have HB3 : Hid (Below w.heap.size w w3) := HB2.out.trans (hb3.mono HB2.out.size)
    clear hb3 hO HX2 HO2 HM2 HB2 hG
    have HT : Hid (Tw.Two w (w3.alloc (.cells #[.string A'.house, .slice b1 A'.parts.length d1, .bool A'.asks, .string A'.ask] 25)) G w3.heap.size A' A' a1 c1 b1 d1) :=
      ⟨HX3.out.grown (grown_alloc w3 _ none) (by simp), Dr.heap_new w3 _, Owns.keep HO3.out (alloc_keep w3 _), Owns.keep HP3.out (alloc_keep w3 _), HB3.out.alloc HB3.out.size _⟩
    obtain ⟨H, hH⟩ : ∃ H, w3.heap.size = H := ⟨_, rfl⟩
    rw [hH] at HT
    have hb5 : A'.parts.length ≤ 4194304 ∧ bulkA A' ≤ 4194304 := ans_bulk HANS.out
    obtain ⟨hl4, hk4⟩ := hb5
    clear HX3 HO3 HP3 HB3
    have hT := HT.out
    obtain ⟨⟨c0, c1', c2, c3⟩, d0, d1', d2, d3⟩ := hT.cells
    clear hT
    go_wp2_with fail
    refine (lpAddr_any A' A' b1 d1 a1 c1 _ HT.out.strs2 HT.out.strs1 hl4 hl4).mono ?_
    rintro e w5 ⟨rfl, hb5⟩
    rw [same_self]
    have HT5 : Hid _ := HT.out.below hb5
    have HM5 : Hid (Mx w5) := HM.out.keep fun k hk => HT5.out.low.block k hk
    clear HT hb5 hH c0 c1' c2 c3 d0 d1' d2 d3
    have hT := HT5.out
    obtain ⟨⟨c0, c1', c2, c3⟩, d0, d1', d2, d3⟩ := hT.cells
    clear hT
    cases ok with
    | false =>
      go_wp2_with fail
      refine (lpAddr_any A' A' b1 d1 a1 c1 _ HT5.out.strs2 HT5.out.strs1 hl4 hl4).mono ?_
      rintro e w6 ⟨rfl, hb6⟩
      rw [same_self]
      have HT6 : Hid _ := HT5.out.below hb6
      clear hb6
      go_wp2
      go_ret
      exact ⟨rfl, HT6.out.low⟩
    | true =>
      have HR : Hid (readF raw.data.toList = some A') := ans_yes HANS.out rfl
      clear HANS
      cases hbare : bareB raw with
      | false =>
        have HBR : Hid _ := hbare
        clear hbare
        go_wp2_with fail
        refine (bare_any raw _ hrs).mono ?_
        rintro e w6 ⟨rfl, rfl⟩
        rw [HBR.out]
        go_wp2_with fail
        refine (lpAddr_any A' A' b1 d1 a1 c1 _ HT5.out.strs2 HT5.out.strs1 hl4 hl4).mono ?_
        rintro e w7 ⟨rfl, hb7⟩
        rw [same_self]
        have HT7 : Hid _ := HT5.out.below hb7
        clear hb7
        go_wp2
        go_ret
        exact ⟨rfl, HT7.out.low⟩
      | true =>
        have HBR : Hid _ := hbare
        clear hbare
        by_cases hz : 56 < raw.size
        · go_wp2_with fail
          refine (bare_any raw _ hrs).mono ?_
          rintro e w6 ⟨rfl, rfl⟩
          rw [HBR.out]
          go_wp2_with fail
          refine (lpAddr_any A' A' b1 d1 a1 c1 _ HT5.out.strs2 HT5.out.strs1 hl4 hl4).mono ?_
          rintro e w7 ⟨rfl, hb7⟩
          rw [same_self]
          have HT7 : Hid _ := HT5.out.below hb7
          clear hb7
          go_wp2
          go_ret
          exact ⟨rfl, HT7.out.low⟩
        · have HRX : Hid (readF (raw ++ (⟨#[47]⟩ : ByteArray)).data.toList = some A') := by
            show _ = _
            rw [data_append]
            exact RL.read_stroke HR.out (bare_all HBR.out) (by simp; omega)
          have HRY : Hid (readF (raw ++ (⟨#[47, 46, 47]⟩ : ByteArray)).data.toList = some A') := by
            show _ = _
            rw [data_append]
            exact RL.read_dot HR.out (bare_all HBR.out) (by simp; omega)
          have HAX : Hid (ascii (raw ++ (⟨#[47]⟩ : ByteArray))) := ascii_app HA.out (ascii_of (by decide))
          have HAY : Hid (ascii (raw ++ (⟨#[47, 46, 47]⟩ : ByteArray))) := ascii_app HA.out (ascii_of (by decide))
          have HPX : Hid ((raw ++ (⟨#[47]⟩ : ByteArray)).size ≤ 60) := by
            show _ ≤ _
            rw [ByteArray.size_append]
            have : (⟨#[47]⟩ : ByteArray).size = 1 := rfl
            omega
          have HPY : Hid ((raw ++ (⟨#[47, 46, 47]⟩ : ByteArray)).size ≤ 60) := by
            show _ ≤ _
            rw [ByteArray.size_append]
            have : (⟨#[47, 46, 47]⟩ : ByteArray).size = 3 := rfl
            omega
          go_wp2_with fail
          refine (bare_any raw _ hrs).mono ?_
          rintro e w6 ⟨rfl, rfl⟩
          rw [HBR.out]
          go_wp2_with fail
          refine (implRead_ascii _ _ HM5.out HPX.out HAX.out).mono ?_
          rintro e w7 ⟨B, ok2, x7, e7, rfl, hans, hO7, hb7⟩
          obtain ⟨hok2, hB⟩ := ans_is hans HRX.out
          subst hok2 hB
          clear hans
          have hb8 : Below w6.heap.size w6 (w7.alloc (.cells #[.string B.house, .slice x7 B.parts.length e7, .bool B.asks, .string B.ask] 25)) := hb7.alloc hb7.size _
          have HT8 : Hid _ := HT5.out.below hb8
          have HM8 : Hid (Mx _) := HM5.out.below hb8
          have HX8 : Hid (At w6 (w7.alloc (.cells #[.string B.house, .slice x7 B.parts.length e7, .bool B.asks, .string B.ask] 25)) w7.heap.size B x7 e7) := At.new hO7 (Nat.le_refl _)
          obtain ⟨J, hJ⟩ : ∃ J, w7.heap.size = J := ⟨_, rfl⟩
          rw [hJ] at HX8
          clear hb7 hO7 hb8 HT5 HM5 c0 c1' c2 c3 d0 d1' d2 d3
          go_wp2_with fail
          refine (implRead_ascii _ _ HM8.out HPY.out HAY.out).mono ?_
          rintro e w9 ⟨B2, ok3, x9, e9, rfl, hans, hO9, hb9⟩
          obtain ⟨hok3, hB2⟩ := ans_is hans HRY.out
          subst hok3 hB2
          clear hans
          have hb10 := hb9.alloc hb9.size (.cells #[.string B2.house, .slice x9 B2.parts.length e9, .bool B2.asks, .string B2.ask] 25)
          have HT10 : Hid _ := HT8.out.below hb10
          have HX10 : Hid _ := HX8.out.below hb10
          have HY10 : Hid (At w7 (w9.alloc (.cells #[.string B2.house, .slice x9 B2.parts.length e9, .bool B2.asks, .string B2.ask] 25)) w9.heap.size B2 x9 e9) := At.new hO9 (by simp)
          obtain ⟨M, hM⟩ : ∃ M, w9.heap.size = M := ⟨_, rfl⟩
          rw [hM] at HY10
          clear hb9 hO9 hb10 HT8 HM8 HX8 hJ
          have hT := HT10.out
          obtain ⟨⟨c0, c1', c2, c3⟩, d0, d1', d2, d3⟩ := hT.cells
          clear hT
          have hx := HX10.out
          obtain ⟨x0, x1, x2, x3⟩ := hx.cells
          clear hx
          have hy := HY10.out
          obtain ⟨y0, y1, y2, y3⟩ := hy.cells
          clear hy
          go_wp2_with fail
          refine (lpAddr_any B2 B2 x7 e7 b1 d1 _ HX10.out.strs HT10.out.strs2 hl4 hl4).mono ?_
          rintro e w11 ⟨rfl, hb11⟩
          rw [same_self]
          have HT11 : Hid _ := HT10.out.below hb11
          have HY11 : Hid _ := HY10.out.below hb11
          clear hb11 hM HT10 HX10 HY10 c0 c1' c2 c3 d0 d1' d2 d3 x0 x1 x2 x3 y0 y1 y2 y3
          have hT := HT11.out
          obtain ⟨⟨c0, c1', c2, c3⟩, d0, d1', d2, d3⟩ := hT.cells
          clear hT
          have hy := HY11.out
          obtain ⟨y0, y1, y2, y3⟩ := hy.cells
          clear hy
          go_wp2_with fail
          refine (lpAddr_any B2 B2 x9 e9 b1 d1 _ HY11.out.strs HT11.out.strs2 hl4 hl4).mono ?_
          rintro e w12 ⟨rfl, hb12⟩
          rw [same_self]
          have HT12 : Hid _ := HT11.out.below hb12
          clear hb12
          go_wp2
          go_ret
          exact ⟨rfl, HT12.out.low⟩

theorem own : ownKnob Tryd.prog.godebug = none := by kernel_rfl
theorem laidOut : laidOutB Tryd.prog = true := by kernel_rfl

/-! ### THE ROW's STEP -/
set_option maxRecDepth 100000 in
theorem lifted (os : Os) (started : os.Started) (H : Type) (enc : TypeId × Value → H) :
    ReturnsInHanded {} Tryd.checked os 7 .any (fun w args => (Rows.fnAddrStrokeSpec.pre enc Tryd.prog Tryd.f7 [] false w args ∧ laidMetH Tryd.prog Rows.fnAddrStrokeRow.laid w) ∧ sizedMet enc Tryd.prog Tryd.f7 (OpenSpec.ofChange Rows.fnAddrStrokeSpec) false w args)
      (Rows.fnAddrStrokeSpec.post enc Tryd.prog Tryd.f7 false true false false) := by
  refine returnsInHanded_of_calls own started (by kernel_rfl)
    (ChangeSpec.witness_shaped (enc := enc) (C := Tryd.checked) (os := os) (X := fun w _ => laidMetH Tryd.prog Rows.fnAddrStrokeRow.laid w) false (World.laidAll Tryd.prog os Rows.fnAddrStrokeRow.laid) #[.slice none 0 0] 8 (World.laidAll_os _ _ _)
      (World.shaped_of_ZipB (by kernel_rfl) (by kernel_rfl)) (by kernel_rfl) (by kernel_rfl) (by kernel_rfl)
      (by rw [MakeChecks.laidMetH_plain _ _ _ (by kernel_rfl)]; exact laidMet_laidAll _ (by kernel_rfl) (by kernel_rfl))) ?_
  intro w tape i _ hsh _ hok hpre _
  obtain ⟨_, _, _, fn', hfn', _, _, _, _, hval1⟩ := hok
  obtain rfl : fn' = Tryd.f7 := Option.some.inj (hfn'.symm.trans Tryd.func7)
  obtain ⟨⟨⟨ds, gs, before, hw, _⟩, hL0⟩, _⟩ := hpre
  have hW := DataW.Whole.of_heap (w' := w.forCall tape i) (by rfl) hw
  have hL : laidMetH Tryd.prog Rows.fnAddrStrokeRow.laid (w.forCall tape i) := hL0.of_heap (by rfl)
  have hb : ∃ base, ∀ (j : Nat) t v, Tryd.f7.params[j]? = some t → i.args[j]? = some v → Value.okWide Tryd.prog (w.forCall tape i) .any base t v := ⟨_, hval1⟩
  clear hval1 hfn' hL0 hw
  suffices h : Calls Tryd.checked.prog 7 i.args (w.forCall tape i) fun e W' => ∃ v, e = .returned v ∧ Rows.fnAddrStrokeSpec.post enc Tryd.checked.prog Tryd.f7 false true false false (w.forCall tape i) i.args v W' from
    h.mono fun e W' ⟨v, he, hp⟩ => by subst he; exact ChangeSpec.post_blind hp
  generalize hWe : w.forCall tape i = W at *
  generalize i.args = args at *
  clear hWe
  obtain ⟨base, hval⟩ := hb
  have hW' := hW
  obtain ⟨p, q, hA0, hV, rfl, hfz, hnd⟩ := hW
  have hA : DataW.TrodAll enc Tryd.prog W 0 (fun _ => true) true Tryd.f7.params.toList args.toList ds p := hA0
  rw [Tryd.params7] at hA hval
  obtain ⟨v0, vs0, d0, ds0, p0, q0, hargs, rfl, rfl, h0, r0⟩ := trodAll_cons hA
  obtain ⟨rfl, rfl, rfl⟩ := trodAll_nil r0
  obtain rfl : args = #[v0] := by cases args; simp_all
  obtain ⟨rfl, rfl⟩ := trodVars_none hV
  obtain ⟨a0, len0, cap0, rfl⟩ := okWide_slice Tryd.underlying22 (hval 0 22 v0 rfl rfl)
  have k0 := h0
  have lt0 : ∀ x ∈ p0, x.block < W.heap.size := by obtain ⟨m, hm⟩ := k0; exact DataW.trod_lt m _ _ _ hm
  obtain ⟨z0, w0⟩ : ∃ zs, Dr.IsRow .u8 W a0 len0 cap0 zs := by
    obtain ⟨fuel, hf⟩ := h0
    rcases open_ints Tryd.underlying22 Tryd.underlying5 (by kernel_rfl) hf with ⟨hcs, _⟩ | ⟨x, l, c, zs, hcs, _, hl, hm, hz, _, hcell, hwz⟩
    · simp [Value.cells] at hcs
      obtain ⟨rfl, rfl, rfl⟩ := hcs
      exact ⟨[], .inl ⟨rfl, rfl, rfl, rfl⟩⟩
    · simp [Value.cells] at hcs
      obtain ⟨rfl, rfl, rfl⟩ := hcs
      exact ⟨zs, .inr ⟨_, rfl, hl, hm, by simpa using hz, hcell, hwz⟩⟩
  clear hA0
  refine (walk a0 len0 cap0 z0 W w0 hL hsh).mono fun e W' ⟨he, bel⟩ => ?_
  subst he
  exact ⟨_, rfl, _, _, _, [], _, [], hW', trodAll_mk1 (shut_bool Tryd.underlying4 _), (trodAll_cons_mk (Below.trod laidOut (by kernel_rfl) (of_decide_eq_true (by kernel_rfl)) k0 bel lt0) trodAll_mk0), rfl, bel.frame _, fun h => by cases h⟩

theorem over : Rows.fnAddrStrokeRow.holds Tryd.pinned (OpenSpec.ofChange Rows.fnAddrStrokeSpec) :=
  OpenClaim.holds_of_wide 7 Tryd.f7 rfl rfl rfl rfl rfl rfl rfl ⟨rfl, rfl, rfl, rfl, rfl⟩ rfl rfl rfl rfl rfl (by kernel_rfl) Tryd.func7 (by kernel_rfl)
    (of_decide_eq_true (by kernel_rfl)) (by unfold Func.isWrapper; first | (rw [if_pos (by decide +kernel)]; kernel_rfl) | (rw [if_neg (by decide +kernel)]; exact ⟨rfl, rfl⟩))
    (fun os started H enc _ => lifted os started H enc)

theorem proved : Rows.FnAddrStrokeCardSaid :=
  Claim7.holds_tied_plain_at .later [] [.data, .pinned] true _ false over (fun _ h => by cases h) (by kernel_rfl) (fun _ h => by cases h) fnAddrStroke_row_tie rfl ⟨rfl, rfl⟩ (by kernel_rfl) rfl
    (fun f fn hf hfn => by
      obtain rfl : f = 7 := Option.some.inj ((show Tryd.prog.funcNamed "loop.example/pedlar/laws.FnAddrStroke" = some 7 by kernel_rfl).symm.trans hf) |>.symm
      obtain rfl : fn = Tryd.f7 := (Option.some.inj (Tryd.func7.symm.trans hfn)).symm
      exact ⟨by kernel_rfl, fun j t ht => by
        rw [Tryd.params7] at ht
        have hm : t ∈ [22] := by simpa using Array.mem_of_getElem? ht
        have hall : ([22].all fun u => !Tryd.prog.wantsStandIn u) = true := by kernel_rfl
        exact (show Tryd.prog.wantsStandIn t = false by simpa using List.all_eq_true.1 hall t hm)⟩)
    (by kernel_rfl)
end Go.Proofs.YtbfiopcdclcdhaaDoor.fnAddrStroke
