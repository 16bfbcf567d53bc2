/- FnAddrPath: for every code, AddrPath of the address drawn of it answers as the model's, and AddrText of an ok one is both strokes, the house and that. No condition. -/
import Derived.Test.YtaejdcbjcomkjaaRows
import Derived.WalkKit
import Derived.ProofKit
import Derived.OpenShut
import Derived.ShutString
import Derived.ChangeOld
import Derived.Below
import Derived.Test.YtaejdcbjcomkjaaDraw7
import Derived.Deep.RegionHeld3
namespace Go.Proofs.Ytaejdcbjcomkjaa.fnAddrPath
open Go.ChangeShapes Go.WideShapes Go.ChangeAt Go.RowKit
open Go.ChangeMaps (open_string shut_string)
set_option linter.unusedVariables false
open Go.Proofs.Ytaejdcbjcomkjaa.St Go.Proofs.Ytaejdcbjcomkjaa.AddrM Go.Proofs.Ytaejdcbjcomkjaa.EscL Go.Proofs.Ytaejdcbjcomkjaa.Ad1

theorem path_zero {A : Ad} (h : okB A = true) : textF A = (⟨#[47, 47]⟩ : ByteArray) ++ A.house ++ pathF A ∧ 0 < (pathF A).size := by
  have e1 : pathF A = pathS A := by unfold pathF; rw [h]; rfl
  have e2 : textF A = textS A := by unfold textF; rw [h]; rfl
  refine ⟨by rw [e1, e2, text_eq], ?_⟩
  rw [e1]; show 0 < (pathL A).toArray.size
  simp [pathL]
theorem path_47 {A : Ad} (h : okB A = true) (h0 : 0 < (pathF A).size) : ((((pathF A)[0]'h0).toNat : Int) == 47) = true := by
  have e1 : pathF A = pathS A := by unfold pathF; rw [h]; rfl
  have e3 : (pathF A).data.toList[0]'(by simpa using h0) = 47 := by simp [e1, pathS, pathL]
  have e4 : (pathF A)[0]'h0 = 47 := e3
  rw [e4]; rfl

set_option maxHeartbeats 3200000 in
theorem walk (a0 : Option Addr) (len0 cap0 : Nat) (z0 : List Int) (w : World) (w0 : Dr.IsRow .u8 w a0 len0 cap0 z0) :
    Calls Try.prog 4 #[.slice a0 len0 cap0] w fun e w' => e = .returned (.bool true) ∧ Below w.heap.size w w' := by
  by_cases hlong : (1048576 : Int) < len0
  · go_enter Try.func4, Try.ntmps4
    go_wp2
    go_ret
    exact ⟨rfl, Below.refl _ _⟩
  · go_enter Try.func4, Try.ntmps4
    go_wp2_with fail
    refine (Dr.drawDrawAddrPath_any a0 len0 cap0 z0 w w0).mono ?_
    rintro e w1 ⟨A, a1, c1, rfl, hO, hk, hb1⟩
    have HO1 : Hid (Owns w1 w.heap.size (.slice a1 A.parts.length c1) A.parts) := hO
    have hk4 : bulkA A ≤ 4194304 := by omega
    clear hO
    have HX1 : Hid (Dr.Box (w1.alloc (.cells #[.string A.house, .slice a1 A.parts.length c1, .bool A.asks, .string A.ask] 25)) w1.heap.size (.string A.house) (.slice a1 A.parts.length c1) (.bool A.asks) (.string A.ask)) := Dr.heap_new w1 _
    have HB1 : Hid (Below w.heap.size w (w1.alloc (.cells #[.string A.house, .slice a1 A.parts.length c1, .bool A.asks, .string A.ask] 25))) := hb1.alloc hb1.size _
    have HO1a : Hid (Owns (w1.alloc (.cells #[.string A.house, .slice a1 A.parts.length c1, .bool A.asks, .string A.ask] 25)) w.heap.size (.slice a1 A.parts.length c1) A.parts) := Owns.keep HO1.out (alloc_keep w1 _)
    obtain ⟨G, hG⟩ : ∃ G, w1.heap.size = G := ⟨_, rfl⟩
    rw [hG] at HX1
    clear hb1
    go_wp2_with fail
    refine (implAddrPath_any A a1 c1 _ (Owns.strsOf HO1a.out) hk4).mono ?_
    rintro e w2 ⟨rfl, hb2⟩
    have HX2 : Hid (Dr.Box w2 G (.string A.house) (.slice a1 A.parts.length c1) (.bool A.asks) (.string A.ask)) := HX1.out.grown (grown_of_below none hb2) (by simp)
    have HO2 : Hid (Owns w2 w.heap.size (.slice a1 A.parts.length c1) A.parts) := Owns.below HO1a.out hb2
    have HB2 : Hid (Below w.heap.size w w2) := HB1.out.trans (hb2.mono HB1.out.size)
    clear hb2 HX1 HO1 HO1a HB1 hG
    have hx2 := HX2.out
    obtain ⟨⟨c0, c1', c2, c3⟩, fz⟩ := hx2.cells
    clear hx2
    have hpz := Dr.pathF_size A
    go_wp2_with fail
    refine (specAddrPath_any A a1 c1 _ (Owns.strsOf HO2.out) hk4).mono ?_
    rintro e w3 ⟨rfl, hb3⟩
    have HX3 : Hid (Dr.Box w3 G (.string A.house) (.slice a1 A.parts.length c1) (.bool A.asks) (.string A.ask)) := HX2.out.grown (grown_of_below none hb3) (by simp)
    have HO3 : Hid (Owns w3 w.heap.size (.slice a1 A.parts.length c1) A.parts) := Owns.below HO2.out hb3
    have HB3 : Hid (Below w.heap.size w w3) := HB2.out.trans (hb3.mono HB2.out.size)
    clear hb3 HX2 HO2 HB2 c0 c1' c2 c3 fz
    have hx3 := HX3.out
    obtain ⟨⟨c0, c1', c2, c3⟩, fz⟩ := hx3.cells
    clear hx3
    go_wp2_with fail
    refine (specOk_any A a1 c1 _ (Owns.strsOf HO3.out) hk4).mono ?_
    rintro e w4 ⟨rfl, hb4⟩
    have HX4 : Hid (Dr.Box w4 G (.string A.house) (.slice a1 A.parts.length c1) (.bool A.asks) (.string A.ask)) := HX3.out.grown (grown_of_below none hb4) (by simp)
    have HO4 : Hid (Owns w4 w.heap.size (.slice a1 A.parts.length c1) A.parts) := Owns.below HO3.out hb4
    have HB4 : Hid (Below w.heap.size w w4) := HB3.out.trans (hb4.mono HB3.out.size)
    clear hb4 HX3 HO3 HB3 c0 c1' c2 c3 fz
    have hx4 := HX4.out
    obtain ⟨⟨c0, c1', c2, c3⟩, fz⟩ := hx4.cells
    clear hx4
    cases hok : okB A with
    | false =>
      go_wp2_with fail
      refine (specAddrPath_any A a1 c1 _ (Owns.strsOf HO4.out) hk4).mono ?_
      rintro e w5 ⟨rfl, hb5⟩
      go_wp2
      go_ret
      exact ⟨rfl, HB4.out.trans (hb5.mono HB4.out.size)⟩
    | true =>
      obtain ⟨ht, hp0⟩ := path_zero hok
      have h47 := path_47 hok hp0
      have HT : Hid _ := ht
      have hhz : A.house.size ≤ 1000 := by unfold bulkA at hk; omega
      clear ht hok
      go_wp2_with fail
      have r1 : 2 + A.house.size ≤ 9223372036854775807 := by omega
      have r2 : ¬ 9223372036854775807 < 2 + A.house.size := by omega
      have r3 : 2 + A.house.size + (pathF A).size ≤ 9223372036854775807 := by omega
      have r4 : ¬ 9223372036854775807 < 2 + A.house.size + (pathF A).size := by omega
      go_region_held3 (fun w' => w'.cell? ⟨G, 0, none⟩ = some (.string A.house) ∧ w'.cell? ⟨G, 1, none⟩ = some (.slice a1 A.parts.length c1) ∧ w'.cell? ⟨G, 2, none⟩ = some (.bool A.asks) ∧ w'.cell? ⟨G, 3, none⟩ = some (.string A.ask)) (first | go_keep | exact ⟨x0, x1, x2, x3⟩)
        (first
        | (go_at_call 11
           refine (implAddrText_any A a1 c1 w4.drew (IsStrs.keep (Owns.strsOf HO4.out) (fun _ _ => rfl)) hk4).mono ?_
           rintro e w5 ⟨rfl, hb5⟩
           have HB5 : Hid (Below w.heap.size w w5) := HB4.out.drew.trans (hb5.mono HB4.out.size)
           have HX5 : Hid (Dr.Box w5 G (.string A.house) (.slice a1 A.parts.length c1) (.bool A.asks) (.string A.ask)) := (HX4.out.heapEq (w' := w4.drew) rfl).grown (grown_of_below none hb5) (by simp)
           have x0 := HX5.out.cells.1.1
           have x1 := HX5.out.cells.1.2.1
           have x2 := HX5.out.cells.1.2.2.1
           have x3 := HX5.out.cells.1.2.2.2
           clear hb5
           rw [HT.out])
        | fail)
      all_goals
        go_wp2
        go_ret
        exact ⟨rfl, HB5.out⟩

theorem own : ownKnob Try.prog.godebug = none := by kernel_rfl
theorem laidOut : laidOutB Try.prog = true := by kernel_rfl

/-! ### THE ROW's STEP -/
set_option maxRecDepth 100000 in
theorem lifted (os : Os) (started : os.Started) (H : Type) (enc : TypeId × Value → H) :
    ReturnsInHanded {} Try.checked os 4 .any (Rows.fnAddrPathSpec.pre6 enc Try.prog Try.f4 Rows.fnAddrPathRow.domain false) (Rows.fnAddrPathSpec.post enc Try.prog Try.f4 false true false false) := by
  refine returnsInHanded_of_change (C := Try.checked) own started (by kernel_rfl) Try.func4
    (ChangeSpec.witness6 (enc := enc) (C := Try.checked) false ⟨#[], #[.slice none 0 0], []⟩ 8 (by kernel_rfl) (by kernel_rfl) (by kernel_rfl) (by kernel_rfl)) ?_
  intro W base args ds gs before hval0 hW hcnd _
  have hval : ∀ (j : Nat) t v, Try.f4.params[j]? = some t → args[j]? = some v → Value.okWide Try.prog W .any base t v := hval0
  have hW' := hW
  obtain ⟨p, q, hA0, hV, rfl, hfz, hnd⟩ := hW
  have hA : DataW.TrodAll enc Try.prog W 0 (fun _ => true) true Try.f4.params.toList args.toList ds p := hA0
  rw [Try.params4] at hA hval
  obtain ⟨v0, vs0, d0, ds0, p0, q0, hargs, rfl, rfl, h0, r0⟩ := trodAll_cons hA
  obtain ⟨rfl, rfl, rfl⟩ := trodAll_nil r0
  obtain rfl : args = #[v0] := by cases args; simp_all
  obtain ⟨rfl, rfl⟩ := trodVars_none hV
  obtain ⟨a0, len0, cap0, rfl⟩ := okWide_slice Try.underlying22 (hval 0 22 v0 rfl rfl)
  have k0 := h0
  have lt0 : ∀ x ∈ p0, x.block < W.heap.size := by obtain ⟨m, hm⟩ := k0; exact DataW.trod_lt m _ _ _ hm
  obtain ⟨z0, w0⟩ : ∃ zs, Dr.IsRow .u8 W a0 len0 cap0 zs := by
    obtain ⟨fuel, hf⟩ := h0
    rcases open_ints Try.underlying22 Try.underlying5 (by kernel_rfl) hf with ⟨hcs, _⟩ | ⟨x, l, c, zs, hcs, _, hl, hm, hz, _, hcell, hwz⟩
    · simp [Value.cells] at hcs
      obtain ⟨rfl, rfl, rfl⟩ := hcs
      exact ⟨[], .inl ⟨rfl, rfl, rfl, rfl⟩⟩
    · simp [Value.cells] at hcs
      obtain ⟨rfl, rfl, rfl⟩ := hcs
      exact ⟨zs, .inr ⟨_, rfl, hl, hm, by simpa using hz, hcell, hwz⟩⟩
  clear hA0 hval0
  refine (walk a0 len0 cap0 z0 W w0).mono fun e W' ⟨he, bel⟩ => ?_
  subst he
  exact ⟨_, rfl, _, _, _, [], _, [], hW', trodAll_mk1 (shut_bool Try.underlying4 _), (trodAll_cons_mk (Below.trod laidOut (by kernel_rfl) (of_decide_eq_true (by kernel_rfl)) k0 bel lt0) trodAll_mk0), rfl, bel.frame _, fun h => by cases h⟩

theorem over : Rows.fnAddrPathRow.holds Try.pinned (OpenSpec.ofChange Rows.fnAddrPathSpec) :=
  OpenClaim.holds_of_wide 4 Try.f4 rfl rfl rfl rfl rfl rfl rfl ⟨rfl, rfl, rfl, rfl, rfl⟩ rfl rfl rfl rfl rfl (by kernel_rfl) Try.func4 (by kernel_rfl)
    (of_decide_eq_true (by kernel_rfl)) (by unfold Func.isWrapper; first | (rw [if_pos (by decide +kernel)]; kernel_rfl) | (rw [if_neg (by decide +kernel)]; exact ⟨rfl, rfl⟩))
    (fun os started H enc _ => lifted os started H enc)

theorem proved : Rows.FnAddrPathSaid := over
end Go.Proofs.Ytaejdcbjcomkjaa.fnAddrPath
