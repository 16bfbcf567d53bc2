/- FnAddrParts: for every code, AddrOk of the address drawn of it answers as the model's, and the parts of an ok one are as EscNorm and PathClean leave them. No condition. -/
import Derived.Test.YtaejdcbjcomkjaaRows
import Derived.WalkKit
import Derived.ProofKit
import Derived.OpenShut
import Derived.ShutString
import Derived.ChangeOld
import Derived.Below
import Derived.Test.YtaejdcbjcomkjaaDraw7
import Derived.Test.YtaejdcbjcomkjaaPath1
import Derived.Deep.RegionHeld3
namespace Go.Proofs.Ytaejdcbjcomkjaa.fnAddrParts
open Go.ChangeShapes Go.WideShapes Go.ChangeAt Go.RowKit
open Go.ChangeMaps (open_string shut_string)
set_option linter.unusedVariables false
open Go.Proofs.Ytaejdcbjcomkjaa.St Go.Proofs.Ytaejdcbjcomkjaa.AddrM Go.Proofs.Ytaejdcbjcomkjaa.EscM Go.Proofs.Ytaejdcbjcomkjaa.EscL Go.Proofs.Ytaejdcbjcomkjaa.Ad1 Go.Proofs.Ytaejdcbjcomkjaa.PathM

theorem part_good {s : ByteArray} (h : partB s = true) : good s ∧ escB s = true ∧ ((escS s).toList == s.toList) = true := by
  unfold partB normB at h
  simp only [Bool.and_eq_true, Bool.not_eq_true'] at h
  exact ⟨⟨h.1.1.1, h.1.1.2, h.1.2⟩, h.2.1, h.2.2⟩
theorem clean_good_from : ∀ (L acc : List ByteArray), (∀ s ∈ L, good s) → L.foldl cleanStep acc = acc ++ L := by
  intro L
  induction L with
  | nil => intro acc _; simp
  | cons x r ih =>
    intro acc h
    rw [List.foldl_cons, step_good _ _ (h x (by simp)), ih _ (fun s hs => h s (by simp [hs]))]; simp
theorem clean_same {L : List ByteArray} (h : L.all partB = true) : cleanL L = L := by
  have := clean_good_from L [] (fun s hs => (part_good (List.all_eq_true.1 h s hs)).1)
  simpa [cleanL] using this

set_option maxHeartbeats 3200000 in
theorem walk (a0 : Option Addr) (len0 cap0 : Nat) (z0 : List Int) (w : World) (w0 : Dr.IsRow .u8 w a0 len0 cap0 z0) :
    Calls Try.prog 5 #[.slice a0 len0 cap0] w fun e w' => e = .returned (.bool true) ∧ Below w.heap.size w w' := by
  by_cases hlong : (1048576 : Int) < len0
  · go_enter Try.func5, Try.ntmps5
    go_wp2
    go_ret
    exact ⟨rfl, Below.refl _ _⟩
  · go_enter Try.func5, Try.ntmps5
    go_wp2_with fail
    refine (Dr.drawDrawAddrOk_any a0 len0 cap0 z0 w w0).mono ?_
    rintro e w1 ⟨A, a1, c1, rfl, hO, hk, hb1⟩
    have HO1 : Hid (Owns w1 w.heap.size (.slice a1 A.parts.length c1) A.parts) := hO
    have hk4 : bulkA A ≤ 4194304 := by omega
    clear hO
    have HX1 : Hid (Dr.Box (w1.alloc (.cells #[.string A.house, .slice a1 A.parts.length c1, .bool A.asks, .string A.ask] 25)) w1.heap.size (.string A.house) (.slice a1 A.parts.length c1) (.bool A.asks) (.string A.ask)) := Dr.heap_new w1 _
    have HB1 : Hid (Below w.heap.size w (w1.alloc (.cells #[.string A.house, .slice a1 A.parts.length c1, .bool A.asks, .string A.ask] 25))) := hb1.alloc hb1.size _
    have HO1a : Hid (Owns (w1.alloc (.cells #[.string A.house, .slice a1 A.parts.length c1, .bool A.asks, .string A.ask] 25)) w.heap.size (.slice a1 A.parts.length c1) A.parts) := Owns.keep HO1.out (alloc_keep w1 _)
    obtain ⟨G, hG⟩ : ∃ G, w1.heap.size = G := ⟨_, rfl⟩
    rw [hG] at HX1
    clear hb1
    go_wp2_with fail
    refine (implOk_any A a1 c1 _ (Owns.strsOf HO1a.out) hk4).mono ?_
    rintro e w2 ⟨rfl, hb2⟩
    have HX2 : Hid (Dr.Box w2 G (.string A.house) (.slice a1 A.parts.length c1) (.bool A.asks) (.string A.ask)) := HX1.out.grown (grown_of_below none hb2) (by simp)
    have HO2 : Hid (Owns w2 w.heap.size (.slice a1 A.parts.length c1) A.parts) := Owns.below HO1a.out hb2
    have HB2 : Hid (Below w.heap.size w w2) := HB1.out.trans (hb2.mono HB1.out.size)
    clear hb2 HX1 HO1 HO1a HB1 hG
    have hx2 := HX2.out
    obtain ⟨⟨c0, c1', c2, c3⟩, fz⟩ := hx2.cells
    clear hx2
    go_wp2_with fail
    refine (specOk_any A a1 c1 _ (Owns.strsOf HO2.out) hk4).mono ?_
    rintro e w3 ⟨rfl, hb3⟩
    have HX3 : Hid (Dr.Box w3 G (.string A.house) (.slice a1 A.parts.length c1) (.bool A.asks) (.string A.ask)) := HX2.out.grown (grown_of_below none hb3) (by simp)
    have HO3 : Hid (Owns w3 w.heap.size (.slice a1 A.parts.length c1) A.parts) := Owns.below HO2.out hb3
    have HB3 : Hid (Below w.heap.size w w3) := HB2.out.trans (hb3.mono HB2.out.size)
    clear hb3 HX2 HO2 HB2 c0 c1' c2 c3 fz
    have hx3 := HX3.out
    obtain ⟨⟨c0, c1', c2, c3⟩, fz⟩ := hx3.cells
    clear hx3
    cases hok : okB A with
    | false =>
      go_wp2_with fail
      refine (specOk_any A a1 c1 _ (Owns.strsOf HO3.out) hk4).mono ?_
      rintro e w5 ⟨rfl, hb5⟩
      rw [hok]
      go_wp2
      go_ret
      exact ⟨rfl, HB3.out.trans (hb5.mono HB3.out.size)⟩
    | true =>
      obtain ⟨_, h5, hall, _⟩ := Dr.ok_parts hok
      have HA : Hid (A.parts.all partB = true) := hall
      clear hok hall
      go_wp2
      go_loopw [5] (fun i wr => ∃ k : Nat, k ≤ A.parts.length ∧ i = .int .i64 (k : Int) ∧ Hid (Dr.Box wr G (.string A.house) (.slice a1 A.parts.length c1) (.bool A.asks) (.string A.ask)) ∧ Hid (Owns wr w.heap.size (.slice a1 A.parts.length c1) A.parts) ∧ Hid (Below w.heap.size w wr)) (fun i _ => A.parts.length - (intOf i).toNat)
      case atStart => exact ⟨0, Nat.zero_le _, rfl, HX3, HO3, HB3⟩
      case round =>
        obtain ⟨k, hk0, rfl, HX, HO, HB⟩ := hrel
        clear c0 c1' c2 c3 fz
        have hx := HX.out
        obtain ⟨⟨c0, c1', c2, c3⟩, fz⟩ := hx.cells
        clear hx
        by_cases hlt : k < A.parts.length
        · have hmem : A.parts[k] ∈ A.parts := List.getElem_mem hlt
          obtain ⟨hgood, hesc, heq⟩ := part_good (List.all_eq_true.1 HA.out _ hmem)
          have hsz : A.parts[k].size ≤ maxLen := by
            have h1 := sum_mem hmem
            unfold bulkA at hk; unfold maxLen; omega
          have hcap := (Owns.strsOf HO.out).1
          have hcm := (Owns.strsOf HO.out).2.1
          unfold maxLen at hcm
          obtain ⟨b, off, e, hc⟩ := (Owns.strsOf HO.out).at hlt
          subst e
          have HBK : Hid _ := hk
          have HSZ : Hid _ := hsz
          clear hmem hgood hsz hk
          generalize hp : A.parts[k] = p at *
          have HP : Hid _ := hp
          clear hp
          go_wp2_with fail
          refine (implEsc_any p _ HSZ.out).mono ?_
          rintro e w6 ⟨rfl, hb6⟩
          rw [hesc]
          have HX6 : Hid (Dr.Box w6 G (.string A.house) (.slice (some ⟨b, off, none⟩) A.parts.length c1) (.bool A.asks) (.string A.ask)) := HX.out.grown (grown_of_below none hb6) (by simp)
          have HO6 : Hid (Owns w6 w.heap.size (.slice (some ⟨b, off, none⟩) A.parts.length c1) A.parts) := Owns.below HO.out hb6
          have HB6 : Hid (Below w.heap.size w w6) := HB.out.trans (hb6.mono HB.out.size)
          have hc6 : w6.cell? ⟨b, off + k, none⟩ = some (.string p) := (hb6.cell (cell_block hc)).trans hc
          clear hb6 c0 c1' c2 c3 fz hc
          have hx := HX6.out
          obtain ⟨⟨c0, c1', c2, c3⟩, fz⟩ := hx.cells
          clear hx
          go_wp2
          go_roundw
          case rel => exact ⟨k + 1, by omega, by go_num, HX6, HO6, HB6⟩
          case measure => simp [intOf]; omega
        · have hkl : A.parts.length ≤ 4194304 := by omega
          have HCL : Hid (cleanL A.parts = A.parts) := clean_same HA.out
          have h5' : (A.parts.length : Int) ≤ 5 := by omega
          go_wp2_with fail
          go_region_held3 (fun w' => w'.cell? ⟨G, 1, none⟩ = some (.slice a1 A.parts.length c1)) (first | go_keep | exact x1 | exact y1)
            (first
            | (go_at_call 22
               refine (implPath_any a1 c1 A.parts wr.drew (IsStrs.keep (Owns.strsOf HO.out) (fun _ _ => rfl)) hkl).mono ?_
               rintro e w7 ⟨v7, rfl, hO7, hb7⟩
               rw [HCL.out] at hO7
               obtain ⟨a7, c7, hv7, hS7⟩ := hO7.strs
               subst hv7
               have HS7 : Hid (IsStrs w7 a7 c7 A.parts) := hS7
               have HT7 : Hid (IsStrs w7 a1 c1 A.parts) := (IsStrs.keep (Owns.strsOf HO.out) (fun _ _ => rfl) : IsStrs wr.drew a1 c1 A.parts).below hb7
               have HB7 : Hid (Below w.heap.size w w7) := HB.out.drew.trans (hb7.mono HB.out.size)
               have x1 : w7.cell? ⟨G, 1, none⟩ = some (.slice a1 A.parts.length c1) := ((HX.out.heapEq (w' := wr.drew) rfl).grown (grown_of_below none hb7) (by simp)).cells.1.2.1
               clear hO7 hS7 hb7)
            | (go_at_call 21
               refine (texts_any a7 c7 A.parts a1 c1 A.parts w7 HS7.out HT7.out hkl hkl).mono ?_
               rintro e w8 ⟨rfl, n8, hw8⟩
               have HB8 : Hid (Below w.heap.size w w8) := (by subst hw8; exact ⟨HB7.out.os, HB7.out.tape, HB7.out.output, HB7.out.size, HB7.out.block⟩)
               have y1 : w8.cell? ⟨G, 1, none⟩ = some (.slice a1 A.parts.length c1) := (by subst hw8; exact x1)
               clear hw8
               rw [decide_eq_true (rfl : A.parts = A.parts)])
            | fail)
          all_goals
            go_wp2
            go_ret
            exact ⟨rfl, HB8.out⟩

theorem own : ownKnob Try.prog.godebug = none := by kernel_rfl
theorem laidOut : laidOutB Try.prog = true := by kernel_rfl

/-! ### THE ROW's STEP -/
set_option maxRecDepth 100000 in
theorem lifted (os : Os) (started : os.Started) (H : Type) (enc : TypeId × Value → H) :
    ReturnsInHanded {} Try.checked os 5 .any (Rows.fnAddrPartsSpec.pre6 enc Try.prog Try.f5 Rows.fnAddrPartsRow.domain false) (Rows.fnAddrPartsSpec.post enc Try.prog Try.f5 false true false false) := by
  refine returnsInHanded_of_change (C := Try.checked) own started (by kernel_rfl) Try.func5
    (ChangeSpec.witness6 (enc := enc) (C := Try.checked) false ⟨#[], #[.slice none 0 0], []⟩ 8 (by kernel_rfl) (by kernel_rfl) (by kernel_rfl) (by kernel_rfl)) ?_
  intro W base args ds gs before hval0 hW hcnd _
  have hval : ∀ (j : Nat) t v, Try.f5.params[j]? = some t → args[j]? = some v → Value.okWide Try.prog W .any base t v := hval0
  have hW' := hW
  obtain ⟨p, q, hA0, hV, rfl, hfz, hnd⟩ := hW
  have hA : DataW.TrodAll enc Try.prog W 0 (fun _ => true) true Try.f5.params.toList args.toList ds p := hA0
  rw [Try.params5] at hA hval
  obtain ⟨v0, vs0, d0, ds0, p0, q0, hargs, rfl, rfl, h0, r0⟩ := trodAll_cons hA
  obtain ⟨rfl, rfl, rfl⟩ := trodAll_nil r0
  obtain rfl : args = #[v0] := by cases args; simp_all
  obtain ⟨rfl, rfl⟩ := trodVars_none hV
  obtain ⟨a0, len0, cap0, rfl⟩ := okWide_slice Try.underlying22 (hval 0 22 v0 rfl rfl)
  have k0 := h0
  have lt0 : ∀ x ∈ p0, x.block < W.heap.size := by obtain ⟨m, hm⟩ := k0; exact DataW.trod_lt m _ _ _ hm
  obtain ⟨z0, w0⟩ : ∃ zs, Dr.IsRow .u8 W a0 len0 cap0 zs := by
    obtain ⟨fuel, hf⟩ := h0
    rcases open_ints Try.underlying22 Try.underlying5 (by kernel_rfl) hf with ⟨hcs, _⟩ | ⟨x, l, c, zs, hcs, _, hl, hm, hz, _, hcell, hwz⟩
    · simp [Value.cells] at hcs
      obtain ⟨rfl, rfl, rfl⟩ := hcs
      exact ⟨[], .inl ⟨rfl, rfl, rfl, rfl⟩⟩
    · simp [Value.cells] at hcs
      obtain ⟨rfl, rfl, rfl⟩ := hcs
      exact ⟨zs, .inr ⟨_, rfl, hl, hm, by simpa using hz, hcell, hwz⟩⟩
  clear hA0 hval0
  refine (walk a0 len0 cap0 z0 W w0).mono fun e W' ⟨he, bel⟩ => ?_
  subst he
  exact ⟨_, rfl, _, _, _, [], _, [], hW', trodAll_mk1 (shut_bool Try.underlying4 _), (trodAll_cons_mk (Below.trod laidOut (by kernel_rfl) (of_decide_eq_true (by kernel_rfl)) k0 bel lt0) trodAll_mk0), rfl, bel.frame _, fun h => by cases h⟩

theorem over : Rows.fnAddrPartsRow.holds Try.pinned (OpenSpec.ofChange Rows.fnAddrPartsSpec) :=
  OpenClaim.holds_of_wide 5 Try.f5 rfl rfl rfl rfl rfl rfl rfl ⟨rfl, rfl, rfl, rfl, rfl⟩ rfl rfl rfl rfl rfl (by kernel_rfl) Try.func5 (by kernel_rfl)
    (of_decide_eq_true (by kernel_rfl)) (by unfold Func.isWrapper; first | (rw [if_pos (by decide +kernel)]; kernel_rfl) | (rw [if_neg (by decide +kernel)]; exact ⟨rfl, rfl⟩))
    (fun os started H enc _ => lifted os started H enc)

theorem proved : Rows.FnAddrPartsSaid := over
end Go.Proofs.Ytaejdcbjcomkjaa.fnAddrParts
