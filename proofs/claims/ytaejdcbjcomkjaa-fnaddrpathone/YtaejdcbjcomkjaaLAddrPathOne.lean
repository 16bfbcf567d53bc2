/- FnAddrPathOne: for every two codes, the ways of the addresses drawn of them are the same just if all but the houses is, both being ok. No condition. -/
import Derived.Test.YtaejdcbjcomkjaaRows
import Derived.WalkKit
import Derived.ProofKit
import Derived.OpenShut
import Derived.ShutString
import Derived.ChangeOld
import Derived.Below
import Derived.Test.YtaejdcbjcomkjaaTwo
namespace Go.Proofs.Ytaejdcbjcomkjaa.fnAddrPathOne
open Go.ChangeShapes Go.WideShapes Go.ChangeAt Go.RowKit
open Go.ChangeMaps (open_string shut_string)
set_option linter.unusedVariables false
open Go.Proofs.Ytaejdcbjcomkjaa.St Go.Proofs.Ytaejdcbjcomkjaa.AddrM Go.Proofs.Ytaejdcbjcomkjaa.EscL Go.Proofs.Ytaejdcbjcomkjaa.Ad1 Go.Proofs.Ytaejdcbjcomkjaa.Dr Go.Proofs.Ytaejdcbjcomkjaa.Tw Go.Proofs.Ytaejdcbjcomkjaa.RB

theorem text_some {A : Ad} (h : okB A = true) : (pathF A).toList.isEmpty = false := by
  have e2 : pathF A = pathS A := by unfold pathF; rw [h]; rfl
  rw [e2, ByteArray.toList_eq]
  simp [pathS, pathL]
theorem text_none {A : Ad} (h : okB A = false) : (pathF A).toList.isEmpty = true := by
  have e2 : pathF A = ⟨#[]⟩ := by unfold pathF; rw [h]; rfl
  rw [e2, ByteArray.toList_eq]; rfl
theorem text_one {A B : Ad} (hA : okB A = true) (hB : okB B = true) : ((pathF A).toList == (pathF B).toList) = sameB A ⟨A.house, B.parts, B.asks, B.ask⟩ := by
  have e1 : pathF A = pathS A := by unfold pathF; rw [hA]; rfl
  have e2 : pathF B = pathS B := by unfold pathF; rw [hB]; rfl
  rw [Bool.eq_iff_iff, same_iff, e1, e2, ByteArray.toList_eq, ByteArray.toList_eq]
  constructor
  · intro h
    have h : pathL A = pathL B := by simpa [pathS] using h
    obtain ⟨i1, i2, i3⟩ := path_inj hA hB h
    obtain ⟨h, p, q, k⟩ := A
    dsimp only at i1 i2 i3
    rw [i1, i2, i3]
  · intro h
    have e : pathL A = pathL B := by rw [h]; rfl
    simp [pathS, e]

set_option maxHeartbeats 6400000 in
theorem walk (a0 : Option Addr) (len0 cap0 : Nat) (z0 : List Int) (a1 : Option Addr) (len1 cap1 : Nat) (z1 : List Int) (w : World) (w0 : Dr.IsRow .u8 w a0 len0 cap0 z0) (w1 : Dr.IsRow .u8 w a1 len1 cap1 z1) :
    Calls Try.prog 6 #[.slice a0 len0 cap0, .slice a1 len1 cap1] w fun e w' => e = .returned (.bool true) ∧ Below w.heap.size w w' := by
  by_cases hlong : (1048576 : Int) < len0
  · go_enter Try.func6, Try.ntmps6
    go_wp2
    go_ret
    exact ⟨rfl, Below.refl _ _⟩
  by_cases hlong2 : (1048576 : Int) < len1
  · go_enter Try.func6, Try.ntmps6
    go_wp2
    go_ret
    exact ⟨rfl, Below.refl _ _⟩
  have HI1 : Hid (Dr.IsRow .u8 w a1 len1 cap1 z1) := w1
  have HI0 : Hid (Dr.IsRow .u8 w a0 len0 cap0 z0) := w0
  clear w1 w0
  go_enter Try.func6, Try.ntmps6
  go_wp2_with fail
  refine (drawDrawAddrPath_any a0 len0 cap0 z0 w HI0.out).mono ?_
  rintro e w2 ⟨A, x1, c1, rfl, hO, hk, hb2⟩
  have hk4 : bulkA A ≤ 4194304 := by omega
  have hbA : Below w.heap.size w (w2.alloc (.cells #[.string A.house, .slice x1 A.parts.length c1, .bool A.asks, .string A.ask] 25)) := hb2.alloc hb2.size _
  have HBA : Hid _ := hbA
  have HI2 : Hid (Dr.IsRow .u8 (w2.alloc (.cells #[.string A.house, .slice x1 A.parts.length c1, .bool A.asks, .string A.ask] 25)) a1 len1 cap1 z1) := HI1.out.below hbA
  have HX2 : Hid (Box (w2.alloc (.cells #[.string A.house, .slice x1 A.parts.length c1, .bool A.asks, .string A.ask] 25)) w2.heap.size (.string A.house) (.slice x1 A.parts.length c1) (.bool A.asks) (.string A.ask)) := heap_new w2 _
  have HS2 : Hid (Owns (w2.alloc (.cells #[.string A.house, .slice x1 A.parts.length c1, .bool A.asks, .string A.ask] 25)) w.heap.size (.slice x1 A.parts.length c1) A.parts) := Owns.keep hO (alloc_keep w2 _)
  obtain ⟨G1, hG1⟩ : ∃ G, w2.heap.size = G := ⟨_, rfl⟩
  rw [hG1] at HX2
  clear hO hb2 hbA HI1 HI0
  go_wp2_with fail
  refine (drawDrawAddrPath_any a1 len1 cap1 z1 _ HI2.out).mono ?_
  rintro e w3 ⟨B, y1, d1, rfl, hO3, hk3, hb3⟩
  have hk5 : bulkA B ≤ 4194304 := by omega
  have hb3' : Below (w2.alloc (.cells #[.string A.house, .slice x1 A.parts.length c1, .bool A.asks, .string A.ask] 25)).heap.size (w2.alloc (.cells #[.string A.house, .slice x1 A.parts.length c1, .bool A.asks, .string A.ask] 25)) (w3.alloc (.cells #[.string B.house, .slice y1 B.parts.length d1, .bool B.asks, .string B.ask] 25)) := hb3.alloc hb3.size _
  obtain ⟨G2, hG2⟩ : ∃ G, w3.heap.size = G := ⟨_, rfl⟩
  have HT3 : Hid (Two w (w3.alloc (.cells #[.string B.house, .slice y1 B.parts.length d1, .bool B.asks, .string B.ask] 25)) G1 G2 A B x1 c1 y1 d1) :=
    ⟨HX2.out.grown (grown_of_below none hb3') (by simp), by rw [← hG2]; exact heap_new w3 _, Owns.below HS2.out hb3', Owns.mono (Owns.keep hO3 (alloc_keep w3 _)) HBA.out.size, HBA.out.trans (hb3'.mono HBA.out.size)⟩
  have hne : G1 ≠ G2 := by have := hb3.size; simp at this; omega
  have hG2w : w.heap.size ≤ G2 := by have h1 := HBA.out.size; have h2 := hb3.size; omega
  clear hO3 hb3 hb3' HX2 HS2 HBA HI2 hG1
  have hl1 : A.parts.length ≤ 4194304 := by unfold bulkA at hk; omega
  have hl2 : B.parts.length ≤ 4194304 := by unfold bulkA at hk3; omega
  have hq3 := HT3.out.cells
  obtain ⟨⟨m0, m1, m2, m3⟩, ⟨n0, n1, n2, n3⟩⟩ := hq3
  clear hk hk3
  go_wp2_with fail
  refine (implAddrPath_any A x1 c1 _ HT3.out.strs1 hk4).mono ?_
  rintro e w4 ⟨rfl, hb4⟩
  have HT4 : Hid (Two w w4 G1 G2 A B x1 c1 y1 d1) := HT3.out.below hb4
  clear hb4 HT3 m0 m1 m2 m3 n0 n1 n2 n3 hG2
  have hq4 := HT4.out.cells
  obtain ⟨⟨m0, m1, m2, m3⟩, ⟨n0, n1, n2, n3⟩⟩ := hq4
  go_wp2_with fail
  refine (implAddrPath_any B y1 d1 _ HT4.out.strs2 hk5).mono ?_
  rintro e w5 ⟨rfl, hb5⟩
  have HT5 : Hid (Two w w5 G1 G2 A B x1 c1 y1 d1) := HT4.out.below hb5
  clear hb5 HT4 m0 m1 m2 m3 n0 n1 n2 n3
  have hq5 := HT5.out.cells
  obtain ⟨⟨m0, m1, m2, m3⟩, ⟨n0, n1, n2, n3⟩⟩ := hq5
  go_wp2_with fail
  refine (specAddrPath_any A x1 c1 _ HT5.out.strs1 hk4).mono ?_
  rintro e w6 ⟨rfl, hb6⟩
  have HT6 : Hid (Two w w6 G1 G2 A B x1 c1 y1 d1) := HT5.out.below hb6
  clear hb6 HT5 m0 m1 m2 m3 n0 n1 n2 n3
  have hq6 := HT6.out.cells
  obtain ⟨⟨m0, m1, m2, m3⟩, ⟨n0, n1, n2, n3⟩⟩ := hq6
  go_wp2_with fail
  refine (specAddrPath_any B y1 d1 _ HT6.out.strs2 hk5).mono ?_
  rintro e w7 ⟨rfl, hb7⟩
  have HT7 : Hid (Two w w7 G1 G2 A B x1 c1 y1 d1) := HT6.out.below hb7
  clear hb7 HT6 m0 m1 m2 m3 n0 n1 n2 n3
  have hq7 := HT7.out.cells
  obtain ⟨⟨m0, m1, m2, m3⟩, ⟨n0, n1, n2, n3⟩⟩ := hq7
  by_cases hboth : okB A = true ∧ okB B = true
  · obtain ⟨hA, hB⟩ := hboth
    have HN : Hid _ := text_one hA hB
    have t1 := text_some hA
    have t2 := text_some hB
    clear hA hB
    have HX8 : Hid (Box (w7.setCell ⟨G2, 0, none⟩ (.string A.house)) G2 (.string A.house) (.slice y1 B.parts.length d1) (.bool B.asks) (.string B.ask)) := HT7.out.box2.set0 _
    have HY8 : Hid (Box (w7.setCell ⟨G2, 0, none⟩ (.string A.house)) G1 (.string A.house) (.slice x1 A.parts.length c1) (.bool A.asks) (.string A.ask)) := HT7.out.box1.grown (grown_set 0 _) (by intro e; exact hne (Option.some.inj e).symm)
    have HO8 : Hid (Owns (w7.setCell ⟨G2, 0, none⟩ (.string A.house)) w.heap.size (.slice x1 A.parts.length c1) A.parts) := Owns.setBox HT7.out.own1 HT7.out.box2
    have HP8 : Hid (Owns (w7.setCell ⟨G2, 0, none⟩ (.string A.house)) w.heap.size (.slice y1 B.parts.length d1) B.parts) := Owns.setBox HT7.out.own2 HT7.out.box2
    have HB8' : Hid (Below w.heap.size w (w7.setCell ⟨G2, 0, none⟩ (.string A.house))) := HT7.out.low.setCell hG2w _
    have fz2 := HT7.out.box2.cells.2
    have hq8 := HX8.out.cells.1
    obtain ⟨j0, j1, j2, j3⟩ := hq8
    have hr8 := HY8.out.cells.1
    obtain ⟨l0, l1, l2, l3⟩ := hr8
    go_wp2_with fail
    refine (lpAddr_any A ⟨A.house, B.parts, B.asks, B.ask⟩ x1 c1 y1 d1 _ (Owns.strsOf HO8.out) (Owns.strsOf HP8.out) hl1 hl2).mono ?_
    rintro e w8 ⟨rfl, hb8⟩
    have HB8 : Hid (Below w.heap.size w w8) := HB8'.out.trans (hb8.mono HB8'.out.size)
    clear hb8
    go_wp2
    go_ret
    exact ⟨ret_bool (by rw [HN.out]; simp), HB8.out⟩
  · have ht : (pathF A).toList.isEmpty = true ∨ ((pathF A).toList.isEmpty = false ∧ (pathF B).toList.isEmpty = true) := by
      cases hA : okB A with
      | false => exact Or.inl (text_none hA)
      | true =>
        cases hB : okB B with
        | false => exact Or.inr ⟨text_some hA, text_none hB⟩
        | true => exact absurd ⟨hA, hB⟩ hboth
    clear hboth
    rcases ht with t1 | ⟨t1, t2⟩
    · go_wp2_with fail
      refine (specAddrPath_any A x1 c1 _ HT7.out.strs1 hk4).mono ?_
      rintro e w8 ⟨rfl, hb8⟩
      have HT8 : Hid (Two w w8 G1 G2 A B x1 c1 y1 d1) := HT7.out.below hb8
      clear hb8 HT7 m0 m1 m2 m3 n0 n1 n2 n3
      have hq8 := HT8.out.cells
      obtain ⟨⟨m0, m1, m2, m3⟩, ⟨n0, n1, n2, n3⟩⟩ := hq8
      go_wp2_with fail
      refine (specAddrPath_any B y1 d1 _ HT8.out.strs2 hk5).mono ?_
      rintro e w9 ⟨rfl, hb9⟩
      have HB9 : Hid (Below w.heap.size w w9) := (HT8.out.below hb9).low
      clear hb9
      go_wp2
      go_ret
      exact ⟨rfl, HB9.out⟩
    · go_wp2_with fail
      refine (specAddrPath_any A x1 c1 _ HT7.out.strs1 hk4).mono ?_
      rintro e w8 ⟨rfl, hb8⟩
      have HT8 : Hid (Two w w8 G1 G2 A B x1 c1 y1 d1) := HT7.out.below hb8
      clear hb8 HT7 m0 m1 m2 m3 n0 n1 n2 n3
      have hq8 := HT8.out.cells
      obtain ⟨⟨m0, m1, m2, m3⟩, ⟨n0, n1, n2, n3⟩⟩ := hq8
      go_wp2_with fail
      refine (specAddrPath_any B y1 d1 _ HT8.out.strs2 hk5).mono ?_
      rintro e w9 ⟨rfl, hb9⟩
      have HB9 : Hid (Below w.heap.size w w9) := (HT8.out.below hb9).low
      clear hb9
      go_wp2
      go_ret
      exact ⟨rfl, HB9.out⟩

theorem own : ownKnob Try.prog.godebug = none := by kernel_rfl
theorem laidOut : laidOutB Try.prog = true := by kernel_rfl

/-! ### THE ROW's STEP -/
set_option maxRecDepth 100000 in
theorem lifted (os : Os) (started : os.Started) (H : Type) (enc : TypeId × Value → H) :
    ReturnsInHanded {} Try.checked os 6 .any (Rows.fnAddrPathOneSpec.pre6 enc Try.prog Try.f6 Rows.fnAddrPathOneRow.domain false) (Rows.fnAddrPathOneSpec.post enc Try.prog Try.f6 false true false false) := by
  refine returnsInHanded_of_change (C := Try.checked) own started (by kernel_rfl) Try.func6
    (ChangeSpec.witness6 (enc := enc) (C := Try.checked) false ⟨#[], #[.slice none 0 0, .slice none 0 0], []⟩ 8 (by kernel_rfl) (by kernel_rfl) (by kernel_rfl) (by kernel_rfl)) ?_
  intro W base args ds gs before hval0 hW hcnd _
  have hval : ∀ (j : Nat) t v, Try.f6.params[j]? = some t → args[j]? = some v → Value.okWide Try.prog W .any base t v := hval0
  have hW' := hW
  obtain ⟨p, q, hA0, hV, rfl, hfz, hnd⟩ := hW
  have hA : DataW.TrodAll enc Try.prog W 0 (fun _ => true) true Try.f6.params.toList args.toList ds p := hA0
  rw [Try.params6] at hA hval
  obtain ⟨v0, vs0, d0, ds0, p0, q0, hargs, rfl, rfl, h0, r0⟩ := trodAll_cons hA
  obtain ⟨v1, vs1, d1, ds1, p1, q1, rfl, rfl, rfl, h1, r1⟩ := trodAll_cons r0
  obtain ⟨rfl, rfl, rfl⟩ := trodAll_nil r1
  obtain rfl : args = #[v0, v1] := by cases args; simp_all
  obtain ⟨rfl, rfl⟩ := trodVars_none hV
  obtain ⟨a0, len0, cap0, rfl⟩ := okWide_slice Try.underlying22 (hval 0 22 v0 rfl rfl)
  have k0 := h0
  have lt0 : ∀ x ∈ p0, x.block < W.heap.size := by obtain ⟨m, hm⟩ := k0; exact DataW.trod_lt m _ _ _ hm
  obtain ⟨z0, w0⟩ : ∃ zs, Dr.IsRow .u8 W a0 len0 cap0 zs := by
    obtain ⟨fuel, hf⟩ := h0
    rcases open_ints Try.underlying22 Try.underlying5 (by kernel_rfl) hf with ⟨hcs, _⟩ | ⟨x, l, c, zs, hcs, _, hl, hm, hz, _, hcell, hwz⟩
    · simp [Value.cells] at hcs
      obtain ⟨rfl, rfl, rfl⟩ := hcs
      exact ⟨[], .inl ⟨rfl, rfl, rfl, rfl⟩⟩
    · simp [Value.cells] at hcs
      obtain ⟨rfl, rfl, rfl⟩ := hcs
      exact ⟨zs, .inr ⟨_, rfl, hl, hm, by simpa using hz, hcell, hwz⟩⟩
  obtain ⟨a1, len1, cap1, rfl⟩ := okWide_slice Try.underlying22 (hval 1 22 v1 rfl rfl)
  have k1 := h1
  have lt1 : ∀ x ∈ p1, x.block < W.heap.size := by obtain ⟨m, hm⟩ := k1; exact DataW.trod_lt m _ _ _ hm
  obtain ⟨z1, w1⟩ : ∃ zs, Dr.IsRow .u8 W a1 len1 cap1 zs := by
    obtain ⟨fuel, hf⟩ := h1
    rcases open_ints Try.underlying22 Try.underlying5 (by kernel_rfl) hf with ⟨hcs, _⟩ | ⟨x, l, c, zs, hcs, _, hl, hm, hz, _, hcell, hwz⟩
    · simp [Value.cells] at hcs
      obtain ⟨rfl, rfl, rfl⟩ := hcs
      exact ⟨[], .inl ⟨rfl, rfl, rfl, rfl⟩⟩
    · simp [Value.cells] at hcs
      obtain ⟨rfl, rfl, rfl⟩ := hcs
      exact ⟨zs, .inr ⟨_, rfl, hl, hm, by simpa using hz, hcell, hwz⟩⟩
  clear hA0 hval0
  refine (walk a0 len0 cap0 z0 a1 len1 cap1 z1 W w0 w1).mono fun e W' ⟨he, bel⟩ => ?_
  subst he
  exact ⟨_, rfl, _, _, _, [], _, [], hW', trodAll_mk1 (shut_bool Try.underlying4 _), (trodAll_cons_mk (Below.trod laidOut (by kernel_rfl) (of_decide_eq_true (by kernel_rfl)) k0 bel lt0) (trodAll_cons_mk (Below.trod laidOut (by kernel_rfl) (of_decide_eq_true (by kernel_rfl)) k1 bel lt1) trodAll_mk0)), rfl, bel.frame _, fun h => by cases h⟩

theorem over : Rows.fnAddrPathOneRow.holds Try.pinned (OpenSpec.ofChange Rows.fnAddrPathOneSpec) :=
  OpenClaim.holds_of_wide 6 Try.f6 rfl rfl rfl rfl rfl rfl rfl ⟨rfl, rfl, rfl, rfl, rfl⟩ rfl rfl rfl rfl rfl (by kernel_rfl) Try.func6 (by kernel_rfl)
    (of_decide_eq_true (by kernel_rfl)) (by unfold Func.isWrapper; first | (rw [if_pos (by decide +kernel)]; kernel_rfl) | (rw [if_neg (by decide +kernel)]; exact ⟨rfl, rfl⟩))
    (fun os started H enc _ => lifted os started H enc)

theorem proved : Rows.FnAddrPathOneSaid := over
end Go.Proofs.Ytaejdcbjcomkjaa.fnAddrPathOne
