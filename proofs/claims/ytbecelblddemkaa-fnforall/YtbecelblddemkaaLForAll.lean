/- FnForAll: for every code, of the notice and the name drawn of it, what is said has all rules, in order, and the greatest wait, of the groups with the name, else with the star. No condition. -/
import Derived.Test.YtbecelblddemkaaRows
import Derived.WalkKit
import Derived.ProofKit
import Derived.OpenShut
import Derived.ShutString
import Derived.ChangeOld
import Derived.Below
import Derived.Test.YtbecelblddemkaaGrpLaws
import Derived.Test.YtbecelblddemkaaHasT
namespace Go.Proofs.Ytbecelblddemkaa.fnForAll
open Go.ChangeShapes Go.WideShapes Go.ChangeAt Go.RowKit
open Go.ChangeMaps (open_string shut_string)
set_option linter.unusedVariables false
open Go.Proofs.Ytbecelblddemkaa.St Go.Proofs.Ytbecelblddemkaa.RR Go.Proofs.Ytbecelblddemkaa.LetM Go.Proofs.Ytbecelblddemkaa.Nm Go.Proofs.Ytbecelblddemkaa.GrM Go.Proofs.Ytbecelblddemkaa.Gf

/-- by which name groups count, so far -/
def whoL (L : List Gr) (s : ByteArray) : ByteArray := if withL L s = [] then star else s
theorem who_told (L : List Gr) (s : ByteArray) : toldL L s = withL L (whoL L s) := by
  unfold toldL whoL
  split <;> rfl
theorem who_nil (s : ByteArray) : whoL [] s = star := by unfold whoL withL; simp
theorem who_yes {L : List Gr} {s : ByteArray} {k : Nat} (h : k < L.length) (hh : hasB s L[k].nm = true) : whoL (L.take (k + 1)) s = s := by
  unfold whoL
  rw [with_snoc h, hh, if_neg (by simp)]
theorem who_no {L : List Gr} {s : ByteArray} {k : Nat} (h : k < L.length) (hh : hasB s L[k].nm = false) : whoL (L.take (k + 1)) s = whoL (L.take k) s := by
  unfold whoL
  rw [with_snoc h, hh]; simp

set_option maxRecDepth 100000 in
set_option maxHeartbeats 6400000 in
theorem walk (a0 : Option Addr) (len0 cap0 : Nat) (z0 : List Int) (w : World) (w0 : Dr.IsRow .u8 w a0 len0 cap0 z0) :
    Calls Try.prog 5 #[.slice a0 len0 cap0] w fun e w' => e = .returned (.bool true) ∧ Below w.heap.size w w' := by
  by_cases hlong : (1048576 : Int) < len0
  · go_enter Try.func5, Try.ntmps5
    go_wp2
    go_ret
    exact ⟨rfl, Below.refl _ _⟩
  go_enter Try.func5, Try.ntmps5
  go_wp2_with fail
  refine (Dr.drawFor_any a0 len0 cap0 z0 w w0).mono ?_
  rintro e w1 ⟨L, a1, c1, s, rfl, hI, hG, hl, hL, hs1, hs2, hb1⟩
  have HI1 : Hid (IsRows FGr w1 a1 c1 L) := hI
  have HG1 : Hid (GrsAt w1 L) := hG
  have HL : Hid (∀ g ∈ L, Dr.GrBd g) := hL
  have HS : Hid (∀ g ∈ L, GrSz g) := fun g hg => (hL g hg).sz
  have HN : Hid (∀ g ∈ L, 0 ≤ g.wait ∧ g.wait ≤ 1000000) := fun g hg => by obtain ⟨_, _, _, _, h5, h6⟩ := hL g hg; exact ⟨h5, by omega⟩
  have HR : Hid (∀ g ∈ L, g.ru.length ≤ 1000) := fun g hg => by obtain ⟨_, _, h3, _⟩ := hL g hg; omega
  have HNm : Hid (s ≠ ⟨#[122, 122, 122]⟩) := hs2
  have HNm1 : Hid (nameB s = true) := hs1
  have HB1 : Hid (Below w.heap.size w w1) := hb1
  have hl1 : L.length ≤ 1000 := by omega
  have hss : s.size ≤ 8 := by unfold nameB at hs1; simp at hs1; omega
  have HRT : Hid ((rulesL (toldL L s)).length ≤ 4000) := by
    have h1 := rules_le (toldL L s) 1000 (fun g hg => HR.out g (told_mem hg))
    have h2 := told_len (L := L) (s := s)
    show _ ≤ _
    omega
  clear hI hG hL hb1 hs1 hs2 w0
  go_wp2_with fail
  refine (implFor_any a1 c1 L s _ HI1.out HG1.out HS.out hl1 HN.out HR.out).mono ?_
  rintro e w2 ⟨g, rfl, hg1, hg2, hg3, hgo, hb2⟩
  have HGg : Hid (Dr.GrOwn w2 w1.heap.size g) := hgo
  have HB2 : Hid (Below w.heap.size w w2) := HB1.out.trans (hb2.mono HB1.out.size)
  have HI2 : Hid (IsRows FGr w2 a1 c1 L) := HI1.out.below hb2
  have HG2 : Hid (GrsAt w2 L) := HG1.out.below hb2
  have Hg1 : Hid (g.nm = [s]) := hg1
  have Hg2 : Hid (g.ru = rulesL (toldL L s)) := hg2
  have Hg3 : Hid (g.wait = waitL (toldL L s)) := hg3
  clear hgo hb2 hg1 hg2 hg3
  have HIb0 : Hid (IsRows FGr (w2.alloc (.cells #[.slice g.na g.nm.length g.nc, .slice g.ra g.ru.length g.rc, .int .i64 g.wait] 32)) a1 c1 L) := HI2.out.keep (alloc_keep _ _)
  have HGb0 : Hid (GrsAt (w2.alloc (.cells #[.slice g.na g.nm.length g.nc, .slice g.ra g.ru.length g.rc, .int .i64 g.wait] 32)) L) := HG2.out.keep (alloc_keep _ _)
  have HBb0 : Hid (Below w.heap.size w (w2.alloc (.cells #[.slice g.na g.nm.length g.nc, .slice g.ra g.ru.length g.rc, .int .i64 g.wait] 32))) := HB2.out.alloc HB2.out.size _
  have HXb0 : Hid (Dr.Bx 32 (w2.alloc (.cells #[.slice g.na g.nm.length g.nc, .slice g.ra g.ru.length g.rc, .int .i64 g.wait] 32)) w2.heap.size #[.slice g.na g.nm.length g.nc, .slice g.ra g.ru.length g.rc, .int .i64 g.wait]) := Dr.Bx.new _ _ _
  have HOb0 : Hid (Dr.GrOwn (w2.alloc (.cells #[.slice g.na g.nm.length g.nc, .slice g.ra g.ru.length g.rc, .int .i64 g.wait] 32)) w1.heap.size g) := HGg.out.keep (alloc_keep _ _)
  go_wp2_with fail
  obtain ⟨G, hG⟩ : ∃ G, w2.heap.size = G := ⟨_, rfl⟩
  rw [hG] at HXb0 ⊢
  generalize w2.alloc (.cells #[.slice g.na g.nm.length g.nc, .slice g.ra g.ru.length g.rc, .int .i64 g.wait] 32) = wb at *
  have x0 : wb.drew.cell? ⟨G, 0, none⟩ = some (.slice g.na g.nm.length g.nc) := (HXb0.out.heapEq rfl : Dr.Bx _ wb.drew G _).cell 0 rfl
  have x1 : wb.drew.cell? ⟨G, 1, none⟩ = some (.slice g.ra g.ru.length g.rc) := (HXb0.out.heapEq rfl : Dr.Bx _ wb.drew G _).cell 1 rfl
  have x2 : wb.drew.cell? ⟨G, 2, none⟩ = some (.int .i64 g.wait) := (HXb0.out.heapEq rfl : Dr.Bx _ wb.drew G _).cell 2 rfl
  have HLg : Hid (g.nm.length ≤ 4194304 ∧ g.ru.length ≤ 4194304) := by
    show _ ∧ _
    rw [Hg1.out, Hg2.out]; exact ⟨by simp, by have := HRT.out; omega⟩
  clear hG HI2 HG2 HGg HB2
  go_region_with (first
    | (go_at_call 13
       refine (group_same g g' w3 HA3.out HA3'.out H31.out H32.out H33.out HLg.out.1 HLg.out.2).mono ?_
       rintro e w4 ⟨rfl, hb4⟩
       have HB4 : Hid (Below w.heap.size w w4) := HB3.out.trans (hb4.mono HB3.out.size)
       have HI4 : Hid (IsRows FGr w4 a1 c1 L) := HI3.out.below hb4
       have HG4 : Hid (GrsAt w4 L) := HG3.out.below hb4
       have HX4 : Hid (Dr.Bx 32 w4 G #[.slice g.na g.nm.length g.nc, .slice g.ra g.ru.length g.rc, .int .i64 g.wait]) := HX3.out.keep (fun k hk => hb4.block k hk)
       have HA4 : Hid (GrAt w4 g) := HA3.out.below hb4
       clear hb4)
    | (go_at_call 14
       refine (specFor_any a1 c1 L s wb.drew (HIb0.out.keep fun _ _ => rfl) (HGb0.out.keep fun _ _ => rfl) HS.out hl1 HN.out HR.out).mono ?_
       rintro e w3 ⟨g', rfl, hg1, hg2, hg3, hgo, hb3⟩
       have hbb : Below w.heap.size w wb.drew := below_drewN HBb0.out 1
       have HB3 : Hid (Below w.heap.size w w3) := hbb.trans (hb3.mono hbb.size)
       have HI3 : Hid (IsRows FGr w3 a1 c1 L) := HIb0.out.keep (fun k hk => hb3.block k hk)
       have HG3 : Hid (GrsAt w3 L) := HGb0.out.keep (fun k hk => hb3.block k hk)
       have HX3 : Hid (Dr.Bx 32 w3 G #[.slice g.na g.nm.length g.nc, .slice g.ra g.ru.length g.rc, .int .i64 g.wait]) := HXb0.out.keep (fun k hk => hb3.block k hk)
       have HA3 : Hid (GrAt w3 g) := HOb0.out.at.keep (fun k hk => hb3.block k hk)
       have HA3' : Hid (GrAt w3 g') := hgo.at
       have H31 : Hid (g.nm = g'.nm) := by show _ = _; rw [Hg1.out, hg1]
       have H32 : Hid (g.ru = g'.ru) := by show _ = _; rw [Hg2.out, hg2]
       have H33 : Hid (g.wait = g'.wait) := by show _ = _; rw [Hg3.out, hg3]
       have y0 : w3.cell? ⟨G, 0, none⟩ = some (.slice g.na g.nm.length g.nc) := HX3.out.cell 0 rfl
       have y1 : w3.cell? ⟨G, 1, none⟩ = some (.slice g.ra g.ru.length g.rc) := HX3.out.cell 1 rfl
       have y2 : w3.cell? ⟨G, 2, none⟩ = some (.int .i64 g.wait) := HX3.out.cell 2 rfl
       clear hg1 hg2 hg3 hgo hb3 hbb)
    | fail)
  all_goals clear x0 x1 x2 y0 y1 y2 HX3 HA3 HA3' HB3 HI3 HG3 HIb0 HGb0 HXb0 HOb0 HBb0
  all_goals (
    obtain ⟨i0, hi, hz0, hz1, hz2⟩ := Dr.info_rule
    have HW0 : Hid (whoL (L.take 0) s = star) := by show _ = _; rw [List.take_zero]; exact who_nil s
    go_wp2
    go_loopw [6, 7] (fun v i wr => ∃ k : Nat, k ≤ L.length ∧ i = .int .i64 (k : Int) ∧ v = .string (whoL (L.take k) s) ∧ wr = w4) (fun _ i _ => L.length - (intOf i).toNat)
    case atStart => exact ⟨0, Nat.zero_le _, rfl, by rw [HW0.out]; rfl, rfl⟩
    case round =>
      obtain ⟨k, hk, rfl, rfl, e4⟩ := hrel
      have e4' := e4.symm
      subst e4'
      clear e4
      by_cases hlt : k < L.length
      · obtain ⟨B, off, e1, c0, q1, q2⟩ := gr_at HI4.out hlt
        subst e1
        have hgm : L[k] ∈ L := List.getElem_mem _
        obtain ⟨hzz1, _, _⟩ := HS.out L[k] hgm
        have HNA : Hid (IsStrs w4 L[k].na L[k].nc L[k].nm) := (HG4.out L[k] hgm).1
        go_wp2_with fail
        refine (Ht.has_any _ _ _ s _ HNA.out (by omega)).mono ?_
        rintro e w5 ⟨rfl, e5⟩
        have e6 := e5.symm
        subst e6
        clear e5
        cases hh : hasB s L[k].nm with
        | false =>
          have HN1 : Hid (whoL (L.take (k + 1)) s = whoL (L.take k) s) := who_no hlt hh
          go_wp2
          go_roundw
          case rel => exact ⟨k + 1, by omega, by go_num, by rw [HN1.out], trivial⟩
          case measure => simp [intOf]; omega
        | true =>
          have HN1 : Hid (whoL (L.take (k + 1)) s = s) := who_yes hlt hh
          go_wp2
          go_roundw
          case rel => exact ⟨k + 1, by omega, by go_num, by rw [HN1.out], trivial⟩
          case measure => simp [intOf]; omega
      · have e1 : L.take k = L := List.take_of_length_le (by omega)
        rw [e1]
        have HWT : Hid (toldL L s = withL L (whoL L s)) := who_told L s
        obtain ⟨x, hx⟩ : ∃ x, whoL L s = x := ⟨_, rfl⟩
        rw [hx] at HWT ⊢
        clear hx e1
        have HO0 : Hid (OwnsR FRu 44 (w4.alloc (.cells #[] 44)) w4.heap.size (.slice (some ⟨w4.heap.size, 0, none⟩) 0 0) []) := OwnsR.empty _ _ _ _ (Nat.le_refl _)
        have HBa : Hid (Below w4.heap.size w4 (w4.alloc (.cells #[] 44))) := (Below.refl _ _).alloc (Nat.le_refl _) _
        go_wp2
        go_loopw [8, 9, 10] (fun v n i wr => ∃ k : Nat, k ≤ L.length ∧ i = .int .i64 (k : Int) ∧ n = .int .i64 (waitL (withL (L.take k) x)) ∧ Hid (OwnsR FRu 44 wr w4.heap.size v (rulesL (withL (L.take k) x))) ∧ Hid (Below w4.heap.size w4 wr)) (fun _ _ i _ => L.length - (intOf i).toNat)
        case atStart => exact ⟨0, Nat.zero_le _, rfl, rfl, HO0, HBa⟩
        case round =>
          obtain ⟨m, hm, rfl, rfl, HO, HB⟩ := hrel
          by_cases hlt2 : m < L.length
          · obtain ⟨B, off, e1, c0, q1, q2⟩ := gr_at (HI4.out.below HB.out) hlt2
            subst e1
            have hgm : L[m] ∈ L := List.getElem_mem _
            obtain ⟨hzz1, hzz2, _⟩ := HS.out L[m] hgm
            obtain ⟨hw0, hw6⟩ := HN.out L[m] hgm
            have hrl := HR.out L[m] hgm
            have HSN : Hid (withL (L.take (m + 1)) x = if hasB x L[m].nm then withL (L.take m) x ++ [L[m]] else withL (L.take m) x) := with_snoc hlt2
            have HNA : Hid (IsStrs wr L[m].na L[m].nc L[m].nm) := ((HG4.out.below HB.out) L[m] hgm).1
            have HRA : Hid (IsRows FRu wr L[m].ra L[m].rc L[m].ru) := ((HG4.out.below HB.out) L[m] hgm).2
            have hrm : (rulesL (withL (L.take m) x)).length ≤ m * 1000 := by
              have h1 := rules_le (withL (L.take m) x) 1000 (fun g hg => HR.out g (List.mem_of_mem_take (with_mem hg)))
              have h2 : (withL (L.take m) x).length ≤ m := Nat.le_trans with_len (by simp; omega)
              have h3 := Nat.mul_le_mul_right 1000 h2
              omega
            have hwn := wait_nn (withL (L.take m) x)
            go_wp2_with fail
            refine (Ht.has_any _ _ _ x _ HNA.out (by omega)).mono ?_
            rintro e w5 ⟨rfl, e5⟩
            have e6 := e5.symm
            subst e6
            clear e5
            cases hh : hasB x L[m].nm with
            | false =>
              have HN1 : Hid (withL (L.take (m + 1)) x = withL (L.take m) x) := by show _ = _; rw [HSN.out, hh]; rfl
              go_wp2
              go_roundw
              case rel => exact ⟨m + 1, by omega, by go_num, by rw [HN1.out], by rw [HN1.out]; exact HO, HB⟩
              case measure => simp [intOf]; omega
            | true =>
              have HN1 : Hid (withL (L.take (m + 1)) x = withL (L.take m) x ++ [L[m]]) := by show _ = _; rw [HSN.out, hh]; rfl
              have HN2 : Hid (rulesL (withL (L.take (m + 1)) x) = rulesL (withL (L.take m) x) ++ L[m].ru) := by show _ = _; rw [HN1.out, rules_app]; simp [rulesL]
              have HN3 : Hid (waitL (withL (L.take (m + 1)) x) = max (waitL (withL (L.take m) x)) L[m].wait) := by show _ = _; rw [HN1.out]; unfold waitL; rw [List.foldl_append]; rfl
              obtain ⟨R0, hR0⟩ : ∃ R0, rulesL (withL (L.take m) x) = R0 := ⟨_, rfl⟩
              obtain ⟨W0, hW0⟩ : ∃ W0, waitL (withL (L.take m) x) = W0 := ⟨_, rfl⟩
              rw [hR0] at HO hrm HN2
              rw [hW0] at hwn HN3 ⊢
              clear hR0 hW0 HN1 HSN
              obtain ⟨aR, cR, hv, _⟩ := HO.out.rows
              subst hv
              go_wp2_with (at_builtin
                           refine St.wpList_app rfl (.tmp 56) (.tmp 61) 30 rfl w4.heap.size 44 i0 (.agg #[.bool false, .string ⟨#[]⟩]) 2 24 Try.underlying30 hi hz0 hz1 hz2 rfl (by decide) (.slice aR R0.length cR) R0.length (FRu.cells R0) rfl HO.out L[m].ra L[m].ru.length L[m].rc (FRu.cells L[m].ru) rfl HRA.out.none (FRu.cells_len _) (HRA.out.newsAny (fun _ _ => rfl)) (FRu.cells_one _) (by unfold maxLen; omega) (by omega) HB.out.size ?_)
              intro v5 w5 ho hg
              have hO5 : OwnsR FRu 44 w5 w4.heap.size v5 (rulesL (withL (L.take (m + 1)) x)) := OwnsR.of_row (F := FRu) ho (by rw [HN2.out]; simp) (by rw [HN2.out, FRu.cells_append])
              have HO5 : Hid (OwnsR FRu 44 w5 w4.heap.size v5 (rulesL (withL (L.take (m + 1)) x))) := hO5
              have HB5 : Hid (Below w4.heap.size w4 w5) := Below.grown HB.out hg HB.out.size (OwnsR.block HO.out)
              clear ho hg hO5
              obtain ⟨B2, off2, e2, d0, d1, d2⟩ := gr_at (HI4.out.below HB5.out) hlt2
              injection e2 with e2
              injection e2 with eB eO _
              subst eB; subst eO
              have HM : Hid (max W0 L[m].wait = waitL (withL (L.take (m + 1)) x)) := HN3.out.symm
              go_wp2
              go_roundw
              case rel => exact ⟨m + 1, by omega, by go_num, by rw [← HM.out]; exact congrArg (Value.int .i64) (by split <;> omega), HO5, HB5⟩
              case measure => simp [intOf]; omega
          · have e1 : L.take m = L := List.take_of_length_le (by omega)
            have hO := HO.out
            rw [e1, ← HWT.out, ← Hg2.out] at hO
            rw [e1, ← HWT.out, ← Hg3.out]
            obtain ⟨aR, cR, hv, hIv⟩ := hO.rows
            subst hv
            have HIv : Hid (IsRows FRu wr aR cR g.ru) := hIv
            have HXr : Hid (Dr.Bx 32 wr G #[.slice g.na g.nm.length g.nc, .slice g.ra g.ru.length g.rc, .int .i64 g.wait]) := HX4.out.keep (fun k hk => HB.out.block k hk)
            have HAr : Hid (IsRows FRu wr g.ra g.rc g.ru) := (HA4.out.below HB.out).2
            have HBr : Hid (Below w.heap.size w wr) := HB4.out.trans (HB.out.mono HB4.out.size)
            have q1 : wr.cell? ⟨G, 1, none⟩ = some (.slice g.ra g.ru.length g.rc) := HXr.out.cell 1 rfl
            clear hO hIv e1
            go_wp2_with fail
            refine (rules_same g.ra g.rc aR cR _ _ g.ru _ rfl rfl HAr.out HIv.out HLg.out.2).mono ?_
            rintro e w5 ⟨rfl, hb5⟩
            have HB5 : Hid (Below w.heap.size w w5) := HBr.out.trans (hb5.mono HBr.out.size)
            have q2 : w5.cell? ⟨G, 2, none⟩ = some (.int .i64 g.wait) := (HXr.out.keep (fun k hk => hb5.block k hk) : Dr.Bx _ w5 G _).cell 2 rfl
            clear hb5
            go_wp2
            go_ret
            exact ⟨rfl, HB5.out⟩)

theorem own : ownKnob Try.prog.godebug = none := by kernel_rfl
theorem laidOut : laidOutB Try.prog = true := by kernel_rfl

/-! ### THE ROW's STEP -/
set_option maxRecDepth 100000 in
theorem lifted (os : Os) (started : os.Started) (H : Type) (enc : TypeId × Value → H) :
    ReturnsInHanded {} Try.checked os 5 .any (Rows.fnForAllSpec.pre6 enc Try.prog Try.f5 Rows.fnForAllRow.domain false) (Rows.fnForAllSpec.post enc Try.prog Try.f5 false true false false) := by
  refine returnsInHanded_of_change (C := Try.checked) own started (by kernel_rfl) Try.func5
    (ChangeSpec.witness6 (enc := enc) (C := Try.checked) false ⟨#[], #[.slice none 0 0], []⟩ 8 (by kernel_rfl) (by kernel_rfl) (by kernel_rfl) (by kernel_rfl)) ?_
  intro W base args ds gs before hval0 hW hcnd _
  have hval : ∀ (j : Nat) t v, Try.f5.params[j]? = some t → args[j]? = some v → Value.okWide Try.prog W .any base t v := hval0
  have hW' := hW
  obtain ⟨p, q, hA0, hV, rfl, hfz, hnd⟩ := hW
  have hA : DataW.TrodAll enc Try.prog W 0 (fun _ => true) true Try.f5.params.toList args.toList ds p := hA0
  rw [Try.params5] at hA hval
  obtain ⟨v0, vs0, d0, ds0, p0, q0, hargs, rfl, rfl, h0, r0⟩ := trodAll_cons hA
  obtain ⟨rfl, rfl, rfl⟩ := trodAll_nil r0
  obtain rfl : args = #[v0] := by cases args; simp_all
  obtain ⟨rfl, rfl⟩ := trodVars_none hV
  obtain ⟨a0, len0, cap0, rfl⟩ := okWide_slice Try.underlying22 (hval 0 22 v0 rfl rfl)
  have k0 := h0
  have lt0 : ∀ x ∈ p0, x.block < W.heap.size := by obtain ⟨m, hm⟩ := k0; exact DataW.trod_lt m _ _ _ hm
  obtain ⟨z0, w0⟩ : ∃ zs, Dr.IsRow .u8 W a0 len0 cap0 zs := by
    obtain ⟨fuel, hf⟩ := h0
    rcases open_ints Try.underlying22 Try.underlying5 (by kernel_rfl) hf with ⟨hcs, _⟩ | ⟨x, l, c, zs, hcs, _, hl, hm, hz, _, hcell, hwz⟩
    · simp [Value.cells] at hcs
      obtain ⟨rfl, rfl, rfl⟩ := hcs
      exact ⟨[], .inl ⟨rfl, rfl, rfl, rfl⟩⟩
    · simp [Value.cells] at hcs
      obtain ⟨rfl, rfl, rfl⟩ := hcs
      exact ⟨zs, .inr ⟨_, rfl, hl, hm, by simpa using hz, hcell, hwz⟩⟩
  clear hA0 hval0
  refine (walk a0 len0 cap0 z0 W w0).mono fun e W' ⟨he, bel⟩ => ?_
  subst he
  exact ⟨_, rfl, _, _, _, [], _, [], hW', trodAll_mk1 (shut_bool Try.underlying4 _), (trodAll_cons_mk (Below.trod laidOut (by kernel_rfl) (of_decide_eq_true (by kernel_rfl)) k0 bel lt0) trodAll_mk0), rfl, bel.frame _, fun h => by cases h⟩

theorem over : Rows.fnForAllRow.holds Try.pinned (OpenSpec.ofChange Rows.fnForAllSpec) :=
  OpenClaim.holds_of_wide 5 Try.f5 rfl rfl rfl rfl rfl rfl rfl ⟨rfl, rfl, rfl, rfl, rfl⟩ rfl rfl rfl rfl rfl (by kernel_rfl) Try.func5 (by kernel_rfl)
    (of_decide_eq_true (by kernel_rfl)) (by unfold Func.isWrapper; first | (rw [if_pos (by decide +kernel)]; kernel_rfl) | (rw [if_neg (by decide +kernel)]; exact ⟨rfl, rfl⟩))
    (fun os started H enc _ => lifted os started H enc)

theorem proved : Rows.FnForAllSaid := over
end Go.Proofs.Ytbecelblddemkaa.fnForAll
