/- FnForOwn: for every code, of the notice and the name drawn of it, if groups have the name, what is said is what these say; the name is its own. No condition. -/
import Derived.Test.YtbecelblddemkaaRows
import Derived.WalkKit
import Derived.ProofKit
import Derived.OpenShut
import Derived.ShutString
import Derived.ChangeOld
import Derived.Below
import Derived.Test.YtbecelblddemkaaGrpLaws
import Derived.Test.YtbecelblddemkaaHasT
import Derived.Deep.RegionHeldLaw
namespace Go.Proofs.Ytbecelblddemkaa.fnForOwn
open Go.ChangeShapes Go.WideShapes Go.ChangeAt Go.RowKit
open Go.ChangeMaps (open_string shut_string)
set_option linter.unusedVariables false
open Go.Proofs.Ytbecelblddemkaa.St Go.Proofs.Ytbecelblddemkaa.RR Go.Proofs.Ytbecelblddemkaa.LetM Go.Proofs.Ytbecelblddemkaa.Nm Go.Proofs.Ytbecelblddemkaa.GrM Go.Proofs.Ytbecelblddemkaa.Gf

set_option maxRecDepth 100000 in
set_option maxHeartbeats 6400000 in
theorem walk (a0 : Option Addr) (len0 cap0 : Nat) (z0 : List Int) (w : World) (w0 : Dr.IsRow .u8 w a0 len0 cap0 z0) :
    Calls Try.prog 4 #[.slice a0 len0 cap0] w fun e w' => e = .returned (.bool true) ∧ Below w.heap.size w w' := by
  by_cases hlong : (1048576 : Int) < len0
  · go_enter Try.func4, Try.ntmps4
    go_wp2
    go_ret
    exact ⟨rfl, Below.refl _ _⟩
  go_enter Try.func4, Try.ntmps4
  go_wp2_with fail
  refine (Dr.drawFor_any a0 len0 cap0 z0 w w0).mono ?_
  rintro e w1 ⟨L, a1, c1, s, rfl, hI, hG, hl, hL, hs1, hs2, hb1⟩
  have HI1 : Hid (IsRows FGr w1 a1 c1 L) := hI
  have HG1 : Hid (GrsAt w1 L) := hG
  have HL : Hid (∀ g ∈ L, Dr.GrBd g) := hL
  have HS : Hid (∀ g ∈ L, GrSz g) := fun g hg => (hL g hg).sz
  have HN : Hid (∀ g ∈ L, 0 ≤ g.wait ∧ g.wait ≤ 1000000) := fun g hg => by obtain ⟨_, _, _, _, h5, h6⟩ := hL g hg; exact ⟨h5, by omega⟩
  have HR : Hid (∀ g ∈ L, g.ru.length ≤ 1000) := fun g hg => by obtain ⟨_, _, h3, _⟩ := hL g hg; omega
  have HNm : Hid (s ≠ ⟨#[122, 122, 122]⟩) := hs2
  have HNm1 : Hid (nameB s = true) := hs1
  have HB1 : Hid (Below w.heap.size w w1) := hb1
  have hl1 : L.length ≤ 1000 := by omega
  have hss : s.size ≤ 8 := by unfold nameB at hs1; simp at hs1; omega
  have HRT : Hid ((rulesL (toldL L s)).length ≤ 4000) := by
    have h1 := rules_le (toldL L s) 1000 (fun g hg => HR.out g (told_mem hg))
    have h2 := told_len (L := L) (s := s)
    show _ ≤ _
    omega
  clear hI hG hL hb1 hs1 hs2 w0
  go_wp2_with fail
  refine (implFor_any a1 c1 L s _ HI1.out HG1.out HS.out hl1 HN.out HR.out).mono ?_
  rintro e w2 ⟨g, rfl, hg1, hg2, hg3, hgo, hb2⟩
  have HGg : Hid (Dr.GrOwn w2 w1.heap.size g) := hgo
  have HB2 : Hid (Below w.heap.size w w2) := HB1.out.trans (hb2.mono HB1.out.size)
  have HI2 : Hid (IsRows FGr w2 a1 c1 L) := HI1.out.below hb2
  have HG2 : Hid (GrsAt w2 L) := HG1.out.below hb2
  have Hg1 : Hid (g.nm = [s]) := hg1
  have Hg2 : Hid (g.ru = rulesL (toldL L s)) := hg2
  have Hg3 : Hid (g.wait = waitL (toldL L s)) := hg3
  clear hgo hb2 hg1 hg2 hg3
  have HIb0 : Hid (IsRows FGr (w2.alloc (.cells #[.slice g.na g.nm.length g.nc, .slice g.ra g.ru.length g.rc, .int .i64 g.wait] 32)) a1 c1 L) := HI2.out.keep (alloc_keep _ _)
  have HGb0 : Hid (GrsAt (w2.alloc (.cells #[.slice g.na g.nm.length g.nc, .slice g.ra g.ru.length g.rc, .int .i64 g.wait] 32)) L) := HG2.out.keep (alloc_keep _ _)
  have HBb0 : Hid (Below w.heap.size w (w2.alloc (.cells #[.slice g.na g.nm.length g.nc, .slice g.ra g.ru.length g.rc, .int .i64 g.wait] 32))) := HB2.out.alloc HB2.out.size _
  have HXb0 : Hid (Dr.Bx 32 (w2.alloc (.cells #[.slice g.na g.nm.length g.nc, .slice g.ra g.ru.length g.rc, .int .i64 g.wait] 32)) w2.heap.size #[.slice g.na g.nm.length g.nc, .slice g.ra g.ru.length g.rc, .int .i64 g.wait]) := Dr.Bx.new _ _ _
  have HOb0 : Hid (Dr.GrOwn (w2.alloc (.cells #[.slice g.na g.nm.length g.nc, .slice g.ra g.ru.length g.rc, .int .i64 g.wait] 32)) w1.heap.size g) := HGg.out.keep (alloc_keep _ _)
  go_wp2_with fail
  obtain ⟨G, hG⟩ : ∃ G, w2.heap.size = G := ⟨_, rfl⟩
  rw [hG] at HXb0 ⊢
  generalize w2.alloc (.cells #[.slice g.na g.nm.length g.nc, .slice g.ra g.ru.length g.rc, .int .i64 g.wait] 32) = wb at *
  have x0 : wb.drew.cell? ⟨G, 0, none⟩ = some (.slice g.na g.nm.length g.nc) := (HXb0.out.heapEq rfl : Dr.Bx _ wb.drew G _).cell 0 rfl
  have x1 : wb.drew.cell? ⟨G, 1, none⟩ = some (.slice g.ra g.ru.length g.rc) := (HXb0.out.heapEq rfl : Dr.Bx _ wb.drew G _).cell 1 rfl
  have x2 : wb.drew.cell? ⟨G, 2, none⟩ = some (.int .i64 g.wait) := (HXb0.out.heapEq rfl : Dr.Bx _ wb.drew G _).cell 2 rfl
  have HLg : Hid (g.nm.length ≤ 4194304 ∧ g.ru.length ≤ 4194304) := by
    show _ ∧ _
    rw [Hg1.out, Hg2.out]; exact ⟨by simp, by have := HRT.out; omega⟩
  clear hG HI2 HG2 HGg HB2
  go_region_with (first
    | (go_at_call 13
       refine (group_same g g' w3 HA3.out HA3'.out H31.out H32.out H33.out HLg.out.1 HLg.out.2).mono ?_
       rintro e w4 ⟨rfl, hb4⟩
       have HB4 : Hid (Below w.heap.size w w4) := HB3.out.trans (hb4.mono HB3.out.size)
       have HI4 : Hid (IsRows FGr w4 a1 c1 L) := HI3.out.below hb4
       have HG4 : Hid (GrsAt w4 L) := HG3.out.below hb4
       have HX4 : Hid (Dr.Bx 32 w4 G #[.slice g.na g.nm.length g.nc, .slice g.ra g.ru.length g.rc, .int .i64 g.wait]) := HX3.out.keep (fun k hk => hb4.block k hk)
       have HA4 : Hid (GrAt w4 g) := HA3.out.below hb4
       clear hb4)
    | (go_at_call 14
       refine (specFor_any a1 c1 L s wb.drew (HIb0.out.keep fun _ _ => rfl) (HGb0.out.keep fun _ _ => rfl) HS.out hl1 HN.out HR.out).mono ?_
       rintro e w3 ⟨g', rfl, hg1, hg2, hg3, hgo, hb3⟩
       have hbb : Below w.heap.size w wb.drew := below_drewN HBb0.out 1
       have HB3 : Hid (Below w.heap.size w w3) := hbb.trans (hb3.mono hbb.size)
       have HI3 : Hid (IsRows FGr w3 a1 c1 L) := HIb0.out.keep (fun k hk => hb3.block k hk)
       have HG3 : Hid (GrsAt w3 L) := HGb0.out.keep (fun k hk => hb3.block k hk)
       have HX3 : Hid (Dr.Bx 32 w3 G #[.slice g.na g.nm.length g.nc, .slice g.ra g.ru.length g.rc, .int .i64 g.wait]) := HXb0.out.keep (fun k hk => hb3.block k hk)
       have HA3 : Hid (GrAt w3 g) := HOb0.out.at.keep (fun k hk => hb3.block k hk)
       have HA3' : Hid (GrAt w3 g') := hgo.at
       have H31 : Hid (g.nm = g'.nm) := by show _ = _; rw [Hg1.out, hg1]
       have H32 : Hid (g.ru = g'.ru) := by show _ = _; rw [Hg2.out, hg2]
       have H33 : Hid (g.wait = g'.wait) := by show _ = _; rw [Hg3.out, hg3]
       have y0 : w3.cell? ⟨G, 0, none⟩ = some (.slice g.na g.nm.length g.nc) := HX3.out.cell 0 rfl
       have y1 : w3.cell? ⟨G, 1, none⟩ = some (.slice g.ra g.ru.length g.rc) := HX3.out.cell 1 rfl
       have y2 : w3.cell? ⟨G, 2, none⟩ = some (.int .i64 g.wait) := HX3.out.cell 2 rfl
       clear hg1 hg2 hg3 hgo hb3 hbb)
    | fail)
  all_goals clear x0 x1 x2 y0 y1 y2 HX3 HA3 HA3' HB3 HI3 HG3 HIb0 HGb0 HXb0 HOb0 HBb0
  all_goals (
    obtain ⟨i0, hi, hz0, hz1, hz2⟩ := Dr.info_group
    have HO0 : Hid (OwnsR FGr 32 (w4.alloc (.cells #[] 32)) w4.heap.size (.slice (some ⟨w4.heap.size, 0, none⟩) 0 0) []) := OwnsR.empty _ _ _ _ (Nat.le_refl _)
    have HBa : Hid (Below w4.heap.size w4 (w4.alloc (.cells #[] 32))) := (Below.refl _ _).alloc (Nat.le_refl _) _
    go_wp2
    go_loopw [6, 7] (fun v i wr => ∃ k : Nat, k ≤ L.length ∧ i = .int .i64 (k : Int) ∧ Hid (OwnsR FGr 32 wr w4.heap.size v (withL (L.take k) s)) ∧ Hid (Below w4.heap.size w4 wr)) (fun _ i _ => L.length - (intOf i).toNat)
    case atStart => exact ⟨0, Nat.zero_le _, rfl, HO0, HBa⟩
    case round =>
      obtain ⟨k, hk, rfl, HO, HB⟩ := hrel
      have hbs := HB.out.size
      by_cases hlt : k < L.length
      · obtain ⟨B, off, e1, c0, q1, q2⟩ := gr_at (HI4.out.below HB.out) hlt
        subst e1
        have hgm : L[k] ∈ L := List.getElem_mem _
        obtain ⟨hzz1, _, _⟩ := HS.out L[k] hgm
        have HSN : Hid (withL (L.take (k + 1)) s = if hasB s L[k].nm then withL (L.take k) s ++ [L[k]] else withL (L.take k) s) := with_snoc hlt
        have hwl : (withL (L.take k) s).length ≤ k := Nat.le_trans with_len (by simp; omega)
        have HNA : Hid (IsStrs wr L[k].na L[k].nc L[k].nm) := ((HG4.out.below HB.out) L[k] hgm).1
        go_wp2_with fail
        refine (Ht.has_any _ _ _ s _ HNA.out (by omega)).mono ?_
        rintro e w5 ⟨rfl, e5⟩
        have e6 := e5.symm
        subst e6
        clear e5
        cases hh : hasB s L[k].nm with
        | false =>
          have HN1 : Hid (withL (L.take (k + 1)) s = withL (L.take k) s) := by show _ = _; rw [HSN.out, hh]; rfl
          go_wp2
          go_roundw
          case rel => exact ⟨k + 1, by omega, by go_num, by rw [HN1.out]; exact HO, HB⟩
          case measure => simp [intOf]; omega
        | true =>
          have HN1 : Hid (withL (L.take (k + 1)) s = withL (L.take k) s ++ [L[k]]) := by show _ = _; rw [HSN.out, hh]; rfl
          go_wp2_with (at_builtin; refine wpList_append_own _ rfl _ _ 23 rfl w4.heap.size 32 i0 (.agg #[.slice none 0 0, .slice none 0 0, .int .i64 0]) 3 56 Try.underlying23 hi hz0 hz1 hz2 rfl (by decide) _ _ _ rfl (World.ownsRow.alloc HO.out _) ⟨wr.heap.size, 0, none⟩ 1 1 (FGr.enc L[k]) rfl rfl (Dr.cell_three_new _ _ _ _ _) (FGr.one L[k]) ?c3 ?c4 ?c5 ?_)
          case c3 => unfold maxLen; omega
          case c4 => omega
          case c5 => simp; omega
          intro v8 w8 hown8 hgrow8 _
          have HO8 : Hid (OwnsR FGr 32 w8 w4.heap.size v8 (withL (L.take (k + 1)) s)) := by
            show OwnsR _ _ _ _ _ _
            rw [HN1.out]; exact OwnsR.append (F := FGr) hown8
          have HB8 : Hid (Below w4.heap.size w4 w8) := Below.grown (HB.out.alloc hbs _) hgrow8 (by simp; omega) (OwnsR.block HO.out)
          clear hown8 hgrow8
          go_wp2
          go_roundw
          case rel => exact ⟨k + 1, by omega, by go_num, HO8, HB8⟩
          case measure => simp [intOf]; omega
      · have e1 : L.take k = L := List.take_of_length_le (by omega)
        have hO := HO.out
        rw [e1] at hO
        obtain ⟨av, cv, hv, hIv⟩ := hO.rows
        subst hv
        have HIv : Hid (IsRows FGr wr av cv (withL L s)) := hIv
        have HXr : Hid (Dr.Bx 32 wr G #[.slice g.na g.nm.length g.nc, .slice g.ra g.ru.length g.rc, .int .i64 g.wait]) := HX4.out.keep (fun k hk => HB.out.block k hk)
        have HAr : Hid (GrAt wr g) := HA4.out.below HB.out
        have HGr : Hid (GrsAt wr L) := HG4.out.below HB.out
        have HBr : Hid (Below w.heap.size w wr) := HB4.out.trans (HB.out.mono HB4.out.size)
        have hxr := HXr.out
        have q0 : wr.cell? ⟨G, 0, none⟩ = some (.slice g.na g.nm.length g.nc) := hxr.cell 0 rfl
        have q1 : wr.cell? ⟨G, 1, none⟩ = some (.slice g.ra g.ru.length g.rc) := hxr.cell 1 rfl
        have q2 : wr.cell? ⟨G, 2, none⟩ = some (.int .i64 g.wait) := hxr.cell 2 rfl
        have hGw : G < wr.heap.size := hxr.lt
        clear hxr hO hIv e1
        have HIl : Hid (IsRows FGr wr av cv (withL L s) ∧ (withL L s).length ≤ 1000) := ⟨HIv.out, Nat.le_trans with_len hl1⟩
        by_cases h0 : (withL L s).length = 0
        · rw [h0]
          clear h0
          go_wp2_with fail
          refine wp_region_held_drew (S := (fun w' => w'.cell? ⟨G, 0, none⟩ = some (.slice g.na g.nm.length g.nc))) (by kernel_rfl) q0 (fun hHeld => ?_)
          refine wpAnyH_take (i := 0) (oi := ({ dst := some 46, op := Go.Op.fieldAddr 32 (Go.Operand.tmp 5) 0, type := 0, pos := "laws.go:689", after := #[], guard := none } : Oper)) (v := ?_) rfl (by kernel_rfl) (by kernel_rfl) (by kernel_rfl) (fun _ _ _ h => h) (Or.inl ⟨by rfl, ?_⟩) hHeld ?_
          rotate_left
          · (intro w hSw; (try dsimp only at hSw); go_simp; try with_reducible rfl)
          try simp only [Act.put, List.setIfInBounds_toArray, List.set_cons_zero, List.set_cons_succ]
          refine wpAnyH_take (i := 1) (oi := ({ dst := some 47, op := Go.Op.load 29 (Go.Operand.tmp 46), type := 29, pos := "laws.go:689", after := #[{ on := 0, ground := Go.Ground.data }], guard := none } : Oper)) (v := ?_) rfl (by kernel_rfl) (by kernel_rfl) (by kernel_rfl) (fun _ _ _ h => h) (Or.inl ⟨by rfl, ?_⟩) hHeld ?_
          rotate_left
          · (intro w hSw; (try dsimp only at hSw); go_simp; try with_reducible rfl)
          try simp only [Act.put, List.setIfInBounds_toArray, List.set_cons_zero, List.set_cons_succ]
          refine wpAnyH_take (i := 2) (oi := ({ dst := some 48, op := Go.Op.move (Go.Operand.tmp 4), type := 9, pos := "laws.go:689", after := #[], guard := none } : Oper)) (v := ?_) rfl (by kernel_rfl) (by kernel_rfl) (by kernel_rfl) (fun _ _ _ h => h) (Or.inl ⟨by rfl, ?_⟩) hHeld ?_
          rotate_left
          · (intro w hSw; (try dsimp only at hSw); go_simp; try with_reducible rfl)
          try simp only [Act.put, List.setIfInBounds_toArray, List.set_cons_zero, List.set_cons_succ]
          refine wpAnyH_ready (rs := [3]) (by kernel_rfl) (by simp) ?_
          refine AllReadyH.cons rfl (fun K hK => ?_) AllReadyH.nil
          go_simp
          refine hK.out _ _ ?_ (fun hHeld => ?_)
          · exact (HXr.out.alloc _ : Dr.Bx _ (wr.alloc _) G _).cell 0 rfl
          clear hK K
          refine wpAnyH_ready (rs := [4]) (by kernel_rfl) (by simp) ?_
          refine AllReadyH.cons rfl (fun K hK => ?_) AllReadyH.nil
          go_simp
          refine (texts_n g.na _ g.nc g.nm (some ⟨wr.heap.size, 0, none⟩) 1 1 [s] (wr.alloc (.cells #[.string s] 9)).drew rfl rfl ((HAr.out.1.keep (alloc_keep wr _)).keep (fun _ _ => rfl)) ((Owns.strsOf (Dr.Owns.lit1 wr wr.heap.size s (Nat.le_refl _))).keep (fun _ _ => rfl)) HLg.out.1 (by decide)).mono ?_
          rintro e w5 ⟨rfl, n5, hw5⟩
          rw [decide_eq_true Hg1.out]
          have hb5 : Below wr.heap.size wr w5 := by rw [hw5]; exact below_drewN (Below.trans ((Below.refl _ wr).alloc (Nat.le_refl _) (.cells #[.string s] 9)) (below_drewN (Below.refl _ _) 1)) n5
          have HB5 : Hid (Below w.heap.size w w5) := HBr.out.trans (hb5.mono HBr.out.size)
          refine hK.out _ _ ?_ (fun hHeld => ?_)
          · exact (HXr.out.keep (fun k hk => hb5.block k hk) : Dr.Bx _ w5 G _).cell 0 rfl
          clear hK K hb5 hw5
          refine wpAnyH_take (i := 5) (oi := ({ dst := some 51, op := Go.Op.move (Go.Operand.tmp 50), type := 4, pos := "laws.go:689", after := #[{ on := 4, ground := Go.Ground.data }, { on := 4, ground := Go.Ground.chain }], guard := none } : Oper)) (v := ?_) rfl (by kernel_rfl) (by kernel_rfl) (by kernel_rfl) (fun _ _ _ h => h) (Or.inl ⟨by rfl, ?_⟩) hHeld ?_
          rotate_left
          · (intro w hSw; (try dsimp only at hSw); go_simp; try with_reducible rfl)
          try simp only [Act.put, List.setIfInBounds_toArray, List.set_cons_zero, List.set_cons_succ]
          refine wpAnyH_take (i := 6) (oi := ({ dst := some 52, op := Go.Op.move (Go.Operand.tmp 6), type := 23, pos := "laws.go:689", after := #[{ on := 5, ground := Go.Ground.guard }], guard := some (5, true) } : Oper)) (v := ?_) rfl (by kernel_rfl) (by kernel_rfl) (by kernel_rfl) (fun _ _ _ h => h) (Or.inl ⟨by rfl, ?_⟩) hHeld ?_
          rotate_left
          · (intro w hSw; (try dsimp only at hSw); go_simp; try with_reducible rfl)
          try simp only [Act.put, List.setIfInBounds_toArray, List.set_cons_zero, List.set_cons_succ]
          refine wpAnyH_take (i := 7) (oi := ({ dst := some 53, op := Go.Op.call { callee := Go.Callee.builtin Go.Builtin.len, args := #[Go.Operand.tmp 52], argTypes := #[23] }, type := 3, pos := "laws.go:689", after := #[{ on := 6, ground := Go.Ground.data }, { on := 5, ground := Go.Ground.guard }], guard := some (5, true) } : Oper)) (v := ?_) rfl (by kernel_rfl) (by kernel_rfl) (by kernel_rfl) (fun _ _ _ h => h) (Or.inl ⟨by rfl, ?_⟩) hHeld ?_
          rotate_left
          · (intro w hSw; (try dsimp only at hSw); go_simp; try with_reducible rfl)
          try simp only [Act.put, List.setIfInBounds_toArray, List.set_cons_zero, List.set_cons_succ]
          refine wpAnyH_take (i := 8) (oi := ({ dst := some 54, op := Go.Op.binOp Go.BinOp.eql 3 (Go.Operand.tmp 53) (Go.Operand.const (Go.Value.int Go.IntKind.i64 0)) 3, type := 4, pos := "laws.go:689", after := #[{ on := 7, ground := Go.Ground.data }, { on := 5, ground := Go.Ground.guard }], guard := some (5, true) } : Oper)) (v := ?_) rfl (by kernel_rfl) (by kernel_rfl) (by kernel_rfl) (fun _ _ _ h => h) (Or.inl ⟨by rfl, ?_⟩) hHeld ?_
          rotate_left
          · (intro w hSw; (try dsimp only at hSw); go_simp; try with_reducible rfl)
          try simp only [Act.put, List.setIfInBounds_toArray, List.set_cons_zero, List.set_cons_succ]
          refine wpAnyH_take (i := 9) (oi := ({ dst := some 55, op := Go.Op.move (Go.Operand.tmp 54), type := 4, pos := "laws.go:689", after := #[{ on := 8, ground := Go.Ground.data }, { on := 5, ground := Go.Ground.chain }, { on := 5, ground := Go.Ground.guard }], guard := some (5, true) } : Oper)) (v := ?_) rfl (by kernel_rfl) (by kernel_rfl) (by kernel_rfl) (fun _ _ _ h => h) (Or.inl ⟨by rfl, ?_⟩) hHeld ?_
          rotate_left
          · (intro w hSw; (try dsimp only at hSw); go_simp; try with_reducible rfl)
          try simp only [Act.put, List.setIfInBounds_toArray, List.set_cons_zero, List.set_cons_succ]
          refine wpAnyH_take (i := 10) (oi := ({ dst := some 56, op := Go.Op.move (Go.Operand.tmp 6), type := 23, pos := "laws.go:689", after := #[{ on := 9, ground := Go.Ground.guard }], guard := some (9, false) } : Oper)) (v := undef) rfl (by kernel_rfl) (by kernel_rfl) (by kernel_rfl) (fun _ _ _ h => h) (Or.inr ⟨by rfl, rfl⟩) hHeld ?_
          try simp only [Act.put, List.setIfInBounds_toArray, List.set_cons_zero, List.set_cons_succ]
          refine wpAnyH_take (i := 11) (oi := ({ dst := some 57, op := Go.Op.move (Go.Operand.tmp 4), type := 9, pos := "laws.go:689", after := #[{ on := 9, ground := Go.Ground.guard }], guard := some (9, false) } : Oper)) (v := undef) rfl (by kernel_rfl) (by kernel_rfl) (by kernel_rfl) (fun _ _ _ h => h) (Or.inr ⟨by rfl, rfl⟩) hHeld ?_
          try simp only [Act.put, List.setIfInBounds_toArray, List.set_cons_zero, List.set_cons_succ]
          refine wpAnyH_take (i := 12) (oi := ({ dst := some 58, op := Go.Op.call { callee := Go.Callee.value (Go.Operand.func 12), args := #[Go.Operand.tmp 56, Go.Operand.tmp 57], argTypes := #[23, 9] }, type := 32, pos := "laws.go:689", after := #[{ on := 10, ground := Go.Ground.data }, { on := 11, ground := Go.Ground.data }, { on := 9, ground := Go.Ground.chain }, { on := 9, ground := Go.Ground.guard }], guard := some (9, false) } : Oper)) (v := undef) rfl (by kernel_rfl) (by kernel_rfl) (by kernel_rfl) (fun _ _ _ h => h) (Or.inr ⟨by rfl, rfl⟩) hHeld ?_
          try simp only [Act.put, List.setIfInBounds_toArray, List.set_cons_zero, List.set_cons_succ]
          refine wpAnyH_take (i := 13) (oi := ({ dst := some 59, op := Go.Op.load 32 (Go.Operand.tmp 5), type := 32, pos := "laws.go:689", after := #[{ on := 9, ground := Go.Ground.guard }], guard := some (9, false) } : Oper)) (v := undef) rfl (by kernel_rfl) (by kernel_rfl) (by kernel_rfl) (fun _ _ _ h => h) (Or.inr ⟨by rfl, rfl⟩) hHeld ?_
          try simp only [Act.put, List.setIfInBounds_toArray, List.set_cons_zero, List.set_cons_succ]
          refine wpAnyH_take (i := 14) (oi := ({ dst := some 60, op := Go.Op.call { callee := Go.Callee.value (Go.Operand.func 13), args := #[Go.Operand.tmp 58, Go.Operand.tmp 59], argTypes := #[32, 32] }, type := 4, pos := "laws.go:689", after := #[{ on := 12, ground := Go.Ground.data }, { on := 13, ground := Go.Ground.data }, { on := 12, ground := Go.Ground.chain }, { on := 9, ground := Go.Ground.guard }], guard := some (9, false) } : Oper)) (v := undef) rfl (by kernel_rfl) (by kernel_rfl) (by kernel_rfl) (fun _ _ _ h => h) (Or.inr ⟨by rfl, rfl⟩) hHeld ?_
          try simp only [Act.put, List.setIfInBounds_toArray, List.set_cons_zero, List.set_cons_succ]
          refine wpAnyH_take (i := 15) (oi := ({ dst := some 61, op := Go.Op.pick (Go.Operand.tmp 55) (Go.Operand.const (Go.Value.bool true)) (Go.Operand.tmp 60), type := 4, pos := "laws.go:689", after := #[{ on := 9, ground := Go.Ground.data }, { on := 14, ground := Go.Ground.data }, { on := 5, ground := Go.Ground.guard }], guard := some (5, true) } : Oper)) (v := ?_) rfl (by kernel_rfl) (by kernel_rfl) (by kernel_rfl) (fun _ _ _ h => h) (Or.inl ⟨by rfl, ?_⟩) hHeld ?_
          rotate_left
          · (intro w hSw; (try dsimp only at hSw); go_simp; try with_reducible rfl)
          try simp only [Act.put, List.setIfInBounds_toArray, List.set_cons_zero, List.set_cons_succ]
          refine wpAnyH_take (i := 16) (oi := ({ dst := some 62, op := Go.Op.pick (Go.Operand.tmp 51) (Go.Operand.tmp 61) (Go.Operand.const (Go.Value.bool false)), type := 4, pos := "laws.go:689", after := #[{ on := 5, ground := Go.Ground.data }, { on := 15, ground := Go.Ground.data }], guard := none } : Oper)) (v := ?_) rfl (by kernel_rfl) (by kernel_rfl) (by kernel_rfl) (fun _ _ _ h => h) (Or.inl ⟨by rfl, ?_⟩) hHeld ?_
          rotate_left
          · (intro w hSw; (try dsimp only at hSw); go_simp; try with_reducible rfl)
          try simp only [Act.put, List.setIfInBounds_toArray, List.set_cons_zero, List.set_cons_succ]
          refine wpAnyH_take (i := 17) (oi := ({ dst := some 2, op := Go.Op.assign (Go.Operand.tmp 62), type := 4, pos := "laws.go:689", after := #[{ on := 16, ground := Go.Ground.data }, { on := 14, ground := Go.Ground.chain }, { on := 0, ground := Go.Ground.phase }, { on := 1, ground := Go.Ground.phase }, { on := 2, ground := Go.Ground.phase }, { on := 3, ground := Go.Ground.phase }, { on := 4, ground := Go.Ground.phase }, { on := 5, ground := Go.Ground.phase }, { on := 6, ground := Go.Ground.phase }, { on := 7, ground := Go.Ground.phase }, { on := 8, ground := Go.Ground.phase }, { on := 9, ground := Go.Ground.phase }, { on := 10, ground := Go.Ground.phase }, { on := 11, ground := Go.Ground.phase }, { on := 12, ground := Go.Ground.phase }, { on := 13, ground := Go.Ground.phase }, { on := 14, ground := Go.Ground.phase }, { on := 15, ground := Go.Ground.phase }, { on := 16, ground := Go.Ground.phase }], guard := none } : Oper)) (v := ?_) rfl (by kernel_rfl) (by kernel_rfl) (by kernel_rfl) (fun _ _ _ h => h) (Or.inl ⟨by rfl, ?_⟩) hHeld ?_
          rotate_left
          · (intro w hSw; (try dsimp only at hSw); go_simp; try with_reducible rfl)
          try simp only [Act.put, List.setIfInBounds_toArray, List.set_cons_zero, List.set_cons_succ]
          refine wpAnyH_done (by kernel_rfl) ?_ _
          all_goals (
            go_wp2
            go_ret
            exact ⟨rfl, HB5.out⟩)
        · have h0' : (((withL L s).length : Int) == 0) = false := by rw [beq_eq_false_iff_ne]; omega
          have HT : Hid (toldL (withL L s) s = toldL L s) := told_own (fun e => h0 (by rw [e]; rfl))
          have hwn : (withL L s).length ≤ 1000 := Nat.le_trans with_len hl1
          clear h0
          go_wp2_with fail
          go_region_held_law (fun w' => w'.cell? ⟨G, 0, none⟩ = some (.slice g.na g.nm.length g.nc) ∧ w'.cell? ⟨G, 1, none⟩ = some (.slice g.ra g.ru.length g.rc) ∧ w'.cell? ⟨G, 2, none⟩ = some (.int .i64 g.wait)) (first | go_keep | exact hS5 | exact hS6 | exact hS7)
            (first
            | (go_at_call 16
               (refine (texts_n g.na _ g.nc g.nm (some ⟨wr.heap.size, 0, none⟩) 1 1 [s] (wr.alloc (.cells #[.string s] 9)).drew rfl rfl ((HAr.out.1.keep (alloc_keep wr _)).keep (fun _ _ => rfl)) ((Owns.strsOf (Dr.Owns.lit1 wr wr.heap.size s (Nat.le_refl _))).keep (fun _ _ => rfl)) HLg.out.1 (by decide)).mono ?_
                rintro e w5 ⟨rfl, n5, hw5⟩
                rw [decide_eq_true Hg1.out]
                have hb5 : Below wr.heap.size wr w5 := by rw [hw5]; exact below_drewN (Below.trans ((Below.refl _ wr).alloc (Nat.le_refl _) (.cells #[.string s] 9)) (below_drewN (Below.refl _ _) 1)) n5
                have HB5 : Hid (Below w.heap.size w w5) := HBr.out.trans (hb5.mono HBr.out.size)
                have HX5 : Hid (Dr.Bx 32 w5 G #[.slice g.na g.nm.length g.nc, .slice g.ra g.ru.length g.rc, .int .i64 g.wait]) := HXr.out.keep (fun k hk => hb5.block k hk)
                have HI5 : Hid (IsRows FGr w5 av cv (withL L s)) := HIv.out.below hb5
                have HG5 : Hid (GrsAt w5 L) := HGr.out.below hb5
                have HA5 : Hid (GrAt w5 g) := HAr.out.below hb5
                have hS5 : w5.cell? ⟨G, 0, none⟩ = some (.slice g.na g.nm.length g.nc) ∧ w5.cell? ⟨G, 1, none⟩ = some (.slice g.ra g.ru.length g.rc) ∧ w5.cell? ⟨G, 2, none⟩ = some (.int .i64 g.wait) := ⟨HX5.out.cell 0 rfl, HX5.out.cell 1 rfl, HX5.out.cell 2 rfl⟩
                clear hb5 hw5))
            | (go_at_call 13
               refine (group_same x g w6 HAx6.out HA6.out HE1.out HE2.out HE3.out (by rw [HE1.out]; exact HLg.out.1) (by rw [HE2.out]; exact HLg.out.2)).mono ?_
               rintro e w7 ⟨rfl, hb7⟩
               have HB7 : Hid (Below w.heap.size w w7) := HB6.out.trans (hb7.mono HB6.out.size)
               have HX7 : Hid (Dr.Bx 32 w7 G #[.slice g.na g.nm.length g.nc, .slice g.ra g.ru.length g.rc, .int .i64 g.wait]) := HX6.out.keep (fun k hk => hb7.block k hk)
               have hS7 : w7.cell? ⟨G, 0, none⟩ = some (.slice g.na g.nm.length g.nc) ∧ w7.cell? ⟨G, 1, none⟩ = some (.slice g.ra g.ru.length g.rc) ∧ w7.cell? ⟨G, 2, none⟩ = some (.int .i64 g.wait) := ⟨HX7.out.cell 0 rfl, HX7.out.cell 1 rfl, HX7.out.cell 2 rfl⟩
               clear hb7)
            | (go_at_call 12
               refine (for_n av cv _ (withL L s) s w5 rfl HI5.out (fun g hg => HG5.out g (with_mem hg)) (fun g hg => HS.out g (with_mem hg)) hwn (fun g hg => HN.out g (with_mem hg)) (fun g hg => HR.out g (with_mem hg))).mono ?_
               rintro e w6 ⟨x, rfl, hx1, hx2, hx3, hxo, hb6⟩
               rw [HT.out] at hx2 hx3
               have HB6 : Hid (Below w.heap.size w w6) := HB5.out.trans (hb6.mono HB5.out.size)
               have HX6 : Hid (Dr.Bx 32 w6 G #[.slice g.na g.nm.length g.nc, .slice g.ra g.ru.length g.rc, .int .i64 g.wait]) := HX5.out.keep (fun k hk => hb6.block k hk)
               have HA6 : Hid (GrAt w6 g) := HA5.out.below hb6
               have HAx6 : Hid (GrAt w6 x) := hxo.at
               have HE1 : Hid (x.nm = g.nm) := by show _ = _; rw [hx1, Hg1.out]
               have HE2 : Hid (x.ru = g.ru) := by show _ = _; rw [hx2, Hg2.out]
               have HE3 : Hid (x.wait = g.wait) := by show _ = _; rw [hx3, Hg3.out]
               have hS6 : w6.cell? ⟨G, 0, none⟩ = some (.slice g.na g.nm.length g.nc) ∧ w6.cell? ⟨G, 1, none⟩ = some (.slice g.ra g.ru.length g.rc) ∧ w6.cell? ⟨G, 2, none⟩ = some (.int .i64 g.wait) := ⟨HX6.out.cell 0 rfl, HX6.out.cell 1 rfl, HX6.out.cell 2 rfl⟩
               clear hx1 hx2 hx3 hxo hb6)
            | fail)
          all_goals (
            go_wp2
            go_ret
            exact ⟨rfl, HB7.out⟩))

theorem own : ownKnob Try.prog.godebug = none := by kernel_rfl
theorem laidOut : laidOutB Try.prog = true := by kernel_rfl

/-! ### THE ROW's STEP -/
set_option maxRecDepth 100000 in
theorem lifted (os : Os) (started : os.Started) (H : Type) (enc : TypeId × Value → H) :
    ReturnsInHanded {} Try.checked os 4 .any (Rows.fnForOwnSpec.pre6 enc Try.prog Try.f4 Rows.fnForOwnRow.domain false) (Rows.fnForOwnSpec.post enc Try.prog Try.f4 false true false false) := by
  refine returnsInHanded_of_change (C := Try.checked) own started (by kernel_rfl) Try.func4
    (ChangeSpec.witness6 (enc := enc) (C := Try.checked) false ⟨#[], #[.slice none 0 0], []⟩ 8 (by kernel_rfl) (by kernel_rfl) (by kernel_rfl) (by kernel_rfl)) ?_
  intro W base args ds gs before hval0 hW hcnd _
  have hval : ∀ (j : Nat) t v, Try.f4.params[j]? = some t → args[j]? = some v → Value.okWide Try.prog W .any base t v := hval0
  have hW' := hW
  obtain ⟨p, q, hA0, hV, rfl, hfz, hnd⟩ := hW
  have hA : DataW.TrodAll enc Try.prog W 0 (fun _ => true) true Try.f4.params.toList args.toList ds p := hA0
  rw [Try.params4] at hA hval
  obtain ⟨v0, vs0, d0, ds0, p0, q0, hargs, rfl, rfl, h0, r0⟩ := trodAll_cons hA
  obtain ⟨rfl, rfl, rfl⟩ := trodAll_nil r0
  obtain rfl : args = #[v0] := by cases args; simp_all
  obtain ⟨rfl, rfl⟩ := trodVars_none hV
  obtain ⟨a0, len0, cap0, rfl⟩ := okWide_slice Try.underlying22 (hval 0 22 v0 rfl rfl)
  have k0 := h0
  have lt0 : ∀ x ∈ p0, x.block < W.heap.size := by obtain ⟨m, hm⟩ := k0; exact DataW.trod_lt m _ _ _ hm
  obtain ⟨z0, w0⟩ : ∃ zs, Dr.IsRow .u8 W a0 len0 cap0 zs := by
    obtain ⟨fuel, hf⟩ := h0
    rcases open_ints Try.underlying22 Try.underlying5 (by kernel_rfl) hf with ⟨hcs, _⟩ | ⟨x, l, c, zs, hcs, _, hl, hm, hz, _, hcell, hwz⟩
    · simp [Value.cells] at hcs
      obtain ⟨rfl, rfl, rfl⟩ := hcs
      exact ⟨[], .inl ⟨rfl, rfl, rfl, rfl⟩⟩
    · simp [Value.cells] at hcs
      obtain ⟨rfl, rfl, rfl⟩ := hcs
      exact ⟨zs, .inr ⟨_, rfl, hl, hm, by simpa using hz, hcell, hwz⟩⟩
  clear hA0 hval0
  refine (walk a0 len0 cap0 z0 W w0).mono fun e W' ⟨he, bel⟩ => ?_
  subst he
  exact ⟨_, rfl, _, _, _, [], _, [], hW', trodAll_mk1 (shut_bool Try.underlying4 _), (trodAll_cons_mk (Below.trod laidOut (by kernel_rfl) (of_decide_eq_true (by kernel_rfl)) k0 bel lt0) trodAll_mk0), rfl, bel.frame _, fun h => by cases h⟩

theorem over : Rows.fnForOwnRow.holds Try.pinned (OpenSpec.ofChange Rows.fnForOwnSpec) :=
  OpenClaim.holds_of_wide 4 Try.f4 rfl rfl rfl rfl rfl rfl rfl ⟨rfl, rfl, rfl, rfl, rfl⟩ rfl rfl rfl rfl rfl (by kernel_rfl) Try.func4 (by kernel_rfl)
    (of_decide_eq_true (by kernel_rfl)) (by unfold Func.isWrapper; first | (rw [if_pos (by decide +kernel)]; kernel_rfl) | (rw [if_neg (by decide +kernel)]; exact ⟨rfl, rfl⟩))
    (fun os started H enc _ => lifted os started H enc)

theorem proved : Rows.FnForOwnSaid := over
end Go.Proofs.Ytbecelblddemkaa.fnForOwn
