/- FnForTwo: for every code, of the notice and the name drawn of it, said twice all rules are said twice, and the Wait is the same. No condition. -/
import Derived.Test.YtbecelblddemkaaRows
import Derived.WalkKit
import Derived.ProofKit
import Derived.OpenShut
import Derived.ShutString
import Derived.ChangeOld
import Derived.Below
import Derived.Test.YtbecelblddemkaaGrpLaws
import Derived.Deep.RegionHeldLaw
namespace Go.Proofs.Ytbecelblddemkaa.fnForTwo
open Go.ChangeShapes Go.WideShapes Go.ChangeAt Go.RowKit
open Go.ChangeMaps (open_string shut_string)
set_option linter.unusedVariables false
open Go.Proofs.Ytbecelblddemkaa.St Go.Proofs.Ytbecelblddemkaa.RR Go.Proofs.Ytbecelblddemkaa.LetM Go.Proofs.Ytbecelblddemkaa.Nm Go.Proofs.Ytbecelblddemkaa.GrM Go.Proofs.Ytbecelblddemkaa.Gf

set_option maxRecDepth 100000 in
set_option maxHeartbeats 32000000 in
theorem walk (a0 : Option Addr) (len0 cap0 : Nat) (z0 : List Int) (w : World) (w0 : Dr.IsRow .u8 w a0 len0 cap0 z0) :
    Calls Try.prog 7 #[.slice a0 len0 cap0] w fun e w' => e = .returned (.bool true) ∧ Below w.heap.size w w' := by
  by_cases hlong : (1048576 : Int) < len0
  · go_enter Try.func7, Try.ntmps7
    go_wp2
    go_ret
    exact ⟨rfl, Below.refl _ _⟩
  go_enter Try.func7, Try.ntmps7
  go_wp2_with fail
  refine (Dr.drawFor_any a0 len0 cap0 z0 w w0).mono ?_
  rintro e w1 ⟨L, a1, c1, s, rfl, hI, hG, hl, hL, hs1, hs2, hb1⟩
  have HI1 : Hid (IsRows FGr w1 a1 c1 L) := hI
  have HG1 : Hid (GrsAt w1 L) := hG
  have HL : Hid (∀ g ∈ L, Dr.GrBd g) := hL
  have HS : Hid (∀ g ∈ L, GrSz g) := fun g hg => (hL g hg).sz
  have HN : Hid (∀ g ∈ L, 0 ≤ g.wait ∧ g.wait ≤ 1000000) := fun g hg => by obtain ⟨_, _, _, _, h5, h6⟩ := hL g hg; exact ⟨h5, by omega⟩
  have HR : Hid (∀ g ∈ L, g.ru.length ≤ 1000) := fun g hg => by obtain ⟨_, _, h3, _⟩ := hL g hg; omega
  have HNm : Hid (s ≠ ⟨#[122, 122, 122]⟩) := hs2
  have HNm1 : Hid (nameB s = true) := hs1
  have HB1 : Hid (Below w.heap.size w w1) := hb1
  have hl1 : L.length ≤ 1000 := by omega
  have hss : s.size ≤ 8 := by unfold nameB at hs1; simp at hs1; omega
  have HRT : Hid ((rulesL (toldL L s)).length ≤ 4000) := by
    have h1 := rules_le (toldL L s) 1000 (fun g hg => HR.out g (told_mem hg))
    have h2 := told_len (L := L) (s := s)
    show _ ≤ _
    omega
  clear hI hG hL hb1 hs1 hs2 w0
  go_wp2_with fail
  refine (implFor_any a1 c1 L s _ HI1.out HG1.out HS.out hl1 HN.out HR.out).mono ?_
  rintro e w2 ⟨g, rfl, hg1, hg2, hg3, hgo, hb2⟩
  have HGg : Hid (Dr.GrOwn w2 w1.heap.size g) := hgo
  have HB2 : Hid (Below w.heap.size w w2) := HB1.out.trans (hb2.mono HB1.out.size)
  have HI2 : Hid (IsRows FGr w2 a1 c1 L) := HI1.out.below hb2
  have HG2 : Hid (GrsAt w2 L) := HG1.out.below hb2
  have Hg1 : Hid (g.nm = [s]) := hg1
  have Hg2 : Hid (g.ru = rulesL (toldL L s)) := hg2
  have Hg3 : Hid (g.wait = waitL (toldL L s)) := hg3
  clear hgo hb2 hg1 hg2 hg3
  have HIb0 : Hid (IsRows FGr (w2.alloc (.cells #[.slice g.na g.nm.length g.nc, .slice g.ra g.ru.length g.rc, .int .i64 g.wait] 32)) a1 c1 L) := HI2.out.keep (alloc_keep _ _)
  have HGb0 : Hid (GrsAt (w2.alloc (.cells #[.slice g.na g.nm.length g.nc, .slice g.ra g.ru.length g.rc, .int .i64 g.wait] 32)) L) := HG2.out.keep (alloc_keep _ _)
  have HBb0 : Hid (Below w.heap.size w (w2.alloc (.cells #[.slice g.na g.nm.length g.nc, .slice g.ra g.ru.length g.rc, .int .i64 g.wait] 32))) := HB2.out.alloc HB2.out.size _
  have HXb0 : Hid (Dr.Bx 32 (w2.alloc (.cells #[.slice g.na g.nm.length g.nc, .slice g.ra g.ru.length g.rc, .int .i64 g.wait] 32)) w2.heap.size #[.slice g.na g.nm.length g.nc, .slice g.ra g.ru.length g.rc, .int .i64 g.wait]) := Dr.Bx.new _ _ _
  have HOb0 : Hid (Dr.GrOwn (w2.alloc (.cells #[.slice g.na g.nm.length g.nc, .slice g.ra g.ru.length g.rc, .int .i64 g.wait] 32)) w1.heap.size g) := HGg.out.keep (alloc_keep _ _)
  go_wp2_with fail
  obtain ⟨G, hG⟩ : ∃ G, w2.heap.size = G := ⟨_, rfl⟩
  rw [hG] at HXb0 ⊢
  generalize w2.alloc (.cells #[.slice g.na g.nm.length g.nc, .slice g.ra g.ru.length g.rc, .int .i64 g.wait] 32) = wb at *
  have x0 : wb.drew.cell? ⟨G, 0, none⟩ = some (.slice g.na g.nm.length g.nc) := (HXb0.out.heapEq rfl : Dr.Bx _ wb.drew G _).cell 0 rfl
  have x1 : wb.drew.cell? ⟨G, 1, none⟩ = some (.slice g.ra g.ru.length g.rc) := (HXb0.out.heapEq rfl : Dr.Bx _ wb.drew G _).cell 1 rfl
  have x2 : wb.drew.cell? ⟨G, 2, none⟩ = some (.int .i64 g.wait) := (HXb0.out.heapEq rfl : Dr.Bx _ wb.drew G _).cell 2 rfl
  have HLg : Hid (g.nm.length ≤ 4194304 ∧ g.ru.length ≤ 4194304) := by
    show _ ∧ _
    rw [Hg1.out, Hg2.out]; exact ⟨by simp, by have := HRT.out; omega⟩
  clear hG HI2 HG2 HGg HB2
  go_region_with (first
    | (go_at_call 13
       refine (group_same g g' w3 HA3.out HA3'.out H31.out H32.out H33.out HLg.out.1 HLg.out.2).mono ?_
       rintro e w4 ⟨rfl, hb4⟩
       have HB4 : Hid (Below w.heap.size w w4) := HB3.out.trans (hb4.mono HB3.out.size)
       have HI4 : Hid (IsRows FGr w4 a1 c1 L) := HI3.out.below hb4
       have HG4 : Hid (GrsAt w4 L) := HG3.out.below hb4
       have HX4 : Hid (Dr.Bx 32 w4 G #[.slice g.na g.nm.length g.nc, .slice g.ra g.ru.length g.rc, .int .i64 g.wait]) := HX3.out.keep (fun k hk => hb4.block k hk)
       have HA4 : Hid (GrAt w4 g) := HA3.out.below hb4
       clear hb4)
    | (go_at_call 14
       refine (specFor_any a1 c1 L s wb.drew (HIb0.out.keep fun _ _ => rfl) (HGb0.out.keep fun _ _ => rfl) HS.out hl1 HN.out HR.out).mono ?_
       rintro e w3 ⟨g', rfl, hg1, hg2, hg3, hgo, hb3⟩
       have hbb : Below w.heap.size w wb.drew := below_drewN HBb0.out 1
       have HB3 : Hid (Below w.heap.size w w3) := hbb.trans (hb3.mono hbb.size)
       have HI3 : Hid (IsRows FGr w3 a1 c1 L) := HIb0.out.keep (fun k hk => hb3.block k hk)
       have HG3 : Hid (GrsAt w3 L) := HGb0.out.keep (fun k hk => hb3.block k hk)
       have HX3 : Hid (Dr.Bx 32 w3 G #[.slice g.na g.nm.length g.nc, .slice g.ra g.ru.length g.rc, .int .i64 g.wait]) := HXb0.out.keep (fun k hk => hb3.block k hk)
       have HA3 : Hid (GrAt w3 g) := HOb0.out.at.keep (fun k hk => hb3.block k hk)
       have HA3' : Hid (GrAt w3 g') := hgo.at
       have H31 : Hid (g.nm = g'.nm) := by show _ = _; rw [Hg1.out, hg1]
       have H32 : Hid (g.ru = g'.ru) := by show _ = _; rw [Hg2.out, hg2]
       have H33 : Hid (g.wait = g'.wait) := by show _ = _; rw [Hg3.out, hg3]
       have y0 : w3.cell? ⟨G, 0, none⟩ = some (.slice g.na g.nm.length g.nc) := HX3.out.cell 0 rfl
       have y1 : w3.cell? ⟨G, 1, none⟩ = some (.slice g.ra g.ru.length g.rc) := HX3.out.cell 1 rfl
       have y2 : w3.cell? ⟨G, 2, none⟩ = some (.int .i64 g.wait) := HX3.out.cell 2 rfl
       clear hg1 hg2 hg3 hgo hb3 hbb)
    | fail)
  all_goals clear x0 x1 x2 y0 y1 y2 HX3 HA3 HA3' HB3 HI3 HG3 HIb0 HGb0 HXb0 HOb0 HBb0
  all_goals (
    obtain ⟨i0, hi, hz0, hz1, hz2⟩ := Dr.info_group
    go_wp2_with (first
      | (at_builtin
         refine St.wpList_app rfl (.tmp 24) (.tmp 25) 23 rfl w4.heap.size 32 i0 (.agg #[.slice none 0 0, .slice none 0 0, .int .i64 0]) 3 56 Try.underlying23 hi hz0 hz1 hz2 rfl (by decide) (.slice (some ⟨w4.heap.size, 0, none⟩) 0 0) 0 [] rfl (OwnsR.empty FGr 32 w4 w4.heap.size (Nat.le_refl _)) a1 L.length c1 (FGr.cells L) rfl HI4.out.none (FGr.cells_len L) (HI4.out.newsAny (St.alloc_keep _ _)) (FGr.cells_one L) (by unfold maxLen; omega) (by omega) (by simp) ?_
         intro v5 w5 ho hg
         have HO5 : Hid (OwnsR FGr 32 w5 w4.heap.size v5 L) := OwnsR.of_row (F := FGr) ho (by simp) (by simp)
         have HB5 : Hid (Below w4.heap.size w4 w5) := Below.grown ((Below.refl _ _).alloc (Nat.le_refl _) _) hg (by simp) (by intro k hk; simp [Value.ownBlock] at hk; omega)
         have HI5 : Hid (IsRows FGr w5 a1 c1 L) := HI4.out.below HB5.out
         clear ho hg)
      | (at_builtin
         refine St.wpList_app rfl (.tmp 26) (.tmp 27) 23 rfl w4.heap.size 32 i0 (.agg #[.slice none 0 0, .slice none 0 0, .int .i64 0]) 3 56 Try.underlying23 hi hz0 hz1 hz2 rfl (by decide) v5 L.length (FGr.cells L) rfl HO5.out a1 L.length c1 (FGr.cells L) rfl HI5.out.none (FGr.cells_len L) (HI5.out.newsAny (fun _ _ => rfl)) (FGr.cells_one L) (by unfold maxLen; omega) (by omega) (by have := HB5.out.size; omega) ?_
         intro v6 w6 ho hg
         have hO6 : OwnsR FGr 32 w6 w4.heap.size v6 (L ++ L) := OwnsR.of_row (F := FGr) ho (by simp) (by rw [FGr.cells_append])
         have hbw : Below w4.heap.size w4 w6 := Below.grown HB5.out hg (by have := HB5.out.size; omega) (OwnsR.block HO5.out)
         obtain ⟨a6, c6, hv, hI⟩ := hO6.rows
         subst hv
         have HI6 : Hid (IsRows FGr w6 a6 c6 (L ++ L)) := hI
         have HB6 : Hid (Below w.heap.size w w6) := HB4.out.trans (hbw.mono HB4.out.size)
         have HG6 : Hid (GrsAt w6 L) := HG4.out.below hbw
         have HA6 : Hid (GrAt w6 g) := HA4.out.below hbw
         have HX6 : Hid (Dr.Bx 32 w6 G #[.slice g.na g.nm.length g.nc, .slice g.ra g.ru.length g.rc, .int .i64 g.wait]) := HX4.out.keep (fun k hk => hbw.block k hk)
         clear ho hg hO6 hbw hI)
      | fail)
    refine (for_n a6 c6 _ (L ++ L) s _ List.length_append HI6.out (mem_two HG6.out HG6.out) (mem_two HS.out HS.out) (by rw [List.length_append]; omega) (mem_two HN.out HN.out) (mem_two HR.out HR.out)).mono ?_
    rintro e w7 ⟨x, rfl, hx1, hx2, hx3, hxo, hb7⟩
    have HX7 : Hid (Dr.Bx 32 w7 G #[.slice g.na g.nm.length g.nc, .slice g.ra g.ru.length g.rc, .int .i64 g.wait]) := HX6.out.keep (fun k hk => hb7.block k hk)
    have HB7 : Hid (Below w.heap.size w w7) := HB6.out.trans (hb7.mono HB6.out.size)
    have HA7 : Hid (GrAt w7 g) := HA6.out.below hb7
    have HXR : Hid (x.ru = g.ru ++ g.ru) := by show _ = _; rw [hx2, told_two, rules_app, Hg2.out]
    have hxw : x.wait = g.wait := by rw [hx3, told_two, wait_two, Hg3.out]
    have hxl : x.ru.length = g.ru.length + g.ru.length := by rw [HXR.out, List.length_append]
    have hgl : g.ru.length ≤ 4000 := by rw [Hg2.out]; exact HRT.out
    have HRx : Hid (IsRows FRu w7 x.ra x.rc x.ru) := hxo.at.2
    obtain ⟨_, hxo2⟩ := hxo
    obtain ⟨xn, xna, xnc, xr, xra, xrc, xw⟩ := x
    simp only at hxw hxl HXR HRx hxo2 ⊢
    subst hxw
    have hGw : G < w7.heap.size := HX7.out.lt
    clear hx1 hx2 hx3 hb7
    obtain ⟨_, ⟨hv, hn⟩ | ⟨b, cap, cur, hv, _⟩⟩ := hxo2
    · injection hv with e1 e2 e3
      subst e1; subst e3
      have hg0 : g.ru.length = 0 := by omega
      have hr0 : xr.length = 0 := by omega
      have HG0 : Hid (g.ru = []) := List.eq_nil_of_length_eq_zero hg0
      have HG0l : Hid (g.ru.length = 0) := hg0
      rw [hg0] at HX7 ⊢
      rw [hr0]
      clear hn hxl hg0 hr0 hgl e2
      have HBx : Hid (Below w.heap.size w (w7.alloc (.cells #[.slice xna xn.length xnc, .slice none 0 0, .int .i64 g.wait] 32))) := HB7.out.alloc HB7.out.size _
      have HXc : Hid (Dr.Bx 32 (w7.alloc (.cells #[.slice xna xn.length xnc, .slice none 0 0, .int .i64 g.wait] 32)) w7.heap.size #[.slice xna xn.length xnc, .slice none 0 0, .int .i64 g.wait]) := Dr.Bx.new _ _ _
      have HXg : Hid (Dr.Bx 32 (w7.alloc (.cells #[.slice xna xn.length xnc, .slice none 0 0, .int .i64 g.wait] 32)) G #[.slice g.na g.nm.length g.nc, .slice g.ra 0 g.rc, .int .i64 g.wait]) := HX7.out.alloc _
      have HRg : Hid (IsRows FRu (w7.alloc (.cells #[.slice xna xn.length xnc, .slice none 0 0, .int .i64 g.wait] 32)) g.ra g.rc g.ru) := HA7.out.2.keep (alloc_keep _ _)
      have HR1 : Hid (IsRows FRu (w7.alloc (.cells #[.slice xna xn.length xnc, .slice none 0 0, .int .i64 g.wait] 32)) none 0 g.ru) := by show IsRows _ _ _ _ _; rw [HG0.out]; exact IsRows.nil _ _
      have HR2 : Hid (IsRows FRu (w7.alloc (.cells #[.slice xna xn.length xnc, .slice none 0 0, .int .i64 g.wait] 32)) none 0 g.ru) := by show IsRows _ _ _ _ _; rw [HG0.out]; exact IsRows.nil _ _
      go_wp2_with fail
      generalize w7.alloc (.cells #[.slice xna xn.length xnc, .slice none 0 0, .int .i64 g.wait] 32) = wc at *
      generalize w7.heap.size = X at *
      have hS7 : wc.drew.cell? ⟨G, 1, none⟩ = some (.slice g.ra 0 g.rc) ∧ wc.drew.cell? ⟨G, 2, none⟩ = some (.int .i64 g.wait) ∧ wc.drew.cell? ⟨X, 1, none⟩ = some (.slice none 0 0) ∧ wc.drew.cell? ⟨X, 2, none⟩ = some (.int .i64 g.wait) := ⟨HXg.out.cell 1 rfl, HXg.out.cell 2 rfl, HXc.out.cell 1 rfl, HXc.out.cell 2 rfl⟩
      refine wp_region_held_drew (S := (fun w' => w'.cell? ⟨G, 1, none⟩ = some (.slice g.ra 0 g.rc) ∧ w'.cell? ⟨G, 2, none⟩ = some (.int .i64 g.wait) ∧ w'.cell? ⟨X, 1, none⟩ = some (.slice none 0 0) ∧ w'.cell? ⟨X, 2, none⟩ = some (.int .i64 g.wait))) (by kernel_rfl) hS7 (fun hHeld => ?_)
      clear hS7
      refine wpAnyH_take (i := 0) (oi := ({ dst := some 31, op := Go.Op.fieldAddr 32 (Go.Operand.tmp 6) 2, type := 0, pos := "laws.go:2072", after := #[], guard := none } : Oper)) (v := ?_) rfl (by kernel_rfl) (by kernel_rfl) (by kernel_rfl) (fun _ _ _ h => h) (Or.inl ⟨by rfl, ?_⟩) hHeld ?_
      rotate_left
      · (intro w hSw; (try dsimp only at hSw); go_simp; try with_reducible rfl)
      try simp only [Act.put, List.setIfInBounds_toArray, List.set_cons_zero, List.set_cons_succ]
      refine wpAnyH_take (i := 1) (oi := ({ dst := some 32, op := Go.Op.load 3 (Go.Operand.tmp 31), type := 3, pos := "laws.go:2072", after := #[{ on := 0, ground := Go.Ground.data }], guard := none } : Oper)) (v := ?_) rfl (by kernel_rfl) (by kernel_rfl) (by kernel_rfl) (fun _ _ _ h => h) (Or.inl ⟨by rfl, ?_⟩) hHeld ?_
      rotate_left
      · (intro w hSw; (try dsimp only at hSw); go_simp; try with_reducible rfl)
      try simp only [Act.put, List.setIfInBounds_toArray, List.set_cons_zero, List.set_cons_succ]
      refine wpAnyH_take (i := 2) (oi := ({ dst := some 33, op := Go.Op.fieldAddr 32 (Go.Operand.tmp 5) 2, type := 0, pos := "laws.go:2072", after := #[], guard := none } : Oper)) (v := ?_) rfl (by kernel_rfl) (by kernel_rfl) (by kernel_rfl) (fun _ _ _ h => h) (Or.inl ⟨by rfl, ?_⟩) hHeld ?_
      rotate_left
      · (intro w hSw; (try dsimp only at hSw); go_simp; try with_reducible rfl)
      try simp only [Act.put, List.setIfInBounds_toArray, List.set_cons_zero, List.set_cons_succ]
      refine wpAnyH_take (i := 3) (oi := ({ dst := some 34, op := Go.Op.load 3 (Go.Operand.tmp 33), type := 3, pos := "laws.go:2072", after := #[{ on := 2, ground := Go.Ground.data }], guard := none } : Oper)) (v := ?_) rfl (by kernel_rfl) (by kernel_rfl) (by kernel_rfl) (fun _ _ _ h => h) (Or.inl ⟨by rfl, ?_⟩) hHeld ?_
      rotate_left
      · (intro w hSw; (try dsimp only at hSw); go_simp; try with_reducible rfl)
      try simp only [Act.put, List.setIfInBounds_toArray, List.set_cons_zero, List.set_cons_succ]
      refine wpAnyH_take (i := 4) (oi := ({ dst := some 35, op := Go.Op.binOp Go.BinOp.eql 3 (Go.Operand.tmp 32) (Go.Operand.tmp 34) 3, type := 4, pos := "laws.go:2072", after := #[{ on := 1, ground := Go.Ground.data }, { on := 3, ground := Go.Ground.data }], guard := none } : Oper)) (v := ?_) rfl (by kernel_rfl) (by kernel_rfl) (by kernel_rfl) (fun _ _ _ h => h) (Or.inl ⟨by rfl, ?_⟩) hHeld ?_
      rotate_left
      · (intro w hSw; (try dsimp only at hSw); go_simp; try with_reducible rfl)
      try simp only [Act.put, List.setIfInBounds_toArray, List.set_cons_zero, List.set_cons_succ]
      refine wpAnyH_take (i := 5) (oi := ({ dst := some 36, op := Go.Op.move (Go.Operand.tmp 35), type := 4, pos := "laws.go:2072", after := #[{ on := 4, ground := Go.Ground.data }], guard := none } : Oper)) (v := ?_) rfl (by kernel_rfl) (by kernel_rfl) (by kernel_rfl) (fun _ _ _ h => h) (Or.inl ⟨by rfl, ?_⟩) hHeld ?_
      rotate_left
      · (intro w hSw; (try dsimp only at hSw); go_simp; try with_reducible rfl)
      try simp only [Act.put, List.setIfInBounds_toArray, List.set_cons_zero, List.set_cons_succ]
      refine wpAnyH_take (i := 6) (oi := ({ dst := some 37, op := Go.Op.fieldAddr 32 (Go.Operand.tmp 6) 1, type := 0, pos := "laws.go:2072", after := #[{ on := 5, ground := Go.Ground.guard }], guard := some (5, true) } : Oper)) (v := ?_) rfl (by kernel_rfl) (by kernel_rfl) (by kernel_rfl) (fun _ _ _ h => h) (Or.inl ⟨by rfl, ?_⟩) hHeld ?_
      rotate_left
      · (intro w hSw; (try dsimp only at hSw); go_simp; try with_reducible rfl)
      try simp only [Act.put, List.setIfInBounds_toArray, List.set_cons_zero, List.set_cons_succ]
      refine wpAnyH_take (i := 7) (oi := ({ dst := some 38, op := Go.Op.load 30 (Go.Operand.tmp 37), type := 30, pos := "laws.go:2072", after := #[{ on := 6, ground := Go.Ground.data }, { on := 5, ground := Go.Ground.guard }], guard := some (5, true) } : Oper)) (v := ?_) rfl (by kernel_rfl) (by kernel_rfl) (by kernel_rfl) (fun _ _ _ h => h) (Or.inl ⟨by rfl, ?_⟩) hHeld ?_
      rotate_left
      · (intro w hSw; (try dsimp only at hSw); go_simp; try with_reducible rfl)
      try simp only [Act.put, List.setIfInBounds_toArray, List.set_cons_zero, List.set_cons_succ]
      refine wpAnyH_take (i := 8) (oi := ({ dst := some 39, op := Go.Op.call { callee := Go.Callee.builtin Go.Builtin.len, args := #[Go.Operand.tmp 38], argTypes := #[30] }, type := 3, pos := "laws.go:2072", after := #[{ on := 7, ground := Go.Ground.data }, { on := 5, ground := Go.Ground.guard }], guard := some (5, true) } : Oper)) (v := ?_) rfl (by kernel_rfl) (by kernel_rfl) (by kernel_rfl) (fun _ _ _ h => h) (Or.inl ⟨by rfl, ?_⟩) hHeld ?_
      rotate_left
      · (intro w hSw; (try dsimp only at hSw); go_simp; try with_reducible rfl)
      try simp only [Act.put, List.setIfInBounds_toArray, List.set_cons_zero, List.set_cons_succ]
      refine wpAnyH_take (i := 9) (oi := ({ dst := some 40, op := Go.Op.fieldAddr 32 (Go.Operand.tmp 5) 1, type := 0, pos := "laws.go:2072", after := #[{ on := 5, ground := Go.Ground.guard }], guard := some (5, true) } : Oper)) (v := ?_) rfl (by kernel_rfl) (by kernel_rfl) (by kernel_rfl) (fun _ _ _ h => h) (Or.inl ⟨by rfl, ?_⟩) hHeld ?_
      rotate_left
      · (intro w hSw; (try dsimp only at hSw); go_simp; try with_reducible rfl)
      try simp only [Act.put, List.setIfInBounds_toArray, List.set_cons_zero, List.set_cons_succ]
      refine wpAnyH_take (i := 10) (oi := ({ dst := some 41, op := Go.Op.load 30 (Go.Operand.tmp 40), type := 30, pos := "laws.go:2072", after := #[{ on := 9, ground := Go.Ground.data }, { on := 5, ground := Go.Ground.guard }], guard := some (5, true) } : Oper)) (v := ?_) rfl (by kernel_rfl) (by kernel_rfl) (by kernel_rfl) (fun _ _ _ h => h) (Or.inl ⟨by rfl, ?_⟩) hHeld ?_
      rotate_left
      · (intro w hSw; (try dsimp only at hSw); go_simp; try with_reducible rfl)
      try simp only [Act.put, List.setIfInBounds_toArray, List.set_cons_zero, List.set_cons_succ]
      refine wpAnyH_take (i := 11) (oi := ({ dst := some 42, op := Go.Op.call { callee := Go.Callee.builtin Go.Builtin.len, args := #[Go.Operand.tmp 41], argTypes := #[30] }, type := 3, pos := "laws.go:2072", after := #[{ on := 10, ground := Go.Ground.data }, { on := 5, ground := Go.Ground.guard }], guard := some (5, true) } : Oper)) (v := ?_) rfl (by kernel_rfl) (by kernel_rfl) (by kernel_rfl) (fun _ _ _ h => h) (Or.inl ⟨by rfl, ?_⟩) hHeld ?_
      rotate_left
      · (intro w hSw; (try dsimp only at hSw); go_simp; try with_reducible rfl)
      try simp only [Act.put, List.setIfInBounds_toArray, List.set_cons_zero, List.set_cons_succ]
      refine wpAnyH_take (i := 12) (oi := ({ dst := some 43, op := Go.Op.binOp Go.BinOp.mul 3 (Go.Operand.const (Go.Value.int Go.IntKind.i64 2)) (Go.Operand.tmp 42) 3, type := 3, pos := "laws.go:2072", after := #[{ on := 11, ground := Go.Ground.data }, { on := 5, ground := Go.Ground.guard }], guard := some (5, true) } : Oper)) (v := ?_) rfl (by kernel_rfl) (by kernel_rfl) (by kernel_rfl) (fun _ _ _ h => h) (Or.inl ⟨by rfl, ?_⟩) hHeld ?_
      rotate_left
      · (intro w hSw; (try dsimp only at hSw); go_simp; try with_reducible rfl)
      try simp only [Act.put, List.setIfInBounds_toArray, List.set_cons_zero, List.set_cons_succ]
      refine wpAnyH_take (i := 13) (oi := ({ dst := some 44, op := Go.Op.binOp Go.BinOp.eql 3 (Go.Operand.tmp 39) (Go.Operand.tmp 43) 3, type := 4, pos := "laws.go:2072", after := #[{ on := 8, ground := Go.Ground.data }, { on := 12, ground := Go.Ground.data }, { on := 5, ground := Go.Ground.guard }], guard := some (5, true) } : Oper)) (v := ?_) rfl (by kernel_rfl) (by kernel_rfl) (by kernel_rfl) (fun _ _ _ h => h) (Or.inl ⟨by rfl, ?_⟩) hHeld ?_
      rotate_left
      · (intro w hSw; (try dsimp only at hSw); go_simp; try with_reducible rfl)
      try simp only [Act.put, List.setIfInBounds_toArray, List.set_cons_zero, List.set_cons_succ]
      refine wpAnyH_take (i := 14) (oi := ({ dst := some 45, op := Go.Op.pick (Go.Operand.tmp 36) (Go.Operand.tmp 44) (Go.Operand.const (Go.Value.bool false)), type := 4, pos := "laws.go:2072", after := #[{ on := 5, ground := Go.Ground.data }, { on := 13, ground := Go.Ground.data }], guard := none } : Oper)) (v := ?_) rfl (by kernel_rfl) (by kernel_rfl) (by kernel_rfl) (fun _ _ _ h => h) (Or.inl ⟨by rfl, ?_⟩) hHeld ?_
      rotate_left
      · (intro w hSw; (try dsimp only at hSw); go_simp; try with_reducible rfl)
      try simp only [Act.put, List.setIfInBounds_toArray, List.set_cons_zero, List.set_cons_succ]
      refine wpAnyH_take (i := 15) (oi := ({ dst := some 46, op := Go.Op.move (Go.Operand.tmp 45), type := 4, pos := "laws.go:2072", after := #[{ on := 14, ground := Go.Ground.data }, { on := 5, ground := Go.Ground.chain }], guard := none } : Oper)) (v := ?_) rfl (by kernel_rfl) (by kernel_rfl) (by kernel_rfl) (fun _ _ _ h => h) (Or.inl ⟨by rfl, ?_⟩) hHeld ?_
      rotate_left
      · (intro w hSw; (try dsimp only at hSw); go_simp; try with_reducible rfl)
      try simp only [Act.put, List.setIfInBounds_toArray, List.set_cons_zero, List.set_cons_succ]
      refine wpAnyH_take (i := 16) (oi := ({ dst := some 47, op := Go.Op.fieldAddr 32 (Go.Operand.tmp 6) 1, type := 0, pos := "laws.go:2072", after := #[{ on := 15, ground := Go.Ground.guard }], guard := some (15, true) } : Oper)) (v := ?_) rfl (by kernel_rfl) (by kernel_rfl) (by kernel_rfl) (fun _ _ _ h => h) (Or.inl ⟨by rfl, ?_⟩) hHeld ?_
      rotate_left
      · (intro w hSw; (try dsimp only at hSw); go_simp; try with_reducible rfl)
      try simp only [Act.put, List.setIfInBounds_toArray, List.set_cons_zero, List.set_cons_succ]
      refine wpAnyH_take (i := 17) (oi := ({ dst := some 48, op := Go.Op.load 30 (Go.Operand.tmp 47), type := 30, pos := "laws.go:2072", after := #[{ on := 16, ground := Go.Ground.data }, { on := 15, ground := Go.Ground.guard }], guard := some (15, true) } : Oper)) (v := ?_) rfl (by kernel_rfl) (by kernel_rfl) (by kernel_rfl) (fun _ _ _ h => h) (Or.inl ⟨by rfl, ?_⟩) hHeld ?_
      rotate_left
      · (intro w hSw; (try dsimp only at hSw); go_simp; try with_reducible rfl)
      try simp only [Act.put, List.setIfInBounds_toArray, List.set_cons_zero, List.set_cons_succ]
      refine wpAnyH_take (i := 18) (oi := ({ dst := some 49, op := Go.Op.fieldAddr 32 (Go.Operand.tmp 5) 1, type := 0, pos := "laws.go:2072", after := #[{ on := 15, ground := Go.Ground.guard }], guard := some (15, true) } : Oper)) (v := ?_) rfl (by kernel_rfl) (by kernel_rfl) (by kernel_rfl) (fun _ _ _ h => h) (Or.inl ⟨by rfl, ?_⟩) hHeld ?_
      rotate_left
      · (intro w hSw; (try dsimp only at hSw); go_simp; try with_reducible rfl)
      try simp only [Act.put, List.setIfInBounds_toArray, List.set_cons_zero, List.set_cons_succ]
      refine wpAnyH_take (i := 19) (oi := ({ dst := some 50, op := Go.Op.load 30 (Go.Operand.tmp 49), type := 30, pos := "laws.go:2072", after := #[{ on := 18, ground := Go.Ground.data }, { on := 15, ground := Go.Ground.guard }], guard := some (15, true) } : Oper)) (v := ?_) rfl (by kernel_rfl) (by kernel_rfl) (by kernel_rfl) (fun _ _ _ h => h) (Or.inl ⟨by rfl, ?_⟩) hHeld ?_
      rotate_left
      · (intro w hSw; (try dsimp only at hSw); go_simp; try with_reducible rfl)
      try simp only [Act.put, List.setIfInBounds_toArray, List.set_cons_zero, List.set_cons_succ]
      refine wpAnyH_take (i := 20) (oi := ({ dst := some 51, op := Go.Op.call { callee := Go.Callee.builtin Go.Builtin.len, args := #[Go.Operand.tmp 50], argTypes := #[30] }, type := 3, pos := "laws.go:2072", after := #[{ on := 19, ground := Go.Ground.data }, { on := 15, ground := Go.Ground.guard }], guard := some (15, true) } : Oper)) (v := ?_) rfl (by kernel_rfl) (by kernel_rfl) (by kernel_rfl) (fun _ _ _ h => h) (Or.inl ⟨by rfl, ?_⟩) hHeld ?_
      rotate_left
      · (intro w hSw; (try dsimp only at hSw); go_simp; try with_reducible rfl)
      try simp only [Act.put, List.setIfInBounds_toArray, List.set_cons_zero, List.set_cons_succ]
      refine wpAnyH_take (i := 21) (oi := ({ dst := some 52, op := Go.Op.slice 30 (Go.Operand.tmp 48) none (some (Go.Operand.tmp 51)) none, type := 30, pos := "laws.go:2072", after := #[{ on := 17, ground := Go.Ground.data }, { on := 20, ground := Go.Ground.data }, { on := 15, ground := Go.Ground.guard }], guard := some (15, true) } : Oper)) (v := ?_) rfl (by kernel_rfl) (by kernel_rfl) (by kernel_rfl) (fun _ _ _ h => h) (Or.inl ⟨by rfl, ?_⟩) hHeld ?_
      rotate_left
      · (intro w hSw; (try dsimp only at hSw); go_simp; try with_reducible rfl)
      try simp only [Act.put, List.setIfInBounds_toArray, List.set_cons_zero, List.set_cons_succ]
      refine wpAnyH_take (i := 22) (oi := ({ dst := some 53, op := Go.Op.fieldAddr 32 (Go.Operand.tmp 5) 1, type := 0, pos := "laws.go:2072", after := #[{ on := 15, ground := Go.Ground.guard }], guard := some (15, true) } : Oper)) (v := ?_) rfl (by kernel_rfl) (by kernel_rfl) (by kernel_rfl) (fun _ _ _ h => h) (Or.inl ⟨by rfl, ?_⟩) hHeld ?_
      rotate_left
      · (intro w hSw; (try dsimp only at hSw); go_simp; try with_reducible rfl)
      try simp only [Act.put, List.setIfInBounds_toArray, List.set_cons_zero, List.set_cons_succ]
      refine wpAnyH_take (i := 23) (oi := ({ dst := some 54, op := Go.Op.load 30 (Go.Operand.tmp 53), type := 30, pos := "laws.go:2072", after := #[{ on := 22, ground := Go.Ground.data }, { on := 15, ground := Go.Ground.guard }], guard := some (15, true) } : Oper)) (v := ?_) rfl (by kernel_rfl) (by kernel_rfl) (by kernel_rfl) (fun _ _ _ h => h) (Or.inl ⟨by rfl, ?_⟩) hHeld ?_
      rotate_left
      · (intro w hSw; (try dsimp only at hSw); go_simp; try with_reducible rfl)
      try simp only [Act.put, List.setIfInBounds_toArray, List.set_cons_zero, List.set_cons_succ]
      refine wpAnyH_ready (rs := [24]) (by kernel_rfl) (by simp) ?_
      refine AllReadyH.cons rfl (fun K hK => ?_) AllReadyH.nil
      go_simp
      refine (rules_same none 0 g.ra g.rc _ _ g.ru wc.drew HG0l.out HG0l.out (HR1.out.keep fun _ _ => rfl) (HRg.out.keep fun _ _ => rfl) (by omega)).mono ?_
      rintro e w8 ⟨rfl, hb8⟩
      have hbd : Below wc.heap.size wc w8 := Below.trans ((Below.refl _ wc).drew) (hb8.mono (by simp))
      have HB8 : Hid (Below w.heap.size w w8) := HBx.out.trans (hbd.mono HBx.out.size)
      have HR28 : Hid (IsRows FRu w8 none (0) g.ru) := HR2.out.below hbd
      have HRg8 : Hid (IsRows FRu w8 g.ra g.rc g.ru) := HRg.out.below hbd
      have HXc8 : Hid (Dr.Bx 32 w8 X #[.slice xna xn.length xnc, .slice none 0 0, .int .i64 g.wait]) := HXc.out.keep (fun k hk => hbd.block k hk)
      have HXg8 : Hid (Dr.Bx 32 w8 G #[.slice g.na g.nm.length g.nc, .slice g.ra 0 g.rc, .int .i64 g.wait]) := HXg.out.keep (fun k hk => hbd.block k hk)
      refine hK.out _ _ ?_ (fun hHeld => ?_)
      · exact ⟨HXg8.out.cell 1 rfl, HXg8.out.cell 2 rfl, HXc8.out.cell 1 rfl, HXc8.out.cell 2 rfl⟩
      clear hK K hb8 hbd
      refine wpAnyH_take (i := 25) (oi := ({ dst := some 56, op := Go.Op.pick (Go.Operand.tmp 46) (Go.Operand.tmp 55) (Go.Operand.const (Go.Value.bool false)), type := 4, pos := "laws.go:2072", after := #[{ on := 15, ground := Go.Ground.data }, { on := 24, ground := Go.Ground.data }], guard := none } : Oper)) (v := ?_) rfl (by kernel_rfl) (by kernel_rfl) (by kernel_rfl) (fun _ _ _ h => h) (Or.inl ⟨by rfl, ?_⟩) hHeld ?_
      rotate_left
      · (intro w hSw; (try dsimp only at hSw); go_simp; try with_reducible rfl)
      try simp only [Act.put, List.setIfInBounds_toArray, List.set_cons_zero, List.set_cons_succ]
      refine wpAnyH_take (i := 26) (oi := ({ dst := some 57, op := Go.Op.move (Go.Operand.tmp 56), type := 4, pos := "laws.go:2072", after := #[{ on := 25, ground := Go.Ground.data }, { on := 24, ground := Go.Ground.chain }], guard := none } : Oper)) (v := ?_) rfl (by kernel_rfl) (by kernel_rfl) (by kernel_rfl) (fun _ _ _ h => h) (Or.inl ⟨by rfl, ?_⟩) hHeld ?_
      rotate_left
      · (intro w hSw; (try dsimp only at hSw); go_simp; try with_reducible rfl)
      try simp only [Act.put, List.setIfInBounds_toArray, List.set_cons_zero, List.set_cons_succ]
      refine wpAnyH_take (i := 27) (oi := ({ dst := some 58, op := Go.Op.fieldAddr 32 (Go.Operand.tmp 6) 1, type := 0, pos := "laws.go:2072", after := #[{ on := 26, ground := Go.Ground.guard }], guard := some (26, true) } : Oper)) (v := ?_) rfl (by kernel_rfl) (by kernel_rfl) (by kernel_rfl) (fun _ _ _ h => h) (Or.inl ⟨by rfl, ?_⟩) hHeld ?_
      rotate_left
      · (intro w hSw; (try dsimp only at hSw); go_simp; try with_reducible rfl)
      try simp only [Act.put, List.setIfInBounds_toArray, List.set_cons_zero, List.set_cons_succ]
      refine wpAnyH_take (i := 28) (oi := ({ dst := some 59, op := Go.Op.load 30 (Go.Operand.tmp 58), type := 30, pos := "laws.go:2072", after := #[{ on := 27, ground := Go.Ground.data }, { on := 26, ground := Go.Ground.guard }], guard := some (26, true) } : Oper)) (v := ?_) rfl (by kernel_rfl) (by kernel_rfl) (by kernel_rfl) (fun _ _ _ h => h) (Or.inl ⟨by rfl, ?_⟩) hHeld ?_
      rotate_left
      · (intro w hSw; (try dsimp only at hSw); go_simp; try with_reducible rfl)
      try simp only [Act.put, List.setIfInBounds_toArray, List.set_cons_zero, List.set_cons_succ]
      refine wpAnyH_take (i := 29) (oi := ({ dst := some 60, op := Go.Op.fieldAddr 32 (Go.Operand.tmp 5) 1, type := 0, pos := "laws.go:2072", after := #[{ on := 26, ground := Go.Ground.guard }], guard := some (26, true) } : Oper)) (v := ?_) rfl (by kernel_rfl) (by kernel_rfl) (by kernel_rfl) (fun _ _ _ h => h) (Or.inl ⟨by rfl, ?_⟩) hHeld ?_
      rotate_left
      · (intro w hSw; (try dsimp only at hSw); go_simp; try with_reducible rfl)
      try simp only [Act.put, List.setIfInBounds_toArray, List.set_cons_zero, List.set_cons_succ]
      refine wpAnyH_take (i := 30) (oi := ({ dst := some 61, op := Go.Op.load 30 (Go.Operand.tmp 60), type := 30, pos := "laws.go:2072", after := #[{ on := 29, ground := Go.Ground.data }, { on := 26, ground := Go.Ground.guard }], guard := some (26, true) } : Oper)) (v := ?_) rfl (by kernel_rfl) (by kernel_rfl) (by kernel_rfl) (fun _ _ _ h => h) (Or.inl ⟨by rfl, ?_⟩) hHeld ?_
      rotate_left
      · (intro w hSw; (try dsimp only at hSw); go_simp; try with_reducible rfl)
      try simp only [Act.put, List.setIfInBounds_toArray, List.set_cons_zero, List.set_cons_succ]
      refine wpAnyH_take (i := 31) (oi := ({ dst := some 62, op := Go.Op.call { callee := Go.Callee.builtin Go.Builtin.len, args := #[Go.Operand.tmp 61], argTypes := #[30] }, type := 3, pos := "laws.go:2072", after := #[{ on := 30, ground := Go.Ground.data }, { on := 26, ground := Go.Ground.guard }], guard := some (26, true) } : Oper)) (v := ?_) rfl (by kernel_rfl) (by kernel_rfl) (by kernel_rfl) (fun _ _ _ h => h) (Or.inl ⟨by rfl, ?_⟩) hHeld ?_
      rotate_left
      · (intro w hSw; (try dsimp only at hSw); go_simp; try with_reducible rfl)
      try simp only [Act.put, List.setIfInBounds_toArray, List.set_cons_zero, List.set_cons_succ]
      refine wpAnyH_take (i := 32) (oi := ({ dst := some 63, op := Go.Op.slice 30 (Go.Operand.tmp 59) (some (Go.Operand.tmp 62)) none none, type := 30, pos := "laws.go:2072", after := #[{ on := 28, ground := Go.Ground.data }, { on := 31, ground := Go.Ground.data }, { on := 26, ground := Go.Ground.guard }], guard := some (26, true) } : Oper)) (v := ?_) rfl (by kernel_rfl) (by kernel_rfl) (by kernel_rfl) (fun _ _ _ h => h) (Or.inl ⟨by rfl, ?_⟩) hHeld ?_
      rotate_left
      · (intro w hSw; (try dsimp only at hSw); go_simp; try with_reducible rfl)
      try simp only [Act.put, List.setIfInBounds_toArray, List.set_cons_zero, List.set_cons_succ]
      refine wpAnyH_take (i := 33) (oi := ({ dst := some 64, op := Go.Op.fieldAddr 32 (Go.Operand.tmp 5) 1, type := 0, pos := "laws.go:2072", after := #[{ on := 26, ground := Go.Ground.guard }], guard := some (26, true) } : Oper)) (v := ?_) rfl (by kernel_rfl) (by kernel_rfl) (by kernel_rfl) (fun _ _ _ h => h) (Or.inl ⟨by rfl, ?_⟩) hHeld ?_
      rotate_left
      · (intro w hSw; (try dsimp only at hSw); go_simp; try with_reducible rfl)
      try simp only [Act.put, List.setIfInBounds_toArray, List.set_cons_zero, List.set_cons_succ]
      refine wpAnyH_take (i := 34) (oi := ({ dst := some 65, op := Go.Op.load 30 (Go.Operand.tmp 64), type := 30, pos := "laws.go:2072", after := #[{ on := 33, ground := Go.Ground.data }, { on := 26, ground := Go.Ground.guard }], guard := some (26, true) } : Oper)) (v := ?_) rfl (by kernel_rfl) (by kernel_rfl) (by kernel_rfl) (fun _ _ _ h => h) (Or.inl ⟨by rfl, ?_⟩) hHeld ?_
      rotate_left
      · (intro w hSw; (try dsimp only at hSw); go_simp; try with_reducible rfl)
      try simp only [Act.put, List.setIfInBounds_toArray, List.set_cons_zero, List.set_cons_succ]
      refine wpAnyH_ready (rs := [35]) (by kernel_rfl) (by simp) ?_
      refine AllReadyH.cons rfl (fun K hK => ?_) AllReadyH.nil
      go_simp
      refine (rules_same none (0) g.ra g.rc _ _ g.ru w8 HG0l.out HG0l.out HR28.out HRg8.out (by omega)).mono ?_
      rintro e w9 ⟨rfl, hb9⟩
      have HB9 : Hid (Below w.heap.size w w9) := HB8.out.trans (hb9.mono HB8.out.size)
      have HXc9 : Hid (Dr.Bx 32 w9 X #[.slice xna xn.length xnc, .slice none 0 0, .int .i64 g.wait]) := HXc8.out.keep (fun k hk => hb9.block k hk)
      have HXg9 : Hid (Dr.Bx 32 w9 G #[.slice g.na g.nm.length g.nc, .slice g.ra 0 g.rc, .int .i64 g.wait]) := HXg8.out.keep (fun k hk => hb9.block k hk)
      refine hK.out _ _ ?_ (fun hHeld => ?_)
      · exact ⟨HXg9.out.cell 1 rfl, HXg9.out.cell 2 rfl, HXc9.out.cell 1 rfl, HXc9.out.cell 2 rfl⟩
      clear hK K hb9
      refine wpAnyH_take (i := 36) (oi := ({ dst := some 67, op := Go.Op.pick (Go.Operand.tmp 57) (Go.Operand.tmp 66) (Go.Operand.const (Go.Value.bool false)), type := 4, pos := "laws.go:2072", after := #[{ on := 26, ground := Go.Ground.data }, { on := 35, ground := Go.Ground.data }], guard := none } : Oper)) (v := ?_) rfl (by kernel_rfl) (by kernel_rfl) (by kernel_rfl) (fun _ _ _ h => h) (Or.inl ⟨by rfl, ?_⟩) hHeld ?_
      rotate_left
      · (intro w hSw; (try dsimp only at hSw); go_simp; try with_reducible rfl)
      try simp only [Act.put, List.setIfInBounds_toArray, List.set_cons_zero, List.set_cons_succ]
      refine wpAnyH_take (i := 37) (oi := ({ dst := some 2, op := Go.Op.assign (Go.Operand.tmp 67), type := 4, pos := "laws.go:2072", after := #[{ on := 36, ground := Go.Ground.data }, { on := 35, ground := Go.Ground.chain }, { on := 0, ground := Go.Ground.phase }, { on := 1, ground := Go.Ground.phase }, { on := 2, ground := Go.Ground.phase }, { on := 3, ground := Go.Ground.phase }, { on := 4, ground := Go.Ground.phase }, { on := 5, ground := Go.Ground.phase }, { on := 6, ground := Go.Ground.phase }, { on := 7, ground := Go.Ground.phase }, { on := 8, ground := Go.Ground.phase }, { on := 9, ground := Go.Ground.phase }, { on := 10, ground := Go.Ground.phase }, { on := 11, ground := Go.Ground.phase }, { on := 12, ground := Go.Ground.phase }, { on := 13, ground := Go.Ground.phase }, { on := 14, ground := Go.Ground.phase }, { on := 15, ground := Go.Ground.phase }, { on := 16, ground := Go.Ground.phase }, { on := 17, ground := Go.Ground.phase }, { on := 18, ground := Go.Ground.phase }, { on := 19, ground := Go.Ground.phase }, { on := 20, ground := Go.Ground.phase }, { on := 21, ground := Go.Ground.phase }, { on := 22, ground := Go.Ground.phase }, { on := 23, ground := Go.Ground.phase }, { on := 24, ground := Go.Ground.phase }, { on := 25, ground := Go.Ground.phase }, { on := 26, ground := Go.Ground.phase }, { on := 27, ground := Go.Ground.phase }, { on := 28, ground := Go.Ground.phase }, { on := 29, ground := Go.Ground.phase }, { on := 30, ground := Go.Ground.phase }, { on := 31, ground := Go.Ground.phase }, { on := 32, ground := Go.Ground.phase }, { on := 33, ground := Go.Ground.phase }, { on := 34, ground := Go.Ground.phase }, { on := 35, ground := Go.Ground.phase }, { on := 36, ground := Go.Ground.phase }], guard := none } : Oper)) (v := ?_) rfl (by kernel_rfl) (by kernel_rfl) (by kernel_rfl) (fun _ _ _ h => h) (Or.inl ⟨by rfl, ?_⟩) hHeld ?_
      rotate_left
      · (intro w hSw; (try dsimp only at hSw); go_simp; try with_reducible rfl)
      try simp only [Act.put, List.setIfInBounds_toArray, List.set_cons_zero, List.set_cons_succ]
      refine wpAnyH_done (by kernel_rfl) ?_ _
      go_wp2
      go_ret
      exact ⟨rfl, HB9.out⟩
    · injection hv with e1 e2 e3
      subst e1; subst e3
      by_cases hx0 : xrc = 0
      · subst hx0
        have hr0 : xr.length = 0 := by have := HRx.out.1; omega
        have hg0 : g.ru.length = 0 := by omega
        have HG0 : Hid (g.ru = []) := List.eq_nil_of_length_eq_zero hg0
        have HG0l : Hid (g.ru.length = 0) := hg0
        rw [hg0] at HX7 ⊢
        rw [hr0]
        clear hxl hg0 hr0 hgl e2
        have HBx : Hid (Below w.heap.size w (w7.alloc (.cells #[.slice xna xn.length xnc, .slice (some ⟨b, 0, none⟩) 0 0, .int .i64 g.wait] 32))) := HB7.out.alloc HB7.out.size _
        have HXc : Hid (Dr.Bx 32 (w7.alloc (.cells #[.slice xna xn.length xnc, .slice (some ⟨b, 0, none⟩) 0 0, .int .i64 g.wait] 32)) w7.heap.size #[.slice xna xn.length xnc, .slice (some ⟨b, 0, none⟩) 0 0, .int .i64 g.wait]) := Dr.Bx.new _ _ _
        have HXg : Hid (Dr.Bx 32 (w7.alloc (.cells #[.slice xna xn.length xnc, .slice (some ⟨b, 0, none⟩) 0 0, .int .i64 g.wait] 32)) G #[.slice g.na g.nm.length g.nc, .slice g.ra 0 g.rc, .int .i64 g.wait]) := HX7.out.alloc _
        have HRg : Hid (IsRows FRu (w7.alloc (.cells #[.slice xna xn.length xnc, .slice (some ⟨b, 0, none⟩) 0 0, .int .i64 g.wait] 32)) g.ra g.rc g.ru) := HA7.out.2.keep (alloc_keep _ _)
        have HR1 : Hid (IsRows FRu (w7.alloc (.cells #[.slice xna xn.length xnc, .slice (some ⟨b, 0, none⟩) 0 0, .int .i64 g.wait] 32)) (some ⟨b, 0, none⟩) 0 g.ru) := by show IsRows _ _ _ _ _; rw [HG0.out]; exact ⟨Nat.le_refl _, by decide, (fun e => by cases e), fun h => absurd rfl h⟩
        have HR2 : Hid (IsRows FRu (w7.alloc (.cells #[.slice xna xn.length xnc, .slice (some ⟨b, 0, none⟩) 0 0, .int .i64 g.wait] 32)) (some ⟨b, 0, none⟩) 0 g.ru) := by show IsRows _ _ _ _ _; rw [HG0.out]; exact ⟨Nat.le_refl _, by decide, (fun e => by cases e), fun h => absurd rfl h⟩
        go_wp2_with fail
        generalize w7.alloc (.cells #[.slice xna xn.length xnc, .slice (some ⟨b, 0, none⟩) 0 0, .int .i64 g.wait] 32) = wc at *
        generalize w7.heap.size = X at *
        have hS7 : wc.drew.cell? ⟨G, 1, none⟩ = some (.slice g.ra 0 g.rc) ∧ wc.drew.cell? ⟨G, 2, none⟩ = some (.int .i64 g.wait) ∧ wc.drew.cell? ⟨X, 1, none⟩ = some (.slice (some ⟨b, 0, none⟩) 0 0) ∧ wc.drew.cell? ⟨X, 2, none⟩ = some (.int .i64 g.wait) := ⟨HXg.out.cell 1 rfl, HXg.out.cell 2 rfl, HXc.out.cell 1 rfl, HXc.out.cell 2 rfl⟩
        refine wp_region_held_drew (S := (fun w' => w'.cell? ⟨G, 1, none⟩ = some (.slice g.ra 0 g.rc) ∧ w'.cell? ⟨G, 2, none⟩ = some (.int .i64 g.wait) ∧ w'.cell? ⟨X, 1, none⟩ = some (.slice (some ⟨b, 0, none⟩) 0 0) ∧ w'.cell? ⟨X, 2, none⟩ = some (.int .i64 g.wait))) (by kernel_rfl) hS7 (fun hHeld => ?_)
        clear hS7
        refine wpAnyH_take (i := 0) (oi := ({ dst := some 31, op := Go.Op.fieldAddr 32 (Go.Operand.tmp 6) 2, type := 0, pos := "laws.go:2072", after := #[], guard := none } : Oper)) (v := ?_) rfl (by kernel_rfl) (by kernel_rfl) (by kernel_rfl) (fun _ _ _ h => h) (Or.inl ⟨by rfl, ?_⟩) hHeld ?_
        rotate_left
        · (intro w hSw; (try dsimp only at hSw); go_simp; try with_reducible rfl)
        try simp only [Act.put, List.setIfInBounds_toArray, List.set_cons_zero, List.set_cons_succ]
        refine wpAnyH_take (i := 1) (oi := ({ dst := some 32, op := Go.Op.load 3 (Go.Operand.tmp 31), type := 3, pos := "laws.go:2072", after := #[{ on := 0, ground := Go.Ground.data }], guard := none } : Oper)) (v := ?_) rfl (by kernel_rfl) (by kernel_rfl) (by kernel_rfl) (fun _ _ _ h => h) (Or.inl ⟨by rfl, ?_⟩) hHeld ?_
        rotate_left
        · (intro w hSw; (try dsimp only at hSw); go_simp; try with_reducible rfl)
        try simp only [Act.put, List.setIfInBounds_toArray, List.set_cons_zero, List.set_cons_succ]
        refine wpAnyH_take (i := 2) (oi := ({ dst := some 33, op := Go.Op.fieldAddr 32 (Go.Operand.tmp 5) 2, type := 0, pos := "laws.go:2072", after := #[], guard := none } : Oper)) (v := ?_) rfl (by kernel_rfl) (by kernel_rfl) (by kernel_rfl) (fun _ _ _ h => h) (Or.inl ⟨by rfl, ?_⟩) hHeld ?_
        rotate_left
        · (intro w hSw; (try dsimp only at hSw); go_simp; try with_reducible rfl)
        try simp only [Act.put, List.setIfInBounds_toArray, List.set_cons_zero, List.set_cons_succ]
        refine wpAnyH_take (i := 3) (oi := ({ dst := some 34, op := Go.Op.load 3 (Go.Operand.tmp 33), type := 3, pos := "laws.go:2072", after := #[{ on := 2, ground := Go.Ground.data }], guard := none } : Oper)) (v := ?_) rfl (by kernel_rfl) (by kernel_rfl) (by kernel_rfl) (fun _ _ _ h => h) (Or.inl ⟨by rfl, ?_⟩) hHeld ?_
        rotate_left
        · (intro w hSw; (try dsimp only at hSw); go_simp; try with_reducible rfl)
        try simp only [Act.put, List.setIfInBounds_toArray, List.set_cons_zero, List.set_cons_succ]
        refine wpAnyH_take (i := 4) (oi := ({ dst := some 35, op := Go.Op.binOp Go.BinOp.eql 3 (Go.Operand.tmp 32) (Go.Operand.tmp 34) 3, type := 4, pos := "laws.go:2072", after := #[{ on := 1, ground := Go.Ground.data }, { on := 3, ground := Go.Ground.data }], guard := none } : Oper)) (v := ?_) rfl (by kernel_rfl) (by kernel_rfl) (by kernel_rfl) (fun _ _ _ h => h) (Or.inl ⟨by rfl, ?_⟩) hHeld ?_
        rotate_left
        · (intro w hSw; (try dsimp only at hSw); go_simp; try with_reducible rfl)
        try simp only [Act.put, List.setIfInBounds_toArray, List.set_cons_zero, List.set_cons_succ]
        refine wpAnyH_take (i := 5) (oi := ({ dst := some 36, op := Go.Op.move (Go.Operand.tmp 35), type := 4, pos := "laws.go:2072", after := #[{ on := 4, ground := Go.Ground.data }], guard := none } : Oper)) (v := ?_) rfl (by kernel_rfl) (by kernel_rfl) (by kernel_rfl) (fun _ _ _ h => h) (Or.inl ⟨by rfl, ?_⟩) hHeld ?_
        rotate_left
        · (intro w hSw; (try dsimp only at hSw); go_simp; try with_reducible rfl)
        try simp only [Act.put, List.setIfInBounds_toArray, List.set_cons_zero, List.set_cons_succ]
        refine wpAnyH_take (i := 6) (oi := ({ dst := some 37, op := Go.Op.fieldAddr 32 (Go.Operand.tmp 6) 1, type := 0, pos := "laws.go:2072", after := #[{ on := 5, ground := Go.Ground.guard }], guard := some (5, true) } : Oper)) (v := ?_) rfl (by kernel_rfl) (by kernel_rfl) (by kernel_rfl) (fun _ _ _ h => h) (Or.inl ⟨by rfl, ?_⟩) hHeld ?_
        rotate_left
        · (intro w hSw; (try dsimp only at hSw); go_simp; try with_reducible rfl)
        try simp only [Act.put, List.setIfInBounds_toArray, List.set_cons_zero, List.set_cons_succ]
        refine wpAnyH_take (i := 7) (oi := ({ dst := some 38, op := Go.Op.load 30 (Go.Operand.tmp 37), type := 30, pos := "laws.go:2072", after := #[{ on := 6, ground := Go.Ground.data }, { on := 5, ground := Go.Ground.guard }], guard := some (5, true) } : Oper)) (v := ?_) rfl (by kernel_rfl) (by kernel_rfl) (by kernel_rfl) (fun _ _ _ h => h) (Or.inl ⟨by rfl, ?_⟩) hHeld ?_
        rotate_left
        · (intro w hSw; (try dsimp only at hSw); go_simp; try with_reducible rfl)
        try simp only [Act.put, List.setIfInBounds_toArray, List.set_cons_zero, List.set_cons_succ]
        refine wpAnyH_take (i := 8) (oi := ({ dst := some 39, op := Go.Op.call { callee := Go.Callee.builtin Go.Builtin.len, args := #[Go.Operand.tmp 38], argTypes := #[30] }, type := 3, pos := "laws.go:2072", after := #[{ on := 7, ground := Go.Ground.data }, { on := 5, ground := Go.Ground.guard }], guard := some (5, true) } : Oper)) (v := ?_) rfl (by kernel_rfl) (by kernel_rfl) (by kernel_rfl) (fun _ _ _ h => h) (Or.inl ⟨by rfl, ?_⟩) hHeld ?_
        rotate_left
        · (intro w hSw; (try dsimp only at hSw); go_simp; try with_reducible rfl)
        try simp only [Act.put, List.setIfInBounds_toArray, List.set_cons_zero, List.set_cons_succ]
        refine wpAnyH_take (i := 9) (oi := ({ dst := some 40, op := Go.Op.fieldAddr 32 (Go.Operand.tmp 5) 1, type := 0, pos := "laws.go:2072", after := #[{ on := 5, ground := Go.Ground.guard }], guard := some (5, true) } : Oper)) (v := ?_) rfl (by kernel_rfl) (by kernel_rfl) (by kernel_rfl) (fun _ _ _ h => h) (Or.inl ⟨by rfl, ?_⟩) hHeld ?_
        rotate_left
        · (intro w hSw; (try dsimp only at hSw); go_simp; try with_reducible rfl)
        try simp only [Act.put, List.setIfInBounds_toArray, List.set_cons_zero, List.set_cons_succ]
        refine wpAnyH_take (i := 10) (oi := ({ dst := some 41, op := Go.Op.load 30 (Go.Operand.tmp 40), type := 30, pos := "laws.go:2072", after := #[{ on := 9, ground := Go.Ground.data }, { on := 5, ground := Go.Ground.guard }], guard := some (5, true) } : Oper)) (v := ?_) rfl (by kernel_rfl) (by kernel_rfl) (by kernel_rfl) (fun _ _ _ h => h) (Or.inl ⟨by rfl, ?_⟩) hHeld ?_
        rotate_left
        · (intro w hSw; (try dsimp only at hSw); go_simp; try with_reducible rfl)
        try simp only [Act.put, List.setIfInBounds_toArray, List.set_cons_zero, List.set_cons_succ]
        refine wpAnyH_take (i := 11) (oi := ({ dst := some 42, op := Go.Op.call { callee := Go.Callee.builtin Go.Builtin.len, args := #[Go.Operand.tmp 41], argTypes := #[30] }, type := 3, pos := "laws.go:2072", after := #[{ on := 10, ground := Go.Ground.data }, { on := 5, ground := Go.Ground.guard }], guard := some (5, true) } : Oper)) (v := ?_) rfl (by kernel_rfl) (by kernel_rfl) (by kernel_rfl) (fun _ _ _ h => h) (Or.inl ⟨by rfl, ?_⟩) hHeld ?_
        rotate_left
        · (intro w hSw; (try dsimp only at hSw); go_simp; try with_reducible rfl)
        try simp only [Act.put, List.setIfInBounds_toArray, List.set_cons_zero, List.set_cons_succ]
        refine wpAnyH_take (i := 12) (oi := ({ dst := some 43, op := Go.Op.binOp Go.BinOp.mul 3 (Go.Operand.const (Go.Value.int Go.IntKind.i64 2)) (Go.Operand.tmp 42) 3, type := 3, pos := "laws.go:2072", after := #[{ on := 11, ground := Go.Ground.data }, { on := 5, ground := Go.Ground.guard }], guard := some (5, true) } : Oper)) (v := ?_) rfl (by kernel_rfl) (by kernel_rfl) (by kernel_rfl) (fun _ _ _ h => h) (Or.inl ⟨by rfl, ?_⟩) hHeld ?_
        rotate_left
        · (intro w hSw; (try dsimp only at hSw); go_simp; try with_reducible rfl)
        try simp only [Act.put, List.setIfInBounds_toArray, List.set_cons_zero, List.set_cons_succ]
        refine wpAnyH_take (i := 13) (oi := ({ dst := some 44, op := Go.Op.binOp Go.BinOp.eql 3 (Go.Operand.tmp 39) (Go.Operand.tmp 43) 3, type := 4, pos := "laws.go:2072", after := #[{ on := 8, ground := Go.Ground.data }, { on := 12, ground := Go.Ground.data }, { on := 5, ground := Go.Ground.guard }], guard := some (5, true) } : Oper)) (v := ?_) rfl (by kernel_rfl) (by kernel_rfl) (by kernel_rfl) (fun _ _ _ h => h) (Or.inl ⟨by rfl, ?_⟩) hHeld ?_
        rotate_left
        · (intro w hSw; (try dsimp only at hSw); go_simp; try with_reducible rfl)
        try simp only [Act.put, List.setIfInBounds_toArray, List.set_cons_zero, List.set_cons_succ]
        refine wpAnyH_take (i := 14) (oi := ({ dst := some 45, op := Go.Op.pick (Go.Operand.tmp 36) (Go.Operand.tmp 44) (Go.Operand.const (Go.Value.bool false)), type := 4, pos := "laws.go:2072", after := #[{ on := 5, ground := Go.Ground.data }, { on := 13, ground := Go.Ground.data }], guard := none } : Oper)) (v := ?_) rfl (by kernel_rfl) (by kernel_rfl) (by kernel_rfl) (fun _ _ _ h => h) (Or.inl ⟨by rfl, ?_⟩) hHeld ?_
        rotate_left
        · (intro w hSw; (try dsimp only at hSw); go_simp; try with_reducible rfl)
        try simp only [Act.put, List.setIfInBounds_toArray, List.set_cons_zero, List.set_cons_succ]
        refine wpAnyH_take (i := 15) (oi := ({ dst := some 46, op := Go.Op.move (Go.Operand.tmp 45), type := 4, pos := "laws.go:2072", after := #[{ on := 14, ground := Go.Ground.data }, { on := 5, ground := Go.Ground.chain }], guard := none } : Oper)) (v := ?_) rfl (by kernel_rfl) (by kernel_rfl) (by kernel_rfl) (fun _ _ _ h => h) (Or.inl ⟨by rfl, ?_⟩) hHeld ?_
        rotate_left
        · (intro w hSw; (try dsimp only at hSw); go_simp; try with_reducible rfl)
        try simp only [Act.put, List.setIfInBounds_toArray, List.set_cons_zero, List.set_cons_succ]
        refine wpAnyH_take (i := 16) (oi := ({ dst := some 47, op := Go.Op.fieldAddr 32 (Go.Operand.tmp 6) 1, type := 0, pos := "laws.go:2072", after := #[{ on := 15, ground := Go.Ground.guard }], guard := some (15, true) } : Oper)) (v := ?_) rfl (by kernel_rfl) (by kernel_rfl) (by kernel_rfl) (fun _ _ _ h => h) (Or.inl ⟨by rfl, ?_⟩) hHeld ?_
        rotate_left
        · (intro w hSw; (try dsimp only at hSw); go_simp; try with_reducible rfl)
        try simp only [Act.put, List.setIfInBounds_toArray, List.set_cons_zero, List.set_cons_succ]
        refine wpAnyH_take (i := 17) (oi := ({ dst := some 48, op := Go.Op.load 30 (Go.Operand.tmp 47), type := 30, pos := "laws.go:2072", after := #[{ on := 16, ground := Go.Ground.data }, { on := 15, ground := Go.Ground.guard }], guard := some (15, true) } : Oper)) (v := ?_) rfl (by kernel_rfl) (by kernel_rfl) (by kernel_rfl) (fun _ _ _ h => h) (Or.inl ⟨by rfl, ?_⟩) hHeld ?_
        rotate_left
        · (intro w hSw; (try dsimp only at hSw); go_simp; try with_reducible rfl)
        try simp only [Act.put, List.setIfInBounds_toArray, List.set_cons_zero, List.set_cons_succ]
        refine wpAnyH_take (i := 18) (oi := ({ dst := some 49, op := Go.Op.fieldAddr 32 (Go.Operand.tmp 5) 1, type := 0, pos := "laws.go:2072", after := #[{ on := 15, ground := Go.Ground.guard }], guard := some (15, true) } : Oper)) (v := ?_) rfl (by kernel_rfl) (by kernel_rfl) (by kernel_rfl) (fun _ _ _ h => h) (Or.inl ⟨by rfl, ?_⟩) hHeld ?_
        rotate_left
        · (intro w hSw; (try dsimp only at hSw); go_simp; try with_reducible rfl)
        try simp only [Act.put, List.setIfInBounds_toArray, List.set_cons_zero, List.set_cons_succ]
        refine wpAnyH_take (i := 19) (oi := ({ dst := some 50, op := Go.Op.load 30 (Go.Operand.tmp 49), type := 30, pos := "laws.go:2072", after := #[{ on := 18, ground := Go.Ground.data }, { on := 15, ground := Go.Ground.guard }], guard := some (15, true) } : Oper)) (v := ?_) rfl (by kernel_rfl) (by kernel_rfl) (by kernel_rfl) (fun _ _ _ h => h) (Or.inl ⟨by rfl, ?_⟩) hHeld ?_
        rotate_left
        · (intro w hSw; (try dsimp only at hSw); go_simp; try with_reducible rfl)
        try simp only [Act.put, List.setIfInBounds_toArray, List.set_cons_zero, List.set_cons_succ]
        refine wpAnyH_take (i := 20) (oi := ({ dst := some 51, op := Go.Op.call { callee := Go.Callee.builtin Go.Builtin.len, args := #[Go.Operand.tmp 50], argTypes := #[30] }, type := 3, pos := "laws.go:2072", after := #[{ on := 19, ground := Go.Ground.data }, { on := 15, ground := Go.Ground.guard }], guard := some (15, true) } : Oper)) (v := ?_) rfl (by kernel_rfl) (by kernel_rfl) (by kernel_rfl) (fun _ _ _ h => h) (Or.inl ⟨by rfl, ?_⟩) hHeld ?_
        rotate_left
        · (intro w hSw; (try dsimp only at hSw); go_simp; try with_reducible rfl)
        try simp only [Act.put, List.setIfInBounds_toArray, List.set_cons_zero, List.set_cons_succ]
        refine wpAnyH_take (i := 21) (oi := ({ dst := some 52, op := Go.Op.slice 30 (Go.Operand.tmp 48) none (some (Go.Operand.tmp 51)) none, type := 30, pos := "laws.go:2072", after := #[{ on := 17, ground := Go.Ground.data }, { on := 20, ground := Go.Ground.data }, { on := 15, ground := Go.Ground.guard }], guard := some (15, true) } : Oper)) (v := ?_) rfl (by kernel_rfl) (by kernel_rfl) (by kernel_rfl) (fun _ _ _ h => h) (Or.inl ⟨by rfl, ?_⟩) hHeld ?_
        rotate_left
        · (intro w hSw; (try dsimp only at hSw); go_simp; try with_reducible rfl)
        try simp only [Act.put, List.setIfInBounds_toArray, List.set_cons_zero, List.set_cons_succ]
        refine wpAnyH_take (i := 22) (oi := ({ dst := some 53, op := Go.Op.fieldAddr 32 (Go.Operand.tmp 5) 1, type := 0, pos := "laws.go:2072", after := #[{ on := 15, ground := Go.Ground.guard }], guard := some (15, true) } : Oper)) (v := ?_) rfl (by kernel_rfl) (by kernel_rfl) (by kernel_rfl) (fun _ _ _ h => h) (Or.inl ⟨by rfl, ?_⟩) hHeld ?_
        rotate_left
        · (intro w hSw; (try dsimp only at hSw); go_simp; try with_reducible rfl)
        try simp only [Act.put, List.setIfInBounds_toArray, List.set_cons_zero, List.set_cons_succ]
        refine wpAnyH_take (i := 23) (oi := ({ dst := some 54, op := Go.Op.load 30 (Go.Operand.tmp 53), type := 30, pos := "laws.go:2072", after := #[{ on := 22, ground := Go.Ground.data }, { on := 15, ground := Go.Ground.guard }], guard := some (15, true) } : Oper)) (v := ?_) rfl (by kernel_rfl) (by kernel_rfl) (by kernel_rfl) (fun _ _ _ h => h) (Or.inl ⟨by rfl, ?_⟩) hHeld ?_
        rotate_left
        · (intro w hSw; (try dsimp only at hSw); go_simp; try with_reducible rfl)
        try simp only [Act.put, List.setIfInBounds_toArray, List.set_cons_zero, List.set_cons_succ]
        refine wpAnyH_ready (rs := [24]) (by kernel_rfl) (by simp) ?_
        refine AllReadyH.cons rfl (fun K hK => ?_) AllReadyH.nil
        go_simp
        refine (rules_same (some ⟨b, 0, none⟩) 0 g.ra g.rc _ _ g.ru wc.drew HG0l.out HG0l.out (HR1.out.keep fun _ _ => rfl) (HRg.out.keep fun _ _ => rfl) (by omega)).mono ?_
        rintro e w8 ⟨rfl, hb8⟩
        have hbd : Below wc.heap.size wc w8 := Below.trans ((Below.refl _ wc).drew) (hb8.mono (by simp))
        have HB8 : Hid (Below w.heap.size w w8) := HBx.out.trans (hbd.mono HBx.out.size)
        have HR28 : Hid (IsRows FRu w8 (some ⟨b, 0, none⟩) (0) g.ru) := HR2.out.below hbd
        have HRg8 : Hid (IsRows FRu w8 g.ra g.rc g.ru) := HRg.out.below hbd
        have HXc8 : Hid (Dr.Bx 32 w8 X #[.slice xna xn.length xnc, .slice (some ⟨b, 0, none⟩) 0 0, .int .i64 g.wait]) := HXc.out.keep (fun k hk => hbd.block k hk)
        have HXg8 : Hid (Dr.Bx 32 w8 G #[.slice g.na g.nm.length g.nc, .slice g.ra 0 g.rc, .int .i64 g.wait]) := HXg.out.keep (fun k hk => hbd.block k hk)
        refine hK.out _ _ ?_ (fun hHeld => ?_)
        · exact ⟨HXg8.out.cell 1 rfl, HXg8.out.cell 2 rfl, HXc8.out.cell 1 rfl, HXc8.out.cell 2 rfl⟩
        clear hK K hb8 hbd
        refine wpAnyH_take (i := 25) (oi := ({ dst := some 56, op := Go.Op.pick (Go.Operand.tmp 46) (Go.Operand.tmp 55) (Go.Operand.const (Go.Value.bool false)), type := 4, pos := "laws.go:2072", after := #[{ on := 15, ground := Go.Ground.data }, { on := 24, ground := Go.Ground.data }], guard := none } : Oper)) (v := ?_) rfl (by kernel_rfl) (by kernel_rfl) (by kernel_rfl) (fun _ _ _ h => h) (Or.inl ⟨by rfl, ?_⟩) hHeld ?_
        rotate_left
        · (intro w hSw; (try dsimp only at hSw); go_simp; try with_reducible rfl)
        try simp only [Act.put, List.setIfInBounds_toArray, List.set_cons_zero, List.set_cons_succ]
        refine wpAnyH_take (i := 26) (oi := ({ dst := some 57, op := Go.Op.move (Go.Operand.tmp 56), type := 4, pos := "laws.go:2072", after := #[{ on := 25, ground := Go.Ground.data }, { on := 24, ground := Go.Ground.chain }], guard := none } : Oper)) (v := ?_) rfl (by kernel_rfl) (by kernel_rfl) (by kernel_rfl) (fun _ _ _ h => h) (Or.inl ⟨by rfl, ?_⟩) hHeld ?_
        rotate_left
        · (intro w hSw; (try dsimp only at hSw); go_simp; try with_reducible rfl)
        try simp only [Act.put, List.setIfInBounds_toArray, List.set_cons_zero, List.set_cons_succ]
        refine wpAnyH_take (i := 27) (oi := ({ dst := some 58, op := Go.Op.fieldAddr 32 (Go.Operand.tmp 6) 1, type := 0, pos := "laws.go:2072", after := #[{ on := 26, ground := Go.Ground.guard }], guard := some (26, true) } : Oper)) (v := ?_) rfl (by kernel_rfl) (by kernel_rfl) (by kernel_rfl) (fun _ _ _ h => h) (Or.inl ⟨by rfl, ?_⟩) hHeld ?_
        rotate_left
        · (intro w hSw; (try dsimp only at hSw); go_simp; try with_reducible rfl)
        try simp only [Act.put, List.setIfInBounds_toArray, List.set_cons_zero, List.set_cons_succ]
        refine wpAnyH_take (i := 28) (oi := ({ dst := some 59, op := Go.Op.load 30 (Go.Operand.tmp 58), type := 30, pos := "laws.go:2072", after := #[{ on := 27, ground := Go.Ground.data }, { on := 26, ground := Go.Ground.guard }], guard := some (26, true) } : Oper)) (v := ?_) rfl (by kernel_rfl) (by kernel_rfl) (by kernel_rfl) (fun _ _ _ h => h) (Or.inl ⟨by rfl, ?_⟩) hHeld ?_
        rotate_left
        · (intro w hSw; (try dsimp only at hSw); go_simp; try with_reducible rfl)
        try simp only [Act.put, List.setIfInBounds_toArray, List.set_cons_zero, List.set_cons_succ]
        refine wpAnyH_take (i := 29) (oi := ({ dst := some 60, op := Go.Op.fieldAddr 32 (Go.Operand.tmp 5) 1, type := 0, pos := "laws.go:2072", after := #[{ on := 26, ground := Go.Ground.guard }], guard := some (26, true) } : Oper)) (v := ?_) rfl (by kernel_rfl) (by kernel_rfl) (by kernel_rfl) (fun _ _ _ h => h) (Or.inl ⟨by rfl, ?_⟩) hHeld ?_
        rotate_left
        · (intro w hSw; (try dsimp only at hSw); go_simp; try with_reducible rfl)
        try simp only [Act.put, List.setIfInBounds_toArray, List.set_cons_zero, List.set_cons_succ]
        refine wpAnyH_take (i := 30) (oi := ({ dst := some 61, op := Go.Op.load 30 (Go.Operand.tmp 60), type := 30, pos := "laws.go:2072", after := #[{ on := 29, ground := Go.Ground.data }, { on := 26, ground := Go.Ground.guard }], guard := some (26, true) } : Oper)) (v := ?_) rfl (by kernel_rfl) (by kernel_rfl) (by kernel_rfl) (fun _ _ _ h => h) (Or.inl ⟨by rfl, ?_⟩) hHeld ?_
        rotate_left
        · (intro w hSw; (try dsimp only at hSw); go_simp; try with_reducible rfl)
        try simp only [Act.put, List.setIfInBounds_toArray, List.set_cons_zero, List.set_cons_succ]
        refine wpAnyH_take (i := 31) (oi := ({ dst := some 62, op := Go.Op.call { callee := Go.Callee.builtin Go.Builtin.len, args := #[Go.Operand.tmp 61], argTypes := #[30] }, type := 3, pos := "laws.go:2072", after := #[{ on := 30, ground := Go.Ground.data }, { on := 26, ground := Go.Ground.guard }], guard := some (26, true) } : Oper)) (v := ?_) rfl (by kernel_rfl) (by kernel_rfl) (by kernel_rfl) (fun _ _ _ h => h) (Or.inl ⟨by rfl, ?_⟩) hHeld ?_
        rotate_left
        · (intro w hSw; (try dsimp only at hSw); go_simp; try with_reducible rfl)
        try simp only [Act.put, List.setIfInBounds_toArray, List.set_cons_zero, List.set_cons_succ]
        refine wpAnyH_take (i := 32) (oi := ({ dst := some 63, op := Go.Op.slice 30 (Go.Operand.tmp 59) (some (Go.Operand.tmp 62)) none none, type := 30, pos := "laws.go:2072", after := #[{ on := 28, ground := Go.Ground.data }, { on := 31, ground := Go.Ground.data }, { on := 26, ground := Go.Ground.guard }], guard := some (26, true) } : Oper)) (v := ?_) rfl (by kernel_rfl) (by kernel_rfl) (by kernel_rfl) (fun _ _ _ h => h) (Or.inl ⟨by rfl, ?_⟩) hHeld ?_
        rotate_left
        · (intro w hSw; (try dsimp only at hSw); go_simp; try with_reducible rfl)
        try simp only [Act.put, List.setIfInBounds_toArray, List.set_cons_zero, List.set_cons_succ]
        refine wpAnyH_take (i := 33) (oi := ({ dst := some 64, op := Go.Op.fieldAddr 32 (Go.Operand.tmp 5) 1, type := 0, pos := "laws.go:2072", after := #[{ on := 26, ground := Go.Ground.guard }], guard := some (26, true) } : Oper)) (v := ?_) rfl (by kernel_rfl) (by kernel_rfl) (by kernel_rfl) (fun _ _ _ h => h) (Or.inl ⟨by rfl, ?_⟩) hHeld ?_
        rotate_left
        · (intro w hSw; (try dsimp only at hSw); go_simp; try with_reducible rfl)
        try simp only [Act.put, List.setIfInBounds_toArray, List.set_cons_zero, List.set_cons_succ]
        refine wpAnyH_take (i := 34) (oi := ({ dst := some 65, op := Go.Op.load 30 (Go.Operand.tmp 64), type := 30, pos := "laws.go:2072", after := #[{ on := 33, ground := Go.Ground.data }, { on := 26, ground := Go.Ground.guard }], guard := some (26, true) } : Oper)) (v := ?_) rfl (by kernel_rfl) (by kernel_rfl) (by kernel_rfl) (fun _ _ _ h => h) (Or.inl ⟨by rfl, ?_⟩) hHeld ?_
        rotate_left
        · (intro w hSw; (try dsimp only at hSw); go_simp; try with_reducible rfl)
        try simp only [Act.put, List.setIfInBounds_toArray, List.set_cons_zero, List.set_cons_succ]
        refine wpAnyH_ready (rs := [35]) (by kernel_rfl) (by simp) ?_
        refine AllReadyH.cons rfl (fun K hK => ?_) AllReadyH.nil
        go_simp
        refine (rules_same (some ⟨b, 0, none⟩) (0) g.ra g.rc _ _ g.ru w8 HG0l.out HG0l.out HR28.out HRg8.out (by omega)).mono ?_
        rintro e w9 ⟨rfl, hb9⟩
        have HB9 : Hid (Below w.heap.size w w9) := HB8.out.trans (hb9.mono HB8.out.size)
        have HXc9 : Hid (Dr.Bx 32 w9 X #[.slice xna xn.length xnc, .slice (some ⟨b, 0, none⟩) 0 0, .int .i64 g.wait]) := HXc8.out.keep (fun k hk => hb9.block k hk)
        have HXg9 : Hid (Dr.Bx 32 w9 G #[.slice g.na g.nm.length g.nc, .slice g.ra 0 g.rc, .int .i64 g.wait]) := HXg8.out.keep (fun k hk => hb9.block k hk)
        refine hK.out _ _ ?_ (fun hHeld => ?_)
        · exact ⟨HXg9.out.cell 1 rfl, HXg9.out.cell 2 rfl, HXc9.out.cell 1 rfl, HXc9.out.cell 2 rfl⟩
        clear hK K hb9
        refine wpAnyH_take (i := 36) (oi := ({ dst := some 67, op := Go.Op.pick (Go.Operand.tmp 57) (Go.Operand.tmp 66) (Go.Operand.const (Go.Value.bool false)), type := 4, pos := "laws.go:2072", after := #[{ on := 26, ground := Go.Ground.data }, { on := 35, ground := Go.Ground.data }], guard := none } : Oper)) (v := ?_) rfl (by kernel_rfl) (by kernel_rfl) (by kernel_rfl) (fun _ _ _ h => h) (Or.inl ⟨by rfl, ?_⟩) hHeld ?_
        rotate_left
        · (intro w hSw; (try dsimp only at hSw); go_simp; try with_reducible rfl)
        try simp only [Act.put, List.setIfInBounds_toArray, List.set_cons_zero, List.set_cons_succ]
        refine wpAnyH_take (i := 37) (oi := ({ dst := some 2, op := Go.Op.assign (Go.Operand.tmp 67), type := 4, pos := "laws.go:2072", after := #[{ on := 36, ground := Go.Ground.data }, { on := 35, ground := Go.Ground.chain }, { on := 0, ground := Go.Ground.phase }, { on := 1, ground := Go.Ground.phase }, { on := 2, ground := Go.Ground.phase }, { on := 3, ground := Go.Ground.phase }, { on := 4, ground := Go.Ground.phase }, { on := 5, ground := Go.Ground.phase }, { on := 6, ground := Go.Ground.phase }, { on := 7, ground := Go.Ground.phase }, { on := 8, ground := Go.Ground.phase }, { on := 9, ground := Go.Ground.phase }, { on := 10, ground := Go.Ground.phase }, { on := 11, ground := Go.Ground.phase }, { on := 12, ground := Go.Ground.phase }, { on := 13, ground := Go.Ground.phase }, { on := 14, ground := Go.Ground.phase }, { on := 15, ground := Go.Ground.phase }, { on := 16, ground := Go.Ground.phase }, { on := 17, ground := Go.Ground.phase }, { on := 18, ground := Go.Ground.phase }, { on := 19, ground := Go.Ground.phase }, { on := 20, ground := Go.Ground.phase }, { on := 21, ground := Go.Ground.phase }, { on := 22, ground := Go.Ground.phase }, { on := 23, ground := Go.Ground.phase }, { on := 24, ground := Go.Ground.phase }, { on := 25, ground := Go.Ground.phase }, { on := 26, ground := Go.Ground.phase }, { on := 27, ground := Go.Ground.phase }, { on := 28, ground := Go.Ground.phase }, { on := 29, ground := Go.Ground.phase }, { on := 30, ground := Go.Ground.phase }, { on := 31, ground := Go.Ground.phase }, { on := 32, ground := Go.Ground.phase }, { on := 33, ground := Go.Ground.phase }, { on := 34, ground := Go.Ground.phase }, { on := 35, ground := Go.Ground.phase }, { on := 36, ground := Go.Ground.phase }], guard := none } : Oper)) (v := ?_) rfl (by kernel_rfl) (by kernel_rfl) (by kernel_rfl) (fun _ _ _ h => h) (Or.inl ⟨by rfl, ?_⟩) hHeld ?_
        rotate_left
        · (intro w hSw; (try dsimp only at hSw); go_simp; try with_reducible rfl)
        try simp only [Act.put, List.setIfInBounds_toArray, List.set_cons_zero, List.set_cons_succ]
        refine wpAnyH_done (by kernel_rfl) ?_ _
        go_wp2
        go_ret
        exact ⟨rfl, HB9.out⟩
      · have hcap : g.ru.length + g.ru.length ≤ xrc := by rw [← hxl]; exact HRx.out.1
        rw [hxl]
        have HLen2 : Hid (xr.length = g.ru.length + g.ru.length) := hxl
        have hcapM : xrc ≤ maxLen := HRx.out.2.1
        unfold maxLen at hcapM
        have hcapI : (g.ru.length : Int) + (g.ru.length : Int) ≤ (xrc : Int) := by omega
        have hcapJ : (g.ru.length : Int) ≤ (xrc : Int) := by omega
        have hcapN : g.ru.length ≤ xrc := by omega
        have hcapE : ¬ xrc = g.ru.length := by omega
        have hcapF : (g.ru.length : Int) ≤ (g.ru.length : Int) + (g.ru.length : Int) := by omega
        have hcapZ : ¬ xrc - g.ru.length = 0 := by omega
        have hcapZI : ¬ (xrc : Int) - (g.ru.length : Int) = 0 := by omega
        have hmul : IntKind.i64.wrap (2 * (g.ru.length : Int)) = 2 * (g.ru.length : Int) := IntWalk.i64_in _ (by omega)
        have hlen : ((((g.ru.length + g.ru.length) : Nat) : Int) == 2 * (g.ru.length : Int)) = true := by rw [beq_iff_eq]; omega
        have hlen2 : ((g.ru.length : Int) + (g.ru.length : Int) == 2 * (g.ru.length : Int)) = true := by rw [beq_iff_eq]; omega
        clear hxl e2
        have HBx : Hid (Below w.heap.size w (w7.alloc (.cells #[.slice xna xn.length xnc, .slice (some ⟨b, 0, none⟩) (g.ru.length + g.ru.length) xrc, .int .i64 g.wait] 32))) := HB7.out.alloc HB7.out.size _
        have HXc : Hid (Dr.Bx 32 (w7.alloc (.cells #[.slice xna xn.length xnc, .slice (some ⟨b, 0, none⟩) (g.ru.length + g.ru.length) xrc, .int .i64 g.wait] 32)) w7.heap.size #[.slice xna xn.length xnc, .slice (some ⟨b, 0, none⟩) (g.ru.length + g.ru.length) xrc, .int .i64 g.wait]) := Dr.Bx.new _ _ _
        have HXg : Hid (Dr.Bx 32 (w7.alloc (.cells #[.slice xna xn.length xnc, .slice (some ⟨b, 0, none⟩) (g.ru.length + g.ru.length) xrc, .int .i64 g.wait] 32)) G #[.slice g.na g.nm.length g.nc, .slice g.ra g.ru.length g.rc, .int .i64 g.wait]) := HX7.out.alloc _
        have HRg : Hid (IsRows FRu (w7.alloc (.cells #[.slice xna xn.length xnc, .slice (some ⟨b, 0, none⟩) (g.ru.length + g.ru.length) xrc, .int .i64 g.wait] 32)) g.ra g.rc g.ru) := HA7.out.2.keep (alloc_keep _ _)
        have HR1 : Hid (IsRows FRu (w7.alloc (.cells #[.slice xna xn.length xnc, .slice (some ⟨b, 0, none⟩) (g.ru.length + g.ru.length) xrc, .int .i64 g.wait] 32)) (some ⟨b, 0, none⟩) xrc g.ru) := by
          have h := IsRows.cut (HRx.out.keep (alloc_keep w7 (.cells #[.slice xna xn.length xnc, .slice (some ⟨b, 0, none⟩) (g.ru.length + g.ru.length) xrc, .int .i64 g.wait] 32))) g.ru.length
          rw [HXR.out, List.take_left] at h; exact h
        have HR2 : Hid (IsRows FRu (w7.alloc (.cells #[.slice xna xn.length xnc, .slice (some ⟨b, 0, none⟩) (g.ru.length + g.ru.length) xrc, .int .i64 g.wait] 32)) (some ⟨b, g.ru.length * 2, none⟩) (xrc - g.ru.length) g.ru) := by
          have h := rows_from (HRx.out.keep (alloc_keep w7 (.cells #[.slice xna xn.length xnc, .slice (some ⟨b, 0, none⟩) (g.ru.length + g.ru.length) xrc, .int .i64 g.wait] 32))) g.ru.length (by rw [HLen2.out]; omega)
          rw [HXR.out, List.drop_left, Nat.zero_add] at h; exact h
        go_wp2_with fail
        generalize w7.alloc (.cells #[.slice xna xn.length xnc, .slice (some ⟨b, 0, none⟩) (g.ru.length + g.ru.length) xrc, .int .i64 g.wait] 32) = wc at *
        generalize w7.heap.size = X at *
        have hS7 : wc.drew.cell? ⟨G, 1, none⟩ = some (.slice g.ra g.ru.length g.rc) ∧ wc.drew.cell? ⟨G, 2, none⟩ = some (.int .i64 g.wait) ∧ wc.drew.cell? ⟨X, 1, none⟩ = some (.slice (some ⟨b, 0, none⟩) (g.ru.length + g.ru.length) xrc) ∧ wc.drew.cell? ⟨X, 2, none⟩ = some (.int .i64 g.wait) := ⟨HXg.out.cell 1 rfl, HXg.out.cell 2 rfl, HXc.out.cell 1 rfl, HXc.out.cell 2 rfl⟩
        refine wp_region_held_drew (S := (fun w' => w'.cell? ⟨G, 1, none⟩ = some (.slice g.ra g.ru.length g.rc) ∧ w'.cell? ⟨G, 2, none⟩ = some (.int .i64 g.wait) ∧ w'.cell? ⟨X, 1, none⟩ = some (.slice (some ⟨b, 0, none⟩) (g.ru.length + g.ru.length) xrc) ∧ w'.cell? ⟨X, 2, none⟩ = some (.int .i64 g.wait))) (by kernel_rfl) hS7 (fun hHeld => ?_)
        clear hS7
        refine wpAnyH_take (i := 0) (oi := ({ dst := some 31, op := Go.Op.fieldAddr 32 (Go.Operand.tmp 6) 2, type := 0, pos := "laws.go:2072", after := #[], guard := none } : Oper)) (v := ?_) rfl (by kernel_rfl) (by kernel_rfl) (by kernel_rfl) (fun _ _ _ h => h) (Or.inl ⟨by rfl, ?_⟩) hHeld ?_
        rotate_left
        · (intro w hSw; (try dsimp only at hSw); go_simp; try with_reducible rfl)
        try simp only [Act.put, List.setIfInBounds_toArray, List.set_cons_zero, List.set_cons_succ]
        refine wpAnyH_take (i := 1) (oi := ({ dst := some 32, op := Go.Op.load 3 (Go.Operand.tmp 31), type := 3, pos := "laws.go:2072", after := #[{ on := 0, ground := Go.Ground.data }], guard := none } : Oper)) (v := ?_) rfl (by kernel_rfl) (by kernel_rfl) (by kernel_rfl) (fun _ _ _ h => h) (Or.inl ⟨by rfl, ?_⟩) hHeld ?_
        rotate_left
        · (intro w hSw; (try dsimp only at hSw); go_simp; try with_reducible rfl)
        try simp only [Act.put, List.setIfInBounds_toArray, List.set_cons_zero, List.set_cons_succ]
        refine wpAnyH_take (i := 2) (oi := ({ dst := some 33, op := Go.Op.fieldAddr 32 (Go.Operand.tmp 5) 2, type := 0, pos := "laws.go:2072", after := #[], guard := none } : Oper)) (v := ?_) rfl (by kernel_rfl) (by kernel_rfl) (by kernel_rfl) (fun _ _ _ h => h) (Or.inl ⟨by rfl, ?_⟩) hHeld ?_
        rotate_left
        · (intro w hSw; (try dsimp only at hSw); go_simp; try with_reducible rfl)
        try simp only [Act.put, List.setIfInBounds_toArray, List.set_cons_zero, List.set_cons_succ]
        refine wpAnyH_take (i := 3) (oi := ({ dst := some 34, op := Go.Op.load 3 (Go.Operand.tmp 33), type := 3, pos := "laws.go:2072", after := #[{ on := 2, ground := Go.Ground.data }], guard := none } : Oper)) (v := ?_) rfl (by kernel_rfl) (by kernel_rfl) (by kernel_rfl) (fun _ _ _ h => h) (Or.inl ⟨by rfl, ?_⟩) hHeld ?_
        rotate_left
        · (intro w hSw; (try dsimp only at hSw); go_simp; try with_reducible rfl)
        try simp only [Act.put, List.setIfInBounds_toArray, List.set_cons_zero, List.set_cons_succ]
        refine wpAnyH_take (i := 4) (oi := ({ dst := some 35, op := Go.Op.binOp Go.BinOp.eql 3 (Go.Operand.tmp 32) (Go.Operand.tmp 34) 3, type := 4, pos := "laws.go:2072", after := #[{ on := 1, ground := Go.Ground.data }, { on := 3, ground := Go.Ground.data }], guard := none } : Oper)) (v := ?_) rfl (by kernel_rfl) (by kernel_rfl) (by kernel_rfl) (fun _ _ _ h => h) (Or.inl ⟨by rfl, ?_⟩) hHeld ?_
        rotate_left
        · (intro w hSw; (try dsimp only at hSw); go_simp; try with_reducible rfl)
        try simp only [Act.put, List.setIfInBounds_toArray, List.set_cons_zero, List.set_cons_succ]
        refine wpAnyH_take (i := 5) (oi := ({ dst := some 36, op := Go.Op.move (Go.Operand.tmp 35), type := 4, pos := "laws.go:2072", after := #[{ on := 4, ground := Go.Ground.data }], guard := none } : Oper)) (v := ?_) rfl (by kernel_rfl) (by kernel_rfl) (by kernel_rfl) (fun _ _ _ h => h) (Or.inl ⟨by rfl, ?_⟩) hHeld ?_
        rotate_left
        · (intro w hSw; (try dsimp only at hSw); go_simp; try with_reducible rfl)
        try simp only [Act.put, List.setIfInBounds_toArray, List.set_cons_zero, List.set_cons_succ]
        refine wpAnyH_take (i := 6) (oi := ({ dst := some 37, op := Go.Op.fieldAddr 32 (Go.Operand.tmp 6) 1, type := 0, pos := "laws.go:2072", after := #[{ on := 5, ground := Go.Ground.guard }], guard := some (5, true) } : Oper)) (v := ?_) rfl (by kernel_rfl) (by kernel_rfl) (by kernel_rfl) (fun _ _ _ h => h) (Or.inl ⟨by rfl, ?_⟩) hHeld ?_
        rotate_left
        · (intro w hSw; (try dsimp only at hSw); go_simp; try with_reducible rfl)
        try simp only [Act.put, List.setIfInBounds_toArray, List.set_cons_zero, List.set_cons_succ]
        refine wpAnyH_take (i := 7) (oi := ({ dst := some 38, op := Go.Op.load 30 (Go.Operand.tmp 37), type := 30, pos := "laws.go:2072", after := #[{ on := 6, ground := Go.Ground.data }, { on := 5, ground := Go.Ground.guard }], guard := some (5, true) } : Oper)) (v := ?_) rfl (by kernel_rfl) (by kernel_rfl) (by kernel_rfl) (fun _ _ _ h => h) (Or.inl ⟨by rfl, ?_⟩) hHeld ?_
        rotate_left
        · (intro w hSw; (try dsimp only at hSw); go_simp; try with_reducible rfl)
        try simp only [Act.put, List.setIfInBounds_toArray, List.set_cons_zero, List.set_cons_succ]
        refine wpAnyH_take (i := 8) (oi := ({ dst := some 39, op := Go.Op.call { callee := Go.Callee.builtin Go.Builtin.len, args := #[Go.Operand.tmp 38], argTypes := #[30] }, type := 3, pos := "laws.go:2072", after := #[{ on := 7, ground := Go.Ground.data }, { on := 5, ground := Go.Ground.guard }], guard := some (5, true) } : Oper)) (v := ?_) rfl (by kernel_rfl) (by kernel_rfl) (by kernel_rfl) (fun _ _ _ h => h) (Or.inl ⟨by rfl, ?_⟩) hHeld ?_
        rotate_left
        · (intro w hSw; (try dsimp only at hSw); go_simp; try with_reducible rfl)
        try simp only [Act.put, List.setIfInBounds_toArray, List.set_cons_zero, List.set_cons_succ]
        refine wpAnyH_take (i := 9) (oi := ({ dst := some 40, op := Go.Op.fieldAddr 32 (Go.Operand.tmp 5) 1, type := 0, pos := "laws.go:2072", after := #[{ on := 5, ground := Go.Ground.guard }], guard := some (5, true) } : Oper)) (v := ?_) rfl (by kernel_rfl) (by kernel_rfl) (by kernel_rfl) (fun _ _ _ h => h) (Or.inl ⟨by rfl, ?_⟩) hHeld ?_
        rotate_left
        · (intro w hSw; (try dsimp only at hSw); go_simp; try with_reducible rfl)
        try simp only [Act.put, List.setIfInBounds_toArray, List.set_cons_zero, List.set_cons_succ]
        refine wpAnyH_take (i := 10) (oi := ({ dst := some 41, op := Go.Op.load 30 (Go.Operand.tmp 40), type := 30, pos := "laws.go:2072", after := #[{ on := 9, ground := Go.Ground.data }, { on := 5, ground := Go.Ground.guard }], guard := some (5, true) } : Oper)) (v := ?_) rfl (by kernel_rfl) (by kernel_rfl) (by kernel_rfl) (fun _ _ _ h => h) (Or.inl ⟨by rfl, ?_⟩) hHeld ?_
        rotate_left
        · (intro w hSw; (try dsimp only at hSw); go_simp; try with_reducible rfl)
        try simp only [Act.put, List.setIfInBounds_toArray, List.set_cons_zero, List.set_cons_succ]
        refine wpAnyH_take (i := 11) (oi := ({ dst := some 42, op := Go.Op.call { callee := Go.Callee.builtin Go.Builtin.len, args := #[Go.Operand.tmp 41], argTypes := #[30] }, type := 3, pos := "laws.go:2072", after := #[{ on := 10, ground := Go.Ground.data }, { on := 5, ground := Go.Ground.guard }], guard := some (5, true) } : Oper)) (v := ?_) rfl (by kernel_rfl) (by kernel_rfl) (by kernel_rfl) (fun _ _ _ h => h) (Or.inl ⟨by rfl, ?_⟩) hHeld ?_
        rotate_left
        · (intro w hSw; (try dsimp only at hSw); go_simp; try with_reducible rfl)
        try simp only [Act.put, List.setIfInBounds_toArray, List.set_cons_zero, List.set_cons_succ]
        refine wpAnyH_take (i := 12) (oi := ({ dst := some 43, op := Go.Op.binOp Go.BinOp.mul 3 (Go.Operand.const (Go.Value.int Go.IntKind.i64 2)) (Go.Operand.tmp 42) 3, type := 3, pos := "laws.go:2072", after := #[{ on := 11, ground := Go.Ground.data }, { on := 5, ground := Go.Ground.guard }], guard := some (5, true) } : Oper)) (v := ?_) rfl (by kernel_rfl) (by kernel_rfl) (by kernel_rfl) (fun _ _ _ h => h) (Or.inl ⟨by rfl, ?_⟩) hHeld ?_
        rotate_left
        · (intro w hSw; (try dsimp only at hSw); go_simp; try with_reducible rfl)
        try simp only [Act.put, List.setIfInBounds_toArray, List.set_cons_zero, List.set_cons_succ]
        refine wpAnyH_take (i := 13) (oi := ({ dst := some 44, op := Go.Op.binOp Go.BinOp.eql 3 (Go.Operand.tmp 39) (Go.Operand.tmp 43) 3, type := 4, pos := "laws.go:2072", after := #[{ on := 8, ground := Go.Ground.data }, { on := 12, ground := Go.Ground.data }, { on := 5, ground := Go.Ground.guard }], guard := some (5, true) } : Oper)) (v := ?_) rfl (by kernel_rfl) (by kernel_rfl) (by kernel_rfl) (fun _ _ _ h => h) (Or.inl ⟨by rfl, ?_⟩) hHeld ?_
        rotate_left
        · (intro w hSw; (try dsimp only at hSw); go_simp; try with_reducible rfl)
        try simp only [Act.put, List.setIfInBounds_toArray, List.set_cons_zero, List.set_cons_succ]
        refine wpAnyH_take (i := 14) (oi := ({ dst := some 45, op := Go.Op.pick (Go.Operand.tmp 36) (Go.Operand.tmp 44) (Go.Operand.const (Go.Value.bool false)), type := 4, pos := "laws.go:2072", after := #[{ on := 5, ground := Go.Ground.data }, { on := 13, ground := Go.Ground.data }], guard := none } : Oper)) (v := ?_) rfl (by kernel_rfl) (by kernel_rfl) (by kernel_rfl) (fun _ _ _ h => h) (Or.inl ⟨by rfl, ?_⟩) hHeld ?_
        rotate_left
        · (intro w hSw; (try dsimp only at hSw); go_simp; try with_reducible rfl)
        try simp only [Act.put, List.setIfInBounds_toArray, List.set_cons_zero, List.set_cons_succ]
        refine wpAnyH_take (i := 15) (oi := ({ dst := some 46, op := Go.Op.move (Go.Operand.tmp 45), type := 4, pos := "laws.go:2072", after := #[{ on := 14, ground := Go.Ground.data }, { on := 5, ground := Go.Ground.chain }], guard := none } : Oper)) (v := ?_) rfl (by kernel_rfl) (by kernel_rfl) (by kernel_rfl) (fun _ _ _ h => h) (Or.inl ⟨by rfl, ?_⟩) hHeld ?_
        rotate_left
        · (intro w hSw; (try dsimp only at hSw); go_simp; try with_reducible rfl)
        try simp only [Act.put, List.setIfInBounds_toArray, List.set_cons_zero, List.set_cons_succ]
        refine wpAnyH_take (i := 16) (oi := ({ dst := some 47, op := Go.Op.fieldAddr 32 (Go.Operand.tmp 6) 1, type := 0, pos := "laws.go:2072", after := #[{ on := 15, ground := Go.Ground.guard }], guard := some (15, true) } : Oper)) (v := ?_) rfl (by kernel_rfl) (by kernel_rfl) (by kernel_rfl) (fun _ _ _ h => h) (Or.inl ⟨by rfl, ?_⟩) hHeld ?_
        rotate_left
        · (intro w hSw; (try dsimp only at hSw); go_simp; try with_reducible rfl)
        try simp only [Act.put, List.setIfInBounds_toArray, List.set_cons_zero, List.set_cons_succ]
        refine wpAnyH_take (i := 17) (oi := ({ dst := some 48, op := Go.Op.load 30 (Go.Operand.tmp 47), type := 30, pos := "laws.go:2072", after := #[{ on := 16, ground := Go.Ground.data }, { on := 15, ground := Go.Ground.guard }], guard := some (15, true) } : Oper)) (v := ?_) rfl (by kernel_rfl) (by kernel_rfl) (by kernel_rfl) (fun _ _ _ h => h) (Or.inl ⟨by rfl, ?_⟩) hHeld ?_
        rotate_left
        · (intro w hSw; (try dsimp only at hSw); go_simp; try with_reducible rfl)
        try simp only [Act.put, List.setIfInBounds_toArray, List.set_cons_zero, List.set_cons_succ]
        refine wpAnyH_take (i := 18) (oi := ({ dst := some 49, op := Go.Op.fieldAddr 32 (Go.Operand.tmp 5) 1, type := 0, pos := "laws.go:2072", after := #[{ on := 15, ground := Go.Ground.guard }], guard := some (15, true) } : Oper)) (v := ?_) rfl (by kernel_rfl) (by kernel_rfl) (by kernel_rfl) (fun _ _ _ h => h) (Or.inl ⟨by rfl, ?_⟩) hHeld ?_
        rotate_left
        · (intro w hSw; (try dsimp only at hSw); go_simp; try with_reducible rfl)
        try simp only [Act.put, List.setIfInBounds_toArray, List.set_cons_zero, List.set_cons_succ]
        refine wpAnyH_take (i := 19) (oi := ({ dst := some 50, op := Go.Op.load 30 (Go.Operand.tmp 49), type := 30, pos := "laws.go:2072", after := #[{ on := 18, ground := Go.Ground.data }, { on := 15, ground := Go.Ground.guard }], guard := some (15, true) } : Oper)) (v := ?_) rfl (by kernel_rfl) (by kernel_rfl) (by kernel_rfl) (fun _ _ _ h => h) (Or.inl ⟨by rfl, ?_⟩) hHeld ?_
        rotate_left
        · (intro w hSw; (try dsimp only at hSw); go_simp; try with_reducible rfl)
        try simp only [Act.put, List.setIfInBounds_toArray, List.set_cons_zero, List.set_cons_succ]
        refine wpAnyH_take (i := 20) (oi := ({ dst := some 51, op := Go.Op.call { callee := Go.Callee.builtin Go.Builtin.len, args := #[Go.Operand.tmp 50], argTypes := #[30] }, type := 3, pos := "laws.go:2072", after := #[{ on := 19, ground := Go.Ground.data }, { on := 15, ground := Go.Ground.guard }], guard := some (15, true) } : Oper)) (v := ?_) rfl (by kernel_rfl) (by kernel_rfl) (by kernel_rfl) (fun _ _ _ h => h) (Or.inl ⟨by rfl, ?_⟩) hHeld ?_
        rotate_left
        · (intro w hSw; (try dsimp only at hSw); go_simp; try with_reducible rfl)
        try simp only [Act.put, List.setIfInBounds_toArray, List.set_cons_zero, List.set_cons_succ]
        refine wpAnyH_take (i := 21) (oi := ({ dst := some 52, op := Go.Op.slice 30 (Go.Operand.tmp 48) none (some (Go.Operand.tmp 51)) none, type := 30, pos := "laws.go:2072", after := #[{ on := 17, ground := Go.Ground.data }, { on := 20, ground := Go.Ground.data }, { on := 15, ground := Go.Ground.guard }], guard := some (15, true) } : Oper)) (v := ?_) rfl (by kernel_rfl) (by kernel_rfl) (by kernel_rfl) (fun _ _ _ h => h) (Or.inl ⟨by rfl, ?_⟩) hHeld ?_
        rotate_left
        · (intro w hSw; (try dsimp only at hSw); go_simp; try with_reducible rfl)
        try simp only [Act.put, List.setIfInBounds_toArray, List.set_cons_zero, List.set_cons_succ]
        refine wpAnyH_take (i := 22) (oi := ({ dst := some 53, op := Go.Op.fieldAddr 32 (Go.Operand.tmp 5) 1, type := 0, pos := "laws.go:2072", after := #[{ on := 15, ground := Go.Ground.guard }], guard := some (15, true) } : Oper)) (v := ?_) rfl (by kernel_rfl) (by kernel_rfl) (by kernel_rfl) (fun _ _ _ h => h) (Or.inl ⟨by rfl, ?_⟩) hHeld ?_
        rotate_left
        · (intro w hSw; (try dsimp only at hSw); go_simp; try with_reducible rfl)
        try simp only [Act.put, List.setIfInBounds_toArray, List.set_cons_zero, List.set_cons_succ]
        refine wpAnyH_take (i := 23) (oi := ({ dst := some 54, op := Go.Op.load 30 (Go.Operand.tmp 53), type := 30, pos := "laws.go:2072", after := #[{ on := 22, ground := Go.Ground.data }, { on := 15, ground := Go.Ground.guard }], guard := some (15, true) } : Oper)) (v := ?_) rfl (by kernel_rfl) (by kernel_rfl) (by kernel_rfl) (fun _ _ _ h => h) (Or.inl ⟨by rfl, ?_⟩) hHeld ?_
        rotate_left
        · (intro w hSw; (try dsimp only at hSw); go_simp; try with_reducible rfl)
        try simp only [Act.put, List.setIfInBounds_toArray, List.set_cons_zero, List.set_cons_succ]
        refine wpAnyH_ready (rs := [24]) (by kernel_rfl) (by simp) ?_
        refine AllReadyH.cons rfl (fun K hK => ?_) AllReadyH.nil
        go_simp
        refine (rules_same (some ⟨b, 0, none⟩) xrc g.ra g.rc _ _ g.ru wc.drew rfl rfl (HR1.out.keep fun _ _ => rfl) (HRg.out.keep fun _ _ => rfl) (by omega)).mono ?_
        rintro e w8 ⟨rfl, hb8⟩
        have hbd : Below wc.heap.size wc w8 := Below.trans ((Below.refl _ wc).drew) (hb8.mono (by simp))
        have HB8 : Hid (Below w.heap.size w w8) := HBx.out.trans (hbd.mono HBx.out.size)
        have HR28 : Hid (IsRows FRu w8 (some ⟨b, g.ru.length * 2, none⟩) ((xrc - g.ru.length)) g.ru) := HR2.out.below hbd
        have HRg8 : Hid (IsRows FRu w8 g.ra g.rc g.ru) := HRg.out.below hbd
        have HXc8 : Hid (Dr.Bx 32 w8 X #[.slice xna xn.length xnc, .slice (some ⟨b, 0, none⟩) (g.ru.length + g.ru.length) xrc, .int .i64 g.wait]) := HXc.out.keep (fun k hk => hbd.block k hk)
        have HXg8 : Hid (Dr.Bx 32 w8 G #[.slice g.na g.nm.length g.nc, .slice g.ra g.ru.length g.rc, .int .i64 g.wait]) := HXg.out.keep (fun k hk => hbd.block k hk)
        refine hK.out _ _ ?_ (fun hHeld => ?_)
        · exact ⟨HXg8.out.cell 1 rfl, HXg8.out.cell 2 rfl, HXc8.out.cell 1 rfl, HXc8.out.cell 2 rfl⟩
        clear hK K hb8 hbd
        refine wpAnyH_take (i := 25) (oi := ({ dst := some 56, op := Go.Op.pick (Go.Operand.tmp 46) (Go.Operand.tmp 55) (Go.Operand.const (Go.Value.bool false)), type := 4, pos := "laws.go:2072", after := #[{ on := 15, ground := Go.Ground.data }, { on := 24, ground := Go.Ground.data }], guard := none } : Oper)) (v := ?_) rfl (by kernel_rfl) (by kernel_rfl) (by kernel_rfl) (fun _ _ _ h => h) (Or.inl ⟨by rfl, ?_⟩) hHeld ?_
        rotate_left
        · (intro w hSw; (try dsimp only at hSw); go_simp; try with_reducible rfl)
        try simp only [Act.put, List.setIfInBounds_toArray, List.set_cons_zero, List.set_cons_succ]
        refine wpAnyH_take (i := 26) (oi := ({ dst := some 57, op := Go.Op.move (Go.Operand.tmp 56), type := 4, pos := "laws.go:2072", after := #[{ on := 25, ground := Go.Ground.data }, { on := 24, ground := Go.Ground.chain }], guard := none } : Oper)) (v := ?_) rfl (by kernel_rfl) (by kernel_rfl) (by kernel_rfl) (fun _ _ _ h => h) (Or.inl ⟨by rfl, ?_⟩) hHeld ?_
        rotate_left
        · (intro w hSw; (try dsimp only at hSw); go_simp; try with_reducible rfl)
        try simp only [Act.put, List.setIfInBounds_toArray, List.set_cons_zero, List.set_cons_succ]
        refine wpAnyH_take (i := 27) (oi := ({ dst := some 58, op := Go.Op.fieldAddr 32 (Go.Operand.tmp 6) 1, type := 0, pos := "laws.go:2072", after := #[{ on := 26, ground := Go.Ground.guard }], guard := some (26, true) } : Oper)) (v := ?_) rfl (by kernel_rfl) (by kernel_rfl) (by kernel_rfl) (fun _ _ _ h => h) (Or.inl ⟨by rfl, ?_⟩) hHeld ?_
        rotate_left
        · (intro w hSw; (try dsimp only at hSw); go_simp; try with_reducible rfl)
        try simp only [Act.put, List.setIfInBounds_toArray, List.set_cons_zero, List.set_cons_succ]
        refine wpAnyH_take (i := 28) (oi := ({ dst := some 59, op := Go.Op.load 30 (Go.Operand.tmp 58), type := 30, pos := "laws.go:2072", after := #[{ on := 27, ground := Go.Ground.data }, { on := 26, ground := Go.Ground.guard }], guard := some (26, true) } : Oper)) (v := ?_) rfl (by kernel_rfl) (by kernel_rfl) (by kernel_rfl) (fun _ _ _ h => h) (Or.inl ⟨by rfl, ?_⟩) hHeld ?_
        rotate_left
        · (intro w hSw; (try dsimp only at hSw); go_simp; try with_reducible rfl)
        try simp only [Act.put, List.setIfInBounds_toArray, List.set_cons_zero, List.set_cons_succ]
        refine wpAnyH_take (i := 29) (oi := ({ dst := some 60, op := Go.Op.fieldAddr 32 (Go.Operand.tmp 5) 1, type := 0, pos := "laws.go:2072", after := #[{ on := 26, ground := Go.Ground.guard }], guard := some (26, true) } : Oper)) (v := ?_) rfl (by kernel_rfl) (by kernel_rfl) (by kernel_rfl) (fun _ _ _ h => h) (Or.inl ⟨by rfl, ?_⟩) hHeld ?_
        rotate_left
        · (intro w hSw; (try dsimp only at hSw); go_simp; try with_reducible rfl)
        try simp only [Act.put, List.setIfInBounds_toArray, List.set_cons_zero, List.set_cons_succ]
        refine wpAnyH_take (i := 30) (oi := ({ dst := some 61, op := Go.Op.load 30 (Go.Operand.tmp 60), type := 30, pos := "laws.go:2072", after := #[{ on := 29, ground := Go.Ground.data }, { on := 26, ground := Go.Ground.guard }], guard := some (26, true) } : Oper)) (v := ?_) rfl (by kernel_rfl) (by kernel_rfl) (by kernel_rfl) (fun _ _ _ h => h) (Or.inl ⟨by rfl, ?_⟩) hHeld ?_
        rotate_left
        · (intro w hSw; (try dsimp only at hSw); go_simp; try with_reducible rfl)
        try simp only [Act.put, List.setIfInBounds_toArray, List.set_cons_zero, List.set_cons_succ]
        refine wpAnyH_take (i := 31) (oi := ({ dst := some 62, op := Go.Op.call { callee := Go.Callee.builtin Go.Builtin.len, args := #[Go.Operand.tmp 61], argTypes := #[30] }, type := 3, pos := "laws.go:2072", after := #[{ on := 30, ground := Go.Ground.data }, { on := 26, ground := Go.Ground.guard }], guard := some (26, true) } : Oper)) (v := ?_) rfl (by kernel_rfl) (by kernel_rfl) (by kernel_rfl) (fun _ _ _ h => h) (Or.inl ⟨by rfl, ?_⟩) hHeld ?_
        rotate_left
        · (intro w hSw; (try dsimp only at hSw); go_simp; try with_reducible rfl)
        try simp only [Act.put, List.setIfInBounds_toArray, List.set_cons_zero, List.set_cons_succ]
        refine wpAnyH_take (i := 32) (oi := ({ dst := some 63, op := Go.Op.slice 30 (Go.Operand.tmp 59) (some (Go.Operand.tmp 62)) none none, type := 30, pos := "laws.go:2072", after := #[{ on := 28, ground := Go.Ground.data }, { on := 31, ground := Go.Ground.data }, { on := 26, ground := Go.Ground.guard }], guard := some (26, true) } : Oper)) (v := ?_) rfl (by kernel_rfl) (by kernel_rfl) (by kernel_rfl) (fun _ _ _ h => h) (Or.inl ⟨by rfl, ?_⟩) hHeld ?_
        rotate_left
        · (intro w hSw; (try dsimp only at hSw); go_simp; try with_reducible rfl)
        try simp only [Act.put, List.setIfInBounds_toArray, List.set_cons_zero, List.set_cons_succ]
        refine wpAnyH_take (i := 33) (oi := ({ dst := some 64, op := Go.Op.fieldAddr 32 (Go.Operand.tmp 5) 1, type := 0, pos := "laws.go:2072", after := #[{ on := 26, ground := Go.Ground.guard }], guard := some (26, true) } : Oper)) (v := ?_) rfl (by kernel_rfl) (by kernel_rfl) (by kernel_rfl) (fun _ _ _ h => h) (Or.inl ⟨by rfl, ?_⟩) hHeld ?_
        rotate_left
        · (intro w hSw; (try dsimp only at hSw); go_simp; try with_reducible rfl)
        try simp only [Act.put, List.setIfInBounds_toArray, List.set_cons_zero, List.set_cons_succ]
        refine wpAnyH_take (i := 34) (oi := ({ dst := some 65, op := Go.Op.load 30 (Go.Operand.tmp 64), type := 30, pos := "laws.go:2072", after := #[{ on := 33, ground := Go.Ground.data }, { on := 26, ground := Go.Ground.guard }], guard := some (26, true) } : Oper)) (v := ?_) rfl (by kernel_rfl) (by kernel_rfl) (by kernel_rfl) (fun _ _ _ h => h) (Or.inl ⟨by rfl, ?_⟩) hHeld ?_
        rotate_left
        · (intro w hSw; (try dsimp only at hSw); go_simp; try with_reducible rfl)
        try simp only [Act.put, List.setIfInBounds_toArray, List.set_cons_zero, List.set_cons_succ]
        refine wpAnyH_ready (rs := [35]) (by kernel_rfl) (by simp) ?_
        refine AllReadyH.cons rfl (fun K hK => ?_) AllReadyH.nil
        go_simp
        refine (rules_same (some ⟨b, g.ru.length * 2, none⟩) ((xrc - g.ru.length)) g.ra g.rc _ _ g.ru w8 (by omega) rfl HR28.out HRg8.out (by omega)).mono ?_
        rintro e w9 ⟨rfl, hb9⟩
        have HB9 : Hid (Below w.heap.size w w9) := HB8.out.trans (hb9.mono HB8.out.size)
        have HXc9 : Hid (Dr.Bx 32 w9 X #[.slice xna xn.length xnc, .slice (some ⟨b, 0, none⟩) (g.ru.length + g.ru.length) xrc, .int .i64 g.wait]) := HXc8.out.keep (fun k hk => hb9.block k hk)
        have HXg9 : Hid (Dr.Bx 32 w9 G #[.slice g.na g.nm.length g.nc, .slice g.ra g.ru.length g.rc, .int .i64 g.wait]) := HXg8.out.keep (fun k hk => hb9.block k hk)
        refine hK.out _ _ ?_ (fun hHeld => ?_)
        · exact ⟨HXg9.out.cell 1 rfl, HXg9.out.cell 2 rfl, HXc9.out.cell 1 rfl, HXc9.out.cell 2 rfl⟩
        clear hK K hb9
        refine wpAnyH_take (i := 36) (oi := ({ dst := some 67, op := Go.Op.pick (Go.Operand.tmp 57) (Go.Operand.tmp 66) (Go.Operand.const (Go.Value.bool false)), type := 4, pos := "laws.go:2072", after := #[{ on := 26, ground := Go.Ground.data }, { on := 35, ground := Go.Ground.data }], guard := none } : Oper)) (v := ?_) rfl (by kernel_rfl) (by kernel_rfl) (by kernel_rfl) (fun _ _ _ h => h) (Or.inl ⟨by rfl, ?_⟩) hHeld ?_
        rotate_left
        · (intro w hSw; (try dsimp only at hSw); go_simp; try with_reducible rfl)
        try simp only [Act.put, List.setIfInBounds_toArray, List.set_cons_zero, List.set_cons_succ]
        refine wpAnyH_take (i := 37) (oi := ({ dst := some 2, op := Go.Op.assign (Go.Operand.tmp 67), type := 4, pos := "laws.go:2072", after := #[{ on := 36, ground := Go.Ground.data }, { on := 35, ground := Go.Ground.chain }, { on := 0, ground := Go.Ground.phase }, { on := 1, ground := Go.Ground.phase }, { on := 2, ground := Go.Ground.phase }, { on := 3, ground := Go.Ground.phase }, { on := 4, ground := Go.Ground.phase }, { on := 5, ground := Go.Ground.phase }, { on := 6, ground := Go.Ground.phase }, { on := 7, ground := Go.Ground.phase }, { on := 8, ground := Go.Ground.phase }, { on := 9, ground := Go.Ground.phase }, { on := 10, ground := Go.Ground.phase }, { on := 11, ground := Go.Ground.phase }, { on := 12, ground := Go.Ground.phase }, { on := 13, ground := Go.Ground.phase }, { on := 14, ground := Go.Ground.phase }, { on := 15, ground := Go.Ground.phase }, { on := 16, ground := Go.Ground.phase }, { on := 17, ground := Go.Ground.phase }, { on := 18, ground := Go.Ground.phase }, { on := 19, ground := Go.Ground.phase }, { on := 20, ground := Go.Ground.phase }, { on := 21, ground := Go.Ground.phase }, { on := 22, ground := Go.Ground.phase }, { on := 23, ground := Go.Ground.phase }, { on := 24, ground := Go.Ground.phase }, { on := 25, ground := Go.Ground.phase }, { on := 26, ground := Go.Ground.phase }, { on := 27, ground := Go.Ground.phase }, { on := 28, ground := Go.Ground.phase }, { on := 29, ground := Go.Ground.phase }, { on := 30, ground := Go.Ground.phase }, { on := 31, ground := Go.Ground.phase }, { on := 32, ground := Go.Ground.phase }, { on := 33, ground := Go.Ground.phase }, { on := 34, ground := Go.Ground.phase }, { on := 35, ground := Go.Ground.phase }, { on := 36, ground := Go.Ground.phase }], guard := none } : Oper)) (v := ?_) rfl (by kernel_rfl) (by kernel_rfl) (by kernel_rfl) (fun _ _ _ h => h) (Or.inl ⟨by rfl, ?_⟩) hHeld ?_
        rotate_left
        · (intro w hSw; (try dsimp only at hSw); go_simp; try with_reducible rfl)
        try simp only [Act.put, List.setIfInBounds_toArray, List.set_cons_zero, List.set_cons_succ]
        refine wpAnyH_done (by kernel_rfl) ?_ _
        go_wp2
        go_ret
        exact ⟨rfl, HB9.out⟩)

theorem own : ownKnob Try.prog.godebug = none := by kernel_rfl
theorem laidOut : laidOutB Try.prog = true := by kernel_rfl

/-! ### THE ROW's STEP -/
set_option maxRecDepth 100000 in
theorem lifted (os : Os) (started : os.Started) (H : Type) (enc : TypeId × Value → H) :
    ReturnsInHanded {} Try.checked os 7 .any (Rows.fnForTwoSpec.pre6 enc Try.prog Try.f7 Rows.fnForTwoRow.domain false) (Rows.fnForTwoSpec.post enc Try.prog Try.f7 false true false false) := by
  refine returnsInHanded_of_change (C := Try.checked) own started (by kernel_rfl) Try.func7
    (ChangeSpec.witness6 (enc := enc) (C := Try.checked) false ⟨#[], #[.slice none 0 0], []⟩ 8 (by kernel_rfl) (by kernel_rfl) (by kernel_rfl) (by kernel_rfl)) ?_
  intro W base args ds gs before hval0 hW hcnd _
  have hval : ∀ (j : Nat) t v, Try.f7.params[j]? = some t → args[j]? = some v → Value.okWide Try.prog W .any base t v := hval0
  have hW' := hW
  obtain ⟨p, q, hA0, hV, rfl, hfz, hnd⟩ := hW
  have hA : DataW.TrodAll enc Try.prog W 0 (fun _ => true) true Try.f7.params.toList args.toList ds p := hA0
  rw [Try.params7] at hA hval
  obtain ⟨v0, vs0, d0, ds0, p0, q0, hargs, rfl, rfl, h0, r0⟩ := trodAll_cons hA
  obtain ⟨rfl, rfl, rfl⟩ := trodAll_nil r0
  obtain rfl : args = #[v0] := by cases args; simp_all
  obtain ⟨rfl, rfl⟩ := trodVars_none hV
  obtain ⟨a0, len0, cap0, rfl⟩ := okWide_slice Try.underlying22 (hval 0 22 v0 rfl rfl)
  have k0 := h0
  have lt0 : ∀ x ∈ p0, x.block < W.heap.size := by obtain ⟨m, hm⟩ := k0; exact DataW.trod_lt m _ _ _ hm
  obtain ⟨z0, w0⟩ : ∃ zs, Dr.IsRow .u8 W a0 len0 cap0 zs := by
    obtain ⟨fuel, hf⟩ := h0
    rcases open_ints Try.underlying22 Try.underlying5 (by kernel_rfl) hf with ⟨hcs, _⟩ | ⟨x, l, c, zs, hcs, _, hl, hm, hz, _, hcell, hwz⟩
    · simp [Value.cells] at hcs
      obtain ⟨rfl, rfl, rfl⟩ := hcs
      exact ⟨[], .inl ⟨rfl, rfl, rfl, rfl⟩⟩
    · simp [Value.cells] at hcs
      obtain ⟨rfl, rfl, rfl⟩ := hcs
      exact ⟨zs, .inr ⟨_, rfl, hl, hm, by simpa using hz, hcell, hwz⟩⟩
  clear hA0 hval0
  refine (walk a0 len0 cap0 z0 W w0).mono fun e W' ⟨he, bel⟩ => ?_
  subst he
  exact ⟨_, rfl, _, _, _, [], _, [], hW', trodAll_mk1 (shut_bool Try.underlying4 _), (trodAll_cons_mk (Below.trod laidOut (by kernel_rfl) (of_decide_eq_true (by kernel_rfl)) k0 bel lt0) trodAll_mk0), rfl, bel.frame _, fun h => by cases h⟩

theorem over : Rows.fnForTwoRow.holds Try.pinned (OpenSpec.ofChange Rows.fnForTwoSpec) :=
  OpenClaim.holds_of_wide 7 Try.f7 rfl rfl rfl rfl rfl rfl rfl ⟨rfl, rfl, rfl, rfl, rfl⟩ rfl rfl rfl rfl rfl (by kernel_rfl) Try.func7 (by kernel_rfl)
    (of_decide_eq_true (by kernel_rfl)) (by unfold Func.isWrapper; first | (rw [if_pos (by decide +kernel)]; kernel_rfl) | (rw [if_neg (by decide +kernel)]; exact ⟨rfl, rfl⟩))
    (fun os started H enc _ => lifted os started H enc)

theorem proved : Rows.FnForTwoSaid := over
end Go.Proofs.Ytbecelblddemkaa.fnForTwo
