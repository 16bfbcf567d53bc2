/- FnForNone: for every code, of the notice and the name drawn of it, nothing is said by none, and a group of another name ahead changes nothing. No condition. -/
import Derived.Test.YtlihlaeimafgdaaRows
import Derived.WalkKit
import Derived.ProofKit
import Derived.OpenShut
import Derived.ShutString
import Derived.ChangeOld
import Derived.Below
import Derived.Test.YtlihlaeimafgdaaGrpLaws
namespace Go.Proofs.Ytlihlaeimafgdaa.fnForNone
open Go.ChangeShapes Go.WideShapes Go.ChangeAt Go.RowKit
open Go.ChangeMaps (open_string shut_string)
set_option linter.unusedVariables false
open Go.Proofs.Ytlihlaeimafgdaa.St Go.Proofs.Ytlihlaeimafgdaa.RR Go.Proofs.Ytlihlaeimafgdaa.LetM Go.Proofs.Ytlihlaeimafgdaa.Nm Go.Proofs.Ytlihlaeimafgdaa.GrM Go.Proofs.Ytlihlaeimafgdaa.Gf

set_option maxRecDepth 100000 in
set_option maxHeartbeats 6400000 in
theorem walk (a0 : Option Addr) (len0 cap0 : Nat) (z0 : List Int) (w : World) (w0 : Dr.IsRow .u8 w a0 len0 cap0 z0) :
    Calls Try.prog 6 #[.slice a0 len0 cap0] w fun e w' => e = .returned (.bool true) ∧ Below w.heap.size w w' := by
  by_cases hlong : (1048576 : Int) < len0
  · go_enter Try.func6, Try.ntmps6
    go_wp2
    go_ret
    exact ⟨rfl, Below.refl _ _⟩
  go_enter Try.func6, Try.ntmps6
  go_wp2_with fail
  refine (Dr.drawFor_any a0 len0 cap0 z0 w w0).mono ?_
  rintro e w1 ⟨L, a1, c1, s, rfl, hI, hG, hl, hL, hs1, hs2, hb1⟩
  have HI1 : Hid (IsRows FGr w1 a1 c1 L) := hI
  have HG1 : Hid (GrsAt w1 L) := hG
  have HL : Hid (∀ g ∈ L, Dr.GrBd g) := hL
  have HS : Hid (∀ g ∈ L, GrSz g) := fun g hg => (hL g hg).sz
  have HN : Hid (∀ g ∈ L, 0 ≤ g.wait ∧ g.wait ≤ 1000000) := fun g hg => by obtain ⟨_, _, _, _, h5, h6⟩ := hL g hg; exact ⟨h5, by omega⟩
  have HR : Hid (∀ g ∈ L, g.ru.length ≤ 1000) := fun g hg => by obtain ⟨_, _, h3, _⟩ := hL g hg; omega
  have HNm : Hid (s ≠ ⟨#[122, 122, 122]⟩) := hs2
  have HNm1 : Hid (nameB s = true) := hs1
  have HB1 : Hid (Below w.heap.size w w1) := hb1
  have hl1 : L.length ≤ 1000 := by omega
  have hss : s.size ≤ 8 := by unfold nameB at hs1; simp at hs1; omega
  have HRT : Hid ((rulesL (toldL L s)).length ≤ 4000) := by
    have h1 := rules_le (toldL L s) 1000 (fun g hg => HR.out g (told_mem hg))
    have h2 := told_len (L := L) (s := s)
    show _ ≤ _
    omega
  clear hI hG hL hb1 hs1 hs2 w0
  go_wp2_with fail
  refine (implFor_any a1 c1 L s _ HI1.out HG1.out HS.out hl1 HN.out HR.out).mono ?_
  rintro e w2 ⟨g, rfl, hg1, hg2, hg3, hgo, hb2⟩
  have HGg : Hid (Dr.GrOwn w2 w1.heap.size g) := hgo
  have HB2 : Hid (Below w.heap.size w w2) := HB1.out.trans (hb2.mono HB1.out.size)
  have HI2 : Hid (IsRows FGr w2 a1 c1 L) := HI1.out.below hb2
  have HG2 : Hid (GrsAt w2 L) := HG1.out.below hb2
  have Hg1 : Hid (g.nm = [s]) := hg1
  have Hg2 : Hid (g.ru = rulesL (toldL L s)) := hg2
  have Hg3 : Hid (g.wait = waitL (toldL L s)) := hg3
  clear hgo hb2 hg1 hg2 hg3
  have HIb0 : Hid (IsRows FGr (w2.alloc (.cells #[.slice g.na g.nm.length g.nc, .slice g.ra g.ru.length g.rc, .int .i64 g.wait] 32)) a1 c1 L) := HI2.out.keep (alloc_keep _ _)
  have HGb0 : Hid (GrsAt (w2.alloc (.cells #[.slice g.na g.nm.length g.nc, .slice g.ra g.ru.length g.rc, .int .i64 g.wait] 32)) L) := HG2.out.keep (alloc_keep _ _)
  have HBb0 : Hid (Below w.heap.size w (w2.alloc (.cells #[.slice g.na g.nm.length g.nc, .slice g.ra g.ru.length g.rc, .int .i64 g.wait] 32))) := HB2.out.alloc HB2.out.size _
  have HXb0 : Hid (Dr.Bx 32 (w2.alloc (.cells #[.slice g.na g.nm.length g.nc, .slice g.ra g.ru.length g.rc, .int .i64 g.wait] 32)) w2.heap.size #[.slice g.na g.nm.length g.nc, .slice g.ra g.ru.length g.rc, .int .i64 g.wait]) := Dr.Bx.new _ _ _
  have HOb0 : Hid (Dr.GrOwn (w2.alloc (.cells #[.slice g.na g.nm.length g.nc, .slice g.ra g.ru.length g.rc, .int .i64 g.wait] 32)) w1.heap.size g) := HGg.out.keep (alloc_keep _ _)
  go_wp2_with fail
  obtain ⟨G, hG⟩ : ∃ G, w2.heap.size = G := ⟨_, rfl⟩
  rw [hG] at HXb0 ⊢
  generalize w2.alloc (.cells #[.slice g.na g.nm.length g.nc, .slice g.ra g.ru.length g.rc, .int .i64 g.wait] 32) = wb at *
  have x0 : wb.drew.cell? ⟨G, 0, none⟩ = some (.slice g.na g.nm.length g.nc) := (HXb0.out.heapEq rfl : Dr.Bx _ wb.drew G _).cell 0 rfl
  have x1 : wb.drew.cell? ⟨G, 1, none⟩ = some (.slice g.ra g.ru.length g.rc) := (HXb0.out.heapEq rfl : Dr.Bx _ wb.drew G _).cell 1 rfl
  have x2 : wb.drew.cell? ⟨G, 2, none⟩ = some (.int .i64 g.wait) := (HXb0.out.heapEq rfl : Dr.Bx _ wb.drew G _).cell 2 rfl
  have HLg : Hid (g.nm.length ≤ 4194304 ∧ g.ru.length ≤ 4194304) := by
    show _ ∧ _
    rw [Hg1.out, Hg2.out]; exact ⟨by simp, by have := HRT.out; omega⟩
  clear hG HI2 HG2 HGg HB2
  go_region_with (first
    | (go_at_call 13
       refine (group_same g g' w3 HA3.out HA3'.out H31.out H32.out H33.out HLg.out.1 HLg.out.2).mono ?_
       rintro e w4 ⟨rfl, hb4⟩
       have HB4 : Hid (Below w.heap.size w w4) := HB3.out.trans (hb4.mono HB3.out.size)
       have HI4 : Hid (IsRows FGr w4 a1 c1 L) := HI3.out.below hb4
       have HG4 : Hid (GrsAt w4 L) := HG3.out.below hb4
       have HX4 : Hid (Dr.Bx 32 w4 G #[.slice g.na g.nm.length g.nc, .slice g.ra g.ru.length g.rc, .int .i64 g.wait]) := HX3.out.keep (fun k hk => hb4.block k hk)
       have HA4 : Hid (GrAt w4 g) := HA3.out.below hb4
       clear hb4)
    | (go_at_call 14
       refine (specFor_any a1 c1 L s wb.drew (HIb0.out.keep fun _ _ => rfl) (HGb0.out.keep fun _ _ => rfl) HS.out hl1 HN.out HR.out).mono ?_
       rintro e w3 ⟨g', rfl, hg1, hg2, hg3, hgo, hb3⟩
       have hbb : Below w.heap.size w wb.drew := below_drewN HBb0.out 1
       have HB3 : Hid (Below w.heap.size w w3) := hbb.trans (hb3.mono hbb.size)
       have HI3 : Hid (IsRows FGr w3 a1 c1 L) := HIb0.out.keep (fun k hk => hb3.block k hk)
       have HG3 : Hid (GrsAt w3 L) := HGb0.out.keep (fun k hk => hb3.block k hk)
       have HX3 : Hid (Dr.Bx 32 w3 G #[.slice g.na g.nm.length g.nc, .slice g.ra g.ru.length g.rc, .int .i64 g.wait]) := HXb0.out.keep (fun k hk => hb3.block k hk)
       have HA3 : Hid (GrAt w3 g) := HOb0.out.at.keep (fun k hk => hb3.block k hk)
       have HA3' : Hid (GrAt w3 g') := hgo.at
       have H31 : Hid (g.nm = g'.nm) := by show _ = _; rw [Hg1.out, hg1]
       have H32 : Hid (g.ru = g'.ru) := by show _ = _; rw [Hg2.out, hg2]
       have H33 : Hid (g.wait = g'.wait) := by show _ = _; rw [Hg3.out, hg3]
       have y0 : w3.cell? ⟨G, 0, none⟩ = some (.slice g.na g.nm.length g.nc) := HX3.out.cell 0 rfl
       have y1 : w3.cell? ⟨G, 1, none⟩ = some (.slice g.ra g.ru.length g.rc) := HX3.out.cell 1 rfl
       have y2 : w3.cell? ⟨G, 2, none⟩ = some (.int .i64 g.wait) := HX3.out.cell 2 rfl
       clear hg1 hg2 hg3 hgo hb3 hbb)
    | fail)
  all_goals clear x0 x1 x2 y0 y1 y2 HX3 HA3 HA3' HB3 HI3 HG3 HIb0 HGb0 HXb0 HOb0 HBb0
  all_goals (
    obtain ⟨i0, hi, hz0, hz1, hz2⟩ := Dr.info_group
    go_wp2_with fail
    refine (for_n none 0 _ [] s _ rfl (IsRows.nil _ _) (fun g hg => by cases hg) (fun g hg => by cases hg) (by simp) (fun g hg => by cases hg) (fun g hg => by cases hg)).mono ?_
    rintro e w5 ⟨n5, rfl, hn1, hn2, hn3, hno, hb5⟩
    rw [told_nil] at hn2 hn3
    have hnr : n5.ru.length = 0 := by rw [hn2]; rfl
    have hnw : n5.wait = 0 := by rw [hn3]; rfl
    rw [hnr, hnw]
    have HX5 : Hid (Dr.Bx 32 w5 G #[.slice g.na g.nm.length g.nc, .slice g.ra g.ru.length g.rc, .int .i64 g.wait]) := HX4.out.keep (fun k hk => hb5.block k hk)
    have HB5 : Hid (Below w.heap.size w w5) := HB4.out.trans (hb5.mono HB4.out.size)
    have HA5 : Hid (GrAt w5 g) := HA4.out.below hb5
    have HI5 : Hid (IsRows FGr w5 a1 c1 L) := HI4.out.below hb5
    have HG5 : Hid (GrsAt w5 L) := HG4.out.below hb5
    clear hn1 hn2 hn3 hno hb5 hnr hnw HX4 HB4 HA4 HI4 HG4
    obtain ⟨g0, hg0⟩ : ∃ g0 : Gr, g0 = ⟨[⟨#[122, 122, 122]⟩], some ⟨w5.heap.size + 1, 0, none⟩, 1, [], none, 0, 9⟩ := ⟨_, rfl⟩
    have hs5a : (w5.alloc (.cells #[.slice n5.na n5.nm.length n5.nc, .slice n5.ra 0 n5.rc, .int .i64 0] 32)).heap.size = w5.heap.size + 1 := by simp
    have hs5b : ((w5.alloc (.cells #[.slice n5.na n5.nm.length n5.nc, .slice n5.ra 0 n5.rc, .int .i64 0] 32)).alloc (.cells #[.string ⟨#[122, 122, 122]⟩] 9)).heap.size = w5.heap.size + 1 + 1 := by simp
    have HB5b : Hid (Below w5.heap.size w5 ((w5.alloc (.cells #[.slice n5.na n5.nm.length n5.nc, .slice n5.ra 0 n5.rc, .int .i64 0] 32)).alloc (.cells #[.string ⟨#[122, 122, 122]⟩] 9))) := ((Below.refl _ w5).alloc (Nat.le_refl _) _).alloc (by simp) _
    have HB5c : Hid (Below (w5.heap.size + 1 + 1) ((w5.alloc (.cells #[.slice n5.na n5.nm.length n5.nc, .slice n5.ra 0 n5.rc, .int .i64 0] 32)).alloc (.cells #[.string ⟨#[122, 122, 122]⟩] 9)) (((w5.alloc (.cells #[.slice n5.na n5.nm.length n5.nc, .slice n5.ra 0 n5.rc, .int .i64 0] 32)).alloc (.cells #[.string ⟨#[122, 122, 122]⟩] 9)).alloc (.cells #[.slice (some ⟨w5.heap.size + 1, 0, none⟩) 1 1, .slice none 0 0, .int .i64 9] 32))) := by rw [← hs5b]; exact (Below.refl _ _).alloc (Nat.le_refl _) _
    have HZO : Hid (OwnsR FGr 32 (((w5.alloc (.cells #[.slice n5.na n5.nm.length n5.nc, .slice n5.ra 0 n5.rc, .int .i64 0] 32)).alloc (.cells #[.string ⟨#[122, 122, 122]⟩] 9)).alloc (.cells #[.slice (some ⟨w5.heap.size + 1, 0, none⟩) 1 1, .slice none 0 0, .int .i64 9] 32)) (w5.heap.size + 1 + 1) (.slice (some ⟨w5.heap.size + 1 + 1, 0, none⟩) 1 1) [g0]) := by
      have h := own_group1 ((w5.alloc (.cells #[.slice n5.na n5.nm.length n5.nc, .slice n5.ra 0 n5.rc, .int .i64 0] 32)).alloc (.cells #[.string ⟨#[122, 122, 122]⟩] 9)) ((w5.alloc (.cells #[.slice n5.na n5.nm.length n5.nc, .slice n5.ra 0 n5.rc, .int .i64 0] 32)).alloc (.cells #[.string ⟨#[122, 122, 122]⟩] 9)).heap.size g0 (Nat.le_refl _)
      rw [hs5b] at h
      rw [hg0] at h ⊢
      exact h
    have HZA : Hid (GrAt ((w5.alloc (.cells #[.slice n5.na n5.nm.length n5.nc, .slice n5.ra 0 n5.rc, .int .i64 0] 32)).alloc (.cells #[.string ⟨#[122, 122, 122]⟩] 9)) g0) := by
      have h := Dr.Owns.lit1 (w5.alloc (.cells #[.slice n5.na n5.nm.length n5.nc, .slice n5.ra 0 n5.rc, .int .i64 0] 32)) w5.heap.size ⟨#[122, 122, 122]⟩ (by simp)
      rw [hs5a] at h
      rw [hg0]
      exact ⟨Owns.strsOf h, IsRows.nil _ _⟩
    have HNX : Hid (Dr.Bx 32 ((w5.alloc (.cells #[.slice n5.na n5.nm.length n5.nc, .slice n5.ra 0 n5.rc, .int .i64 0] 32)).alloc (.cells #[.string ⟨#[122, 122, 122]⟩] 9)) w5.heap.size #[.slice n5.na n5.nm.length n5.nc, .slice n5.ra 0 n5.rc, .int .i64 0]) := (Dr.Bx.new 32 w5 _).alloc _
    have HI5c : Hid (IsRows FGr (((w5.alloc (.cells #[.slice n5.na n5.nm.length n5.nc, .slice n5.ra 0 n5.rc, .int .i64 0] 32)).alloc (.cells #[.string ⟨#[122, 122, 122]⟩] 9)).alloc (.cells #[.slice (some ⟨w5.heap.size + 1, 0, none⟩) 1 1, .slice none 0 0, .int .i64 9] 32)) a1 c1 L) := (HI5.out.below HB5b.out).keep (alloc_keep _ _)
    have HZ1 : Hid (g0.nm = [⟨#[122, 122, 122]⟩] ∧ g0.wait = 9 ∧ g0.ru = []) := by rw [hg0]; exact ⟨rfl, rfl, rfl⟩
    have HSB : Hid (((w5.alloc (.cells #[.slice n5.na n5.nm.length n5.nc, .slice n5.ra 0 n5.rc, .int .i64 0] 32)).alloc (.cells #[.string ⟨#[122, 122, 122]⟩] 9)).heap.size = w5.heap.size + 1 + 1) := hs5b
    have hwc : w5.heap.size + 1 + 1 < (((w5.alloc (.cells #[.slice n5.na n5.nm.length n5.nc, .slice n5.ra 0 n5.rc, .int .i64 0] 32)).alloc (.cells #[.string ⟨#[122, 122, 122]⟩] 9)).alloc (.cells #[.slice (some ⟨w5.heap.size + 1, 0, none⟩) 1 1, .slice none 0 0, .int .i64 9] 32)).heap.size := by simp
    have hw5 : w.heap.size ≤ w5.heap.size := HB5.out.size
    clear hs5a hs5b hg0
    go_wp2_with (at_builtin
                 generalize (((w5.alloc (.cells #[.slice n5.na n5.nm.length n5.nc, .slice n5.ra 0 n5.rc, .int .i64 0] 32)).alloc (.cells #[.string ⟨#[122, 122, 122]⟩] 9)).alloc (.cells #[.slice (some ⟨w5.heap.size + 1, 0, none⟩) 1 1, .slice none 0 0, .int .i64 9] 32)) = wc at *
                 refine St.wpList_app rfl (.tmp 29) (.tmp 30) 23 rfl (w5.heap.size + 1 + 1) 32 i0 (.agg #[.slice none 0 0, .slice none 0 0, .int .i64 0]) 3 56 Try.underlying23 hi hz0 hz1 hz2 rfl (by decide) (.slice (some ⟨w5.heap.size + 1 + 1, 0, none⟩) 1 1) 1 (FGr.cells [g0]) rfl HZO.out a1 L.length c1 (FGr.cells L) rfl HI5c.out.none (FGr.cells_len L) (HI5c.out.newsAny (fun _ _ => rfl)) (FGr.cells_one L) (by unfold maxLen; omega) (by omega) (by omega) ?_)
    intro v6 w6 ho hg
    have hO6 : OwnsR FGr 32 w6 (w5.heap.size + 1 + 1) v6 ([g0] ++ L) := OwnsR.of_row (F := FGr) ho (by simp; omega) (by rw [FGr.cells_append])
    have hbw : Below (w5.heap.size + 1 + 1) wc w6 := Dr.grown_any _ hg (by omega) (OwnsR.block HZO.out)
    have hb56 : Below ((w5.alloc (.cells #[.slice n5.na n5.nm.length n5.nc, .slice n5.ra 0 n5.rc, .int .i64 0] 32)).alloc (.cells #[.string ⟨#[122, 122, 122]⟩] 9)).heap.size ((w5.alloc (.cells #[.slice n5.na n5.nm.length n5.nc, .slice n5.ra 0 n5.rc, .int .i64 0] 32)).alloc (.cells #[.string ⟨#[122, 122, 122]⟩] 9)) w6 := by rw [HSB.out]; exact HB5c.out.trans hbw
    have hb5 : Below w5.heap.size w5 w6 := HB5b.out.trans (hb56.mono (by rw [HSB.out]; omega))
    have HB6 : Hid (Below w.heap.size w w6) := HB5.out.trans (hb5.mono HB5.out.size)
    have HNX6 : Hid (Dr.Bx 32 w6 w5.heap.size #[.slice n5.na n5.nm.length n5.nc, .slice n5.ra 0 n5.rc, .int .i64 0]) := HNX.out.keep (fun k hk => hb56.block k hk)
    have HX6 : Hid (Dr.Bx 32 w6 G #[.slice g.na g.nm.length g.nc, .slice g.ra g.ru.length g.rc, .int .i64 g.wait]) := HX5.out.keep (fun k hk => hb5.block k hk)
    have HA6 : Hid (GrAt w6 g) := HA5.out.below hb5
    have HG6 : Hid (GrsAt w6 L) := HG5.out.below hb5
    have HZ6 : Hid (GrAt w6 g0) := HZA.out.below hb56
    obtain ⟨a6, c6, hv, hI6⟩ := hO6.rows
    subst hv
    have HI6 : Hid (IsRows FGr w6 a6 c6 ([g0] ++ L)) := hI6
    clear ho hg hO6 hbw hb56 hb5 hI6 HI5c HZO HZA HNX HB5b HB5c HSB HB5 HI5 HG5 HA5 HX5 hwc
    have hone : ∀ {P : Gr → Prop}, P g0 → (∀ x ∈ L, P x) → ∀ x ∈ [g0] ++ L, P x := fun h0 h1 => mem_two (fun x hx => by simp at hx; subst hx; exact h0) h1
    have HS0 : Hid (∀ x ∈ [g0] ++ L, GrSz x) := hone ⟨by rw [HZ1.out.1]; simp, by rw [HZ1.out.2.2]; simp, by rw [HZ1.out.1]; intro s hs; simp at hs; subst hs; decide, by rw [HZ1.out.2.2]; intro r hr; cases hr⟩ HS.out
    have HN0 : Hid (∀ x ∈ [g0] ++ L, 0 ≤ x.wait ∧ x.wait ≤ 1000000) := hone (by rw [HZ1.out.2.1]; exact ⟨by omega, by omega⟩) HN.out
    have HR0 : Hid (∀ x ∈ [g0] ++ L, x.ru.length ≤ 1000) := hone (by rw [HZ1.out.2.2]; simp) HR.out
    have HGx : Hid (GrsAt w6 ([g0] ++ L)) := hone HZ6.out HG6.out
    have HTL : Hid (toldL ([g0] ++ L) s = toldL L s) := told_cons HZ1.out.1 (fun e => HNm.out e.symm) (by decide)
    clear hone
    go_wp2_with fail
    refine (for_n a6 c6 _ ([g0] ++ L) s _ rfl HI6.out HGx.out HS0.out (by simp; omega) HN0.out HR0.out).mono ?_
    rintro e w7 ⟨x, rfl, hx1, hx2, hx3, hxo, hb7⟩
    rw [HTL.out] at hx2 hx3
    have HX7 : Hid (Dr.Bx 32 w7 G #[.slice g.na g.nm.length g.nc, .slice g.ra g.ru.length g.rc, .int .i64 g.wait]) := HX6.out.keep (fun k hk => hb7.block k hk)
    have HN7 : Hid (Dr.Bx 32 w7 w5.heap.size #[.slice n5.na n5.nm.length n5.nc, .slice n5.ra 0 n5.rc, .int .i64 0]) := HNX6.out.keep (fun k hk => hb7.block k hk)
    have HB7 : Hid (Below w.heap.size w w7) := HB6.out.trans (hb7.mono HB6.out.size)
    have HA7 : Hid (GrAt w7 g) := HA6.out.below hb7
    have HAx : Hid (GrAt w7 x) := hxo.at
    have HE1 : Hid (x.nm = g.nm) := by show _ = _; rw [hx1, Hg1.out]
    have HE2 : Hid (x.ru = g.ru) := by show _ = _; rw [hx2, Hg2.out]
    have HE3 : Hid (x.wait = g.wait) := by show _ = _; rw [hx3, Hg3.out]
    obtain ⟨N, hN⟩ : ∃ N, w5.heap.size = N := ⟨_, rfl⟩
    rw [hN] at HN7
    clear hx1 hx2 hx3 hxo hb7
    have hx7 := HX7.out
    have hn7 := HN7.out
    have q0 : w7.cell? ⟨G, 0, none⟩ = some (.slice g.na g.nm.length g.nc) := hx7.cell 0 rfl
    have q1 : w7.cell? ⟨G, 1, none⟩ = some (.slice g.ra g.ru.length g.rc) := hx7.cell 1 rfl
    have q2 : w7.cell? ⟨G, 2, none⟩ = some (.int .i64 g.wait) := hx7.cell 2 rfl
    have n1 : w7.cell? ⟨N, 1, none⟩ = some (.slice n5.ra 0 n5.rc) := hn7.cell 1 rfl
    have n2 : w7.cell? ⟨N, 2, none⟩ = some (.int .i64 0) := hn7.cell 2 rfl
    have hGw : G < w7.heap.size := hx7.lt
    have hNw : N < w7.heap.size := hn7.lt
    have HBx : Hid (Below w.heap.size w (w7.alloc (.cells #[.slice x.na x.nm.length x.nc, .slice x.ra x.ru.length x.rc, .int .i64 x.wait] 32))) := HB7.out.alloc HB7.out.size _
    have HAx8 : Hid (GrAt (w7.alloc (.cells #[.slice x.na x.nm.length x.nc, .slice x.ra x.ru.length x.rc, .int .i64 x.wait] 32)) x) := HAx.out.keep (alloc_keep _ _)
    have HAg8 : Hid (GrAt (w7.alloc (.cells #[.slice x.na x.nm.length x.nc, .slice x.ra x.ru.length x.rc, .int .i64 x.wait] 32)) g) := HA7.out.keep (alloc_keep _ _)
    clear hx7 hn7
    rw [hN]
    go_wp2_with fail
    refine (group_same x g _ HAx8.out HAg8.out HE1.out HE2.out HE3.out (by rw [HE1.out]; exact HLg.out.1) (by rw [HE2.out]; exact HLg.out.2)).mono ?_
    rintro e w8 ⟨rfl, hb8⟩
    have HB8 : Hid (Below w.heap.size w w8) := HBx.out.trans (hb8.mono HBx.out.size)
    clear hb8
    go_wp2
    go_ret
    exact ⟨rfl, HB8.out⟩)

theorem own : ownKnob Try.prog.godebug = none := by kernel_rfl
theorem laidOut : laidOutB Try.prog = true := by kernel_rfl

/-! ### THE ROW's STEP -/
set_option maxRecDepth 100000 in
theorem lifted (os : Os) (started : os.Started) (H : Type) (enc : TypeId × Value → H) :
    ReturnsInHanded {} Try.checked os 6 .any (Rows.fnForNoneSpec.pre6 enc Try.prog Try.f6 Rows.fnForNoneRow.domain false) (Rows.fnForNoneSpec.post enc Try.prog Try.f6 false true false false) := by
  refine returnsInHanded_of_change (C := Try.checked) own started (by kernel_rfl) Try.func6
    (ChangeSpec.witness6 (enc := enc) (C := Try.checked) false ⟨#[], #[.slice none 0 0], []⟩ 8 (by kernel_rfl) (by kernel_rfl) (by kernel_rfl) (by kernel_rfl)) ?_
  intro W base args ds gs before hval0 hW hcnd _
  have hval : ∀ (j : Nat) t v, Try.f6.params[j]? = some t → args[j]? = some v → Value.okWide Try.prog W .any base t v := hval0
  have hW' := hW
  obtain ⟨p, q, hA0, hV, rfl, hfz, hnd⟩ := hW
  have hA : DataW.TrodAll enc Try.prog W 0 (fun _ => true) true Try.f6.params.toList args.toList ds p := hA0
  rw [Try.params6] at hA hval
  obtain ⟨v0, vs0, d0, ds0, p0, q0, hargs, rfl, rfl, h0, r0⟩ := trodAll_cons hA
  obtain ⟨rfl, rfl, rfl⟩ := trodAll_nil r0
  obtain rfl : args = #[v0] := by cases args; simp_all
  obtain ⟨rfl, rfl⟩ := trodVars_none hV
  obtain ⟨a0, len0, cap0, rfl⟩ := okWide_slice Try.underlying22 (hval 0 22 v0 rfl rfl)
  have k0 := h0
  have lt0 : ∀ x ∈ p0, x.block < W.heap.size := by obtain ⟨m, hm⟩ := k0; exact DataW.trod_lt m _ _ _ hm
  obtain ⟨z0, w0⟩ : ∃ zs, Dr.IsRow .u8 W a0 len0 cap0 zs := by
    obtain ⟨fuel, hf⟩ := h0
    rcases open_ints Try.underlying22 Try.underlying5 (by kernel_rfl) hf with ⟨hcs, _⟩ | ⟨x, l, c, zs, hcs, _, hl, hm, hz, _, hcell, hwz⟩
    · simp [Value.cells] at hcs
      obtain ⟨rfl, rfl, rfl⟩ := hcs
      exact ⟨[], .inl ⟨rfl, rfl, rfl, rfl⟩⟩
    · simp [Value.cells] at hcs
      obtain ⟨rfl, rfl, rfl⟩ := hcs
      exact ⟨zs, .inr ⟨_, rfl, hl, hm, by simpa using hz, hcell, hwz⟩⟩
  clear hA0 hval0
  refine (walk a0 len0 cap0 z0 W w0).mono fun e W' ⟨he, bel⟩ => ?_
  subst he
  exact ⟨_, rfl, _, _, _, [], _, [], hW', trodAll_mk1 (shut_bool Try.underlying4 _), (trodAll_cons_mk (Below.trod laidOut (by kernel_rfl) (of_decide_eq_true (by kernel_rfl)) k0 bel lt0) trodAll_mk0), rfl, bel.frame _, fun h => by cases h⟩

theorem over : Rows.fnForNoneRow.holds Try.pinned (OpenSpec.ofChange Rows.fnForNoneSpec) :=
  OpenClaim.holds_of_wide 6 Try.f6 rfl rfl rfl rfl rfl rfl rfl ⟨rfl, rfl, rfl, rfl, rfl⟩ rfl rfl rfl rfl rfl (by kernel_rfl) Try.func6 (by kernel_rfl)
    (of_decide_eq_true (by kernel_rfl)) (by unfold Func.isWrapper; first | (rw [if_pos (by decide +kernel)]; kernel_rfl) | (rw [if_neg (by decide +kernel)]; exact ⟨rfl, rfl⟩))
    (fun os started H enc _ => lifted os started H enc)

theorem proved : Rows.FnForNoneSaid := over
end Go.Proofs.Ytlihlaeimafgdaa.fnForNone
