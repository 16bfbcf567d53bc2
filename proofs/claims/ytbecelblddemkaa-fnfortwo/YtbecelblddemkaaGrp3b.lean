/- What a notice says to a caller: the model's, whole. -/
import Derived.Test.YtbecelblddemkaaGrp3
namespace Go.Proofs.Ytbecelblddemkaa.Gf
open Go.RowKit Go.Proofs.Ytbecelblddemkaa.EscM Go.Proofs.Ytbecelblddemkaa.EscL Go.Proofs.Ytbecelblddemkaa.RuleM Go.Proofs.Ytbecelblddemkaa.St Go.Proofs.Ytbecelblddemkaa.RR Go.Proofs.Ytbecelblddemkaa.LetM Go.Proofs.Ytbecelblddemkaa.Nm Go.Proofs.Ytbecelblddemkaa.GrM Go.Proofs.Ytbecelblddemkaa.Dr

theorem FI.ofGr {w w1 : World} {g : Gr} {G : Nat} {s : ByteArray} (hgo : GrOwn w1 w.heap.size g) (hb : Below w.heap.size w w1) (hz : Bx 32 w1 w.heap.size #[.slice none 0 0, .slice none 0 0, .int .i64 0]) (hx : Bx 32 w1 G #[.slice g.na g.nm.length g.nc, .slice g.ra g.ru.length g.rc, .int .i64 g.wait]) (hwG : w.heap.size < G) :
    FI w G (w.heap.size + 1) w1.heap.size [] none 0 s ((w1.alloc (.cells #[.string s] 9)).setCell ⟨G, 0, none⟩ (.slice (some ⟨w1.heap.size, 0, none⟩) 1 1)) g.ru g.ra g.rc g.wait := by
  have hx1 := hx.alloc (.cells #[.string s] 9)
  have hs : (w1.alloc (.cells #[.string s] 9)).grownBy ((w1.alloc (.cells #[.string s] 9)).setCell ⟨G, 0, none⟩ (.slice (some ⟨w1.heap.size, 0, none⟩) 1 1)) (some G) := grown_set 0 _
  have hz1 := hz.alloc (.cells #[.string s] 9)
  have hb1 := hb.alloc hb.size (.cells #[.string s] 9)
  refine ⟨⟨hx1.set 0 _, own_type (hgo.2.keep (alloc_keep _ _)) hx1 (by decide) hs, own_type (Owns.lit1 w1 w.heap.size s hb.size) hx1 (by decide) hs⟩, ⟨OwnsR.nil _ _ _ _, fun b hb => by simp [Value.ownBlock] at hb⟩, ⟨by omega, by omega, by omega⟩, ?_, hz1.grown hs (by intro e; have := Option.some.inj e; omega)⟩
  exact hb1.trans (grown_any _ hs hb1.size (fun k hk => by have := Option.some.inj hk; omega))

theorem fin2 {w w1 w4 : World} {g : Gr} {s : ByteArray} (hgo : GrOwn w1 w.heap.size g) (hb : Below w.heap.size w w1) (hz : Bx 32 w1 w.heap.size #[.slice none 0 0, .slice none 0 0, .int .i64 0])
    (e : w4 = (((((w1.setCell ⟨w.heap.size, 0, none⟩ (.slice (some ⟨w1.heap.size + 1, 0, none⟩) 1 1)).setCell ⟨w.heap.size, 1, none⟩ (.slice g.ra g.ru.length g.rc)).setCell ⟨w.heap.size, 2, none⟩ (.int .i64 g.wait)).alloc (.cells #[.slice (some ⟨w1.heap.size + 1, 0, none⟩) 1 1, .slice g.ra g.ru.length g.rc, .int .i64 g.wait] 32)).alloc (.cells #[.string s] 9))) :
    GrOwn w4 w.heap.size ⟨[s], some ⟨w1.heap.size + 1, 0, none⟩, 1, g.ru, g.ra, g.rc, g.wait⟩ ∧ Below w.heap.size w w4 ∧ Bx 32 w4 w.heap.size #[.slice (some ⟨w1.heap.size + 1, 0, none⟩) 1 1, .slice g.ra g.ru.length g.rc, .int .i64 g.wait] := by
  have hlt : w.heap.size < w1.heap.size := hz.lt
  have b3 := ((hz.set 0 (.slice (some ⟨w1.heap.size + 1, 0, none⟩) 1 1)).set 1 (.slice g.ra g.ru.length g.rc)).set 2 (.int .i64 g.wait)
  have g3 : w1.grownBy (((w1.setCell ⟨w.heap.size, 0, none⟩ (.slice (some ⟨w1.heap.size + 1, 0, none⟩) 1 1)).setCell ⟨w.heap.size, 1, none⟩ (.slice g.ra g.ru.length g.rc)).setCell ⟨w.heap.size, 2, none⟩ (.int .i64 g.wait)) (some w.heap.size) := grown_trans (grown_trans (grown_set 0 _) (grown_set 1 _)) (grown_set 2 _)
  have hr := own_type hgo.2 hz (by decide) g3
  have hbx := hb.trans (grown_any _ g3 hb.size (fun k hk => by have := Option.some.inj hk; omega))
  have hsz : (((w1.setCell ⟨w.heap.size, 0, none⟩ (.slice (some ⟨w1.heap.size + 1, 0, none⟩) 1 1)).setCell ⟨w.heap.size, 1, none⟩ (.slice g.ra g.ru.length g.rc)).setCell ⟨w.heap.size, 2, none⟩ (.int .i64 g.wait)).heap.size = w1.heap.size := by simp [World.setCell]
  generalize (((w1.setCell ⟨w.heap.size, 0, none⟩ (.slice (some ⟨w1.heap.size + 1, 0, none⟩) 1 1)).setCell ⟨w.heap.size, 1, none⟩ (.slice g.ra g.ru.length g.rc)).setCell ⟨w.heap.size, 2, none⟩ (.int .i64 g.wait)) = w6 at *
  have hs : (w6.alloc (.cells #[.slice (some ⟨w1.heap.size + 1, 0, none⟩) 1 1, .slice g.ra g.ru.length g.rc, .int .i64 g.wait] 32)).heap.size = w1.heap.size + 1 := by simp [hsz]
  have o1 := Owns.lit1 (w6.alloc (.cells #[.slice (some ⟨w1.heap.size + 1, 0, none⟩) 1 1, .slice g.ra g.ru.length g.rc, .int .i64 g.wait] 32)) w.heap.size s (by simp; omega)
  rw [hs] at o1
  subst e
  exact ⟨⟨o1, (OwnsR.keep (F := FRu) hr (alloc_keep _ _)).keep (alloc_keep _ _)⟩, (hbx.alloc hbx.size _).alloc (by simp; omega) _, (b3.alloc _).alloc _⟩

set_option maxRecDepth 100000 in
set_option maxHeartbeats 6400000 in
theorem specFor_any (a0 : Option Addr) (cap : Nat) (L : List Gr) (s : ByteArray) (w : World) (hI : IsRows FGr w a0 cap L) (hG : GrsAt w L) (hS : ∀ g ∈ L, GrSz g) (hl : L.length ≤ 1000) (hN : ∀ g ∈ L, 0 ≤ g.wait ∧ g.wait ≤ 1000000) (hR : ∀ g ∈ L, g.ru.length ≤ 1000) :
    Calls Try.prog 14 #[.slice a0 L.length cap, .string s] w fun e w' => Said w w' L s e := by
  have HI : Hid (IsRows FGr w a0 cap L) := hI
  have HG : Hid (GrsAt w L) := hG
  have HS : Hid (∀ g ∈ L, GrSz g) := hS
  have HN : Hid _ := hN
  have HR : Hid _ := hR
  clear hI hG hS hN hR
  go_enter Try.func14, Try.ntmps14
  go_wp2_with fail
  refine (specOf_any a0 cap L s _ (HI.out.keep (alloc_keep _ _)) (HG.out.keep (alloc_keep _ _)) HS.out hl HN.out HR.out).mono ?_
  rintro e w1 ⟨g, rfl, hg1, hg2, hg3, hgo, hb1⟩
  have HGO : Hid (GrOwn (w1.alloc (.cells #[.slice g.na g.nm.length g.nc, .slice g.ra g.ru.length g.rc, .int .i64 g.wait] 32)) w.heap.size g) := (hgo.mono (by simp)).keep (alloc_keep _ _)
  have hb1' : Below w.heap.size w w1 := Below.trans ((Below.refl _ w).alloc (Nat.le_refl _) _) (hb1.mono (by simp))
  have HB1 : Hid (Below w.heap.size w (w1.alloc (.cells #[.slice g.na g.nm.length g.nc, .slice g.ra g.ru.length g.rc, .int .i64 g.wait] 32))) := hb1'.alloc hb1'.size _
  have HZ1 : Hid (Bx 32 (w1.alloc (.cells #[.slice g.na g.nm.length g.nc, .slice g.ra g.ru.length g.rc, .int .i64 g.wait] 32)) w.heap.size #[.slice none 0 0, .slice none 0 0, .int .i64 0]) := ((Bx.new 32 w _).keep (fun k hk => hb1.block k hk)).alloc _
  have HX1 : Hid (Bx 32 (w1.alloc (.cells #[.slice g.na g.nm.length g.nc, .slice g.ra g.ru.length g.rc, .int .i64 g.wait] 32)) w1.heap.size #[.slice g.na g.nm.length g.nc, .slice g.ra g.ru.length g.rc, .int .i64 g.wait]) := Bx.new _ _ _
  have hwG : w.heap.size < w1.heap.size := by have := hb1.size; simp at this; omega
  have HZ0 : Hid (Bx 32 w1 w.heap.size #[.slice none 0 0, .slice none 0 0, .int .i64 0]) := (Bx.new 32 w _).keep (fun k hk => hb1.block k hk)
  have HGO0 : Hid (GrOwn w1 w.heap.size g) := hgo.mono (by simp)
  have HB0 : Hid (Below w.heap.size w w1) := hb1'
  have HG2 : Hid (g.ru = rulesL (withL L s)) := hg2
  have HG3 : Hid (g.wait = waitL (withL L s)) := hg3
  clear hgo hb1 hb1' hg1 hg2 hg3
  by_cases h0 : withL L s = []
  · have HT : Hid (toldL L s = withL L star) := by show _ = _; unfold toldL; rw [if_pos h0]
    have h0' : decide (withL L s ≠ []) = false := by simp [h0]
    rw [h0']
    clear h0 h0'
    go_wp2_with fail
    refine (specOf_any a0 cap L star _ (HI.out.below HB1.out) (HG.out.below HB1.out) HS.out hl HN.out HR.out).mono ?_
    rintro e w2 ⟨g', rfl, hg1, hg2, hg3, hgo, hb2⟩
    have HB2 : Hid (Below w.heap.size w w2) := HB1.out.trans (hb2.mono HB1.out.size)
    have HZ2 : Hid (Bx 32 w2 w.heap.size #[.slice none 0 0, .slice none 0 0, .int .i64 0]) := HZ1.out.keep (fun k hk => hb2.block k hk)
    have HX2 : Hid (Bx 32 w2 w1.heap.size #[.slice g.na g.nm.length g.nc, .slice g.ra g.ru.length g.rc, .int .i64 g.wait]) := HX1.out.keep (fun k hk => hb2.block k hk)
    have HGO2 : Hid (GrOwn w2 w.heap.size g') := hgo.mono HB1.out.size
    have HG4 : Hid (g'.ru = rulesL (withL L star)) := hg2
    have HG5 : Hid (g'.wait = waitL (withL L star)) := hg3
    obtain ⟨G, hG⟩ : ∃ G, w1.heap.size = G := ⟨_, rfl⟩
    rw [hG] at HX2 hwG
    clear hgo hb2 hg1 hg2 hg3 HGO HB1 HZ1 HX1
    have hx2 := HX2.out
    have hz2 := HZ2.out
    have x0 : w2.cell? ⟨G, 0, none⟩ = some (.slice g.na g.nm.length g.nc) := hx2.cell 0 rfl
    have x1 : w2.cell? ⟨G, 1, none⟩ = some (.slice g.ra g.ru.length g.rc) := hx2.cell 1 rfl
    have x2 : w2.cell? ⟨G, 2, none⟩ = some (.int .i64 g.wait) := hx2.cell 2 rfl
    have xf : ∀ j, w2.frozen? ⟨G, j, none⟩ = false := hx2.free
    have z0 : w2.cell? ⟨w.heap.size, 0, none⟩ = some (.slice none 0 0) := hz2.cell 0 rfl
    have z1 : w2.cell? ⟨w.heap.size, 1, none⟩ = some (.slice none 0 0) := hz2.cell 1 rfl
    have z2 : w2.cell? ⟨w.heap.size, 2, none⟩ = some (.int .i64 0) := hz2.cell 2 rfl
    have zf : ∀ j, w2.frozen? ⟨w.heap.size, j, none⟩ = false := hz2.free
    have hg3s : w2.grownBy (((w2.setCell ⟨G, 0, none⟩ (.slice g'.na g'.nm.length g'.nc)).setCell ⟨G, 1, none⟩ (.slice g'.ra g'.ru.length g'.rc)).setCell ⟨G, 2, none⟩ (.int .i64 g'.wait)) (some G) := grown_trans (grown_trans (grown_set 0 _) (grown_set 1 _)) (grown_set 2 _)
    have hx3 : Bx 32 (((w2.setCell ⟨G, 0, none⟩ (.slice g'.na g'.nm.length g'.nc)).setCell ⟨G, 1, none⟩ (.slice g'.ra g'.ru.length g'.rc)).setCell ⟨G, 2, none⟩ (.int .i64 g'.wait)) G #[.slice g'.na g'.nm.length g'.nc, .slice g'.ra g'.ru.length g'.rc, .int .i64 g'.wait] := ((hx2.set 0 _).set 1 _).set 2 _
    have hz3 : Bx 32 (((w2.setCell ⟨G, 0, none⟩ (.slice g'.na g'.nm.length g'.nc)).setCell ⟨G, 1, none⟩ (.slice g'.ra g'.ru.length g'.rc)).setCell ⟨G, 2, none⟩ (.int .i64 g'.wait)) w.heap.size #[.slice none 0 0, .slice none 0 0, .int .i64 0] := hz2.grown hg3s (by intro e; have := Option.some.inj e; omega)
    have hgo3 : GrOwn (((w2.setCell ⟨G, 0, none⟩ (.slice g'.na g'.nm.length g'.nc)).setCell ⟨G, 1, none⟩ (.slice g'.ra g'.ru.length g'.rc)).setCell ⟨G, 2, none⟩ (.int .i64 g'.wait)) w.heap.size g' := ⟨own_type HGO2.out.1 hx2 (by decide) hg3s, own_type HGO2.out.2 hx2 (by decide) hg3s⟩
    have hb3 : Below w.heap.size w (((w2.setCell ⟨G, 0, none⟩ (.slice g'.na g'.nm.length g'.nc)).setCell ⟨G, 1, none⟩ (.slice g'.ra g'.ru.length g'.rc)).setCell ⟨G, 2, none⟩ (.int .i64 g'.wait)) := HB2.out.trans (grown_any _ hg3s HB2.out.size (fun k hk => by have := Option.some.inj hk; omega))
    have hsz : (((w2.setCell ⟨G, 0, none⟩ (.slice g'.na g'.nm.length g'.nc)).setCell ⟨G, 1, none⟩ (.slice g'.ra g'.ru.length g'.rc)).setCell ⟨G, 2, none⟩ (.int .i64 g'.wait)).heap.size = w2.heap.size := by simp [World.setCell]
    have hfi := FI.ofGr (s := s) hgo3 hb3 hz3 hx3 hwG
    rw [hsz] at hfi
    have HFI : Hid (FI w G (w.heap.size + 1) w2.heap.size [] none 0 s (((((w2.setCell ⟨G, 0, none⟩ (.slice g'.na g'.nm.length g'.nc)).setCell ⟨G, 1, none⟩ (.slice g'.ra g'.ru.length g'.rc)).setCell ⟨G, 2, none⟩ (.int .i64 g'.wait)).alloc (.cells #[.string s] 9)).setCell ⟨G, 0, none⟩ (.slice (some ⟨w2.heap.size, 0, none⟩) 1 1)) g'.ru g'.ra g'.rc g'.wait) := hfi
    have y0 : ((((w2.setCell ⟨G, 0, none⟩ (.slice g'.na g'.nm.length g'.nc)).setCell ⟨G, 1, none⟩ (.slice g'.ra g'.ru.length g'.rc)).setCell ⟨G, 2, none⟩ (.int .i64 g'.wait)).alloc (.cells #[.string s] 9)).cell? ⟨G, 0, none⟩ = some (.slice g'.na g'.nm.length g'.nc) := (hx3.alloc _).cell 0 rfl
    have yf : ∀ j, ((((w2.setCell ⟨G, 0, none⟩ (.slice g'.na g'.nm.length g'.nc)).setCell ⟨G, 1, none⟩ (.slice g'.ra g'.ru.length g'.rc)).setCell ⟨G, 2, none⟩ (.int .i64 g'.wait)).alloc (.cells #[.string s] 9)).frozen? ⟨G, j, none⟩ = false := (hx3.alloc _).free
    have v0 : (((((w2.setCell ⟨G, 0, none⟩ (.slice g'.na g'.nm.length g'.nc)).setCell ⟨G, 1, none⟩ (.slice g'.ra g'.ru.length g'.rc)).setCell ⟨G, 2, none⟩ (.int .i64 g'.wait)).alloc (.cells #[.string s] 9)).setCell ⟨G, 0, none⟩ (.slice (some ⟨w2.heap.size, 0, none⟩) 1 1)).cell? ⟨G, 0, none⟩ = some (.slice (some ⟨w2.heap.size, 0, none⟩) 1 1) := hfi.1.1.cell 0 rfl
    have v1 : (((((w2.setCell ⟨G, 0, none⟩ (.slice g'.na g'.nm.length g'.nc)).setCell ⟨G, 1, none⟩ (.slice g'.ra g'.ru.length g'.rc)).setCell ⟨G, 2, none⟩ (.int .i64 g'.wait)).alloc (.cells #[.string s] 9)).setCell ⟨G, 0, none⟩ (.slice (some ⟨w2.heap.size, 0, none⟩) 1 1)).cell? ⟨G, 1, none⟩ = some (.slice g'.ra g'.ru.length g'.rc) := hfi.1.1.cell 1 rfl
    have v2 : (((((w2.setCell ⟨G, 0, none⟩ (.slice g'.na g'.nm.length g'.nc)).setCell ⟨G, 1, none⟩ (.slice g'.ra g'.ru.length g'.rc)).setCell ⟨G, 2, none⟩ (.int .i64 g'.wait)).alloc (.cells #[.string s] 9)).setCell ⟨G, 0, none⟩ (.slice (some ⟨w2.heap.size, 0, none⟩) 1 1)).cell? ⟨G, 2, none⟩ = some (.int .i64 g'.wait) := hfi.1.1.cell 2 rfl
    have u0 : (((((w2.setCell ⟨G, 0, none⟩ (.slice g'.na g'.nm.length g'.nc)).setCell ⟨G, 1, none⟩ (.slice g'.ra g'.ru.length g'.rc)).setCell ⟨G, 2, none⟩ (.int .i64 g'.wait)).alloc (.cells #[.string s] 9)).setCell ⟨G, 0, none⟩ (.slice (some ⟨w2.heap.size, 0, none⟩) 1 1)).cell? ⟨w.heap.size, 0, none⟩ = some (.slice none 0 0) := hfi.2.2.2.2.cell 0 rfl
    have u1 : (((((w2.setCell ⟨G, 0, none⟩ (.slice g'.na g'.nm.length g'.nc)).setCell ⟨G, 1, none⟩ (.slice g'.ra g'.ru.length g'.rc)).setCell ⟨G, 2, none⟩ (.int .i64 g'.wait)).alloc (.cells #[.string s] 9)).setCell ⟨G, 0, none⟩ (.slice (some ⟨w2.heap.size, 0, none⟩) 1 1)).cell? ⟨w.heap.size, 1, none⟩ = some (.slice none 0 0) := hfi.2.2.2.2.cell 1 rfl
    have u2 : (((((w2.setCell ⟨G, 0, none⟩ (.slice g'.na g'.nm.length g'.nc)).setCell ⟨G, 1, none⟩ (.slice g'.ra g'.ru.length g'.rc)).setCell ⟨G, 2, none⟩ (.int .i64 g'.wait)).alloc (.cells #[.string s] 9)).setCell ⟨G, 0, none⟩ (.slice (some ⟨w2.heap.size, 0, none⟩) 1 1)).cell? ⟨w.heap.size, 2, none⟩ = some (.int .i64 0) := hfi.2.2.2.2.cell 2 rfl
    have uf : ∀ j, (((((w2.setCell ⟨G, 0, none⟩ (.slice g'.na g'.nm.length g'.nc)).setCell ⟨G, 1, none⟩ (.slice g'.ra g'.ru.length g'.rc)).setCell ⟨G, 2, none⟩ (.int .i64 g'.wait)).alloc (.cells #[.string s] 9)).setCell ⟨G, 0, none⟩ (.slice (some ⟨w2.heap.size, 0, none⟩) 1 1)).frozen? ⟨w.heap.size, j, none⟩ = false := hfi.2.2.2.2.free
    clear hx2 hz2 hg3s hx3 hz3 hgo3 hb3 hsz hfi
    rw [hG]
    clear hG
    generalize decide (withL L star ≠ []) = okk at *
    go_wp2
    generalize hw5 : (((((w2.setCell ⟨G, 0, none⟩ (.slice g'.na g'.nm.length g'.nc)).setCell ⟨G, 1, none⟩ (.slice g'.ra g'.ru.length g'.rc)).setCell ⟨G, 2, none⟩ (.int .i64 g'.wait)).alloc (.cells #[.string s] 9)).setCell ⟨G, 0, none⟩ (.slice (some ⟨w2.heap.size, 0, none⟩) 1 1)) = w5 at *
    obtain ⟨w4, hw4⟩ : ∃ w4, w4 = ((w5.setCell ⟨w.heap.size, 0, none⟩ (.slice (some ⟨w2.heap.size, 0, none⟩) 1 1)).setCell ⟨w.heap.size, 1, none⟩ (.slice g'.ra g'.ru.length g'.rc)).setCell ⟨w.heap.size, 2, none⟩ (.int .i64 g'.wait) := ⟨_, rfl⟩
    rw [← hw4]
    obtain ⟨ho1, ho2, ho3⟩ := HFI.out.out hw4
    have r0 := ho3.cell 0 rfl
    have r1 := ho3.cell 1 rfl
    have r2 := ho3.cell 2 rfl
    clear hw4 ho3
    refine bodyPost_ret (v := .agg #[.slice (some ⟨w2.heap.size, 0, none⟩) 1 1, .slice g'.ra g'.ru.length g'.rc, .int .i64 g'.wait]) (by simp [results, Try.results14, go_sem, r0, r1, r2]) rfl ?_
    exact ⟨⟨[s], some ⟨w2.heap.size, 0, none⟩, 1, g'.ru, g'.ra, g'.rc, g'.wait⟩, rfl, rfl, by rw [HT.out, HG4.out], by rw [HT.out, HG5.out], ho1, ho2⟩
  · have HT : Hid (toldL L s = withL L s) := by show _ = _; unfold toldL; rw [if_neg h0]
    have h0' : decide (withL L s ≠ []) = true := by simp [h0]
    rw [h0']
    clear h0 h0'
    have hz1 := HZ0.out
    have z0 : w1.cell? ⟨w.heap.size, 0, none⟩ = some (.slice none 0 0) := hz1.cell 0 rfl
    have z1 : w1.cell? ⟨w.heap.size, 1, none⟩ = some (.slice none 0 0) := hz1.cell 1 rfl
    have z2 : w1.cell? ⟨w.heap.size, 2, none⟩ = some (.int .i64 0) := hz1.cell 2 rfl
    have zf : ∀ j, w1.frozen? ⟨w.heap.size, j, none⟩ = false := hz1.free
    clear hz1
    go_wp2
    obtain ⟨w4, hw4⟩ : ∃ w4, w4 = (((((w1.setCell ⟨w.heap.size, 0, none⟩ (.slice (some ⟨w1.heap.size + 1, 0, none⟩) 1 1)).setCell ⟨w.heap.size, 1, none⟩ (.slice g.ra g.ru.length g.rc)).setCell ⟨w.heap.size, 2, none⟩ (.int .i64 g.wait)).alloc (.cells #[.slice (some ⟨w1.heap.size + 1, 0, none⟩) 1 1, .slice g.ra g.ru.length g.rc, .int .i64 g.wait] 32)).alloc (.cells #[.string s] 9)) := ⟨_, rfl⟩
    rw [← hw4]
    obtain ⟨ho1, ho2, ho3⟩ := fin2 HGO0.out HB0.out HZ0.out hw4
    have r0 := ho3.cell 0 rfl
    have r1 := ho3.cell 1 rfl
    have r2 := ho3.cell 2 rfl
    clear hw4 ho3
    refine bodyPost_ret (v := .agg #[.slice (some ⟨w1.heap.size + 1, 0, none⟩) 1 1, .slice g.ra g.ru.length g.rc, .int .i64 g.wait]) (by simp [results, Try.results14, go_sem, r0, r1, r2]) rfl ?_
    exact ⟨⟨[s], some ⟨w1.heap.size + 1, 0, none⟩, 1, g.ru, g.ra, g.rc, g.wait⟩, rfl, rfl, by rw [HT.out, HG2.out], by rw [HT.out, HG3.out], ho1, ho2⟩
end Go.Proofs.Ytbecelblddemkaa.Gf
