/- Several texts in one: Tn14, TrTp, Tn19, Ts3, Ts4. -/
import Derived.Test.YtiennniclkbjlaaGreatDoorTn16Pk
import Derived.Test.YtiennniclkbjlaaGreatDoorReStPk
/- Of the program: a trip is copied. -/
namespace Go.Proofs.YtiennniclkbjlaaGreatDoor.TrW
open Go.RowKit Go.Proofs.YtiennniclkbjlaaGreatDoor.MkA Go.Proofs.YtiennniclkbjlaaGreatDoor.EscM Go.Proofs.YtiennniclkbjlaaGreatDoor.AddrM Go.Proofs.YtiennniclkbjlaaGreatDoor.ReadM Go.Proofs.YtiennniclkbjlaaGreatDoor.RuleM Go.Proofs.YtiennniclkbjlaaGreatDoor.St Go.Proofs.YtiennniclkbjlaaGreatDoor.RR Go.Proofs.YtiennniclkbjlaaGreatDoor.LetM Go.Proofs.YtiennniclkbjlaaGreatDoor.GrM Go.Proofs.YtiennniclkbjlaaGreatDoor.RoIt Go.Proofs.YtiennniclkbjlaaGreatDoor.RoLk Go.Proofs.YtiennniclkbjlaaGreatDoor.RoQ Go.Proofs.YtiennniclkbjlaaGreatDoor.TpM Go.Proofs.YtiennniclkbjlaaGreatDoor.TrM Go.Proofs.YtiennniclkbjlaaGreatDoor.Tq
variable {w w' : World} {B T0 m1 m2 m3 m4 s0 : Nat} {X : List Hx} {R : List Hs} {vH vS vL : Value} {p : Tp} {g g' : Hs}
theorem CpI.H_ge (h : CpI w B T0 m1 m2 m3 m4 s0 X R vH vS vL p) : ∀ k, vH.ownBlock = some k → m1 ≤ k ∧ k < s0 := fun k hk => by
  obtain ⟨o1, o2, o3⟩ := h.ord
  have q := h.wH k hk
  have q2 := h.h4
  omega
theorem CpI.no (h : CpI w B T0 m1 m2 m3 m4 s0 X R vH vS vL p) {P : Nat} (h1 : P ≠ T0) (h2 : P < m1) : ¬ Ow T0 X vH vS vL P ∧ ¬ Rd X P := by
  obtain ⟨o1, o2, o3⟩ := h.ord
  refine ⟨fun hk => ?_, fun hk => ?_⟩
  · rcases hk with hk | hk | hk | hk | ⟨x, hx, hk⟩
    · exact h1 hk
    · have := (h.wH P hk).1; omega
    · have := (h.wS P hk).1; omega
    · have := (h.wL P hk).1; omega
    · have := ((h.xs x hx).1 P hk).1; omega
  · obtain ⟨x, hx, hk | hk⟩ := hk
    · have := ((h.xs x hx).2.1 P hk).1; omega
    · have := ((h.xs x hx).2.2 P hk).1; omega
theorem CpI.rd_ge (h : CpI w B T0 m1 m2 m3 m4 s0 X R vH vS vL p) : ∀ k, Rd X k → m4 ≤ k := fun k ⟨x, hx, hk⟩ => by
  rcases hk with hk | hk
  · exact ((h.xs x hx).2.1 k hk).1
  · exact ((h.xs x hx).2.2 k hk).1
/-- names, rules and what is left are copied -/
theorem owns_set {B0 GH j : Nat} {v y : Value} {L : List ByteArray} (h : Owns w B0 v L) (hG : GH < B0) : Owns (w.setCell ⟨GH, j, none⟩ y) B0 v L := owns_ap h (grown_one GH j y) fun k e1 e2 => by
  have q1 := (World.ownsRow.lt h k e1).1
  have q2 := Option.some.inj e2
  omega
theorem ownsR_set {α : Type} {F : Frm α} {ty : TypeId} {B0 GH j : Nat} {v y : Value} {L : List α} (h : OwnsR F ty w B0 v L) (hG : GH < B0) : OwnsR F ty (w.setCell ⟨GH, j, none⟩ y) B0 v L := ownsR_ap h (grown_one GH j y) fun k e1 e2 => by
  have q1 := (World.ownsRow.lt h k e1).1
  have q2 := Option.some.inj e2
  omega
/-- a house whose three lists were copied is one of one's own -/
theorem CpI.three (h : CpI w B T0 m1 m2 m3 m4 s0 X (g :: R) vH vS vL p) {b1 e1 b2 e2 b3 : Nat} (h1 : s0 ≤ b1) (h2 : e1 ≤ b2) (h3 : e2 ≤ b3) (hB : B ≤ b1) (hbb : b1 ≤ b2) (hbc : b2 ≤ b3)
    (o1 : Owns w b1 (.slice g.gr.na g.gr.nm.length g.gr.nc) g.gr.nm) (l1 : ∀ k, blk g.gr.na = some k → k < e1) (o2 : OwnsR FRu 135 w b2 (.slice g.gr.ra g.gr.ru.length g.gr.rc) g.gr.ru) (l2 : ∀ k, blk g.gr.ra = some k → k < e2) (o3 : OwnsR FIt 103 w b3 (.slice g.ta g.todo.length g.tc) g.todo) :
    ∃ row, CpI w B T0 m1 m2 m3 m4 w.heap.size (X ++ [⟨g, row⟩]) R vH vS vL p := by
  obtain ⟨row, hq, hr⟩ := IsQF.own o3
  have k1 := World.ownsRow.lt o1
  have k2 := o2.lt
  have k3 := o3.lt
  rw [own_blk] at k1 k2 k3
  rw [own_blk] at hr
  refine ⟨row, h.push ⟨o1.strsOf, o2.rowsOf, hq.mono (by omega), fun k e => (k1 k e).2, fun k e => (k2 k e).2⟩ (fun k e => ?_) (fun k e => ?_) (fun k e => ?_) (fun k q1 q2 => ?_) (fun k q1 q2 => ?_)⟩
  · have := k3 k (hr k e); omega
  · have := k1 k e; omega
  · have := k2 k e; omega
  · have := k3 k (hr k q1); have := l1 k q2; omega
  · have := k3 k (hr k q1); have := l2 k q2; omega
end Go.Proofs.YtiennniclkbjlaaGreatDoor.TrW
namespace Go.Proofs.YtiennniclkbjlaaGreatDoor.Tn
open Go.RowKit Go.Proofs.YtiennniclkbjlaaGreatDoor.EscM Go.Proofs.YtiennniclkbjlaaGreatDoor.AddrM Go.Proofs.YtiennniclkbjlaaGreatDoor.ReadM Go.Proofs.YtiennniclkbjlaaGreatDoor.Rd1 Go.Proofs.YtiennniclkbjlaaGreatDoor.Ad1 Go.Proofs.YtiennniclkbjlaaGreatDoor.RuleM Go.Proofs.YtiennniclkbjlaaGreatDoor.St Go.Proofs.YtiennniclkbjlaaGreatDoor.EscL Go.Proofs.YtiennniclkbjlaaGreatDoor.RR Go.Proofs.YtiennniclkbjlaaGreatDoor.LetM Go.Proofs.YtiennniclkbjlaaGreatDoor.GrM Go.Proofs.YtiennniclkbjlaaGreatDoor.RoIt Go.Proofs.YtiennniclkbjlaaGreatDoor.RoLk Go.Proofs.YtiennniclkbjlaaGreatDoor.RoQ Go.Proofs.YtiennniclkbjlaaGreatDoor.Mp Go.Proofs.YtiennniclkbjlaaGreatDoor.WdM Go.Proofs.YtiennniclkbjlaaGreatDoor.Wd Go.Proofs.YtiennniclkbjlaaGreatDoor.TpM Go.Proofs.YtiennniclkbjlaaGreatDoor.TrM Go.Proofs.YtiennniclkbjlaaGreatDoor.TrW Go.Proofs.YtiennniclkbjlaaGreatDoor.Tq Go.Proofs.YtiennniclkbjlaaGreatDoor.PgA Go.Proofs.YtiennniclkbjlaaGreatDoor.MkA Go.Proofs.YtiennniclkbjlaaGreatDoor.Im Go.Proofs.YtiennniclkbjlaaGreatDoor.Nm

theorem clone_strs (a0 : Option Addr) (cap : Nat) (L : List ByteArray) (w : World) (hI : IsStrs w a0 cap L) (hl : L.length ≤ 4194304) :
    Calls Tryz.prog 100 #[.slice a0 L.length cap] w fun e w' => ∃ v, e = .returned v ∧ Owns w' w.heap.size v L ∧ Below w.heap.size w w' := by
  obtain ⟨h1, h2, h3, h4⟩ := hI
  cases a0 with
  | none =>
    have hc := h3 rfl
    have hL : L = [] := List.eq_nil_of_length_eq_zero (by omega)
    subst hL
    refine (Tryz.slices_Clone_string_nil 0 cap w).mono ?_
    rintro e w' ⟨rfl, rfl⟩
    exact ⟨_, rfl, World.ownsRow_nil _ _ _ _, Below.refl _ _⟩
  | some ad =>
    by_cases hL : L = []
    · subst hL
      refine (Tryz.slices_Clone_string_zero ad cap w).mono ?_
      rintro e w' ⟨v, rfl, hO, _, hb⟩
      exact ⟨v, rfl, hO, hb⟩
    · obtain ⟨b, off, e, hc⟩ := h4 hL
      injection e with e
      subst e
      refine (Tryz.slices_Clone_string b off L.length cap L w (Nat.le_refl _) (by omega) (fun j hj => by rw [hc j hj, List.getD_eq_getElem?_getD, List.getElem?_eq_getElem hj]; rfl)).mono ?_
      rintro e w' ⟨v, rfl, hO, _, hb⟩
      rw [List.take_of_length_le (Nat.le_refl _)] at hO
      exact ⟨v, rfl, hO, hb⟩
/-- a copy of a trip, in new memory -/
def Copied (p : Tp) (w : World) (e : Ending) (w' : World) : Prop := ∃ X vH vS vL T0, e = .returned (.agg #[.string p.name, .int .i64 p.now, vH, vS, vL]) ∧ TrOwn w' w.heap.size T0 0 X vH vS vL (tmP p) ∧ (∀ k, Rd X k → w.heap.size ≤ k) ∧ Below w.heap.size w w'
set_option maxRecDepth 100000 in
set_option maxHeartbeats 6400000 in
theorem copyTrip_any (p : Tp) (w : World) (hA : TpAt w p) (hl : p.hs.length ≤ 1000) (hs : p.seen.length ≤ 1000) (hk : p.lk.length ≤ 1000) (hh : ∀ h ∈ p.hs, h.gr.nm.length ≤ 1000 ∧ h.gr.ru.length ≤ 1000 ∧ h.todo.length ≤ 1000) :
    Calls Tryz.prog 71 #[tpV p] w fun e w' => Copied p w e w' := by
  have HX0 : Hid (Bs 29 ((w.alloc (.cells #[.string p.name, .int .i64 p.now, .slice p.ha p.hs.length p.hc, .slice p.sa p.seen.length p.sc, .slice p.la p.lk.length p.lc] 29)).alloc (.cells #[.string ⟨#[]⟩, .int .i64 0, .slice none 0 0, .slice none 0 0, .slice none 0 0] 29)) w.heap.size #[.string p.name, .int .i64 p.now, .slice p.ha p.hs.length p.hc, .slice p.sa p.seen.length p.sc, .slice p.la p.lk.length p.lc]) := (Bs.new _ _ _).alloc _
  have HZ0 : Hid (Bs 29 ((w.alloc (.cells #[.string p.name, .int .i64 p.now, .slice p.ha p.hs.length p.hc, .slice p.sa p.seen.length p.sc, .slice p.la p.lk.length p.lc] 29)).alloc (.cells #[.string ⟨#[]⟩, .int .i64 0, .slice none 0 0, .slice none 0 0, .slice none 0 0] 29)) (w.heap.size + 1) #[.string ⟨#[]⟩, .int .i64 0, .slice none 0 0, .slice none 0 0, .slice none 0 0]) := by
    have := Bs.new 29 (w.alloc (.cells #[.string p.name, .int .i64 p.now, .slice p.ha p.hs.length p.hc, .slice p.sa p.seen.length p.sc, .slice p.la p.lk.length p.lc] 29)) #[.string ⟨#[]⟩, .int .i64 0, .slice none 0 0, .slice none 0 0, .slice none 0 0]
    rw [show (w.alloc (.cells #[.string p.name, .int .i64 p.now, .slice p.ha p.hs.length p.hc, .slice p.sa p.seen.length p.sc, .slice p.la p.lk.length p.lc] 29)).heap.size = w.heap.size + 1 by simp] at this
    exact this
  have HB0 : Hid (Below w.heap.size w ((w.alloc (.cells #[.string p.name, .int .i64 p.now, .slice p.ha p.hs.length p.hc, .slice p.sa p.seen.length p.sc, .slice p.la p.lk.length p.lc] 29)).alloc (.cells #[.string ⟨#[]⟩, .int .i64 0, .slice none 0 0, .slice none 0 0, .slice none 0 0] 29))) := ((Below.refl _ w).alloc (Nat.le_refl _) _).alloc (by simp) _
  have HSZ : Hid (((w.alloc (.cells #[.string p.name, .int .i64 p.now, .slice p.ha p.hs.length p.hc, .slice p.sa p.seen.length p.sc, .slice p.la p.lk.length p.lc] 29)).alloc (.cells #[.string ⟨#[]⟩, .int .i64 0, .slice none 0 0, .slice none 0 0, .slice none 0 0] 29)).heap.size = w.heap.size + 2) := by show _ = _; simp
  have HA : Hid (TpAt w p) := hA
  have HH : Hid (∀ h ∈ p.hs, h.gr.nm.length ≤ 1000 ∧ h.gr.ru.length ≤ 1000 ∧ h.todo.length ≤ 1000) := hh
  clear hA hh
  have HNE : Hid (w.heap.size ≠ w.heap.size + 1) := fun e => by omega
  unfold tpV
  obtain ⟨w0, hw0⟩ : ∃ w0, (w.alloc (.cells #[.string p.name, .int .i64 p.now, .slice p.ha p.hs.length p.hc, .slice p.sa p.seen.length p.sc, .slice p.la p.lk.length p.lc] 29)).alloc (.cells #[.string ⟨#[]⟩, .int .i64 0, .slice none 0 0, .slice none 0 0, .slice none 0 0] 29) = w0 := ⟨_, rfl⟩
  rw [hw0] at HX0 HZ0 HB0 HSZ
  have x3 := HX0.out.cell 3 rfl
  go_enter Tryz.func71, Tryz.ntmps71
  go_wp2_with fail
  clear hw0
  refine (clone_strs p.sa p.sc p.seen _ (HA.out.2.2.1.below HB0.out) (by omega)).mono ?_
  rintro e w1 ⟨v1, rfl, hO1, hb1⟩
  obtain ⟨aS, cS, hv1, _⟩ := hO1.strs
  subst hv1
  have HX1 : Hid (Bs 29 w1 w.heap.size #[.string p.name, .int .i64 p.now, .slice p.ha p.hs.length p.hc, .slice p.sa p.seen.length p.sc, .slice p.la p.lk.length p.lc]) := HX0.out.below hb1
  have HX2 : Hid (Bs 29 (w1.setCell ⟨w.heap.size, 3, none⟩ (.slice aS p.seen.length cS)) w.heap.size #[.string p.name, .int .i64 p.now, .slice p.ha p.hs.length p.hc, (.slice aS p.seen.length cS), .slice p.la p.lk.length p.lc]) := HX1.out.set 3 (.slice aS p.seen.length cS)
  have HZ2 : Hid (Bs 29 (w1.setCell ⟨w.heap.size, 3, none⟩ (.slice aS p.seen.length cS)) (w.heap.size + 1) #[.string ⟨#[]⟩, .int .i64 0, .slice none 0 0, .slice none 0 0, .slice none 0 0]) := (HZ0.out.below hb1).grown (grown_one _ _ _) (fun e => HNE.out (Option.some.inj e))
  have HB2 : Hid (Below w.heap.size w (w1.setCell ⟨w.heap.size, 3, none⟩ (.slice aS p.seen.length cS))) := (HB0.out.trans (hb1.mono HB0.out.size)).setCell (Nat.le_refl _) _
  have HO2 : Hid (Owns (w1.setCell ⟨w.heap.size, 3, none⟩ (.slice aS p.seen.length cS)) w0.heap.size (.slice aS p.seen.length cS) p.seen) := owns_set hO1 (by rw [HSZ.out]; omega)
  have HS2 : Hid (w0.heap.size ≤ (w1.setCell ⟨w.heap.size, 3, none⟩ (.slice aS p.seen.length cS)).heap.size) := Nat.le_trans hb1.size (grown_one _ _ _).size
  obtain ⟨w2, hw2⟩ : ∃ w2, w1.setCell ⟨w.heap.size, 3, none⟩ (.slice aS p.seen.length cS) = w2 := ⟨_, rfl⟩
  rw [hw2] at HX2 HZ2 HB2 HO2 HS2
  have y3 := HX1.out.cell 3 rfl
  have f3 := HX1.out.free 3
  have x4 := HX2.out.cell 4 rfl
  clear hO1 hb1 x3 HX0 HZ0 HB0
  go_wp2_with fail
  clear hw2 y3 f3 HX1
  refine (clone_looks p.la p.lc p.lk _ (HA.out.2.2.2.below HB2.out) (by omega)).mono ?_
  rintro e w3 ⟨v3, rfl, hO3, hb3⟩
  obtain ⟨aL, cL, hv3, _⟩ := hO3.rows
  subst hv3
  have HX3 : Hid (Bs 29 w3 w.heap.size #[.string p.name, .int .i64 p.now, .slice p.ha p.hs.length p.hc, (.slice aS p.seen.length cS), .slice p.la p.lk.length p.lc]) := HX2.out.below hb3
  have HX4 : Hid (Bs 29 (w3.setCell ⟨w.heap.size, 4, none⟩ (.slice aL p.lk.length cL)) w.heap.size #[.string p.name, .int .i64 p.now, .slice p.ha p.hs.length p.hc, (.slice aS p.seen.length cS), (.slice aL p.lk.length cL)]) := HX3.out.set 4 (.slice aL p.lk.length cL)
  have HZ4 : Hid (Bs 29 (w3.setCell ⟨w.heap.size, 4, none⟩ (.slice aL p.lk.length cL)) (w.heap.size + 1) #[.string ⟨#[]⟩, .int .i64 0, .slice none 0 0, .slice none 0 0, .slice none 0 0]) := (HZ2.out.below hb3).grown (grown_one _ _ _) (fun e => HNE.out (Option.some.inj e))
  have HB4 : Hid (Below w.heap.size w (w3.setCell ⟨w.heap.size, 4, none⟩ (.slice aL p.lk.length cL))) := (HB2.out.trans (hb3.mono HB2.out.size)).setCell (Nat.le_refl _) _
  have hlt0 : w.heap.size < w0.heap.size := by rw [HSZ.out]; omega
  have HL4 : Hid (OwnsR FLk 57 (w3.setCell ⟨w.heap.size, 4, none⟩ (.slice aL p.lk.length cL)) w2.heap.size (.slice aL p.lk.length cL) p.lk) := ownsR_set hO3 (Nat.lt_of_lt_of_le hlt0 HS2.out)
  have HO4 : Hid (Owns (w3.setCell ⟨w.heap.size, 4, none⟩ (.slice aL p.lk.length cL)) w0.heap.size (.slice aS p.seen.length cS) p.seen) := owns_set (owns_ap HO2.out (grown_of hb3) none_ap.symm) hlt0
  have HS4 : Hid (w2.heap.size ≤ (w3.setCell ⟨w.heap.size, 4, none⟩ (.slice aL p.lk.length cL)).heap.size) := Nat.le_trans hb3.size (grown_one _ _ _).size
  have HW1 : Hid (Wi w0.heap.size w2.heap.size (Value.slice aS p.seen.length cS).ownBlock) := fun k hk => World.ownsRow.lt HO2.out k hk
  obtain ⟨w4, hw4⟩ : ∃ w4, w3.setCell ⟨w.heap.size, 4, none⟩ (.slice aL p.lk.length cL) = w4 := ⟨_, rfl⟩
  rw [hw4] at HX4 HZ4 HB4 HL4 HO4 HS4
  have y4 := HX3.out.cell 4 rfl
  have f4 := HX3.out.free 4
  have x2 := HX4.out.cell 2 rfl
  clear hO3 hb3 x4 HX2 HZ2 HB2 HO2
  go_wp2_with fail
  clear hw4 y4 f4 HX3
  refine (clone_houses p.ha p.hc p.hs _ (HA.out.1.below HB4.out) (by omega)).mono ?_
  rintro e w5 ⟨v5, rfl, hO5, hb5⟩
  obtain ⟨aH, cH, hv5, _⟩ := hO5.rows
  subst hv5
  have HX5 : Hid (Bs 29 w5 w.heap.size #[.string p.name, .int .i64 p.now, .slice p.ha p.hs.length p.hc, (.slice aS p.seen.length cS), (.slice aL p.lk.length cL)]) := HX4.out.below hb5
  have HX6 : Hid (Bs 29 (w5.setCell ⟨w.heap.size, 2, none⟩ (.slice aH p.hs.length cH)) w.heap.size #[.string p.name, .int .i64 p.now, .slice aH p.hs.length cH, (.slice aS p.seen.length cS), (.slice aL p.lk.length cL)]) := HX5.out.set 2 _
  have HZ6 : Hid (Bs 29 (w5.setCell ⟨w.heap.size, 2, none⟩ (.slice aH p.hs.length cH)) (w.heap.size + 1) #[.string ⟨#[]⟩, .int .i64 0, .slice none 0 0, .slice none 0 0, .slice none 0 0]) := (HZ4.out.below hb5).grown (grown_one _ _ _) (fun e => HNE.out (Option.some.inj e))
  have HB6 : Hid (Below w.heap.size w (w5.setCell ⟨w.heap.size, 2, none⟩ (.slice aH p.hs.length cH))) := (HB4.out.trans (hb5.mono HB4.out.size)).setCell (Nat.le_refl _) _
  have hlt2 : w.heap.size < w2.heap.size := Nat.lt_of_lt_of_le hlt0 HS2.out
  have hlt4 : w.heap.size < w4.heap.size := Nat.lt_of_lt_of_le hlt2 HS4.out
  have HH6 : Hid (OwnsR FHs 38 (w5.setCell ⟨w.heap.size, 2, none⟩ (.slice aH p.hs.length cH)) w4.heap.size (.slice aH p.hs.length cH) p.hs) := ownsR_set hO5 hlt4
  have HL6 : Hid (OwnsR FLk 57 (w5.setCell ⟨w.heap.size, 2, none⟩ (.slice aH p.hs.length cH)) w2.heap.size (.slice aL p.lk.length cL) p.lk) := ownsR_set (ownsR_ap HL4.out (grown_of hb5) none_ap.symm) hlt2
  have HO6 : Hid (Owns (w5.setCell ⟨w.heap.size, 2, none⟩ (.slice aH p.hs.length cH)) w0.heap.size (.slice aS p.seen.length cS) p.seen) := owns_set (owns_ap HO4.out (grown_of hb5) none_ap.symm) hlt0
  have HW3 : Hid (Wi w2.heap.size w4.heap.size (Value.slice aL p.lk.length cL).ownBlock) := fun k hk => HL4.out.lt k hk
  have HS6 : Hid (w4.heap.size ≤ (w5.setCell ⟨w.heap.size, 2, none⟩ (.slice aH p.hs.length cH)).heap.size) := Nat.le_trans hb5.size (grown_one _ _ _).size
  obtain ⟨w6, hw6⟩ : ∃ w6, w5.setCell ⟨w.heap.size, 2, none⟩ (.slice aH p.hs.length cH) = w6 := ⟨_, rfl⟩
  rw [hw6] at HX6 HZ6 HB6 HH6 HL6 HO6 HS6
  have HI6 : Hid (CpI w6 w.heap.size w.heap.size w0.heap.size w2.heap.size w4.heap.size w6.heap.size w6.heap.size [] p.hs (.slice aH p.hs.length cH) (.slice aS p.seen.length cS) (.slice aL p.lk.length cL) p) :=
    ⟨HX6.out.cell 0 rfl, HX6.out.cell 1 rfl, HX6.out.cell 2 rfl, HX6.out.cell 3 rfl, HX6.out.cell 4 rfl, fun j _ => HX6.out.free _, Nat.le_refl _, hlt0, ⟨HS2.out, HS4.out, HS6.out⟩, Nat.le_refl _, Nat.le_refl _, HH6.out.mono (Nat.le_of_lt hlt4), Owns.mono HO6.out (Nat.le_of_lt hlt0), HL6.out.mono (Nat.le_of_lt hlt2), (fun x hx => by cases hx), HW1.out, HW3.out, fun k hk => HH6.out.lt k hk, (fun x hx => by cases hx), (fun x hx => by cases hx), List.Pairwise.nil⟩
  have y2 := HX5.out.cell 2 rfl
  have f2 := HX5.out.free 2
  have x2' := HX6.out.cell 2 rfl
  have HGH : Hid (∃ GH, 0 < p.hs.length → aH = some ⟨GH, 0, none⟩) := by
    by_cases h0 : 0 < p.hs.length
    · obtain ⟨GH, c, e, _⟩ := HI6.out.at_house (by simpa using h0)
      injection e with e
      exact ⟨GH, fun _ => e⟩
    · exact ⟨0, fun h => absurd h h0⟩
  obtain ⟨GH, hGH⟩ := HGH.out
  have HG : Hid (0 < p.hs.length → aH = some ⟨GH, 0, none⟩) := hGH
  clear hO5 hb5 x2 HX4 HZ4 HB4 HO4 HL4 HH6 HL6 HO6 HX6 HGH hGH HX5
  go_wp2_with fail
  clear hw6 y2 f2 x2'
  go_loopw [20] (fun i wr => ∃ (X : List Hx) (s0 : Nat), i = .int .i64 (X.length : Int) ∧ Hid (X.length ≤ p.hs.length ∧ X.map hmX = (p.hs.take X.length).map hmS ∧ CpI wr w.heap.size w.heap.size w0.heap.size w2.heap.size w4.heap.size w6.heap.size s0 X (p.hs.drop X.length) (.slice aH p.hs.length cH) (.slice aS p.seen.length cS) (.slice aL p.lk.length cL) p ∧ Below w.heap.size w wr ∧ Bs 29 wr (w.heap.size + 1) #[.string ⟨#[]⟩, .int .i64 0, .slice none 0 0, .slice none 0 0, .slice none 0 0])) (fun i _ => p.hs.length - (intOf i).toNat)
  case atStart => exact ⟨[], w6.heap.size, rfl, Nat.zero_le _, rfl, HI6.out, HB6.out, HZ6.out⟩
  case round =>
    obtain ⟨X, s0, rfl, HR⟩ := hrel
    have hXl := HR.out.1
    by_cases hlt : X.length < p.hs.length
    · obtain ⟨_, hXm, hI, hB, hZ⟩ := HR.out
      have HXM : Hid (X.map hmX = (p.hs.take X.length).map hmS) := hXm
      have HB : Hid (Below w.heap.size w wr) := hB
      have HZ : Hid (Bs 29 wr (w.heap.size + 1) #[.string ⟨#[]⟩, .int .i64 0, .slice none 0 0, .slice none 0 0, .slice none 0 0]) := hZ
      have hgm := List.getElem_mem hlt
      have HTK : Hid (p.hs.take (X.length + 1) = p.hs.take X.length ++ [p.hs[X.length]]) := List.take_succ_eq_append_getElem hlt
      have HHg : Hid (HsAt w p.hs[X.length]) := HA.out.2.1 _ hgm
      have hlg := HH.out _ hgm
      rw [List.drop_eq_getElem_cons hlt] at hI
      have e1 := HG.out (by omega)
      generalize p.hs[X.length] = g at *
      obtain ⟨R, hR⟩ : ∃ R, p.hs.drop (X.length + 1) = R := ⟨_, rfl⟩
      have HR2 : Hid (p.hs.drop (X.length + 1) = R) := hR
      rw [hR] at hI
      clear hR
      have HI : Hid (CpI wr w.heap.size w.heap.size w0.heap.size w2.heap.size w4.heap.size w6.heap.size s0 X (g :: R) (.slice (some ⟨GH, 0, none⟩) p.hs.length cH) (.slice aS p.seen.length cS) (.slice aL p.lk.length cL) p) := by rw [← e1]; exact hI
      have HE1 : Hid (aH = some ⟨GH, 0, none⟩) := e1
      clear e1
      have hc2 := HI.out.c2
      have hGB := HI.out.H_ge GH rfl
      have hGB2 : GH < wr.heap.size := Nat.lt_of_lt_of_le hGB.2 HI.out.h5
      have hs5 := HI.out.h5
      have HZG : Hid (some GH ≠ some (w.heap.size + 1)) := fun e => by
        have := Option.some.inj e
        have := HSZ.out
        omega
      obtain ⟨na, ra, nc, rc, nm, ru, hgr⟩ : ∃ na ra nc rc nm ru, na = g.gr.na ∧ ra = g.gr.ra ∧ nc = g.gr.nc ∧ rc = g.gr.rc ∧ nm = g.gr.nm ∧ ru = g.gr.ru := ⟨_, _, _, _, _, _, rfl, rfl, rfl, rfl, rfl, rfl⟩
      have k3 : wr.cell? ⟨GH, X.length * 8 + 3, none⟩ = some (.slice g.gr.na g.gr.nm.length g.gr.nc) := HI.out.cell rfl (j := 3) rfl (by decide)
      clear hgr hXm hI hB hZ hgm HR
      have HC1 : Hid (Calls Tryz.prog 100 #[.slice g.gr.na g.gr.nm.length g.gr.nc] wr fun e w' => ∃ v, e = .returned v ∧ Owns w' wr.heap.size v g.gr.nm ∧ Below wr.heap.size wr w') := clone_strs g.gr.na g.gr.nc g.gr.nm wr (HHg.out.below HB.out).1.1 (by omega)
      go_wp2_with fail
      refine HC1.out.mono ?_
      rintro e wA ⟨vA, rfl, hOA, hbA⟩
      obtain ⟨a1, c1, hvA, _⟩ := hOA.strs
      subst hvA
      have HIA : Hid (CpI wA w.heap.size w.heap.size w0.heap.size w2.heap.size w4.heap.size w6.heap.size s0 X (g :: R) (.slice (some ⟨GH, 0, none⟩) p.hs.length cH) (.slice aS p.seen.length cS) (.slice aL p.lk.length cL) p) := HI.out.below hbA
      have HIB : Hid (CpI (wA.setCell ⟨GH, X.length * 8 + 3, none⟩ (.slice a1 g.gr.nm.length c1)) w.heap.size w.heap.size w0.heap.size w2.heap.size w4.heap.size w6.heap.size s0 X ({ g with gr := { g.gr with na := a1, nc := c1 } } :: R) (.slice (some ⟨GH, 0, none⟩) p.hs.length cH) (.slice aS p.seen.length cS) (.slice aL p.lk.length cL) p) := HIA.out.set rfl (by decide) rfl
      have HOB : Hid (Owns (wA.setCell ⟨GH, X.length * 8 + 3, none⟩ (.slice a1 g.gr.nm.length c1)) wr.heap.size (.slice a1 g.gr.nm.length c1) g.gr.nm) := owns_set hOA hGB2
      have HBB : Hid (Below w.heap.size w (wA.setCell ⟨GH, X.length * 8 + 3, none⟩ (.slice a1 g.gr.nm.length c1))) := (HB.out.trans (hbA.mono HB.out.size)).setCell (by dsimp only; have := HSZ.out; omega) _
      have HZB : Hid (Bs 29 (wA.setCell ⟨GH, X.length * 8 + 3, none⟩ (.slice a1 g.gr.nm.length c1)) (w.heap.size + 1) #[.string ⟨#[]⟩, .int .i64 0, .slice none 0 0, .slice none 0 0, .slice none 0 0]) := (HZ.out.below hbA).grown (grown_one _ _ _) HZG.out
      have hsB : wr.heap.size ≤ (wA.setCell ⟨GH, X.length * 8 + 3, none⟩ (.slice a1 g.gr.nm.length c1)).heap.size := Nat.le_trans hbA.size (grown_one _ _ _).size
      obtain ⟨wB, hwB⟩ : ∃ wB, wA.setCell ⟨GH, X.length * 8 + 3, none⟩ (.slice a1 g.gr.nm.length c1) = wB := ⟨_, rfl⟩
      rw [hwB] at HIB HOB HBB HZB hsB
      have j3 : wA.cell? ⟨GH, X.length * 8 + 3, none⟩ = some (.slice g.gr.na g.gr.nm.length g.gr.nc) := HIA.out.cell rfl (j := 3) rfl (by decide)
      have q3 : wA.frozen? ⟨GH, X.length * 8 + 3, none⟩ = false := HIA.out.free rfl _
      have k4 : wB.cell? ⟨GH, X.length * 8 + 4, none⟩ = some (.slice g.gr.ra g.gr.ru.length g.gr.rc) := HIB.out.cell rfl (j := 4) rfl (by decide)
      have HC2 : Hid (Calls Tryz.prog 103 #[.slice g.gr.ra g.gr.ru.length g.gr.rc] wB fun e w' => ∃ v, e = .returned v ∧ OwnsR FRu 135 w' wB.heap.size v g.gr.ru ∧ Below wB.heap.size wB w') := clone_rules g.gr.ra g.gr.rc g.gr.ru wB (HHg.out.below HBB.out).1.2 (by omega)
      clear hOA hbA HC1 HI HB HZ k3 hc2
      go_wp2_with fail
      clear hwB j3 q3 k4 HIA
      refine HC2.out.mono ?_
      rintro e wC ⟨vC, rfl, hOC, hbC⟩
      obtain ⟨a2, c2, hvC, _⟩ := hOC.rows
      subst hvC
      have hGB3 : GH < wB.heap.size := Nat.lt_of_lt_of_le hGB2 hsB
      have HIC : Hid (CpI wC w.heap.size w.heap.size w0.heap.size w2.heap.size w4.heap.size w6.heap.size s0 X ({ g with gr := { g.gr with na := a1, nc := c1 } } :: R) (.slice (some ⟨GH, 0, none⟩) p.hs.length cH) (.slice aS p.seen.length cS) (.slice aL p.lk.length cL) p) := HIB.out.below hbC
      have HID : Hid (CpI (wC.setCell ⟨GH, X.length * 8 + 4, none⟩ (.slice a2 g.gr.ru.length c2)) w.heap.size w.heap.size w0.heap.size w2.heap.size w4.heap.size w6.heap.size s0 X ({ g with gr := { g.gr with na := a1, nc := c1, ra := a2, rc := c2 } } :: R) (.slice (some ⟨GH, 0, none⟩) p.hs.length cH) (.slice aS p.seen.length cS) (.slice aL p.lk.length cL) p) := HIC.out.set rfl (by decide) rfl
      have HOD : Hid (Owns (wC.setCell ⟨GH, X.length * 8 + 4, none⟩ (.slice a2 g.gr.ru.length c2)) wr.heap.size (.slice a1 g.gr.nm.length c1) g.gr.nm) := owns_set (owns_ap HOB.out (grown_of hbC) none_ap.symm) hGB2
      have hlt1 : ∀ k, blk a1 = some k → k < wB.heap.size := fun k hk => (World.ownsRow.lt HOB.out k (by rw [own_blk]; exact hk)).2
      have HPD : Hid (OwnsR FRu 135 (wC.setCell ⟨GH, X.length * 8 + 4, none⟩ (.slice a2 g.gr.ru.length c2)) wB.heap.size (.slice a2 g.gr.ru.length c2) g.gr.ru) := ownsR_set hOC hGB3
      have HBD : Hid (Below w.heap.size w (wC.setCell ⟨GH, X.length * 8 + 4, none⟩ (.slice a2 g.gr.ru.length c2))) := (HBB.out.trans (hbC.mono HBB.out.size)).setCell (by dsimp only; have := HSZ.out; omega) _
      have HZD : Hid (Bs 29 (wC.setCell ⟨GH, X.length * 8 + 4, none⟩ (.slice a2 g.gr.ru.length c2)) (w.heap.size + 1) #[.string ⟨#[]⟩, .int .i64 0, .slice none 0 0, .slice none 0 0, .slice none 0 0]) := (HZB.out.below hbC).grown (grown_one _ _ _) HZG.out
      have hsD : wB.heap.size ≤ (wC.setCell ⟨GH, X.length * 8 + 4, none⟩ (.slice a2 g.gr.ru.length c2)).heap.size := Nat.le_trans hbC.size (grown_one _ _ _).size
      have HL1 : Hid (∀ k, blk a1 = some k → k < wB.heap.size) := hlt1
      obtain ⟨wD, hwD⟩ : ∃ wD, wC.setCell ⟨GH, X.length * 8 + 4, none⟩ (.slice a2 g.gr.ru.length c2) = wD := ⟨_, rfl⟩
      rw [hwD] at HID HOD HPD HBD HZD hsD
      have j4 : wC.cell? ⟨GH, X.length * 8 + 4, none⟩ = some (.slice g.gr.ra g.gr.ru.length g.gr.rc) := HIC.out.cell rfl (j := 4) rfl (by decide)
      have q4 : wC.frozen? ⟨GH, X.length * 8 + 4, none⟩ = false := HIC.out.free rfl _
      have k7 : wD.cell? ⟨GH, X.length * 8 + 7, none⟩ = some (.slice g.ta g.todo.length g.tc) := HID.out.cell rfl (j := 7) rfl (by decide)
      have HC3 : Hid (Calls Tryz.prog 104 #[.slice g.ta g.todo.length g.tc] wD fun e w' => ∃ v, e = .returned v ∧ OwnsR FIt 103 w' wD.heap.size v g.todo ∧ Below wD.heap.size wD w') := clone_items g.ta g.tc g.todo wD (HHg.out.below HBD.out).2 (by omega)
      clear hOC hbC HC2 HIB HOB HBB HZB hlt1
      go_wp2_with fail
      clear hwD j4 q4 k7 HIC
      refine HC3.out.mono ?_
      rintro e wE ⟨vE, rfl, hOE, hbE⟩
      obtain ⟨a3, c3, hvE, _⟩ := hOE.rows
      subst hvE
      have hGB4 : GH < wD.heap.size := Nat.lt_of_lt_of_le hGB3 hsD
      have HIE : Hid (CpI wE w.heap.size w.heap.size w0.heap.size w2.heap.size w4.heap.size w6.heap.size s0 X ({ g with gr := { g.gr with na := a1, nc := c1, ra := a2, rc := c2 } } :: R) (.slice (some ⟨GH, 0, none⟩) p.hs.length cH) (.slice aS p.seen.length cS) (.slice aL p.lk.length cL) p) := HID.out.below hbE
      have HIF : Hid (CpI (wE.setCell ⟨GH, X.length * 8 + 7, none⟩ (.slice a3 g.todo.length c3)) w.heap.size w.heap.size w0.heap.size w2.heap.size w4.heap.size w6.heap.size s0 X ({ g with gr := { g.gr with na := a1, nc := c1, ra := a2, rc := c2 }, ta := a3, tc := c3 } :: R) (.slice (some ⟨GH, 0, none⟩) p.hs.length cH) (.slice aS p.seen.length cS) (.slice aL p.lk.length cL) p) := HIE.out.set rfl (by decide) rfl
      have hOF : Owns (wE.setCell ⟨GH, X.length * 8 + 7, none⟩ (.slice a3 g.todo.length c3)) wr.heap.size (.slice a1 g.gr.nm.length c1) g.gr.nm := owns_set (owns_ap HOD.out (grown_of hbE) none_ap.symm) hGB2
      have hPF : OwnsR FRu 135 (wE.setCell ⟨GH, X.length * 8 + 7, none⟩ (.slice a3 g.todo.length c3)) wB.heap.size (.slice a2 g.gr.ru.length c2) g.gr.ru := ownsR_set (ownsR_ap HPD.out (grown_of hbE) none_ap.symm) hGB3
      have hlt2 : ∀ k, blk a2 = some k → k < wD.heap.size := fun k hk => (World.ownsRow.lt HPD.out k (by rw [own_blk]; exact hk)).2
      have hQF : OwnsR FIt 103 (wE.setCell ⟨GH, X.length * 8 + 7, none⟩ (.slice a3 g.todo.length c3)) wD.heap.size (.slice a3 g.todo.length c3) g.todo := ownsR_set hOE hGB4
      have HBF : Hid (Below w.heap.size w (wE.setCell ⟨GH, X.length * 8 + 7, none⟩ (.slice a3 g.todo.length c3))) := (HBD.out.trans (hbE.mono HBD.out.size)).setCell (by dsimp only; have := HSZ.out; omega) _
      have HZF : Hid (Bs 29 (wE.setCell ⟨GH, X.length * 8 + 7, none⟩ (.slice a3 g.todo.length c3)) (w.heap.size + 1) #[.string ⟨#[]⟩, .int .i64 0, .slice none 0 0, .slice none 0 0, .slice none 0 0]) := (HZD.out.below hbE).grown (grown_one _ _ _) HZG.out
      obtain ⟨row, hI3⟩ := HIF.out.three (b1 := wr.heap.size) (e1 := wB.heap.size) (b2 := wB.heap.size) (e2 := wD.heap.size) (b3 := wD.heap.size) hs5 (Nat.le_refl _) (Nat.le_refl _) (by have := HSZ.out; omega) hsB hsD hOF HL1.out hPF hlt2 hQF
      have HI3 : Hid _ := hI3
      have j7 : wE.cell? ⟨GH, X.length * 8 + 7, none⟩ = some (.slice g.ta g.todo.length g.tc) := HIE.out.cell rfl (j := 7) rfl (by decide)
      have q7 : wE.frozen? ⟨GH, X.length * 8 + 7, none⟩ = false := HIE.out.free rfl _
      clear hOE hbE HC3 HID HOD HPD HBD HZD hOF hPF hlt2 hQF hI3 HIF
      go_wp2_with fail
      go_roundw
      case rel =>
        refine ⟨X ++ [(⟨{ g with gr := { g.gr with na := a1, nc := c1, ra := a2, rc := c2 }, ta := a3, tc := c3 }, row⟩ : Hx)], (wE.setCell ⟨GH, X.length * 8 + 7, none⟩ (.slice a3 g.todo.length c3)).heap.size, ?_, ?_, ?_, ?_, HBF.out, HZF.out⟩
        · rw [List.length_append]; go_num
        · rw [List.length_append]; exact hlt
        · rw [List.length_append, List.map_append, HXM.out]
          show _ = (p.hs.take (X.length + 1)).map hmS
          rw [HTK.out, List.map_append]; rfl
        · rw [List.length_append, HE1.out]
          show CpI _ _ _ _ _ _ _ _ _ (p.hs.drop (X.length + 1)) _ _ _ _
          rw [HR2.out]
          exact HI3.out
      case measure => simp [intOf]; omega
    · obtain ⟨_, hXm, hI, hB, hZ⟩ := HR.out
      have hke : X.length = p.hs.length := by omega
      rw [hke, List.drop_eq_nil_of_le (Nat.le_refl _)] at hI
      rw [hke, List.take_of_length_le (Nat.le_refl _)] at hXm
      have HB : Hid (Below w.heap.size w wr) := hB
      have HZ : Hid (Bs 29 wr (w.heap.size + 1) #[.string ⟨#[]⟩, .int .i64 0, .slice none 0 0, .slice none 0 0, .slice none 0 0]) := hZ
      have HI : Hid _ := hI
      have HTE : Hid (TrOwn wr w.heap.size w.heap.size 0 X (.slice aH p.hs.length cH) (.slice aS p.seen.length cS) (.slice aL p.lk.length cL) (tmP p)) := by
        have := hI.done
        rw [hXm] at this; exact this
      have hno := hI.no (P := w.heap.size + 1) (by omega) (by have := HSZ.out; omega)
      have HNO : Hid (¬ Ow w.heap.size X (.slice aH p.hs.length cH) (.slice aS p.seen.length cS) (.slice aL p.lk.length cL) (w.heap.size + 1)) := hno.1
      have HNR : Hid (¬ Rd X (w.heap.size + 1)) := hno.2
      have HRG : Hid (∀ k, Rd X k → w.heap.size ≤ k) := fun k hk => by
        have h1 := hI.rd_ge k hk
        have h2 := HS2.out
        have h3 := HS4.out
        have h4 := HS6.out
        have h5 := HSZ.out
        omega
      have c0 := hI.c0
      have c1 := hI.c1
      have c2 := hI.c2
      have c3 := hI.c3
      have c4 := hI.c4
      have z0 := hZ.cell 0 rfl
      have z1 := hZ.cell 1 rfl
      have z2 := hZ.cell 2 rfl
      have z3 := hZ.cell 3 rfl
      have z4 := hZ.cell 4 rfl
      have f0 := hZ.free 0
      have f1 := hZ.free 1
      have f2 := hZ.free 2
      have f3 := hZ.free 3
      have f4 := hZ.free 4
      clear hXm hI hB hZ hlt hXl hno HR
      go_wp2_with fail
      have HF : Hid (Bs 29 (((((wr.setCell ⟨w.heap.size + 1, 0, none⟩ (.string p.name)).setCell ⟨w.heap.size + 1, 1, none⟩ (.int .i64 p.now)).setCell ⟨w.heap.size + 1, 2, none⟩ (.slice aH p.hs.length cH)).setCell ⟨w.heap.size + 1, 3, none⟩ (.slice aS p.seen.length cS)).setCell ⟨w.heap.size + 1, 4, none⟩ (.slice aL p.lk.length cL)) (w.heap.size + 1) #[.string p.name, .int .i64 p.now, .slice aH p.hs.length cH, .slice aS p.seen.length cS, .slice aL p.lk.length cL]) := ((((HZ.out.set 0 _).set 1 _).set 2 _).set 3 _).set 4 _
      have HTF : Hid (TrOwn (((((wr.setCell ⟨w.heap.size + 1, 0, none⟩ (.string p.name)).setCell ⟨w.heap.size + 1, 1, none⟩ (.int .i64 p.now)).setCell ⟨w.heap.size + 1, 2, none⟩ (.slice aH p.hs.length cH)).setCell ⟨w.heap.size + 1, 3, none⟩ (.slice aS p.seen.length cS)).setCell ⟨w.heap.size + 1, 4, none⟩ (.slice aL p.lk.length cL)) w.heap.size w.heap.size 0 X (.slice aH p.hs.length cH) (.slice aS p.seen.length cS) (.slice aL p.lk.length cL) (tmP p)) := ((((HTE.out.apart (grown_one _ 0 _) HNO.out HNR.out).apart (grown_one _ 1 _) HNO.out HNR.out).apart (grown_one _ 2 _) HNO.out HNR.out).apart (grown_one _ 3 _) HNO.out HNR.out).apart (grown_one _ 4 _) HNO.out HNR.out
      have HBF : Hid (Below w.heap.size w (((((wr.setCell ⟨w.heap.size + 1, 0, none⟩ (.string p.name)).setCell ⟨w.heap.size + 1, 1, none⟩ (.int .i64 p.now)).setCell ⟨w.heap.size + 1, 2, none⟩ (.slice aH p.hs.length cH)).setCell ⟨w.heap.size + 1, 3, none⟩ (.slice aS p.seen.length cS)).setCell ⟨w.heap.size + 1, 4, none⟩ (.slice aL p.lk.length cL))) := by
        show Below _ _ _
        iterate 5 refine Below.setCell ?_ (by dsimp only; omega) _
        exact HB.out
      obtain ⟨wf, hwf⟩ : ∃ wf, (((((wr.setCell ⟨w.heap.size + 1, 0, none⟩ (.string p.name)).setCell ⟨w.heap.size + 1, 1, none⟩ (.int .i64 p.now)).setCell ⟨w.heap.size + 1, 2, none⟩ (.slice aH p.hs.length cH)).setCell ⟨w.heap.size + 1, 3, none⟩ (.slice aS p.seen.length cS)).setCell ⟨w.heap.size + 1, 4, none⟩ (.slice aL p.lk.length cL)) = wf := ⟨_, rfl⟩
      rw [hwf] at HF HTF HBF ⊢
      have y0 := HF.out.cell 0 rfl
      have y1 := HF.out.cell 1 rfl
      have y2 := HF.out.cell 2 rfl
      have y3 := HF.out.cell 3 rfl
      have y4 := HF.out.cell 4 rfl
      refine bodyPost_ret (v := .agg #[.string p.name, .int .i64 p.now, .slice aH p.hs.length cH, .slice aS p.seen.length cS, .slice aL p.lk.length cL]) (by simp [results, Tryz.results71, go_sem, y0, y1, y2, y3, y4]) rfl ?_
      exact ⟨X, _, _, _, _, rfl, HTF.out, HRG.out, HBF.out⟩
end Go.Proofs.YtiennniclkbjlaaGreatDoor.Tn
/- A trip of one's own, as it is handed on by its value. -/
namespace Go.Proofs.YtiennniclkbjlaaGreatDoor.Tn
open Go.RowKit Go.Proofs.YtiennniclkbjlaaGreatDoor.EscM Go.Proofs.YtiennniclkbjlaaGreatDoor.AddrM Go.Proofs.YtiennniclkbjlaaGreatDoor.ReadM Go.Proofs.YtiennniclkbjlaaGreatDoor.RuleM Go.Proofs.YtiennniclkbjlaaGreatDoor.St Go.Proofs.YtiennniclkbjlaaGreatDoor.RR Go.Proofs.YtiennniclkbjlaaGreatDoor.LetM Go.Proofs.YtiennniclkbjlaaGreatDoor.GrM Go.Proofs.YtiennniclkbjlaaGreatDoor.RoIt Go.Proofs.YtiennniclkbjlaaGreatDoor.RoLk Go.Proofs.YtiennniclkbjlaaGreatDoor.RoQ Go.Proofs.YtiennniclkbjlaaGreatDoor.TpM Go.Proofs.YtiennniclkbjlaaGreatDoor.TrM Go.Proofs.YtiennniclkbjlaaGreatDoor.TrW Go.Proofs.YtiennniclkbjlaaGreatDoor.Tq

theorem TrOwn.mono {w : World} {B B' T0 o : Nat} {X : List Hx} {vH vS vL : Value} {t : Tm} (h : TrOwn w B T0 o X vH vS vL t) (hb : B' ≤ B) : TrOwn w B' T0 o X vH vS vL t :=
  ⟨h.hX, h.c0, h.c1, h.c2, h.c3, h.c4, h.fr, Nat.le_trans hb h.hT, Nat.le_trans hb h.hB, h.houses.mono hb, Owns.mono h.seen hb, h.looks.mono hb, fun x hx => ⟨(h.each x hx).names, (h.each x hx).rules, (h.each x hx).todo.mono hb, (h.each x hx).nlt, (h.each x hx).rlt⟩, h.a1, h.a2, h.a3, h.a4, h.a5, h.a6, h.qT, h.qH, h.qS, h.qL, h.pw, h.sx⟩
/-- a trip's lists lie in blocks from B on -/
def OwnTp (w : World) (B : Nat) (p : Tp) : Prop := ∃ T o X, TrOwn w B T o X (.slice p.ha p.hs.length p.hc) (.slice p.sa p.seen.length p.sc) (.slice p.la p.lk.length p.lc) (tmP p) ∧ (∀ k, Rd X k → B ≤ k) ∧ X.map Hx.h = p.hs
theorem OwnTp.at {w : World} {B : Nat} {p : Tp} (h : OwnTp w B p) : TpAt w p := by
  obtain ⟨T, o, X, h, _, hX⟩ := h
  have q1 := h.houses
  rw [hX] at q1
  refine ⟨q1.rowsOf, ?_, Owns.strsOf h.seen, h.looks.rowsOf⟩
  intro g hg
  rw [← hX] at hg
  obtain ⟨x, hx, rfl⟩ := List.mem_map.1 hg
  have hq := h.each x hx
  refine ⟨⟨hq.names, hq.rules⟩, ?_⟩
  obtain ⟨a, c, e, hr⟩ := hq.todo.rows
  injection e with e4 _ e5
  subst e4 e5
  exact hr
theorem OwnTp.mono {w : World} {B B' : Nat} {p : Tp} (h : OwnTp w B p) (hb : B' ≤ B) : OwnTp w B' p := by
  obtain ⟨T, o, X, h, hr, hX⟩ := h
  exact ⟨T, o, X, TrOwn.mono h hb, fun k hk => Nat.le_trans hb (hr k hk), hX⟩
theorem OwnTp.below {w w' : World} {B : Nat} {p : Tp} (h : OwnTp w B p) (hb : Below w.heap.size w w') : OwnTp w' B p := by
  obtain ⟨T, o, X, h, hr, hX⟩ := h
  exact ⟨T, o, X, h.below hb, hr, hX⟩
theorem OwnTp.set {w : World} {B P j : Nat} {p : Tp} {v : Value} (h : OwnTp w B p) (hP : P < B) : OwnTp (w.setCell ⟨P, j, none⟩ v) B p := by
  obtain ⟨T, o, X, h, hr, hX⟩ := h
  refine ⟨T, o, X, h.apart (grown_one P j v) (fun e => ?_) (fun e => ?_), hr, hX⟩
  · have := h.low P e; omega
  · have := hr P e; omega
/-- how a trip of one's own is read -/
theorem own_tp2 {w : World} {B T0 o : Nat} {X : List Hx} {vH vS vL : Value} {t : Tm} (h : TrOwn w B T0 o X vH vS vL t) (hr : ∀ k, Rd X k → B ≤ k) : ∃ p : Tp, tmP p = t ∧ OwnTp w B p ∧ p.name = t.name ∧ p.now = t.now ∧ vH = .slice p.ha p.hs.length p.hc ∧ vS = .slice p.sa p.seen.length p.sc ∧ vL = .slice p.la p.lk.length p.lc := by
  obtain ⟨aH, cH, e1, _⟩ := h.houses.rows
  obtain ⟨aS, cS, e2, _⟩ := h.seen.strs
  obtain ⟨aL, cL, e3, _⟩ := h.looks.rows
  have et : tmP ⟨t.name, t.now, X.map Hx.h, aH, cH, t.seen, aS, cS, t.lk, aL, cL⟩ = t := by
    have e := h.hX
    unfold tmP
    rw [List.map_map, show hmS ∘ Hx.h = hmX from rfl, e]
  refine ⟨⟨t.name, t.now, X.map Hx.h, aH, cH, t.seen, aS, cS, t.lk, aL, cL⟩, et, ⟨T0, o, X, ?_, hr, rfl⟩, rfl, rfl, e1, e2, e3⟩
  rw [et]
  dsimp only
  rw [← e1, ← e2, ← e3]
  exact h
end Go.Proofs.YtiennniclkbjlaaGreatDoor.Tn
/- Of the program: so many calls of a trip. -/
namespace Go.Proofs.YtiennniclkbjlaaGreatDoor.TrM
open Go.Proofs.YtiennniclkbjlaaGreatDoor.WdM Go.Proofs.YtiennniclkbjlaaGreatDoor.Wd Go.Proofs.YtiennniclkbjlaaGreatDoor.RoPg Go.Proofs.YtiennniclkbjlaaGreatDoor.Tn
/-- could all these calls be made? -/
def runB (L : List Pg) : Nat → Tm → Bool
  | 0, _ => true
  | n + 1, t => match stepT L t with
    | none => false
    | some t' => runB L n t'
theorem runB_none {L : List Pg} {t : Tm} (h : stepT L t = none) (n : Nat) : runB L (n + 1) t = false := by
  show (match stepT L t with | none => false | some t' => runB L n t') = false
  rw [h]
theorem runB_some {L : List Pg} {t t' : Tm} (h : stepT L t = some t') (n : Nat) : runB L (n + 1) t = runB L n t' := by
  show (match stepT L t with | none => false | some t' => runB L n t') = _
  rw [h]
theorem runB_add {L : List Pg} (a b : Nat) : ∀ (t : Tm), runB L a t = true → runB L (a + b) t = runB L b (runT L a t) := by
  induction a with
  | zero => intro t _; rw [Nat.zero_add]; rfl
  | succ a ih =>
    intro t h
    cases hs : stepT L t with
    | none => rw [runB_none hs] at h; cases h
    | some t' =>
      rw [runB_some hs] at h
      rw [show a + 1 + b = (a + b) + 1 by omega, runB_some hs, run_some hs]
      exact ih t' h
theorem run_stop {L : List Pg} {k n : Nat} {t : Tm} (hk : k < n) (hb : runB L k t = true) (h : stepT L (runT L k t) = none) : runT L n t = runT L k t ∧ runB L n t = false := by
  obtain ⟨d, rfl⟩ : ∃ d, n = k + (d + 1) := ⟨n - k - 1, by omega⟩
  refine ⟨?_, ?_⟩
  · rw [run_add, run_none h]
  · rw [runB_add _ _ _ hb, runB_none h]
theorem run_goes {L : List Pg} {k : Nat} {t t' : Tm} (hb : runB L k t = true) (h : stepT L (runT L k t) = some t') : runT L (k + 1) t = t' ∧ runB L (k + 1) t = true := by
  refine ⟨?_, ?_⟩
  · rw [run_add, run_some h]; rfl
  · rw [runB_add _ _ _ hb, runB_some h]; rfl
theorem step_fewer {L : List Pg} {t t' : Tm} (hk : TmOk t) (hf : t.hs.length ≤ t.seen.length) (h : stepT L t = some t') : t'.hs.length ≤ t'.seen.length := by
  obtain ⟨i, m, g, g', a, k, F, _, _, _, _, _, _, _, e, _⟩ := step_parts hk h
  rw [e]
  exact hears_fewer F (by dsimp only; rw [List.length_set]; exact hf)
theorem run_fewer {L : List Pg} : ∀ (n : Nat) {t : Tm}, TmOk t → t.hs.length ≤ t.seen.length → (runT L n t).hs.length ≤ (runT L n t).seen.length := by
  intro n
  induction n with
  | zero => intro t _ h; exact h
  | succ n ih =>
    intro t hk hf
    cases hs : stepT L t with
    | none => rw [run_none hs]; exact hf
    | some t' => rw [run_some hs]; exact ih (step_ok hk hs) (step_fewer hk hf hs)
end Go.Proofs.YtiennniclkbjlaaGreatDoor.TrM
namespace Go.Proofs.YtiennniclkbjlaaGreatDoor.Tn
open Go.RowKit Go.Proofs.YtiennniclkbjlaaGreatDoor.Bk Go.Proofs.YtiennniclkbjlaaGreatDoor.WdN Go.Proofs.YtiennniclkbjlaaGreatDoor.RoPg Go.Proofs.YtiennniclkbjlaaGreatDoor.EscM Go.Proofs.YtiennniclkbjlaaGreatDoor.AddrM Go.Proofs.YtiennniclkbjlaaGreatDoor.ReadM Go.Proofs.YtiennniclkbjlaaGreatDoor.Rd1 Go.Proofs.YtiennniclkbjlaaGreatDoor.Ad1 Go.Proofs.YtiennniclkbjlaaGreatDoor.RuleM Go.Proofs.YtiennniclkbjlaaGreatDoor.St Go.Proofs.YtiennniclkbjlaaGreatDoor.EscL Go.Proofs.YtiennniclkbjlaaGreatDoor.RR Go.Proofs.YtiennniclkbjlaaGreatDoor.LetM Go.Proofs.YtiennniclkbjlaaGreatDoor.GrM Go.Proofs.YtiennniclkbjlaaGreatDoor.RoIt Go.Proofs.YtiennniclkbjlaaGreatDoor.RoLk Go.Proofs.YtiennniclkbjlaaGreatDoor.RoQ Go.Proofs.YtiennniclkbjlaaGreatDoor.Mp Go.Proofs.YtiennniclkbjlaaGreatDoor.WdM Go.Proofs.YtiennniclkbjlaaGreatDoor.Wd Go.Proofs.YtiennniclkbjlaaGreatDoor.TpM Go.Proofs.YtiennniclkbjlaaGreatDoor.TrM Go.Proofs.YtiennniclkbjlaaGreatDoor.TrW Go.Proofs.YtiennniclkbjlaaGreatDoor.Tq Go.Proofs.YtiennniclkbjlaaGreatDoor.PgM Go.Proofs.YtiennniclkbjlaaGreatDoor.PgA Go.Proofs.YtiennniclkbjlaaGreatDoor.MkA Go.Proofs.YtiennniclkbjlaaGreatDoor.Im Go.Proofs.YtiennniclkbjlaaGreatDoor.Nm

/-- a trip with so many calls more, and the error of one too many; or none, and the error of what is not ok -/
def MadeIs (L : List Pg) (n : Nat) (p : Tp) (ev en : Value) (w : World) (e : Ending) (w' : World) : Prop :=
  if wOk L then ∃ p' : Tp, e = .returned (.tuple #[tpV p', if runB L n (tmP p) then .nilIface else ev]) ∧ tmP p' = TrM.runT L n (tmP p) ∧ OwnTp w' w.heap.size p' ∧ Below w.heap.size w w'
  else e = .returned (.tuple #[tpV tpZ, en]) ∧ Below w.heap.size w w'
set_option maxRecDepth 100000 in
set_option maxHeartbeats 6400000 in
theorem makeCalls_any (b0 : Option Addr) (dap : Nat) (L : List Pg) (p : Tp) (n : Nat) (ea eb : Addr) (w : World) (hM : Mx w) (hev : w.cell? ⟨0, 0, none⟩ = some (.iface 249 (.pointer (some ea)))) (hen : w.cell? ⟨1, 0, none⟩ = some (.iface 249 (.pointer (some eb)))) (hI : IsRows FPg w b0 dap L) (hz : PgSz L) (hAs : PgAs L) (hT : PgTx L) (ht : ∀ p ∈ L, p.text.size ≤ 1000000) (hA : TpAt w p) (hok : TmOk (tmP p)) (hfe : (tmP p).hs.length ≤ (tmP p).seen.length) (hn : n ≤ 400) :
    Calls Tryz.prog 44 #[.slice b0 L.length dap, tpV p, .int .i64 (n : Int)] w fun e w' => MadeIs L n p (.iface 249 (.pointer (some ea))) (.iface 249 (.pointer (some eb))) w e w' := by
  have hsm := small_of hok hfe
  have hpl : p.hs.length ≤ 60 := by
    have h1 : p.hs.length ≤ p.seen.length := by have := hfe; unfold tmP at this; rw [List.length_map] at this; exact this
    have h2 : p.seen.length ≤ 60 := hok.sl
    omega
  have hps : p.seen.length ≤ 60 := hok.sl
  have hpk : p.lk.length ≤ 400 := hok.ll
  have HH : Hid (∀ h ∈ p.hs, h.gr.nm.length ≤ 1000 ∧ h.gr.ru.length ≤ 1000 ∧ h.todo.length ≤ 1000) := fun h hh => by
    have hm : hmS h ∈ (tmP p).hs := List.mem_map_of_mem hh
    have h1 := (hok.hh _ hm).gn
    have h2 := (hok.hh _ hm).rl
    have h3 := (hsm.rules _ hm).2.2
    have e1 : h.gr.nm = [p.name] := h1
    refine ⟨by rw [e1]; exact (show 1 ≤ 1000 by decide), Nat.le_trans h2 (by decide), h3⟩
  have HX0 : Hid (Bs 29 ((w.alloc (.cells #[.string p.name, .int .i64 p.now, .slice p.ha p.hs.length p.hc, .slice p.sa p.seen.length p.sc, .slice p.la p.lk.length p.lc] 29)).alloc (.cells #[.string ⟨#[]⟩, .int .i64 0, .slice none 0 0, .slice none 0 0, .slice none 0 0] 29)) w.heap.size #[.string p.name, .int .i64 p.now, .slice p.ha p.hs.length p.hc, .slice p.sa p.seen.length p.sc, .slice p.la p.lk.length p.lc]) := (Bs.new _ _ _).alloc _
  have HZ0 : Hid (Bs 29 ((w.alloc (.cells #[.string p.name, .int .i64 p.now, .slice p.ha p.hs.length p.hc, .slice p.sa p.seen.length p.sc, .slice p.la p.lk.length p.lc] 29)).alloc (.cells #[.string ⟨#[]⟩, .int .i64 0, .slice none 0 0, .slice none 0 0, .slice none 0 0] 29)) (w.heap.size + 1) #[.string ⟨#[]⟩, .int .i64 0, .slice none 0 0, .slice none 0 0, .slice none 0 0]) := by
    have := Bs.new 29 (w.alloc (.cells #[.string p.name, .int .i64 p.now, .slice p.ha p.hs.length p.hc, .slice p.sa p.seen.length p.sc, .slice p.la p.lk.length p.lc] 29)) #[.string ⟨#[]⟩, .int .i64 0, .slice none 0 0, .slice none 0 0, .slice none 0 0]
    rw [show (w.alloc (.cells #[.string p.name, .int .i64 p.now, .slice p.ha p.hs.length p.hc, .slice p.sa p.seen.length p.sc, .slice p.la p.lk.length p.lc] 29)).heap.size = w.heap.size + 1 by simp] at this
    exact this
  have HB0 : Hid (Below w.heap.size w ((w.alloc (.cells #[.string p.name, .int .i64 p.now, .slice p.ha p.hs.length p.hc, .slice p.sa p.seen.length p.sc, .slice p.la p.lk.length p.lc] 29)).alloc (.cells #[.string ⟨#[]⟩, .int .i64 0, .slice none 0 0, .slice none 0 0, .slice none 0 0] 29))) := ((Below.refl _ w).alloc (Nat.le_refl _) _).alloc (by simp) _
  have HSZ : Hid (((w.alloc (.cells #[.string p.name, .int .i64 p.now, .slice p.ha p.hs.length p.hc, .slice p.sa p.seen.length p.sc, .slice p.la p.lk.length p.lc] 29)).alloc (.cells #[.string ⟨#[]⟩, .int .i64 0, .slice none 0 0, .slice none 0 0, .slice none 0 0] 29)).heap.size = w.heap.size + 2) := by show _ = _; simp
  obtain ⟨w0, hw0⟩ : ∃ w0, (w.alloc (.cells #[.string p.name, .int .i64 p.now, .slice p.ha p.hs.length p.hc, .slice p.sa p.seen.length p.sc, .slice p.la p.lk.length p.lc] 29)).alloc (.cells #[.string ⟨#[]⟩, .int .i64 0, .slice none 0 0, .slice none 0 0, .slice none 0 0] 29) = w0 := ⟨_, rfl⟩
  rw [hw0] at HX0 HZ0 HB0 HSZ
  have HM : Hid (Mx w) := hM
  have HEV : Hid (w.cell? ⟨0, 0, none⟩ = some (.iface 249 (.pointer (some ea)))) := hev
  have HEN : Hid (w.cell? ⟨1, 0, none⟩ = some (.iface 249 (.pointer (some eb)))) := hen
  have HA : Hid (TpAt w p) := hA
  have HOK : Hid (TmOk (tmP p)) := hok
  have HFE : Hid ((tmP p).hs.length ≤ (tmP p).seen.length) := hfe
  have HZ : Hid (PgSz L) := hz
  have HTX : Hid (PgTx L) := hT
  have HTZ : Hid (∀ p ∈ L, p.text.size ≤ 1000000) := ht
  have HWP : Hid (Calls Tryz.prog 51 #[.slice b0 L.length dap] w0 fun e w' => WPages L w0 e w') := worldPages_any b0 dap L w0 (hM.below HB0.out) (hI.below HB0.out) hz hAs
  clear hM hev hen hI hz hAs hT ht hA hok hfe hsm
  unfold tpV
  go_enter Tryz.func44, Tryz.ntmps44
  go_wp2_with fail
  clear hw0
  refine Calls.mono HWP.out ?_
  rintro e w1 ⟨h1, hb1⟩
  have HB1 : Hid (Below w.heap.size w w1) := HB0.out.trans (hb1.mono HB0.out.size)
  have HX1 : Hid (Bs 29 w1 w.heap.size #[.string p.name, .int .i64 p.now, .slice p.ha p.hs.length p.hc, .slice p.sa p.seen.length p.sc, .slice p.la p.lk.length p.lc]) := HX0.out.below hb1
  have HZ1 : Hid (Bs 29 w1 (w.heap.size + 1) #[.string ⟨#[]⟩, .int .i64 0, .slice none 0 0, .slice none 0 0, .slice none 0 0]) := HZ0.out.below hb1
  have HS1 : Hid (w.heap.size + 2 ≤ w1.heap.size) := by rw [← HSZ.out]; exact hb1.size
  clear HWP HX0 HZ0 HB0 hb1
  rcases h1 with ⟨hwk, mb, rfl, hmb, hmap⟩ | ⟨hwk, rfl⟩
  · have HWK : Hid (wOk L = true) := hwk
    have HMB : Hid (w.heap.size + 2 ≤ mb ∧ mb < w1.heap.size) := ⟨by rw [← HSZ.out]; exact hmb, hmap.lt⟩
    have HMP : Hid (IsMap w1 mb (entsL L)) := hmap
    have x0 := HX1.out.cell 0 rfl
    have x1 := HX1.out.cell 1 rfl
    have x2 := HX1.out.cell 2 rfl
    have x3 := HX1.out.cell 3 rfl
    have x4 := HX1.out.cell 4 rfl
    clear hwk hmb hmap
    have hn0 : decide ((n : Int) < 0) = false := decide_eq_false (by omega)
    have hn4 : decide ((400 : Int) < (n : Int)) = false := decide_eq_false (by omega)
    go_wp2_with fail
    refine (tripOk_true p w1 (HM.out.below HB1.out) (HA.out.below HB1.out) HOK.out (by omega) (fun h hh => (HH.out h hh).2.2)).mono ?_
    rintro e w2 ⟨rfl, hb2⟩
    have HB2 : Hid (Below w.heap.size w w2) := HB1.out.trans (hb2.mono HB1.out.size)
    have HX2 : Hid (Bs 29 w2 w.heap.size #[.string p.name, .int .i64 p.now, .slice p.ha p.hs.length p.hc, .slice p.sa p.seen.length p.sc, .slice p.la p.lk.length p.lc]) := HX1.out.below hb2
    have HZ2 : Hid (Bs 29 w2 (w.heap.size + 1) #[.string ⟨#[]⟩, .int .i64 0, .slice none 0 0, .slice none 0 0, .slice none 0 0]) := HZ1.out.below hb2
    have HMP2 : Hid (IsMap w2 mb (entsL L)) := HMP.out.below hb2
    have HS2 : Hid (w1.heap.size ≤ w2.heap.size) := hb2.size
    have y0 := HX2.out.cell 0 rfl
    have y1 := HX2.out.cell 1 rfl
    have y2 := HX2.out.cell 2 rfl
    have y3 := HX2.out.cell 3 rfl
    have y4 := HX2.out.cell 4 rfl
    clear hb2 x0 x1 x2 x3 x4 HX1 HZ1
    go_wp2_with fail
    refine (copyTrip_any p w2 (HA.out.below HB2.out) (by omega) (by omega) (by omega) HH.out).mono ?_
    rintro e w3 ⟨X, vH, vS, vL, Tc, rfl, hT3, hrg, hb3⟩
    obtain ⟨aH, cH, hvH, _⟩ := hT3.houses.rows
    obtain ⟨aS, cS, hvS, _⟩ := hT3.seen.strs
    obtain ⟨aL, cL, hvL, _⟩ := hT3.looks.rows
    rw [List.length_map] at hvH
    subst hvH hvS hvL
    have HB3 : Hid (Below w.heap.size w w3) := HB2.out.trans (hb3.mono HB2.out.size)
    have HZ3 : Hid (Bs 29 w3 (w.heap.size + 1) #[.string ⟨#[]⟩, .int .i64 0, .slice none 0 0, .slice none 0 0, .slice none 0 0]) := HZ2.out.below hb3
    have HMP3 : Hid (IsMap w3 mb (entsL L)) := HMP2.out.below hb3
    have HS3 : Hid (w2.heap.size ≤ w3.heap.size) := hb3.size
    have HT4 : Hid (TrOwn (w3.alloc (.cells #[.map (some mb), .string p.name, .int .i64 p.now, .slice aH X.length cH, .slice aS (tmP p).seen.length cS, .slice aL (tmP p).lk.length cL] 117)) w2.heap.size w3.heap.size 1 X (.slice aH X.length cH) (.slice aS (tmP p).seen.length cS) (.slice aL (tmP p).lk.length cL) (tmP p)) := own_caller hT3 (.map (some mb))
    have HP4 : Hid ((w3.alloc (.cells #[.map (some mb), .string p.name, .int .i64 p.now, .slice aH X.length cH, .slice aS (tmP p).seen.length cS, .slice aL (tmP p).lk.length cL] 117)).cell? ⟨w3.heap.size, 0, none⟩ = some (.map (some mb))) := (Bs.new 117 w3 #[.map (some mb), .string p.name, .int .i64 p.now, .slice aH X.length cH, .slice aS (tmP p).seen.length cS, .slice aL (tmP p).lk.length cL]).cell 0 rfl
    have HRG : Hid (∀ k, Rd X k → w2.heap.size ≤ k) := hrg
    have HB4 : Hid (Below w.heap.size w (w3.alloc (.cells #[.map (some mb), .string p.name, .int .i64 p.now, .slice aH X.length cH, .slice aS (tmP p).seen.length cS, .slice aL (tmP p).lk.length cL] 117))) := HB3.out.alloc HB3.out.size _
    have HZ4 : Hid (Bs 29 (w3.alloc (.cells #[.map (some mb), .string p.name, .int .i64 p.now, .slice aH X.length cH, .slice aS (tmP p).seen.length cS, .slice aL (tmP p).lk.length cL] 117)) (w.heap.size + 1) #[.string ⟨#[]⟩, .int .i64 0, .slice none 0 0, .slice none 0 0, .slice none 0 0]) := HZ3.out.alloc _
    have HMP4 : Hid (IsMap (w3.alloc (.cells #[.map (some mb), .string p.name, .int .i64 p.now, .slice aH X.length cH, .slice aS (tmP p).seen.length cS, .slice aL (tmP p).lk.length cL] 117)) mb (entsL L)) := HMP3.out.alloc _
    have HS4 : Hid (w3.heap.size < (w3.alloc (.cells #[.map (some mb), .string p.name, .int .i64 p.now, .slice aH X.length cH, .slice aS (tmP p).seen.length cS, .slice aL (tmP p).lk.length cL] 117)).heap.size) := by show _ < _; simp
    obtain ⟨T, hT⟩ : ∃ T, w3.heap.size = T := ⟨_, rfl⟩
    have HTT : Hid (w3.heap.size = T) := hT
    obtain ⟨w4, hw4⟩ : ∃ w4, w3.alloc (.cells #[.map (some mb), .string p.name, .int .i64 p.now, .slice aH X.length cH, .slice aS (tmP p).seen.length cS, .slice aL (tmP p).lk.length cL] 117) = w4 := ⟨_, rfl⟩
    have HWW : Hid (w3.alloc (.cells #[.map (some mb), .string p.name, .int .i64 p.now, .slice aH X.length cH, .slice aS (tmP p).seen.length cS, .slice aL (tmP p).lk.length cL] 117) = w4) := hw4
    rw [hw4, hT] at HT4 HS4
    rw [hw4] at HP4 HB4 HZ4 HMP4
    rw [hT] at HP4
    have HMXB : Hid (2 < w2.heap.size) := by
      obtain ⟨m, hm⟩ := HM.out
      have h1 : 2 < w.heap.size := St.cell_block hm
      exact Nat.lt_of_lt_of_le h1 HB2.out.size
    have HECB : Hid (0 < w2.heap.size) := Nat.lt_of_lt_of_le (St.cell_block HEV.out) HB2.out.size
    have HRZ : Hid (w.heap.size + 1 < w2.heap.size ∧ mb < w2.heap.size) := by
      have h1 := HS1.out
      have h2 := HS2.out
      have h3 := HMB.out.2
      exact ⟨by omega, by omega⟩
    clear hT3 hb3 hrg y0 y1 y2 y3 y4 HX2 HZ2 hT HMP HMP2 HMP3 HZ3
    go_wp2_with fail
    clear hw4
    dsimp only [tmP]
    rw [HTT.out]
    go_loopw [40] (fun i wr => ∃ k : Nat, k ≤ n ∧ i = .int .i64 (k : Int) ∧ Hid (TrM.runB L k (tmP p) = true ∧ ∃ X' vH' vS' vL', TrOwn wr w2.heap.size T 1 X' vH' vS' vL' (TrM.runT L k (tmP p)) ∧ Sep w4 wr (Ow T X (.slice aH X.length cH) (.slice aS (tmP p).seen.length cS) (.slice aL (tmP p).lk.length cL)) (Ow T X' vH' vS' vL') ∧ RdK w4 (Rd X) (Rd X') ∧ wr.cell? ⟨T, 0, none⟩ = some (.map (some mb)))) (fun i _ => n - (intOf i).toNat)
    case atStart => exact ⟨0, Nat.zero_le _, rfl, rfl, X, _, _, _, HT4.out, Sep.refl, RdK.refl, HP4.out⟩
    case round =>
      obtain ⟨k, hk, rfl, HR⟩ := hrel
      obtain ⟨hrb, X', vH', vS', vL', hT', hs', hr', hp'⟩ := HR.out
      have HRB : Hid (TrM.runB L k (tmP p) = true) := hrb
      have HT' : Hid (TrOwn wr w2.heap.size T 1 X' vH' vS' vL' (TrM.runT L k (tmP p))) := hT'
      have HSP : Hid _ := hs'
      have HRK : Hid _ := hr'
      have HP' : Hid _ := hp'
      have hlow := hs'.low HT4.out.low HT4.out.hB
      have HBL : Hid (Below w2.heap.size w4 wr) := hlow
      have HBR : Hid (Below w.heap.size w wr) := HB4.out.trans (hlow.mono HB2.out.size)
      have HZR : Hid (Bs 29 wr (w.heap.size + 1) #[.string ⟨#[]⟩, .int .i64 0, .slice none 0 0, .slice none 0 0, .slice none 0 0]) := (hlow.block _ HRZ.out.1).trans HZ4.out
      have HMR : Hid (IsMap wr mb (entsL L)) := HMP4.out.same (hlow.block _ HRZ.out.2)
      have HER : Hid (wr.cell? ⟨0, 0, none⟩ = some (.iface 249 (.pointer (some ea)))) := (HBR.out.cell (St.cell_block HEV.out)).trans HEV.out
      have hR4 : w.heap.size + 1 < w4.heap.size := Nat.lt_of_lt_of_le HRZ.out.1 (Nat.le_trans HS3.out (by have := HS4.out; rw [← HTT.out] at this; exact Nat.le_of_lt this))
      have HNO : Hid (¬ Ow T X' vH' vS' vL' (w.heap.size + 1)) := fun e => by
        have := HT'.out.low _ e
        have := HRZ.out.1
        omega
      have HNR : Hid (¬ Rd X' (w.heap.size + 1)) := HRK.out _ hR4 (fun e => by
        have := HRG.out _ e
        have := HRZ.out.1
        omega)
      have HRE : Hid (∀ k, Rd X' k → w2.heap.size ≤ k) := fun k hk => by
        rcases Nat.lt_or_ge k w2.heap.size with h | h
        · exact absurd hk (HRK.out k (by have h1 := HS3.out; have h2 := HS4.out; have h3 := HTT.out; omega) (fun e => by have := HRG.out k e; omega))
        · exact h
      have HNM : Hid (¬ Ow T X' vH' vS' vL' mb) := fun e => by
        have := HT'.out.low _ e
        have := HRZ.out.2
        omega
      clear hrb hT' hs' hr' hp' hlow HR
      by_cases hlt : k < n
      · have HOKk : Hid (TmOk (TrM.runT L k (tmP p))) := run_ok k HOK.out
        have HFEk : Hid ((TrM.runT L k (tmP p)).hs.length ≤ (TrM.runT L k (tmP p)).seen.length) := run_fewer k HOK.out HFE.out
        have HCL : Hid (Calls Tryz.prog 72 #[.pointer (some ⟨T, 0, none⟩)] wr fun e w' => Called wr (Ow T X' vH' vS' vL') (Rd X') w2.heap.size T mb L (TrM.runT L k (tmP p)) (.iface 249 (.pointer (some ea))) e w') := call_any w2.heap.size T mb X' vH' vS' vL' (TrM.runT L k (tmP p)) L (.iface 249 (.pointer (some ea))) wr (HM.out.below HBR.out) HMXB.out HER.out HT'.out HP'.out HMR.out HNM.out HOKk.out HFEk.out HZ.out HTX.out HTZ.out
        unfold Called at HCL
        cases hst : TrM.stepT L (TrM.runT L k (tmP p)) with
        | none =>
          rw [hst] at HCL
          have HRN : Hid (TrM.runT L k (tmP p) = TrM.runT L n (tmP p) ∧ TrM.runB L n (tmP p) = false) := ⟨(run_stop hlt HRB.out hst).1.symm, (run_stop hlt HRB.out hst).2⟩
          clear hst
          go_wp2_with fail
          refine Calls.mono HCL.out ?_
          rintro e w5 ⟨rfl, hb5⟩
          have HTE : Hid (TrOwn w5 w2.heap.size T 1 X' vH' vS' vL' (TrM.runT L k (tmP p))) := HT'.out.below hb5
          have HZE : Hid (Bs 29 w5 (w.heap.size + 1) #[.string ⟨#[]⟩, .int .i64 0, .slice none 0 0, .slice none 0 0, .slice none 0 0]) := HZR.out.below hb5
          have HBE : Hid (Below w.heap.size w w5) := HBR.out.trans (hb5.mono HBR.out.size)
          clear hb5
          obtain ⟨pf, hpf, hpA, hpn, hpw, ev1, ev2, ev3⟩ := own_tp2 HTE.out HRE.out
          subst ev1 ev2 ev3
          have c0 : w5.cell? ⟨T, 1, none⟩ = some (.string pf.name) := by rw [hpn]; exact HTE.out.c0
          have c1 : w5.cell? ⟨T, 2, none⟩ = some (.int .i64 pf.now) := by rw [hpw]; exact HTE.out.c1
          have c2 : w5.cell? ⟨T, 3, none⟩ = some (.slice pf.ha pf.hs.length pf.hc) := HTE.out.c2
          have c3 : w5.cell? ⟨T, 4, none⟩ = some (.slice pf.sa pf.seen.length pf.sc) := HTE.out.c3
          have c4 : w5.cell? ⟨T, 5, none⟩ = some (.slice pf.la pf.lk.length pf.lc) := HTE.out.c4
          have z0 := HZE.out.cell 0 rfl
          have z1 := HZE.out.cell 1 rfl
          have z2 := HZE.out.cell 2 rfl
          have z3 := HZE.out.cell 3 rfl
          have z4 := HZE.out.cell 4 rfl
          have f0 := HZE.out.free 0
          have f1 := HZE.out.free 1
          have f2 := HZE.out.free 2
          have f3 := HZE.out.free 3
          have f4 := HZE.out.free 4
          have HPF : Hid (tmP pf = TrM.runT L n (tmP p)) := hpf.trans HRN.out.1
          have HPA : Hid (OwnTp _ w2.heap.size pf) := hpA
          clear hpf hpA hpn hpw
          go_wp2_with fail
          have HF : Hid (Bs 29 (((((w5.setCell ⟨w.heap.size + 1, 0, none⟩ (.string pf.name)).setCell ⟨w.heap.size + 1, 1, none⟩ (.int .i64 pf.now)).setCell ⟨w.heap.size + 1, 2, none⟩ (.slice pf.ha pf.hs.length pf.hc)).setCell ⟨w.heap.size + 1, 3, none⟩ (.slice pf.sa pf.seen.length pf.sc)).setCell ⟨w.heap.size + 1, 4, none⟩ (.slice pf.la pf.lk.length pf.lc)) (w.heap.size + 1) #[.string pf.name, .int .i64 pf.now, .slice pf.ha pf.hs.length pf.hc, .slice pf.sa pf.seen.length pf.sc, .slice pf.la pf.lk.length pf.lc]) := ((((HZE.out.set 0 _).set 1 _).set 2 _).set 3 _).set 4 _
          have HBF : Hid (Below w.heap.size w (((((w5.setCell ⟨w.heap.size + 1, 0, none⟩ (.string pf.name)).setCell ⟨w.heap.size + 1, 1, none⟩ (.int .i64 pf.now)).setCell ⟨w.heap.size + 1, 2, none⟩ (.slice pf.ha pf.hs.length pf.hc)).setCell ⟨w.heap.size + 1, 3, none⟩ (.slice pf.sa pf.seen.length pf.sc)).setCell ⟨w.heap.size + 1, 4, none⟩ (.slice pf.la pf.lk.length pf.lc))) := by
            show Below _ _ _
            iterate 5 refine Below.setCell ?_ (by dsimp only; omega) _
            exact HBE.out
          have HPT : Hid (OwnTp (((((w5.setCell ⟨w.heap.size + 1, 0, none⟩ (.string pf.name)).setCell ⟨w.heap.size + 1, 1, none⟩ (.int .i64 pf.now)).setCell ⟨w.heap.size + 1, 2, none⟩ (.slice pf.ha pf.hs.length pf.hc)).setCell ⟨w.heap.size + 1, 3, none⟩ (.slice pf.sa pf.seen.length pf.sc)).setCell ⟨w.heap.size + 1, 4, none⟩ (.slice pf.la pf.lk.length pf.lc)) w2.heap.size pf) := ((((HPA.out.set HRZ.out.1).set HRZ.out.1).set HRZ.out.1).set HRZ.out.1).set HRZ.out.1
          obtain ⟨wf, hwf⟩ : ∃ wf, (((((w5.setCell ⟨w.heap.size + 1, 0, none⟩ (.string pf.name)).setCell ⟨w.heap.size + 1, 1, none⟩ (.int .i64 pf.now)).setCell ⟨w.heap.size + 1, 2, none⟩ (.slice pf.ha pf.hs.length pf.hc)).setCell ⟨w.heap.size + 1, 3, none⟩ (.slice pf.sa pf.seen.length pf.sc)).setCell ⟨w.heap.size + 1, 4, none⟩ (.slice pf.la pf.lk.length pf.lc)) = wf := ⟨_, rfl⟩
          rw [hwf] at HF HBF HPT ⊢
          have y0 := HF.out.cell 0 rfl
          have y1 := HF.out.cell 1 rfl
          have y2 := HF.out.cell 2 rfl
          have y3 := HF.out.cell 3 rfl
          have y4 := HF.out.cell 4 rfl
          refine bodyPost_ret (v := .tuple #[tpV pf, .iface 249 (.pointer (some ea))]) (by simp [results, Tryz.results44, go_sem, y0, y1, y2, y3, y4, tpV]) rfl ?_
          unfold MadeIs
          rw [HWK.out, if_pos rfl]
          exact ⟨pf, by rw [HRN.out.2]; rfl, HPF.out, HPT.out.mono HB2.out.size, HBF.out⟩
        | some t' =>
          rw [hst] at HCL
          have HRN : Hid (TrM.runT L (k + 1) (tmP p) = t' ∧ TrM.runB L (k + 1) (tmP p) = true) := run_goes HRB.out hst
          clear hst
          go_wp2_with (go_at_call 72; refine Calls.mono HCL.out ?_; rintro e w5 ⟨rfl, ⟨X5, vH5, vS5, vL5, q1, q2, q3⟩, q4⟩; have HT5 : Hid (TrOwn w5 w2.heap.size T 1 X5 vH5 vS5 vL5 t') := q1; have HS5 : Hid _ := q2; have HR5 : Hid _ := q3; have HP5 : Hid _ := q4; clear q1 q2 q3 q4)
          go_roundw
          case rel =>
            refine ⟨k + 1, by omega, by go_num, HRN.out.2, X5, vH5, vS5, vL5, ?_, HSP.out.trans HS5.out, RdK.trans HRK.out HR5.out HSP.out.size, HP5.out⟩
            rw [HRN.out.1]; exact HT5.out
          case measure => simp [intOf]; omega
      · have hke : k = n := by omega
        subst hke
        have HRN : Hid (TrM.runT L k (tmP p) = TrM.runT L k (tmP p) ∧ TrM.runB L k (tmP p) = true) := ⟨rfl, HRB.out⟩
        have HTE : Hid (TrOwn wr w2.heap.size T 1 X' vH' vS' vL' (TrM.runT L k (tmP p))) := HT'.out
        have HZE : Hid (Bs 29 wr (w.heap.size + 1) #[.string ⟨#[]⟩, .int .i64 0, .slice none 0 0, .slice none 0 0, .slice none 0 0]) := HZR.out
        have HBE : Hid (Below w.heap.size w wr) := HBR.out
        obtain ⟨pf, hpf, hpA, hpn, hpw, ev1, ev2, ev3⟩ := own_tp2 HTE.out HRE.out
        subst ev1 ev2 ev3
        have c0 : wr.cell? ⟨T, 1, none⟩ = some (.string pf.name) := by rw [hpn]; exact HTE.out.c0
        have c1 : wr.cell? ⟨T, 2, none⟩ = some (.int .i64 pf.now) := by rw [hpw]; exact HTE.out.c1
        have c2 : wr.cell? ⟨T, 3, none⟩ = some (.slice pf.ha pf.hs.length pf.hc) := HTE.out.c2
        have c3 : wr.cell? ⟨T, 4, none⟩ = some (.slice pf.sa pf.seen.length pf.sc) := HTE.out.c3
        have c4 : wr.cell? ⟨T, 5, none⟩ = some (.slice pf.la pf.lk.length pf.lc) := HTE.out.c4
        have z0 := HZE.out.cell 0 rfl
        have z1 := HZE.out.cell 1 rfl
        have z2 := HZE.out.cell 2 rfl
        have z3 := HZE.out.cell 3 rfl
        have z4 := HZE.out.cell 4 rfl
        have f0 := HZE.out.free 0
        have f1 := HZE.out.free 1
        have f2 := HZE.out.free 2
        have f3 := HZE.out.free 3
        have f4 := HZE.out.free 4
        have HPF : Hid (tmP pf = TrM.runT L k (tmP p)) := hpf.trans HRN.out.1
        have HPA : Hid (OwnTp _ w2.heap.size pf) := hpA
        clear hpf hpA hpn hpw
        go_wp2_with fail
        have HF : Hid (Bs 29 (((((wr.setCell ⟨w.heap.size + 1, 0, none⟩ (.string pf.name)).setCell ⟨w.heap.size + 1, 1, none⟩ (.int .i64 pf.now)).setCell ⟨w.heap.size + 1, 2, none⟩ (.slice pf.ha pf.hs.length pf.hc)).setCell ⟨w.heap.size + 1, 3, none⟩ (.slice pf.sa pf.seen.length pf.sc)).setCell ⟨w.heap.size + 1, 4, none⟩ (.slice pf.la pf.lk.length pf.lc)) (w.heap.size + 1) #[.string pf.name, .int .i64 pf.now, .slice pf.ha pf.hs.length pf.hc, .slice pf.sa pf.seen.length pf.sc, .slice pf.la pf.lk.length pf.lc]) := ((((HZE.out.set 0 _).set 1 _).set 2 _).set 3 _).set 4 _
        have HBF : Hid (Below w.heap.size w (((((wr.setCell ⟨w.heap.size + 1, 0, none⟩ (.string pf.name)).setCell ⟨w.heap.size + 1, 1, none⟩ (.int .i64 pf.now)).setCell ⟨w.heap.size + 1, 2, none⟩ (.slice pf.ha pf.hs.length pf.hc)).setCell ⟨w.heap.size + 1, 3, none⟩ (.slice pf.sa pf.seen.length pf.sc)).setCell ⟨w.heap.size + 1, 4, none⟩ (.slice pf.la pf.lk.length pf.lc))) := by
          show Below _ _ _
          iterate 5 refine Below.setCell ?_ (by dsimp only; omega) _
          exact HBE.out
        have HPT : Hid (OwnTp (((((wr.setCell ⟨w.heap.size + 1, 0, none⟩ (.string pf.name)).setCell ⟨w.heap.size + 1, 1, none⟩ (.int .i64 pf.now)).setCell ⟨w.heap.size + 1, 2, none⟩ (.slice pf.ha pf.hs.length pf.hc)).setCell ⟨w.heap.size + 1, 3, none⟩ (.slice pf.sa pf.seen.length pf.sc)).setCell ⟨w.heap.size + 1, 4, none⟩ (.slice pf.la pf.lk.length pf.lc)) w2.heap.size pf) := ((((HPA.out.set HRZ.out.1).set HRZ.out.1).set HRZ.out.1).set HRZ.out.1).set HRZ.out.1
        obtain ⟨wf, hwf⟩ : ∃ wf, (((((wr.setCell ⟨w.heap.size + 1, 0, none⟩ (.string pf.name)).setCell ⟨w.heap.size + 1, 1, none⟩ (.int .i64 pf.now)).setCell ⟨w.heap.size + 1, 2, none⟩ (.slice pf.ha pf.hs.length pf.hc)).setCell ⟨w.heap.size + 1, 3, none⟩ (.slice pf.sa pf.seen.length pf.sc)).setCell ⟨w.heap.size + 1, 4, none⟩ (.slice pf.la pf.lk.length pf.lc)) = wf := ⟨_, rfl⟩
        rw [hwf] at HF HBF HPT ⊢
        have y0 := HF.out.cell 0 rfl
        have y1 := HF.out.cell 1 rfl
        have y2 := HF.out.cell 2 rfl
        have y3 := HF.out.cell 3 rfl
        have y4 := HF.out.cell 4 rfl
        refine bodyPost_ret (v := .tuple #[tpV pf, .nilIface]) (by simp [results, Tryz.results44, go_sem, y0, y1, y2, y3, y4, tpV]) rfl ?_
        unfold MadeIs
        rw [HWK.out, if_pos rfl]
        exact ⟨pf, by rw [HRN.out.2]; rfl, HPF.out, HPT.out.mono HB2.out.size, HBF.out⟩
  · have HWK : Hid (wOk L = false) := hwk
    clear hwk
    have z0 := HZ1.out.cell 0 rfl
    have z1 := HZ1.out.cell 1 rfl
    have z2 := HZ1.out.cell 2 rfl
    have z3 := HZ1.out.cell 3 rfl
    have z4 := HZ1.out.cell 4 rfl
    have f0 := HZ1.out.free 0
    have f1 := HZ1.out.free 1
    have f2 := HZ1.out.free 2
    have f3 := HZ1.out.free 3
    have f4 := HZ1.out.free 4
    have e1 := (HB1.out.cell (St.cell_block HEN.out)).trans HEN.out
    go_wp2_with fail
    have S1 : w1.drew.cell? ⟨1, 0, none⟩ = some (.iface 249 (.pointer (some eb))) := e1
    have HBF : Hid (Below w.heap.size w (((((w1.setCell ⟨w.heap.size + 1, 0, none⟩ (.string ⟨#[]⟩)).setCell ⟨w.heap.size + 1, 1, none⟩ (.int .i64 0)).setCell ⟨w.heap.size + 1, 2, none⟩ (.slice none 0 0)).setCell ⟨w.heap.size + 1, 3, none⟩ (.slice none 0 0)).setCell ⟨w.heap.size + 1, 4, none⟩ (.slice none 0 0)).drew) := by
      show Below _ _ _
      refine Below.drew ?_
      iterate 5 refine Below.setCell ?_ (by dsimp only; omega) _
      exact HB1.out
    have HF : Hid (Bs 29 (((((w1.setCell ⟨w.heap.size + 1, 0, none⟩ (.string ⟨#[]⟩)).setCell ⟨w.heap.size + 1, 1, none⟩ (.int .i64 0)).setCell ⟨w.heap.size + 1, 2, none⟩ (.slice none 0 0)).setCell ⟨w.heap.size + 1, 3, none⟩ (.slice none 0 0)).setCell ⟨w.heap.size + 1, 4, none⟩ (.slice none 0 0)).drew (w.heap.size + 1) #[.string ⟨#[]⟩, .int .i64 0, .slice none 0 0, .slice none 0 0, .slice none 0 0]) := (((((HZ1.out.set 0 _).set 1 _).set 2 _).set 3 _).set 4 _).keep fun _ _ => rfl
    obtain ⟨wf, hwf⟩ : ∃ wf, (((((w1.setCell ⟨w.heap.size + 1, 0, none⟩ (.string ⟨#[]⟩)).setCell ⟨w.heap.size + 1, 1, none⟩ (.int .i64 0)).setCell ⟨w.heap.size + 1, 2, none⟩ (.slice none 0 0)).setCell ⟨w.heap.size + 1, 3, none⟩ (.slice none 0 0)).setCell ⟨w.heap.size + 1, 4, none⟩ (.slice none 0 0)).drew = wf := ⟨_, rfl⟩
    rw [hwf] at HBF HF
    have Sf : wf.cell? ⟨1, 0, none⟩ = some (.iface 249 (.pointer (some eb))) := (HBF.out.cell (St.cell_block HEN.out)).trans HEN.out
    refine wp_region_held_drew (S := fun w' => w'.cell? ⟨1, 0, none⟩ = some (.iface 249 (.pointer (some eb)))) (by kernel_rfl) S1 (fun hHeld => ?_)
    refine wpAnyH_take (i := 0) (oi := ({ dst := some 32, op := Go.Op.build 29 #[], type := 29, pos := "l12_trip.go:250", after := #[], guard := none } : Oper)) (v := ?_) rfl (by kernel_rfl) (by kernel_rfl) (by kernel_rfl) (fun _ _ _ h => h) (Or.inl ⟨by rfl, ?_⟩) hHeld ?_
    rotate_left
    · (intro w hSw; (try dsimp only at hSw); go_simp; try with_reducible rfl)
    try simp only [Act.put, List.setIfInBounds_toArray, List.set_cons_zero, List.set_cons_succ]
    refine wpAnyH_take (i := 1) (oi := ({ dst := some 33, op := Go.Op.load 76 (Go.Operand.global 1), type := 76, pos := "l12_trip.go:250", after := #[{ on := 2, ground := Go.Ground.gcOnly Go.Departure.lateStores }], guard := none } : Oper)) (v := ?_) rfl (by kernel_rfl) (by kernel_rfl) (by kernel_rfl) (fun _ _ _ h => h) (Or.inl ⟨by rfl, ?_⟩) hHeld ?_
    rotate_left
    · (intro w hSw; (try dsimp only at hSw); go_simp; try with_reducible rfl)
    try simp only [Act.put, List.setIfInBounds_toArray, List.set_cons_zero, List.set_cons_succ]
    refine wpAnyH_ready (rs := [2]) (by kernel_rfl) (by simp) ?_
    refine AllReadyH.cons rfl (fun K hK => ?_) AllReadyH.nil
    go_simp
    refine hK.out _ _ Sf (fun hHeld => ?_)
    clear hK K
    refine wpAnyH_take (i := 3) (oi := ({ dst := some 7, op := Go.Op.assign (Go.Operand.tmp 33), type := 76, pos := "l12_trip.go:250", after := #[{ on := 1, ground := Go.Ground.data }, { on := 2, ground := Go.Ground.chain }, { on := 0, ground := Go.Ground.phase }, { on := 1, ground := Go.Ground.phase }, { on := 2, ground := Go.Ground.phase }], guard := none } : Oper)) (v := ?_) rfl (by kernel_rfl) (by kernel_rfl) (by kernel_rfl) (fun _ _ _ h => h) (Or.inl ⟨by rfl, ?_⟩) hHeld ?_
    rotate_left
    · (intro w hSw; (try dsimp only at hSw); go_simp; try with_reducible rfl)
    try simp only [Act.put, List.setIfInBounds_toArray, List.set_cons_zero, List.set_cons_succ]
    refine wpAnyH_done (by kernel_rfl) ?_ _
    clear hwf
    go_wp2_with fail
    have y0 := HF.out.cell 0 rfl
    have y1 := HF.out.cell 1 rfl
    have y2 := HF.out.cell 2 rfl
    have y3 := HF.out.cell 3 rfl
    have y4 := HF.out.cell 4 rfl
    refine bodyPost_ret (v := .tuple #[tpV tpZ, .iface 249 (.pointer (some eb))]) (by simp [results, Tryz.results44, go_sem, y0, y1, y2, y3, y4, tpV, tpZ]) rfl ?_
    unfold MadeIs
    rw [HWK.out, if_neg (by simp)]
    exact ⟨rfl, HBF.out⟩
end Go.Proofs.YtiennniclkbjlaaGreatDoor.Tn
/- Of the text that the law holds against: a trip from some addresses on. -/
namespace Go.Proofs.YtiennniclkbjlaaGreatDoor.Ts
open Go.RowKit Go.Proofs.YtiennniclkbjlaaGreatDoor.EscM Go.Proofs.YtiennniclkbjlaaGreatDoor.AddrM Go.Proofs.YtiennniclkbjlaaGreatDoor.ReadM Go.Proofs.YtiennniclkbjlaaGreatDoor.Rd1 Go.Proofs.YtiennniclkbjlaaGreatDoor.Ad1 Go.Proofs.YtiennniclkbjlaaGreatDoor.RuleM Go.Proofs.YtiennniclkbjlaaGreatDoor.St Go.Proofs.YtiennniclkbjlaaGreatDoor.EscL Go.Proofs.YtiennniclkbjlaaGreatDoor.RR Go.Proofs.YtiennniclkbjlaaGreatDoor.LetM Go.Proofs.YtiennniclkbjlaaGreatDoor.GrM Go.Proofs.YtiennniclkbjlaaGreatDoor.RoIt Go.Proofs.YtiennniclkbjlaaGreatDoor.RoLk Go.Proofs.YtiennniclkbjlaaGreatDoor.RoQ Go.Proofs.YtiennniclkbjlaaGreatDoor.Mp Go.Proofs.YtiennniclkbjlaaGreatDoor.WdM Go.Proofs.YtiennniclkbjlaaGreatDoor.Wd Go.Proofs.YtiennniclkbjlaaGreatDoor.TpM Go.Proofs.YtiennniclkbjlaaGreatDoor.TrM Go.Proofs.YtiennniclkbjlaaGreatDoor.TrW Go.Proofs.YtiennniclkbjlaaGreatDoor.Tq Go.Proofs.YtiennniclkbjlaaGreatDoor.PgA Go.Proofs.YtiennniclkbjlaaGreatDoor.MkA Go.Proofs.YtiennniclkbjlaaGreatDoor.Im Go.Proofs.YtiennniclkbjlaaGreatDoor.Nm Go.Proofs.YtiennniclkbjlaaGreatDoor.Tn

theorem hear_free {t : Tm} (h : ∀ g ∈ t.hs, g.gp.2.1 = []) (x : ByteArray) : ∀ g ∈ (hearT t x).hs, g.gp.2.1 = [] := by
  unfold hearT
  cases normA x with
  | none => exact h
  | some A =>
    dsimp only
    split
    · exact h
    · intro g hg
      rcases put_each _ _ _ _ g hg with hg | ⟨y, hy, _, rfl⟩ | ⟨_, rfl⟩
      · exact h g hg
      · rw [(add_fields A x y).2.1]; exact h y hy
      · rw [(add_fields A x (newH t.name A.house)).2.1]; rfl
theorem hears_free : ∀ (S : List ByteArray) {t : Tm}, (∀ g ∈ t.hs, g.gp.2.1 = []) → ∀ g ∈ (S.foldl hearT t).hs, g.gp.2.1 = [] := by
  intro S
  induction S with
  | nil => intro t h; exact h
  | cons x r ih => intro t h; exact ih (hear_free h x)
theorem hear_skip {t : Tm} {x : ByteArray} (h : normT x = false) : hearT t x = t := by
  rw [normT_eq] at h
  refine hear1_bad ?_
  cases hq : normA x with
  | none => rfl
  | some A => rw [hq] at h; cases h
theorem norm_is {x : ByteArray} (h : normT x = true) : ∃ A, normA x = some A := by
  rw [normT_eq] at h
  exact Option.isSome_iff_exists.1 h
theorem not_own {w : World} {B T0 o N : Nat} {X : List Hx} {vH vS vL : Value} {t : Tm} (h : TrOwn w B T0 o X vH vS vL t) (hN : T0 ≠ N) : ¬ Ow N X vH vS vL T0 := fun hk => by
  rcases hk with hk | hk | hk | hk | ⟨x, hx, hk⟩
  · exact hN hk
  · exact h.a1 _ rfl hk
  · exact h.a2 _ rfl hk
  · exact h.a3 _ rfl hk
  · exact (h.qT x hx).1 _ rfl hk
theorem not_rd {w : World} {B T0 o : Nat} {X : List Hx} {vH vS vL : Value} {t : Tm} (h : TrOwn w B T0 o X vH vS vL t) : ¬ Rd X T0 := fun ⟨x, hx, hk⟩ => by
  rcases hk with hk | hk
  · exact (h.qT x hx).2.1 _ rfl hk
  · exact (h.qT x hx).2.2 _ rfl hk
set_option maxRecDepth 100000 in
set_option maxHeartbeats 3200000 in
theorem specTripNew_any (name : ByteArray) (a0 : Option Addr) (cap : Nat) (S : List ByteArray) (w : World) (hS : IsStrs w a0 cap S) (hn : name.size ≤ 4194304) (hl : S.length ≤ 4194304) (hx : ∀ s ∈ S, s.size ≤ 4194304) :
    Calls Tryz.prog 10 #[.string name, .slice a0 S.length cap] w fun e w' => NewIs name S w e w' := by
  have HS : Hid (IsStrs w a0 cap S) := hS
  have HNM : Hid (∀ W : World, Calls Tryz.prog 30 #[.string name] W fun e w' => e = .returned (.bool (nameB name)) ∧ w' = W) := fun W => specName_any name W (by unfold maxLen; omega)
  have HX : Hid (∀ s ∈ S, s.size ≤ 4194304) := hx
  have HZ : Hid (Bs 29 (w.alloc (.cells #[.string ⟨#[]⟩, .int .i64 0, .slice none 0 0, .slice none 0 0, .slice none 0 0] 29)) w.heap.size #[.string ⟨#[]⟩, .int .i64 0, .slice none 0 0, .slice none 0 0, .slice none 0 0]) := Bs.new _ _ _
  have HBZ : Hid (Below w.heap.size w (w.alloc (.cells #[.string ⟨#[]⟩, .int .i64 0, .slice none 0 0, .slice none 0 0, .slice none 0 0] 29))) := (Below.refl _ w).alloc (Nat.le_refl _) _
  clear hS hx hn
  go_enter Tryz.func10, Tryz.ntmps10
  go_wp2_with fail
  refine (HNM.out _).mono ?_
  rintro e w1 ⟨rfl, rfl⟩
  cases hnb : nameB name with
  | false =>
    have d0 := HZ.out.cell 0 rfl
    have d1 := HZ.out.cell 1 rfl
    have d2 := HZ.out.cell 2 rfl
    have d3 := HZ.out.cell 3 rfl
    have d4 := HZ.out.cell 4 rfl
    have HE : Hid (nameB name = false) := hnb
    go_wp2_with fail
    refine bodyPost_ret (v := .tuple #[tpV tpZ, .bool false]) (by simp [results, Tryz.results10, go_sem, d0, d1, d2, d3, d4, tpV, tpZ]) rfl ?_
    unfold NewIs
    rw [HE.out, Bool.false_and, if_neg (by simp)]
    exact ⟨rfl, HBZ.out⟩
  | true =>
    have HE : Hid (nameB name = true) := hnb
    by_cases h12 : S.length ≤ 12
    · have H12 : Hid (S.length ≤ 12) := h12
      have s1 : (w.alloc (.cells #[.string ⟨#[]⟩, .int .i64 0, .slice none 0 0, .slice none 0 0, .slice none 0 0] 29)).heap.size = w.heap.size + 1 := by simp
      have s2 : ((w.alloc (.cells #[.string ⟨#[]⟩, .int .i64 0, .slice none 0 0, .slice none 0 0, .slice none 0 0] 29)).alloc (.cells #[] 38)).heap.size = w.heap.size + 1 + 1 := by simp
      have s3 : (((w.alloc (.cells #[.string ⟨#[]⟩, .int .i64 0, .slice none 0 0, .slice none 0 0, .slice none 0 0] 29)).alloc (.cells #[] 38)).alloc (.cells #[] 9)).heap.size = w.heap.size + 1 + 1 + 1 := by simp
      have s4 : ((((w.alloc (.cells #[.string ⟨#[]⟩, .int .i64 0, .slice none 0 0, .slice none 0 0, .slice none 0 0] 29)).alloc (.cells #[] 38)).alloc (.cells #[] 9)).alloc (.cells #[] 57)).heap.size = w.heap.size + 1 + 1 + 1 + 1 := by simp
      have b2 : Below (w.heap.size + 1) (w.alloc (.cells #[.string ⟨#[]⟩, .int .i64 0, .slice none 0 0, .slice none 0 0, .slice none 0 0] 29)) ((w.alloc (.cells #[.string ⟨#[]⟩, .int .i64 0, .slice none 0 0, .slice none 0 0, .slice none 0 0] 29)).alloc (.cells #[] 38)) := (Below.refl _ _).alloc (by rw [s1]; exact Nat.le_refl _) _
      have b3 : Below ((w.alloc (.cells #[.string ⟨#[]⟩, .int .i64 0, .slice none 0 0, .slice none 0 0, .slice none 0 0] 29)).alloc (.cells #[] 38)).heap.size ((w.alloc (.cells #[.string ⟨#[]⟩, .int .i64 0, .slice none 0 0, .slice none 0 0, .slice none 0 0] 29)).alloc (.cells #[] 38)) (((w.alloc (.cells #[.string ⟨#[]⟩, .int .i64 0, .slice none 0 0, .slice none 0 0, .slice none 0 0] 29)).alloc (.cells #[] 38)).alloc (.cells #[] 9)) := (Below.refl _ _).alloc (Nat.le_refl _) _
      have b4 : Below (((w.alloc (.cells #[.string ⟨#[]⟩, .int .i64 0, .slice none 0 0, .slice none 0 0, .slice none 0 0] 29)).alloc (.cells #[] 38)).alloc (.cells #[] 9)).heap.size (((w.alloc (.cells #[.string ⟨#[]⟩, .int .i64 0, .slice none 0 0, .slice none 0 0, .slice none 0 0] 29)).alloc (.cells #[] 38)).alloc (.cells #[] 9)) ((((w.alloc (.cells #[.string ⟨#[]⟩, .int .i64 0, .slice none 0 0, .slice none 0 0, .slice none 0 0] 29)).alloc (.cells #[] 38)).alloc (.cells #[] 9)).alloc (.cells #[] 57)) := (Below.refl _ _).alloc (Nat.le_refl _) _
      have b5 : Below ((((w.alloc (.cells #[.string ⟨#[]⟩, .int .i64 0, .slice none 0 0, .slice none 0 0, .slice none 0 0] 29)).alloc (.cells #[] 38)).alloc (.cells #[] 9)).alloc (.cells #[] 57)).heap.size ((((w.alloc (.cells #[.string ⟨#[]⟩, .int .i64 0, .slice none 0 0, .slice none 0 0, .slice none 0 0] 29)).alloc (.cells #[] 38)).alloc (.cells #[] 9)).alloc (.cells #[] 57)) (((((w.alloc (.cells #[.string ⟨#[]⟩, .int .i64 0, .slice none 0 0, .slice none 0 0, .slice none 0 0] 29)).alloc (.cells #[] 38)).alloc (.cells #[] 9)).alloc (.cells #[] 57)).alloc (.cells #[.string name, .int .i64 0, .slice (some ⟨w.heap.size + 1, 0, none⟩) 0 0, .slice (some ⟨w.heap.size + 1 + 1, 0, none⟩) 0 0, .slice (some ⟨w.heap.size + 1 + 1 + 1, 0, none⟩) 0 0] 29)) := (Below.refl _ _).alloc (Nat.le_refl _) _
      have b45 := b4.trans (b5.mono (by rw [s3, s4]; exact Nat.le_succ _))
      have b35 := b3.trans (b45.mono (by rw [s2, s3]; exact Nat.le_succ _))
      have hB5 : Hid (Bs 29 (((((w.alloc (.cells #[.string ⟨#[]⟩, .int .i64 0, .slice none 0 0, .slice none 0 0, .slice none 0 0] 29)).alloc (.cells #[] 38)).alloc (.cells #[] 9)).alloc (.cells #[] 57)).alloc (.cells #[.string name, .int .i64 0, .slice (some ⟨w.heap.size + 1, 0, none⟩) 0 0, .slice (some ⟨w.heap.size + 1 + 1, 0, none⟩) 0 0, .slice (some ⟨w.heap.size + 1 + 1 + 1, 0, none⟩) 0 0] 29)) (w.heap.size + 1 + 1 + 1 + 1) #[.string name, .int .i64 0, .slice (some ⟨w.heap.size + 1, 0, none⟩) 0 0, .slice (some ⟨w.heap.size + 1 + 1, 0, none⟩) 0 0, .slice (some ⟨w.heap.size + 1 + 1 + 1, 0, none⟩) 0 0]) := by
        have := Bs.new 29 ((((w.alloc (.cells #[.string ⟨#[]⟩, .int .i64 0, .slice none 0 0, .slice none 0 0, .slice none 0 0] 29)).alloc (.cells #[] 38)).alloc (.cells #[] 9)).alloc (.cells #[] 57)) #[.string name, .int .i64 0, .slice (some ⟨w.heap.size + 1, 0, none⟩) 0 0, .slice (some ⟨w.heap.size + 1 + 1, 0, none⟩) 0 0, .slice (some ⟨w.heap.size + 1 + 1 + 1, 0, none⟩) 0 0]
        rw [s4] at this; exact this
      have HT0 : Hid (TrOwn (((((w.alloc (.cells #[.string ⟨#[]⟩, .int .i64 0, .slice none 0 0, .slice none 0 0, .slice none 0 0] 29)).alloc (.cells #[] 38)).alloc (.cells #[] 9)).alloc (.cells #[] 57)).alloc (.cells #[.string name, .int .i64 0, .slice (some ⟨w.heap.size + 1, 0, none⟩) 0 0, .slice (some ⟨w.heap.size + 1 + 1, 0, none⟩) 0 0, .slice (some ⟨w.heap.size + 1 + 1 + 1, 0, none⟩) 0 0] 29)) (w.heap.size + 1) (w.heap.size + 1 + 1 + 1 + 1) 0 [] (.slice (some ⟨w.heap.size + 1, 0, none⟩) 0 0) (.slice (some ⟨w.heap.size + 1 + 1, 0, none⟩) 0 0) (.slice (some ⟨w.heap.size + 1 + 1 + 1, 0, none⟩) 0 0) ⟨name, 0, [], [], []⟩) := by
        have o1 : ((w.alloc (.cells #[.string ⟨#[]⟩, .int .i64 0, .slice none 0 0, .slice none 0 0, .slice none 0 0] 29)).alloc (.cells #[] 38)).ownsRow (w.heap.size + 1) 38 8 (.slice (some ⟨w.heap.size + 1, 0, none⟩) 0 0) 0 [] := by
          have := World.ownsRow_made (base := w.heap.size + 1) (e := 38) (size := 8) (w.alloc (.cells #[.string ⟨#[]⟩, .int .i64 0, .slice none 0 0, .slice none 0 0, .slice none 0 0] 29)) #[] 0 (by rw [s1]; exact Nat.le_refl _) (Nat.zero_le _) (by simp)
          rw [s1] at this; exact this
        have o2 : (((w.alloc (.cells #[.string ⟨#[]⟩, .int .i64 0, .slice none 0 0, .slice none 0 0, .slice none 0 0] 29)).alloc (.cells #[] 38)).alloc (.cells #[] 9)).ownsRow (w.heap.size + 1) 9 1 (.slice (some ⟨w.heap.size + 1 + 1, 0, none⟩) 0 0) 0 [] := by
          have := World.ownsRow_made (base := w.heap.size + 1) (e := 9) (size := 1) ((w.alloc (.cells #[.string ⟨#[]⟩, .int .i64 0, .slice none 0 0, .slice none 0 0, .slice none 0 0] 29)).alloc (.cells #[] 38)) #[] 0 (by rw [s2]; exact Nat.le_succ _) (Nat.zero_le _) (by simp)
          rw [s2] at this; exact this
        have o3 : ((((w.alloc (.cells #[.string ⟨#[]⟩, .int .i64 0, .slice none 0 0, .slice none 0 0, .slice none 0 0] 29)).alloc (.cells #[] 38)).alloc (.cells #[] 9)).alloc (.cells #[] 57)).ownsRow (w.heap.size + 1) 57 3 (.slice (some ⟨w.heap.size + 1 + 1 + 1, 0, none⟩) 0 0) 0 [] := by
          have := World.ownsRow_made (base := w.heap.size + 1) (e := 57) (size := 3) (((w.alloc (.cells #[.string ⟨#[]⟩, .int .i64 0, .slice none 0 0, .slice none 0 0, .slice none 0 0] 29)).alloc (.cells #[] 38)).alloc (.cells #[] 9)) #[] 0 (by rw [s3]; exact Nat.le_succ_of_le (Nat.le_succ _)) (Nat.zero_le _) (by simp)
          rw [s3] at this; exact this
        have hb := hB5.out
        have ap : ∀ (i j : Nat), i ≠ j → Ap (some i) (some j) := fun i j h k h1 h2 => h ((Option.some.inj h1).trans (Option.some.inj h2).symm)
        refine ⟨rfl, hb.cell 0 rfl, hb.cell 1 rfl, hb.cell 2 rfl, hb.cell 3 rfl, hb.cell 4 rfl, fun j _ => hb.free _, Nat.le_succ_of_le (Nat.le_succ_of_le (Nat.le_succ _)), ?_, OwnsR.keep (L := ([] : List Hs)) o1 (fun k hk => b35.block k hk), Owns.keep (L := []) o2 (fun k hk => b45.block k hk), OwnsR.keep (L := ([] : List Lk)) o3 (fun k hk => b5.block k hk), (fun x hx => by cases hx), ap _ _ (Nat.ne_of_gt (Nat.lt_succ_of_lt (Nat.lt_succ_of_lt (Nat.lt_succ_self _)))), ap _ _ (Nat.ne_of_gt (Nat.lt_succ_of_lt (Nat.lt_succ_self _))), ap _ _ (Nat.ne_of_gt (Nat.lt_succ_self _)), ap _ _ (Nat.ne_of_lt (Nat.lt_succ_self _)), ap _ _ (Nat.ne_of_lt (Nat.lt_succ_of_lt (Nat.lt_succ_self _))), ap _ _ (Nat.ne_of_lt (Nat.lt_succ_self _)), (fun x hx => by cases hx), (fun x hx => by cases hx), (fun x hx => by cases hx), (fun x hx => by cases hx), List.Pairwise.nil, (fun x hx => by cases hx)⟩
        have := b45.size
        rw [s3] at this
        exact Nat.le_trans (Nat.le_succ_of_le (Nat.le_succ _)) this
      have hb15 : Below (w.heap.size + 1) (w.alloc (.cells #[.string ⟨#[]⟩, .int .i64 0, .slice none 0 0, .slice none 0 0, .slice none 0 0] 29)) (((((w.alloc (.cells #[.string ⟨#[]⟩, .int .i64 0, .slice none 0 0, .slice none 0 0, .slice none 0 0] 29)).alloc (.cells #[] 38)).alloc (.cells #[] 9)).alloc (.cells #[] 57)).alloc (.cells #[.string name, .int .i64 0, .slice (some ⟨w.heap.size + 1, 0, none⟩) 0 0, .slice (some ⟨w.heap.size + 1 + 1, 0, none⟩) 0 0, .slice (some ⟨w.heap.size + 1 + 1 + 1, 0, none⟩) 0 0] 29)) := b2.trans (b35.mono (by rw [s2]; exact Nat.le_succ _))
      have HZ0 : Hid (Bs 29 (((((w.alloc (.cells #[.string ⟨#[]⟩, .int .i64 0, .slice none 0 0, .slice none 0 0, .slice none 0 0] 29)).alloc (.cells #[] 38)).alloc (.cells #[] 9)).alloc (.cells #[] 57)).alloc (.cells #[.string name, .int .i64 0, .slice (some ⟨w.heap.size + 1, 0, none⟩) 0 0, .slice (some ⟨w.heap.size + 1 + 1, 0, none⟩) 0 0, .slice (some ⟨w.heap.size + 1 + 1 + 1, 0, none⟩) 0 0] 29)) w.heap.size #[.string ⟨#[]⟩, .int .i64 0, .slice none 0 0, .slice none 0 0, .slice none 0 0]) := (hb15.block w.heap.size (Nat.lt_succ_self _)).trans HZ.out
      have HB0 : Hid (Below w.heap.size w (((((w.alloc (.cells #[.string ⟨#[]⟩, .int .i64 0, .slice none 0 0, .slice none 0 0, .slice none 0 0] 29)).alloc (.cells #[] 38)).alloc (.cells #[] 9)).alloc (.cells #[] 57)).alloc (.cells #[.string name, .int .i64 0, .slice (some ⟨w.heap.size + 1, 0, none⟩) 0 0, .slice (some ⟨w.heap.size + 1 + 1, 0, none⟩) 0 0, .slice (some ⟨w.heap.size + 1 + 1 + 1, 0, none⟩) 0 0] 29))) := HBZ.out.trans (hb15.mono (Nat.le_succ _))
      clear b2 b3 b4 b5 b45 b35 s1 s2 s3 s4 hb15
      obtain ⟨w5, hw5⟩ : ∃ w5, (((((w.alloc (.cells #[.string ⟨#[]⟩, .int .i64 0, .slice none 0 0, .slice none 0 0, .slice none 0 0] 29)).alloc (.cells #[] 38)).alloc (.cells #[] 9)).alloc (.cells #[] 57)).alloc (.cells #[.string name, .int .i64 0, .slice (some ⟨w.heap.size + 1, 0, none⟩) 0 0, .slice (some ⟨w.heap.size + 1 + 1, 0, none⟩) 0 0, .slice (some ⟨w.heap.size + 1 + 1 + 1, 0, none⟩) 0 0] 29)) = w5 := ⟨_, rfl⟩
      have HW5 : Hid ((((((w.alloc (.cells #[.string ⟨#[]⟩, .int .i64 0, .slice none 0 0, .slice none 0 0, .slice none 0 0] 29)).alloc (.cells #[] 38)).alloc (.cells #[] 9)).alloc (.cells #[] 57)).alloc (.cells #[.string name, .int .i64 0, .slice (some ⟨w.heap.size + 1, 0, none⟩) 0 0, .slice (some ⟨w.heap.size + 1 + 1, 0, none⟩) 0 0, .slice (some ⟨w.heap.size + 1 + 1 + 1, 0, none⟩) 0 0] 29)) = w5) := hw5
      rw [hw5] at HT0 HZ0 HB0 hB5
      clear hw5 hnb h12
      have hdc : decide ((12 : Int) < (S.length : Int)) = false := decide_eq_false (by have := H12.out; omega)
      go_wp2_with fail
      go_loopw [7] (fun i wr => ∃ k : Nat, k ≤ S.length ∧ i = .int .i64 (k : Int) ∧ Hid (∃ (X : List Hx) (aH aS aL : Option Addr) (nH nS nL cH cS cL : Nat), TrOwn wr (w.heap.size + 1) (w.heap.size + 1 + 1 + 1 + 1) 0 X (.slice aH nH cH) (.slice aS nS cS) (.slice aL nL cL) ((S.take k).foldl hearT ⟨name, 0, [], [], []⟩) ∧ Bs 29 wr (w.heap.size + 1 + 1 + 1 + 1) #[.string ((S.take k).foldl hearT ⟨name, 0, [], [], []⟩).name, .int .i64 ((S.take k).foldl hearT ⟨name, 0, [], [], []⟩).now, .slice aH nH cH, .slice aS nS cS, .slice aL nL cL] ∧ Below (w.heap.size + 1) w5 wr ∧ ¬ Rd X w.heap.size)) (fun i _ => S.length - (intOf i).toNat)
      case atStart =>
        refine ⟨0, Nat.zero_le _, rfl, ?_⟩
        rw [HW5.out]
        exact ⟨[], _, _, _, _, _, _, _, _, _, HT0.out, hB5.out, Below.refl _ _, fun ⟨_, h, _⟩ => by cases h⟩
      case round =>
        obtain ⟨k, hk, rfl, X, aH, aS, aL, nH, nS, nL, cH, cS, cL, hT, hb, hbl, hr⟩ := hrel
        have HT : Hid _ := hT
        have HT5 : Hid (Bs 29 wr (w.heap.size + 1 + 1 + 1 + 1) #[.string ((S.take k).foldl hearT ⟨name, 0, [], [], []⟩).name, .int .i64 ((S.take k).foldl hearT ⟨name, 0, [], [], []⟩).now, .slice aH nH cH, .slice aS nS cS, .slice aL nL cL]) := hb
        have HBL : Hid _ := hbl
        have HRD : Hid _ := hr
        have HB : Hid (Below w.heap.size w wr) := HB0.out.trans (hbl.mono (Nat.le_succ _))
        have HZ1 : Hid (Bs 29 wr w.heap.size #[.string ⟨#[]⟩, .int .i64 0, .slice none 0 0, .slice none 0 0, .slice none 0 0]) := (hbl.block w.heap.size (Nat.lt_succ_self _)).trans HZ0.out
        have hS1 := HS.out.below HB.out
        clear hT hb hbl hr
        by_cases hlt : k < S.length
        · obtain ⟨q1, q2, q3, q4⟩ := hS1
          obtain ⟨b, off, e1, hc⟩ := q4 (by intro e; rw [e] at hlt; exact absurd hlt (Nat.not_lt_zero _))
          have hck := hc k hlt
          have HXX : Hid (S[k].size ≤ 4194304) := HX.out S[k] (List.getElem_mem hlt)
          have HTK : Hid ((S.take (k + 1)).foldl hearT ⟨name, 0, [], [], []⟩ = hearT ((S.take k).foldl hearT ⟨name, 0, [], [], []⟩) S[k]) := by
            show _ = _
            rw [List.take_succ_eq_append_getElem hlt, List.foldl_append]; rfl
          subst e1
          clear hc q1 q3 q4
          have HSM : Hid (Small ((S.take k).foldl hearT ⟨name, 0, [], [], []⟩)) := small_of (hears_ok _ (empty_ok HE.out)) (hears_fewer _ (Nat.le_refl _))
          have HFR : Hid (∀ g ∈ ((S.take k).foldl hearT ⟨name, 0, [], [], []⟩).hs, g.gp.2.1 = []) := hears_free _ (fun g hg => by cases hg)
          have HNX : Hid (∃ h, S.take k = h) := ⟨_, rfl⟩
          have HSX : Hid (wr.cell? ⟨b, off + k, none⟩ = some (.string S[k])) := hck
          have HSD : Hid (((S.take k).foldl hearT ⟨name, 0, [], [], []⟩).name = ((S.take k).foldl hearT ⟨name, 0, [], [], []⟩).name) := rfl
          generalize S[k] = x at *
          generalize ((S.take k).foldl hearT ⟨name, 0, [], [], []⟩) = t at *
          cases hno : normT x with
          | false =>
            have HNO : Hid (normT x = false) := hno
            go_wp2_with (go_at_call 31; refine (specNorm_any x _ HXX.out).mono ?_; rintro e w6 ⟨rfl, hb6⟩; rw [HNO.out]; have HB6 : Hid _ := hb6; clear hb6)
            go_roundw
            case rel =>
              refine ⟨k + 1, by omega, by go_num, X, aH, aS, aL, nH, nS, nL, cH, cS, cL, ?_, ?_, HBL.out.trans (HB6.out.mono ?_), HRD.out⟩
              · rw [HTK.out, hear_skip HNO.out]; exact HT.out.below HB6.out
              · rw [HTK.out, hear_skip HNO.out]; exact HT5.out.below HB6.out
              · exact HT.out.hB
            case measure => simp [intOf]; omega
          | true =>
            have HNO : Hid (normT x = true) := hno
            obtain ⟨A0, hA0⟩ := norm_is hno
            have HA0 : Hid (normA x = some A0) := hA0
            clear hA0 hno
            go_wp2_with (go_at_call 31; refine (specNorm_any x _ HXX.out).mono ?_; rintro e w6 ⟨rfl, hb6⟩; rw [HNO.out]; have HB6 : Hid (Below wr.heap.size wr w6.drew) := hb6.drew; clear hb6)
            have HT6 : Hid (TrOwn w6.drew (w.heap.size + 1) (w.heap.size + 1 + 1 + 1 + 1) 0 X (.slice aH nH cH) (.slice aS nS cS) (.slice aL nL cL) t) := HT.out.below HB6.out
            have HX6 : Hid (Bs 29 w6.drew (w.heap.size + 1 + 1 + 1 + 1) #[.string t.name, .int .i64 t.now, .slice aH nH cH, .slice aS nS cS, .slice aL nL cL]) := HT5.out.below HB6.out
            have x0 : w6.drew.cell? ⟨(w.heap.size + 1 + 1 + 1 + 1), 0, none⟩ = _ := HX6.out.cell 0 rfl
            have x1 : w6.drew.cell? ⟨(w.heap.size + 1 + 1 + 1 + 1), 1, none⟩ = _ := HX6.out.cell 1 rfl
            have x2 : w6.drew.cell? ⟨(w.heap.size + 1 + 1 + 1 + 1), 2, none⟩ = _ := HX6.out.cell 2 rfl
            have x3 : w6.drew.cell? ⟨(w.heap.size + 1 + 1 + 1 + 1), 3, none⟩ = _ := HX6.out.cell 3 rfl
            have x4 : w6.drew.cell? ⟨(w.heap.size + 1 + 1 + 1 + 1), 4, none⟩ = _ := HX6.out.cell 4 rfl
            have hck6 : w6.drew.cell? ⟨b, off + k, none⟩ = some (.string x) := (HB6.out.cell (St.cell_block HSX.out)).trans HSX.out
            have HBLT : Hid (b < w.heap.size + 1) := by
              obtain ⟨_, _, _, q4⟩ := HS.out
              obtain ⟨b', off', e', hc'⟩ := q4 (by intro e; rw [e] at hlt; exact absurd hlt (Nat.not_lt_zero _))
              injection e' with e'
              injection e' with e1' _
              subst e1'
              exact Nat.lt_succ_of_lt (St.cell_block (hc' k hlt))
            clear hck
            refine wp_region_held_drew (S := (fun w' => w'.cell? ⟨b, off + k, none⟩ = some (.string x))) (by kernel_rfl) hck6 (fun hHeld => ?_)
            refine wpAnyH_take (i := 1) (oi := ({ dst := some 34, op := Go.Op.move (Go.Operand.tmp 1), type := 23, pos := "l12_trip.go:44", after := #[], guard := none } : Oper)) (v := ?_) rfl (by kernel_rfl) (by kernel_rfl) (by kernel_rfl) (fun _ _ _ h => h) (Or.inl ⟨by rfl, ?_⟩) hHeld ?_
            rotate_left
            · (intro w hSw; (try dsimp only at hSw); go_simp; try with_reducible rfl)
            try simp only [Act.put, List.setIfInBounds_toArray, List.set_cons_zero, List.set_cons_succ]
            refine wpAnyH_take (i := 2) (oi := ({ dst := some 35, op := Go.Op.move (Go.Operand.tmp 7), type := 3, pos := "l12_trip.go:44", after := #[], guard := none } : Oper)) (v := ?_) rfl (by kernel_rfl) (by kernel_rfl) (by kernel_rfl) (fun _ _ _ h => h) (Or.inl ⟨by rfl, ?_⟩) hHeld ?_
            rotate_left
            · (intro w hSw; (try dsimp only at hSw); go_simp; try with_reducible rfl)
            try simp only [Act.put, List.setIfInBounds_toArray, List.set_cons_zero, List.set_cons_succ]
            refine wpAnyH_take (i := 3) (oi := ({ dst := some 36, op := Go.Op.indexAddr 23 (Go.Operand.tmp 34) (Go.Operand.tmp 35), type := 0, pos := "l12_trip.go:44", after := #[{ on := 1, ground := Go.Ground.data }, { on := 2, ground := Go.Ground.data }], guard := none } : Oper)) (v := ?_) rfl (by kernel_rfl) (by kernel_rfl) (by kernel_rfl) (fun _ _ _ h => h) (Or.inl ⟨by rfl, ?_⟩) hHeld ?_
            rotate_left
            · (intro w hSw; (try dsimp only at hSw); go_simp; try with_reducible rfl)
            try simp only [Act.put, List.setIfInBounds_toArray, List.set_cons_zero, List.set_cons_succ]
            refine wpAnyH_take (i := 4) (oi := ({ dst := some 37, op := Go.Op.load 9 (Go.Operand.tmp 36), type := 9, pos := "l12_trip.go:44", after := #[{ on := 3, ground := Go.Ground.data }], guard := none } : Oper)) (v := ?_) rfl (by kernel_rfl) (by kernel_rfl) (by kernel_rfl) (fun _ _ _ h => h) (Or.inl ⟨by rfl, ?_⟩) hHeld ?_
            rotate_left
            · (intro w hSw; (try dsimp only at hSw); go_simp; try with_reducible rfl)
            try simp only [Act.put, List.setIfInBounds_toArray, List.set_cons_zero, List.set_cons_succ]
            refine wpAnyH_ready (rs := [0]) (by kernel_rfl) (by simp) ?_
            refine AllReadyH.cons rfl (fun K hK => ?_) AllReadyH.nil
            go_simp
            refine hK.out _ _ hck6 (fun hHeld => ?_)
            clear hK K
            refine wpAnyH_ready (rs := [5]) (by kernel_rfl) (by simp) ?_
            refine AllReadyH.cons rfl (fun K hK => ?_) AllReadyH.nil
            go_simp
            refine (specHear_any (w.heap.size + 1) (w.heap.size + 1 + 1 + 1 + 1) X aH aS aL nH nS nL cH cS cL t x A0 _ HT6.out HSM.out HXX.out HA0.out HFR.out).mono ?_
            rintro e w7 ⟨T1, X', aH', aS', aL', nH', nS', nL', cH', cS', cL', rfl, hT7, hT1, hs7, hr7⟩
            have hkp := hs7.keep (w.heap.size + 1 + 1 + 1 + 1) HX6.out.lt (not_own HT6.out (Nat.ne_of_lt HX6.out.lt))
            have HX7 : Hid (Bs 29 w7 (w.heap.size + 1 + 1 + 1 + 1) #[.string t.name, .int .i64 t.now, .slice aH nH cH, .slice aS nS cS, .slice aL nL cL]) := hkp.2.trans HX6.out
            have HO7 : Hid (¬ Ow T1 X' (.slice aH' nH' cH') (.slice aS' nS' cS') (.slice aL' nL' cL') (w.heap.size + 1 + 1 + 1 + 1)) := hkp.1
            have HR7 : Hid (¬ Rd X' (w.heap.size + 1 + 1 + 1 + 1)) := hr7 (w.heap.size + 1 + 1 + 1 + 1) HX6.out.lt (not_rd HT6.out)
            have HRP : Hid (¬ Rd X' w.heap.size) := hr7 w.heap.size (Nat.lt_of_lt_of_le (Nat.lt_succ_self _) HT6.out.hB) HRD.out
            have HT7 : Hid (TrOwn w7 (w.heap.size + 1) T1 0 X' (.slice aH' nH' cH') (.slice aS' nS' cS') (.slice aL' nL' cL') (hearT t x)) := hT7
            have hbl7 : Below (w.heap.size + 1) w6.drew w7 := hs7.low (fun k hk => by
              rcases hk with hk | hk
              · rw [hk]; exact HT6.out.hB
              · exact HT6.out.low k (Or.inr hk)) HT6.out.hB
            have HBL7 : Hid (Below (w.heap.size + 1) wr w7) := (HB6.out.mono HT.out.hB).trans hbl7
            have hck7 : w7.cell? ⟨b, off + k, none⟩ = some (.string x) := (hbl7.cell HBLT.out).trans hck6
            have x0' := HX7.out.cell 0 rfl
            have x1' := HX7.out.cell 1 rfl
            have x2' := HX7.out.cell 2 rfl
            have x3' := HX7.out.cell 3 rfl
            have x4' := HX7.out.cell 4 rfl
            have f0 := HX7.out.free 0
            have f1 := HX7.out.free 1
            have f2 := HX7.out.free 2
            have f3 := HX7.out.free 3
            have f4 := HX7.out.free 4
            have hck8 : (((((w7.setCell ⟨(w.heap.size + 1 + 1 + 1 + 1), 0, none⟩ (.string (hearT t x).name)).setCell ⟨(w.heap.size + 1 + 1 + 1 + 1), 1, none⟩ (.int .i64 (hearT t x).now)).setCell ⟨(w.heap.size + 1 + 1 + 1 + 1), 2, none⟩ (.slice aH' nH' cH')).setCell ⟨(w.heap.size + 1 + 1 + 1 + 1), 3, none⟩ (.slice aS' nS' cS')).setCell ⟨(w.heap.size + 1 + 1 + 1 + 1), 4, none⟩ (.slice aL' nL' cL')).cell? ⟨b, off + k, none⟩ = some (.string x) := by
              have hne : (w.heap.size + 1 + 1 + 1 + 1) ≠ b := fun e => by
                have := HBLT.out
                rw [← e] at this
                exact absurd this (Nat.not_lt.2 (Nat.le_succ_of_le (Nat.le_succ_of_le (Nat.le_succ _))))
              rw [World.cell?_setCell_far _ _ _ _ hne, World.cell?_setCell_far _ _ _ _ hne, World.cell?_setCell_far _ _ _ _ hne, World.cell?_setCell_far _ _ _ _ hne, World.cell?_setCell_far _ _ _ _ hne]
              exact hck7
            clear hT7 hT1 hs7 hr7 hkp hbl7
            clear x0 x1 x2 x3 x4
            refine hK.out _ _ hck7 (fun hHeld => ?_)
            clear hK K
            refine wpAnyH_ready (rs := [6]) (by kernel_rfl) (by simp) ?_
            refine AllReadyH.cons rfl (fun K hK => ?_) AllReadyH.nil
            go_simp
            refine hK.out _ _ hck8 (fun hHeld => ?_)
            clear hK K hHeld hck8 hck7
            refine wpAnyH_done (by kernel_rfl) ?_ _
            go_wp2_with fail
            go_roundw
            case rel =>
              refine ⟨k + 1, by omega, by go_num, X', aH', aS', aL', nH', nS', nL', cH', cS', cL', ?_, ?_, ?_, HRP.out⟩
              · rw [HTK.out]
                exact own_move HT7.out HX7.out (Nat.le_succ_of_le (Nat.le_succ_of_le (Nat.le_succ _))) rfl HO7.out HR7.out
              · rw [HTK.out]
                exact ((((HX7.out.set 0 _).set 1 _).set 2 _).set 3 _).set 4 _
              · have hbb := HBL.out.trans HBL7.out
                iterate 5 refine Below.setCell ?_ (Nat.le_succ_of_le (Nat.le_succ_of_le (Nat.le_succ _))) _
                exact hbb
            case measure => simp [intOf]; omega
        · have hkl : k = S.length := by omega
          subst hkl
          have HTE : Hid (TrOwn wr (w.heap.size + 1) (w.heap.size + 1 + 1 + 1 + 1) 0 X (.slice aH nH cH) (.slice aS nS cS) (.slice aL nL cL) (newT name S)) := by
            have := HT.out
            rw [List.take_of_length_le (Nat.le_refl _)] at this; exact this
          have HT5E : Hid (Bs 29 wr (w.heap.size + 1 + 1 + 1 + 1) #[.string (newT name S).name, .int .i64 (newT name S).now, .slice aH nH cH, .slice aS nS cS, .slice aL nL cL]) := by
            have := HT5.out
            rw [List.take_of_length_le (Nat.le_refl _)] at this; exact this
          obtain ⟨p, hp, hpA, hpn, hpw, e1, e2, e3⟩ := own_tp HTE.out
          have x0 := HT5E.out.cell 0 rfl
          have x1 := HT5E.out.cell 1 rfl
          have x2 := HT5E.out.cell 2 rfl
          have x3 := HT5E.out.cell 3 rfl
          have x4 := HT5E.out.cell 4 rfl
          have HPA : Hid (∀ w', TrOwn w' (w.heap.size + 1) (w.heap.size + 1 + 1 + 1 + 1) 0 X (.slice p.ha p.hs.length p.hc) (.slice p.sa p.seen.length p.sc) (.slice p.la p.lk.length p.lc) (newT name S) → TpAt w' p) := by
            rw [← e1, ← e2, ← e3]; exact hpA
          have c0 : wr.cell? ⟨(w.heap.size + 1 + 1 + 1 + 1), 0, none⟩ = some (.string p.name) := by rw [hpn]; exact x0
          have c1 : wr.cell? ⟨(w.heap.size + 1 + 1 + 1 + 1), 1, none⟩ = some (.int .i64 p.now) := by rw [hpw]; exact x1
          have c2 : wr.cell? ⟨(w.heap.size + 1 + 1 + 1 + 1), 2, none⟩ = some (.slice p.ha p.hs.length p.hc) := by rw [← e1]; exact x2
          have c3 : wr.cell? ⟨(w.heap.size + 1 + 1 + 1 + 1), 3, none⟩ = some (.slice p.sa p.seen.length p.sc) := by rw [← e2]; exact x3
          have c4 : wr.cell? ⟨(w.heap.size + 1 + 1 + 1 + 1), 4, none⟩ = some (.slice p.la p.lk.length p.lc) := by rw [← e3]; exact x4
          rw [e1, e2, e3] at HTE
          have z0 := HZ1.out.cell 0 rfl
          have z1 := HZ1.out.cell 1 rfl
          have z2 := HZ1.out.cell 2 rfl
          have z3 := HZ1.out.cell 3 rfl
          have z4 := HZ1.out.cell 4 rfl
          have f0 := HZ1.out.free 0
          have f1 := HZ1.out.free 1
          have f2 := HZ1.out.free 2
          have f3 := HZ1.out.free 3
          have f4 := HZ1.out.free 4
          have HPP : Hid (tmP p = newT name S) := hp
          clear hp hpA hpn hpw hlt hk hS1 x0 x1 x2 x3 x4 e1 e2 e3
          go_wp2_with fail
          have HF : Hid (Bs 29 (((((wr.setCell ⟨w.heap.size, 0, none⟩ (.string p.name)).setCell ⟨w.heap.size, 1, none⟩ (.int .i64 p.now)).setCell ⟨w.heap.size, 2, none⟩ (.slice p.ha p.hs.length p.hc)).setCell ⟨w.heap.size, 3, none⟩ (.slice p.sa p.seen.length p.sc)).setCell ⟨w.heap.size, 4, none⟩ (.slice p.la p.lk.length p.lc)) w.heap.size #[.string p.name, .int .i64 p.now, .slice p.ha p.hs.length p.hc, .slice p.sa p.seen.length p.sc, .slice p.la p.lk.length p.lc]) := ((((HZ1.out.set 0 _).set 1 _).set 2 _).set 3 _).set 4 _
          have hno : ¬ Ow (w.heap.size + 1 + 1 + 1 + 1) X (.slice p.ha p.hs.length p.hc) (.slice p.sa p.seen.length p.sc) (.slice p.la p.lk.length p.lc) w.heap.size := fun h => Nat.not_succ_le_self _ (HTE.out.low _ h)
          have hnr := HRD.out
          have HTF := ((((HTE.out.apart (grown_one w.heap.size 0 (.string p.name)) hno hnr).apart (grown_one w.heap.size 1 (.int .i64 p.now)) hno hnr).apart (grown_one w.heap.size 2 (.slice p.ha p.hs.length p.hc)) hno hnr).apart (grown_one w.heap.size 3 (.slice p.sa p.seen.length p.sc)) hno hnr).apart (grown_one w.heap.size 4 (.slice p.la p.lk.length p.lc)) hno hnr
          have HBF : Hid (Below w.heap.size w (((((wr.setCell ⟨w.heap.size, 0, none⟩ (.string p.name)).setCell ⟨w.heap.size, 1, none⟩ (.int .i64 p.now)).setCell ⟨w.heap.size, 2, none⟩ (.slice p.ha p.hs.length p.hc)).setCell ⟨w.heap.size, 3, none⟩ (.slice p.sa p.seen.length p.sc)).setCell ⟨w.heap.size, 4, none⟩ (.slice p.la p.lk.length p.lc))) := by
            show Below _ _ _
            iterate 5 refine Below.setCell ?_ (by dsimp only; omega) _
            exact HB.out
          have HPF : Hid _ := HPA.out _ HTF
          clear HTF hno hnr
          obtain ⟨wf, hwf⟩ : ∃ wf, (((((wr.setCell ⟨w.heap.size, 0, none⟩ (.string p.name)).setCell ⟨w.heap.size, 1, none⟩ (.int .i64 p.now)).setCell ⟨w.heap.size, 2, none⟩ (.slice p.ha p.hs.length p.hc)).setCell ⟨w.heap.size, 3, none⟩ (.slice p.sa p.seen.length p.sc)).setCell ⟨w.heap.size, 4, none⟩ (.slice p.la p.lk.length p.lc)) = wf := ⟨_, rfl⟩
          rw [hwf] at HF HBF HPF ⊢
          have y0 := HF.out.cell 0 rfl
          have y1 := HF.out.cell 1 rfl
          have y2 := HF.out.cell 2 rfl
          have y3 := HF.out.cell 3 rfl
          have y4 := HF.out.cell 4 rfl
          refine bodyPost_ret (v := .tuple #[tpV p, .bool true]) (by simp [results, Tryz.results10, go_sem, y0, y1, y2, y3, y4, tpV]) rfl ?_
          unfold NewIs
          rw [HE.out, decide_eq_true H12.out, Bool.and_true, if_pos rfl]
          exact ⟨p, rfl, HPP.out, HPF.out, HBF.out⟩
    · have HE2 : Hid (¬ S.length ≤ 12) := h12
      have d0 := HZ.out.cell 0 rfl
      have d1 := HZ.out.cell 1 rfl
      have d2 := HZ.out.cell 2 rfl
      have d3 := HZ.out.cell 3 rfl
      have d4 := HZ.out.cell 4 rfl
      go_wp2_with fail
      refine bodyPost_ret (v := .tuple #[tpV tpZ, .bool false]) (by simp [results, Tryz.results10, go_sem, d0, d1, d2, d3, d4, tpV, tpZ]) rfl ?_
      unfold NewIs
      rw [decide_eq_false HE2.out, Bool.and_false, if_neg (by simp)]
      exact ⟨rfl, HBZ.out⟩
end Go.Proofs.YtiennniclkbjlaaGreatDoor.Ts
/- Of the laws: whether a world, and where one begins, are such. -/
namespace Go.Proofs.YtiennniclkbjlaaGreatDoor.Ts
open Go.RowKit Go.Proofs.YtiennniclkbjlaaGreatDoor.EscM Go.Proofs.YtiennniclkbjlaaGreatDoor.AddrM Go.Proofs.YtiennniclkbjlaaGreatDoor.ReadM Go.Proofs.YtiennniclkbjlaaGreatDoor.Rd1 Go.Proofs.YtiennniclkbjlaaGreatDoor.Ad1 Go.Proofs.YtiennniclkbjlaaGreatDoor.RuleM Go.Proofs.YtiennniclkbjlaaGreatDoor.St Go.Proofs.YtiennniclkbjlaaGreatDoor.EscL Go.Proofs.YtiennniclkbjlaaGreatDoor.RR Go.Proofs.YtiennniclkbjlaaGreatDoor.LetM Go.Proofs.YtiennniclkbjlaaGreatDoor.GrM Go.Proofs.YtiennniclkbjlaaGreatDoor.RoIt Go.Proofs.YtiennniclkbjlaaGreatDoor.RoLk Go.Proofs.YtiennniclkbjlaaGreatDoor.RoPg Go.Proofs.YtiennniclkbjlaaGreatDoor.RoQ Go.Proofs.YtiennniclkbjlaaGreatDoor.Mp Go.Proofs.YtiennniclkbjlaaGreatDoor.WdM Go.Proofs.YtiennniclkbjlaaGreatDoor.Wd Go.Proofs.YtiennniclkbjlaaGreatDoor.TpM Go.Proofs.YtiennniclkbjlaaGreatDoor.TrM Go.Proofs.YtiennniclkbjlaaGreatDoor.TrW Go.Proofs.YtiennniclkbjlaaGreatDoor.Tq Go.Proofs.YtiennniclkbjlaaGreatDoor.PgA Go.Proofs.YtiennniclkbjlaaGreatDoor.MkA Go.Proofs.YtiennniclkbjlaaGreatDoor.Im Go.Proofs.YtiennniclkbjlaaGreatDoor.Nm Go.Proofs.YtiennniclkbjlaaGreatDoor.Tn

set_option maxRecDepth 100000 in
set_option maxHeartbeats 1600000 in
theorem lpFine_any (b0 : Option Addr) (dap : Nat) (L : List Pg) (name : ByteArray) (a0 : Option Addr) (cap : Nat) (S : List ByteArray) (w : World) (hI : IsRows FPg w b0 dap L) (hP : PgSz L) (hS : IsStrs w a0 cap S) (hn : name.size ≤ 4194304) (hl : S.length ≤ 4194304) (hx : ∀ s ∈ S, s.size ≤ 4194304) :
    Calls Tryz.prog 18 #[.slice b0 L.length dap, .string name, .slice a0 S.length cap] w fun e w' => e = .returned (.bool (nameB name && decide (S.length ≤ 12) && wOk L)) ∧ Below w.heap.size w w' := by
  have HN : Hid _ := specTripNew_any name a0 cap S w hS hn hl hx
  have HOK : Hid (∀ W, Below w.heap.size w W → Calls Tryz.prog 46 #[.slice b0 L.length dap] W fun e w' => e = .returned (.bool (wOk L)) ∧ Below W.heap.size W w') := fun W hW => specWorldOk_any b0 dap L W (hI.below hW) hP
  clear hI hP hS hn hx
  generalize wOk L = R at *
  cases hq : (nameB name && decide (S.length ≤ 12)) with
  | false =>
    have HQ : Hid ((nameB name && decide (S.length ≤ 12)) = false) := hq
    clear hq
    go_enter Tryz.func18, Tryz.ntmps18
    go_wp2_with (go_at_call 10; refine Calls.mono HN.out ?_; intro e w2 hz; unfold NewIs at hz; rw [HQ.out, if_neg (by simp)] at hz; obtain ⟨rfl, hb2⟩ := hz; have HB2 : Hid (Below w.heap.size w w2) := hb2; clear hb2; unfold tpV tpZ)
    go_ret
    exact ⟨by rw [Bool.false_and]; rfl, HB2.out.alloc HB2.out.size _⟩
  | true =>
    have HQ : Hid ((nameB name && decide (S.length ≤ 12)) = true) := hq
    clear hq
    go_enter Tryz.func18, Tryz.ntmps18
    go_wp2_with (first
      | (go_at_call 10; refine Calls.mono HN.out ?_; intro e w2 hz; unfold NewIs at hz; rw [HQ.out, if_pos rfl] at hz; obtain ⟨p, rfl, _, _, hb2⟩ := hz; have HB2 : Hid (Below w.heap.size w w2) := hb2; clear hb2; unfold tpV)
      | (go_at_call 46; refine Calls.mono (HOK.out _ (HB2.out.alloc HB2.out.size _)) ?_; rintro e w3 ⟨rfl, hb3⟩; have HB3 : Hid (Below w.heap.size w w3) := (HB2.out.alloc HB2.out.size _).trans (hb3.mono (HB2.out.alloc HB2.out.size _).size); clear hb3))
    go_ret
    exact ⟨by rw [Bool.true_and]; rfl, HB3.out⟩
end Go.Proofs.YtiennniclkbjlaaGreatDoor.Ts
