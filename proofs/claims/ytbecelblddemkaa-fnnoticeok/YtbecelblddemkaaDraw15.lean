/- Groups, some spoilt, are drawn. -/
import Derived.Test.YtbecelblddemkaaGrp4
namespace Go.Proofs.Ytbecelblddemkaa.Dr
open Go.RowKit Go.Proofs.Ytbecelblddemkaa.EscM Go.Proofs.Ytbecelblddemkaa.St Go.Proofs.Ytbecelblddemkaa.RR Go.Proofs.Ytbecelblddemkaa.LetM Go.Proofs.Ytbecelblddemkaa.Nm Go.Proofs.Ytbecelblddemkaa.GrM Go.Proofs.Ytbecelblddemkaa.Gf

theorem own_set {w : World} {base k n g cap j : Nat} {t : TypeId} {y : Value} {xs : List Value} (h : w.ownsRow base t k (.slice (some ⟨g, 0, none⟩) n cap) n xs) : (w.setCell ⟨g, j, none⟩ y).ownsRow base t k (.slice (some ⟨g, 0, none⟩) n cap) n (xs.set j y) := by
  obtain ⟨h1, ⟨hv, _⟩ | ⟨g', cap', cur, hv, hb, hh, h3, h4, h5, h6⟩⟩ := h
  · injection hv with e; cases e
  · injection hv with e1 _ e3
    injection e1 with e1
    injection e1 with e1
    subst e1; subst e3
    refine ⟨by simp [h1], Or.inr ⟨g, cap, cur.setIfInBounds j y, rfl, hb, Bx.set (t := t) hh j y, h3, h4, by simp [h5], ?_⟩⟩
    rw [Array.toList_setIfInBounds, List.take_set, h6]
theorem own_blk {w : World} {base k n g cap : Nat} {t : TypeId} {xs : List Value} (h : w.ownsRow base t k (.slice (some ⟨g, 0, none⟩) n cap) n xs) : ∃ C, Bx t w g C := own_block_type h rfl
theorem own_at0 {w : World} {base k n : Nat} {t : TypeId} {v : Value} {xs : List Value} (h : w.ownsRow base t k v n xs) (hn : 0 < n) : ∃ g cap, v = .slice (some ⟨g, 0, none⟩) n cap ∧ base ≤ g ∧ n ≤ cap ∧ cap ≤ maxLen := by
  obtain ⟨_, ⟨_, h0⟩ | ⟨g, cap, cur, hv, hb, _, h3, h4, _⟩⟩ := h
  · omega
  · exact ⟨g, cap, hv, hb, h3, h4⟩
/-- the rule that is no pattern -/
def rA : Ru := ⟨false, ⟨#[97]⟩⟩
/-- what is drawn here, at most -/
def GrB2 (g : Gr) : Prop := g.nm.length ≤ 2 ∧ (∀ s ∈ g.nm, s.size ≤ 5) ∧ g.ru.length ≤ 5 ∧ (∀ r ∈ g.ru, r.path.size ≤ 16) 
theorem GrB2.sz {g : Gr} (h : GrB2 g) : GrSz g := ⟨by have := h.1; omega, by have := h.2.2.1; omega, fun s hs => Nat.le_trans (h.2.1 s hs) (by decide), fun r hr => Nat.le_trans (h.2.2.2 r hr) (by decide)⟩
theorem GrBd.two {g : Gr} (h : GrBd g) : GrB2 g := ⟨h.1, h.2.1, by have := h.2.2.1; omega, h.2.2.2.1⟩
/-- the first one's Wait is set -/
theorem set_wait {w : World} {base b cap : Nat} {g : Gr} {R : List Gr} (x : Int) (hO : OwnsR FGr 32 w base (.slice (some ⟨b, 0, none⟩) (R.length + 1) cap) (g :: R)) (hG : GrsOwn w base (g :: R)) :
    OwnsR FGr 32 (w.setCell ⟨b, 2, none⟩ (.int .i64 x)) base (.slice (some ⟨b, 0, none⟩) (R.length + 1) cap) ({ g with wait := x } :: R) ∧ GrsOwn (w.setCell ⟨b, 2, none⟩ (.int .i64 x)) base ({ g with wait := x } :: R) := by
  obtain ⟨C, hC⟩ := own_blk hO
  have hs : w.grownBy (w.setCell ⟨b, 2, none⟩ (.int .i64 x)) (some b) := grown_set 2 _
  refine ⟨own_set hO, ?_⟩
  have hk : ∀ u ∈ g :: R, GrOwn (w.setCell ⟨b, 2, none⟩ (.int .i64 x)) base u := fun u hu => ⟨own_type (hG u hu).1 hC (by decide) hs, own_type (hG u hu).2 hC (by decide) hs⟩
  intro u hu
  rcases List.mem_cons.1 hu with rfl | hu
  · exact hk g (List.mem_cons_self ..)
  · exact hk u (List.mem_cons_of_mem _ hu)
/-- the first one has a rule more -/
theorem set_rules {w w1 : World} {base b cap : Nat} {g : Gr} {R : List Gr} {S : List Ru} {a4 : Option Addr} {c4 : Nat} (hO : OwnsR FGr 32 w base (.slice (some ⟨b, 0, none⟩) (R.length + 1) cap) (g :: R)) (hG : GrsOwn w base (g :: R)) (hA : Apart (g :: R))
    (hS : OwnsR FRu 44 w1 base (.slice a4 S.length c4) S) (hg : w.grownBy w1 (Value.slice g.ra g.ru.length g.rc).ownBlock) :
    OwnsR FGr 32 w1 base (.slice (some ⟨b, 0, none⟩) (R.length + 1) cap) (g :: R) ∧
    OwnsR FGr 32 (w1.setCell ⟨b, 1, none⟩ (.slice a4 S.length c4)) base (.slice (some ⟨b, 0, none⟩) (R.length + 1) cap) ({ g with ru := S, ra := a4, rc := c4 } :: R) ∧ GrsOwn (w1.setCell ⟨b, 1, none⟩ (.slice a4 S.length c4)) base ({ g with ru := S, ra := a4, rc := c4 } :: R) := by
  have hO1 : OwnsR FGr 32 w1 base (.slice (some ⟨b, 0, none⟩) (R.length + 1) cap) (g :: R) := own_apart hO (hG g (List.mem_cons_self ..)).2 (by decide) hg
  obtain ⟨C, hC⟩ := own_blk hO1
  have hs : w1.grownBy (w1.setCell ⟨b, 1, none⟩ (.slice a4 S.length c4)) (some b) := grown_set 1 _
  refine ⟨hO1, own_set hO1, ?_⟩
  have hgo := hG g (List.mem_cons_self ..)
  intro u hu
  rcases List.mem_cons.1 hu with rfl | hu
  · exact ⟨own_type (own_apart hgo.1 hgo.2 (by decide) hg) hC (by decide) hs, own_type hS hC (by decide) hs⟩
  · have hu2 := hG u (List.mem_cons_of_mem _ hu)
    have hne := (List.pairwise_cons.1 hA).1 u hu
    have hu3 : OwnsR FRu 44 w1 base (.slice u.ra u.ru.length u.rc) u.ru := by
      refine World.ownsRow.kept hu2.2 hg ?_
      cases hv : (Value.slice u.ra u.ru.length u.rc).ownBlock with
      | none => exact Or.inl rfl
      | some c =>
        right
        intro e
        exact hne c e.symm hv
    exact ⟨own_type (own_apart hu2.1 hgo.2 (by decide) hg) hC (by decide) hs, own_type hu3 hC (by decide) hs⟩

set_option maxRecDepth 100000 in
set_option maxHeartbeats 3200000 in
theorem drawOk_any (a0 : Option Addr) (len cap : Nat) (zs : List Int) (w : World) (h : IsRow .u8 w a0 len cap zs) :
    Calls Try.prog 8 #[.slice a0 len cap] w fun e w' => ∃ (L : List Gr) (a1 : Option Addr) (c1 : Nat), e = .returned (.slice a1 L.length c1) ∧ IsRows FGr w' a1 c1 L ∧ GrsAt w' L ∧ L.length ≤ 4 ∧ (∀ g ∈ L, GrB2 g) ∧ Below w.heap.size w w' := by
  obtain ⟨i0, hi, hz0, hz1, hz2⟩ := info_rule
  go_enter Try.func8, Try.ntmps8
  go_wp2_with fail
  refine (open_any a0 len cap zs w h).mono ?_
  rintro e w1 ⟨rfl, hr1, hb1⟩
  clear h
  have HR1 : Hid (IsRd w.heap.size w1 w.heap.size 0) := hr1
  have HB1 : Hid (Below w.heap.size w w1) := hb1
  have hw1 : w.heap.size < w1.heap.size := hr1.le.2
  clear hr1 hb1
  go_wp2_with fail
  refine (groups_any _ _ _ _ HR1.out (by omega)).mono ?_
  rintro e w2 ⟨L, a1, c1, rfl, hI, hA, hl, hL⟩
  have HI2 : Hid (GI w.heap.size w.heap.size (0 + 44) w1 w2 (.slice a1 L.length c1) L) := hI
  have HL : Hid (∀ g ∈ L, GrBd g) := hL
  have HA : Hid (Apart L) := hA
  have HB2 : Hid (Below w.heap.size w w2) := HB1.out.trans (grown_below hI.2.2.2.1 HB1.out.size (Nat.le_refl _))
  clear hI hL hA
  go_wp2_with fail
  refine (pick_any _ _ _ 3 _ HI2.out.rd (by omega) (by omega) (by omega)).mono ?_
  rintro e w3 ⟨x, rfl, hx, hr3, hg3⟩
  have HI3 : Hid (GI w.heap.size w.heap.size (0 + 44 + 1) w1 w3 (.slice a1 L.length c1) L) := HI2.out.step hg3 hr3
  have HB3 : Hid (Below w.heap.size w w3) := HB2.out.trans (grown_below hg3 HB2.out.size (Nat.le_refl _))
  clear hr3 hg3
  by_cases hx0 : x = 0
  · subst hx0
    cases L with
    | nil =>
      go_wp2
      go_ret
      exact ⟨[], a1, c1, rfl, OwnsR.rowsOf HI3.out.1, HI3.out.2.1.at, by simp, (fun g hg => by cases hg), HB3.out⟩
    | cons g R =>
      obtain ⟨n, hn⟩ : ∃ n, (g :: R).length = n := ⟨_, rfl⟩
      have HN : Hid (n = R.length + 1) := by show n = _; rw [← hn]; rfl
      have hn1 : 1 ≤ n := by rw [HN.out]; omega
      have hl4 : R.length + 1 ≤ 4 := hl
      have hO3 : OwnsR FGr 32 w3 w1.heap.size (.slice a1 (R.length + 1) c1) (g :: R) := HI3.out.1
      obtain ⟨b, cp, hv, hbb, hcp, hcm⟩ := own_at0 hO3 (by simp)
      injection hv with e1 _ e3
      subst e1; subst e3
      have HO3 : Hid (OwnsR FGr 32 w3 w1.heap.size (.slice (some ⟨b, 0, none⟩) (R.length + 1) c1) (g :: R)) := hO3
      have HW3 : Hid (GrsOwn w3 w1.heap.size (g :: R)) := HI3.out.2.1
      have HR3 : Hid (IsRd w.heap.size w3 w.heap.size 45) := HI3.out.rd
      have hrl3 := HR3.out.le.2
      have hbw : w1.heap.size ≤ b := hbb
      have q2 : w3.cell? ⟨b, 2, none⟩ = some (.int .i64 g.wait) := (IsRows.at (OwnsR.rowsOf hO3) (i := 0) (by simp)).elim fun b' h => h.elim fun o' h => by
        obtain ⟨e, hc⟩ := h
        injection e with e; injection e with e1 e2 _
        subst e1; subst e2
        exact hc 2 _ rfl
      clear hO3 hcp hcm HI2 HI3
      rw [hn] at *
      clear hn
      go_wp2_with fail
      refine (pick_any _ _ _ 3 _ (HR3.out.alloc _) (by omega) (by omega) (by omega)).mono ?_
      rintro e w5 ⟨y, rfl, hy, hr5, hg5⟩
      have HR5 : Hid (IsRd w.heap.size w5 w.heap.size 46) := hr5
      have hy' : y < 3 := by omega
      have HO5 : Hid (OwnsR FGr 32 w5 w1.heap.size (.slice (some ⟨b, 0, none⟩) (R.length + 1) c1) (g :: R)) := (HO3.out.keep (alloc_keep _ _)).keptR hg5 hw1
      have HW5 : Hid (GrsOwn w5 w1.heap.size (g :: R)) := (HW3.out.keep (alloc_keep _ _)).keptR hg5 hw1
      have HB5 : Hid (Below w.heap.size w w5) := HB3.out.trans (grown_below (grown_trans (grown_alloc _ _ _) hg5) HB3.out.size (Nat.le_refl _))
      obtain ⟨C5, hC5⟩ := own_blk HO5.out
      have f5 : ∀ j, w5.frozen? ⟨b, j, none⟩ = false := hC5.free
      have d2 : w5.cell? ⟨b, 2, none⟩ = some (.int .i64 g.wait) := by
        have hbl : b < w3.heap.size := cell_block q2
        rw [World.cell?_of_block (w := w3.alloc (.cells #[.int .i64 (-1), .int .i64 21, .int .i64 0] 3)) (hg5.block b (by simp; omega) (by intro e; have := Option.some.inj e; omega))]
        rw [World.cell?_of_block (w := w3) (alloc_keep _ _ b hbl)]; exact q2
      have hlit : Bx 3 w5 w3.heap.size #[.int .i64 (-1), .int .i64 21, .int .i64 0] := (Bx.new 3 w3 _).grown hg5 (by intro e; have := Option.some.inj e; omega)
      obtain ⟨z, hz⟩ : ∃ z, w5.cell? ⟨w3.heap.size, y, none⟩ = some (.int .i64 z) := by
        obtain rfl | rfl | rfl : y = 0 ∨ y = 1 ∨ y = 2 := by omega
        · exact ⟨_, hlit.cell 0 rfl⟩
        · exact ⟨_, hlit.cell 1 rfl⟩
        · exact ⟨_, hlit.cell 2 rfl⟩
      have hss := set_wait z HO5.out HW5.out
      have HO6 : Hid (OwnsR FGr 32 (w5.setCell ⟨b, 2, none⟩ (.int .i64 z)) w1.heap.size (.slice (some ⟨b, 0, none⟩) (R.length + 1) c1) ({ g with wait := z } :: R)) := hss.1
      have HW6 : Hid (GrsOwn (w5.setCell ⟨b, 2, none⟩ (.int .i64 z)) w1.heap.size ({ g with wait := z } :: R)) := hss.2
      have HR6 : Hid (IsRd w.heap.size (w5.setCell ⟨b, 2, none⟩ (.int .i64 z)) w.heap.size 46) := HR5.out.grownRow (base := w1.heap.size) (grown_set 2 _) hw1 (fun k hk => by have := Option.some.inj hk; omega)
      have HB6 : Hid (Below w.heap.size w (w5.setCell ⟨b, 2, none⟩ (.int .i64 z))) := HB5.out.trans (grown_below (grown_set 2 _) HB5.out.size (by omega))
      have HA6 : Hid (Apart ({ g with wait := z } :: R)) := by
        have h := List.pairwise_cons.1 HA.out
        exact List.pairwise_cons.2 ⟨h.1, h.2⟩
      have HL6 : Hid (∀ u ∈ { g with wait := z } :: R, GrB2 u ∧ u.ru.length ≤ 4) := fun u hu => by
        rcases List.mem_cons.1 hu with rfl | hu
        · have h := HL.out g (List.mem_cons_self ..); exact ⟨h.two, h.2.2.1⟩
        · have h := HL.out u (List.mem_cons_of_mem _ hu); exact ⟨h.two, h.2.2.1⟩
      clear hr5 hg5 hlit hC5 HL HA HO3 HW3 HR3 hss
      go_wp2_with fail
      generalize w5.setCell ⟨b, 2, none⟩ (.int .i64 z) = w6 at *
      generalize ({ g with wait := z } : Gr) = g2 at *
      refine (pick_any _ _ _ 2 _ HR6.out (by omega) (by omega) (by omega)).mono ?_
      rintro e w7 ⟨y2, rfl, hy2, hr7, hg7⟩
      have HO7 : Hid (OwnsR FGr 32 w7 w1.heap.size (.slice (some ⟨b, 0, none⟩) (R.length + 1) c1) (g2 :: R)) := HO6.out.keptR hg7 hw1
      have HW7 : Hid (GrsOwn w7 w1.heap.size (g2 :: R)) := HW6.out.keptR hg7 hw1
      have HB7 : Hid (Below w.heap.size w w7) := HB6.out.trans (grown_below hg7 HB6.out.size (Nat.le_refl _))
      clear hr7 hg7
      by_cases hy0 : y2 = 0
      · subst hy0
        have q1 : w7.cell? ⟨b, 1, none⟩ = some (.slice g2.ra g2.ru.length g2.rc) := (IsRows.at (OwnsR.rowsOf HO7.out) (i := 0) (by simp)).elim fun b' h => h.elim fun o' h => by
          obtain ⟨e, hc⟩ := h
          injection e with e; injection e with e1 e2 _
          subst e1; subst e2
          exact hc 1 _ rfl
        have hg2o := HW7.out g2 (List.mem_cons_self ..)
        have HGO : Hid (OwnsR FRu 44 w7 w1.heap.size (.slice g2.ra g2.ru.length g2.rc) g2.ru) := hg2o.2
        obtain ⟨hgb, hg4⟩ := HL6.out g2 (List.mem_cons_self ..)
        have HGB : Hid (GrB2 g2) := hgb
        have HB7s : w1.heap.size ≤ w7.heap.size := by
          have h1 := OwnsR.block HO7.out b rfl
          have h2 := own_lt HO7.out b rfl
          omega
        clear hg2o hgb
        go_wp2_with (at_builtin; refine wpList_append_own _ rfl _ _ 30 rfl w1.heap.size 44 i0 (.agg #[.bool false, .string ⟨#[]⟩]) 2 24 Try.underlying30 hi hz0 hz1 hz2 rfl (by decide) _ _ _ rfl (World.ownsRow.alloc HGO.out _) ⟨w7.heap.size, 0, none⟩ 1 1 (FRu.enc rA) rfl rfl (cell_two_new _ _ _ _) (FRu.one rA) ?c3 ?c4 ?c5 ?_)
        case c3 => unfold maxLen; omega
        case c4 => omega
        case c5 => simp; omega
        intro v8 w8 hown8 hgrow8 _
        have hO8 : OwnsR FRu 44 w8 w1.heap.size v8 (g2.ru ++ [rA]) := OwnsR.append (F := FRu) hown8
        obtain ⟨a4, c4, hv, _⟩ := hO8.rows
        subst hv
        have hsr := set_rules (HO7.out.keep (alloc_keep _ _)) (HW7.out.keep (alloc_keep _ _)) HA6.out hO8 hgrow8
        have hO80 := hsr.1
        have HO8 : Hid (OwnsR FGr 32 (w8.setCell ⟨b, 1, none⟩ (.slice a4 (g2.ru ++ [rA]).length c4)) w1.heap.size (.slice (some ⟨b, 0, none⟩) (R.length + 1) c1) ({ g2 with ru := g2.ru ++ [rA], ra := a4, rc := c4 } :: R)) := hsr.2.1
        have HW8 : Hid (GrsOwn (w8.setCell ⟨b, 1, none⟩ (.slice a4 (g2.ru ++ [rA]).length c4)) w1.heap.size ({ g2 with ru := g2.ru ++ [rA], ra := a4, rc := c4 } :: R)) := hsr.2.2
        have HB8 : Hid (Below w.heap.size w w8) := Below.grown (HB7.out.alloc HB7.out.size _) hgrow8 (by have := HB7.out.size; simp; omega) (fun k hk => Nat.le_trans (Nat.le_of_lt hw1) (OwnsR.block HGO.out k hk))
        have HB9 : Hid (Below w.heap.size w (w8.setCell ⟨b, 1, none⟩ (.slice a4 (g2.ru ++ [rA]).length c4))) := HB8.out.trans (grown_below (grown_set 1 _) HB8.out.size (by omega))
        have p1 : w8.cell? ⟨b, 1, none⟩ = some (.slice g2.ra g2.ru.length g2.rc) := (IsRows.at (OwnsR.rowsOf hO80) (i := 0) (by simp)).elim fun b' h => h.elim fun o' h => by
          obtain ⟨e, hc⟩ := h
          injection e with e; injection e with e1 e2 _
          subst e1; subst e2
          exact hc 1 _ rfl
        obtain ⟨C8, hC8⟩ := own_blk hO80
        have f8 : ∀ j, w8.frozen? ⟨b, j, none⟩ = false := hC8.free
        have HGB2 : Hid (GrB2 { g2 with ru := g2.ru ++ [rA], ra := a4, rc := c4 }) := by
          obtain ⟨h1, h2, h3, h4⟩ := HGB.out
          refine ⟨h1, h2, by simp; omega, ?_⟩
          intro r hr
          rcases List.mem_append.1 hr with hr | hr
          · exact h4 r hr
          · simp at hr; subst hr; show ByteArray.size ⟨#[97]⟩ ≤ 16; decide
        clear hown8 hgrow8 hO8 hsr hO80 hC8
        have hle : (g2.ru ++ [rA]).length = g2.ru.length + 1 := by simp
        rw [hle] at HO8 HW8 HB9
        clear hle
        go_wp2
        go_ret
        refine ⟨{ g2 with ru := g2.ru ++ [rA], ra := a4, rc := c4 } :: R, _, c1, by rw [HN.out]; rfl, OwnsR.rowsOf HO8.out, HW8.out.at, hl4, ?_, HB9.out⟩
        intro u hu
        rcases List.mem_cons.1 hu with rfl | hu
        · exact HGB2.out
        · exact (HL6.out u (List.mem_cons_of_mem _ hu)).1
      · have hy1 : ((y2 : Int) == 0) = false := by simp; omega
        go_wp2
        go_ret
        exact ⟨g2 :: R, _, c1, by rw [HN.out]; rfl, OwnsR.rowsOf HO7.out, HW7.out.at, hl4, fun u hu => (HL6.out u hu).1, HB7.out⟩
  · have hx1 : ((x : Int) == 0) = false := by simp; omega
    go_wp2
    go_ret
    exact ⟨L, a1, c1, rfl, OwnsR.rowsOf HI3.out.1, HI3.out.2.1.at, hl, fun g hg => (HL.out g hg).two, HB3.out⟩
end Go.Proofs.Ytbecelblddemkaa.Dr
