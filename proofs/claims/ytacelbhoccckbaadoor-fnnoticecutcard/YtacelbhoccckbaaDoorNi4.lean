/- A line of a notice is read, of the program: the last group is written into. -/
import Derived.Test.YtacelbhoccckbaaDoorNi3
namespace Go.Proofs.YtacelbhoccckbaaDoor.NiP
open Go.RowKit Go.Proofs.YtacelbhoccckbaaDoor.EscM Go.Proofs.YtacelbhoccckbaaDoor.EscL Go.Proofs.YtacelbhoccckbaaDoor.RuleM Go.Proofs.YtacelbhoccckbaaDoor.Ru1 Go.Proofs.YtacelbhoccckbaaDoor.ReadM Go.Proofs.YtacelbhoccckbaaDoor.Rd1 Go.Proofs.YtacelbhoccckbaaDoor.St Go.Proofs.YtacelbhoccckbaaDoor.RR Go.Proofs.YtacelbhoccckbaaDoor.LetM Go.Proofs.YtacelbhoccckbaaDoor.Nm Go.Proofs.YtacelbhoccckbaaDoor.GrM Go.Proofs.YtacelbhoccckbaaDoor.Dr Go.Proofs.YtacelbhoccckbaaDoor.NrM Go.Proofs.YtacelbhoccckbaaDoor.NrW Go.Proofs.YtacelbhoccckbaaDoor.NrS Go.Proofs.YtacelbhoccckbaaDoor.Im

set_option maxRecDepth 100000 in
set_option maxHeartbeats 3200000 in
theorem add_name (base base2 n : Nat) (v : Value) (M : List Gr) (g : Gr) (rs : ByteArray) (w : World) (hn : M.length = n) (h : GsOwn w base base2 v (M ++ [g])) (hbb : base ≤ base2) (hb2 : base2 ≤ w.heap.size) (hl : n ≤ 1000) (hl2 : g.nm.length ≤ 1000) :
    Calls Tryd.prog 29 #[v, .bool false, .iface 76 (.agg #[.string rs])] w fun e w' => NrS.Read base base2 w ⟨M.map grp ++ [(g.nm ++ [rs], g.ru, g.wait)], false⟩ e w' := by
  obtain ⟨i9, hi9, hz90, hz91, hz92⟩ := info_parts Tryd.infoS
  obtain ⟨b, cap, hv, hbb1, hblt, f0, c0, c1, c2⟩ := h.last
  rw [hn] at hv c0 c1 c2
  subst hv
  have HG : Hid (GsOwn w base base2 (.slice (some ⟨b, 0, none⟩) (n + 1) cap) (M ++ [g])) := h
  have hI := OwnsR.rowsOf h.1
  have hc1 : n + 1 ≤ cap := by have := hI.1; rw [List.length_append, hn] at this; exact this
  have hc2 := hI.2.1
  unfold maxLen at hc2
  have HN : Hid (M.length = n) := hn
  clear h hI hn
  have hw3 : IntKind.i64.wrap (n : Int) = (n : Int) := IntWalk.i64_in _ (by omega)
  have hn0 : (0 : Int) ≤ (n : Int) := by omega
  have hn1 : (n : Int) ≤ (cap : Int) := by omega
  have hnl : decide ((n : Int) < 0) = false := decide_eq_false (by omega)
  have hn2 : (n : Int) < (n : Int) + 1 := by omega
  have hn3 : n < n + 1 := by omega
  have HA : Hid (GsOwn ((w.alloc (.cells #[.string rs] 76)).alloc (.cells #[.string rs] 9)) base base2 (.slice (some ⟨b, 0, none⟩) (n + 1) cap) (M ++ [g])) := (HG.out.alloc (.cells #[.string rs] 76)).alloc _
  have HNO : Hid (Owns ((w.alloc (.cells #[.string rs] 76)).alloc (.cells #[.string rs] 9)) base2 (.slice g.na g.nm.length g.nc) g.nm) := (HA.out.2.1 g (by simp)).1
  have hs1 : (w.alloc (.cells #[.string rs] 76)).heap.size = w.heap.size + 1 := by simp
  have HX2 : Hid (∀ j u, [Value.string rs][j]? = some u → ((w.alloc (.cells #[.string rs] 76)).alloc (.cells #[.string rs] 9)).cell? ((⟨w.heap.size + 1, 0, none⟩ : Addr).add j) = some u) := by
    have := cell_one_new (w.alloc (.cells #[.string rs] 76)) (.string rs) 9
    rw [hs1] at this; exact this
  have HFA : Hid (Fr base base2 w ((w.alloc (.cells #[.string rs] 76)).alloc (.cells #[.string rs] 9))) := (Fr.alloc base base2 w _ (by omega) hb2).trans (Fr.alloc base base2 _ _ (by simp; omega) (by simp; omega))
  have x0 : (w.alloc (.cells #[.string rs] 76)).cell? ⟨w.heap.size, 0, none⟩ = some (.string rs) := (Bx.new 76 w _).cell 0 rfl
  have p0 : (w.alloc (.cells #[.string rs] 76)).cell? ⟨b, n * 3, none⟩ = some (.slice g.na g.nm.length g.nc) := alloc_cell _ c0
  have p0a : ∀ o, ((w.alloc (.cells #[.string rs] 76)).alloc o).cell? ⟨b, n * 3, none⟩ = some (.slice g.na g.nm.length g.nc) := fun o => alloc_cell o p0
  have p0d : (w.alloc (.cells #[.string rs] 76)).drew.cell? ⟨b, n * 3, none⟩ = some (.slice g.na g.nm.length g.nc) := p0
  have p0ad : ∀ o, ((w.alloc (.cells #[.string rs] 76)).alloc o).drew.cell? ⟨b, n * 3, none⟩ = some (.slice g.na g.nm.length g.nc) := fun o => p0a o
  have p0da : ∀ o, ((w.alloc (.cells #[.string rs] 76)).drew.alloc o).cell? ⟨b, n * 3, none⟩ = some (.slice g.na g.nm.length g.nc) := fun o => p0a o
  clear hs1
  have ta1 := Tryd.ta_c
  have ta2 := Tryd.ta_r
  have ta3 := Tryd.ta_t
  have ta4 := Tryd.ta_rc
  have ta5 := Tryd.ta_tc
  have ta6 := Tryd.ta_tr
  go_enter Tryd.func29, Tryd.ntmps29
  go_wp2
  go_region_law
    (first
    | (refine step_append_lies _ rfl (.tmp 37) (.tmp 40) 31 rfl base2 9 i9 (.string ⟨#[]⟩) 1 16 Tryd.underlying31 hi9 hz90 hz91 hz92 rfl (by decide) (.slice g.na g.nm.length g.nc) g.nm.length (cellsS g.nm) rfl (by exact Owns.heapEq HNO.out rfl) ⟨w.heap.size + 1, 0, none⟩ 1 1 [Value.string rs] rfl rfl (by exact HX2.out) (by intro u hu; simp at hu; subst hu; rfl) (by omega) (by unfold maxLen; omega) (by omega) (by simp; omega) (w.heap.size + 1 + 1) (by simp) ?_
       intro g1 k1 w8 hown8 hgrow8 hat8 hlt8
       have hgA : ((w.alloc (.cells #[.string rs] 76)).alloc (.cells #[.string rs] 9)).grownBy w8 ((.slice g.na g.nm.length g.nc) : Value).ownBlock := by
         refine grown_trans ?_ hgrow8
         exact ⟨rfl, rfl, rfl, Nat.le_refl _, fun _ _ _ => rfl⟩
       have hr8 := HA.out.row1 hgA
       have H9 : Hid (GsOwn (w8.setCell ⟨b, M.length * 3, none⟩ (.slice (some ⟨g1, 0, none⟩) (g.nm.length + 1) k1)) base base2 (.slice (some ⟨b, 0, none⟩) (M.length + 1) cap) (M ++ [{ g with nm := g.nm ++ [rs], na := some ⟨g1, 0, none⟩, nc := k1 }])) := GsOwn.name (by rw [HN.out]; exact HA.out) hown8 hgA hat8 (by simp)
       have HF8 : Hid (Fr base base2 w (w8.setCell ⟨b, M.length * 3, none⟩ (.slice (some ⟨g1, 0, none⟩) (g.nm.length + 1) k1))) := (HFA.out.trans (Fr.far hgA (by simp; omega) (fun k hk => by have := Owns.block HNO.out k hk; omega))).trans (Fr.set hr8 (by have := hgA.size; simp at this; omega))
       have hl8 := row_last hr8
       rw [HN.out] at hl8 H9 HF8
       obtain ⟨f8, q0, q1, q2⟩ := hl8
       clear hown8 hgrow8 hat8 hr8 hgA)
    | fail)
  all_goals
    go_wp2
    go_ret2
    exact ⟨.slice (some ⟨b, 0, none⟩) (n + 1) cap, M ++ [{ g with nm := g.nm ++ [rs], na := some ⟨g1, 0, none⟩, nc := k1 }], rfl, H9.out, by rw [List.map_append]; rfl, HF8.out⟩
set_option maxRecDepth 100000 in
set_option maxHeartbeats 3200000 in
theorem add_rule (base base2 n : Nat) (v : Value) (M : List Gr) (g : Gr) (bg : Bool) (x : Ru) (w : World) (hn : M.length = n) (h : GsOwn w base base2 v (M ++ [g])) (hbb : base ≤ base2) (hb2 : base2 ≤ w.heap.size) (hl : n ≤ 1000) (h6 : g.ru.length < 6) :
    Calls Tryd.prog 29 #[v, .bool bg, .iface 78 (.agg #[.bool x.lt, .string x.path])] w fun e w' => NrS.Read base base2 w ⟨M.map grp ++ [(g.nm, g.ru ++ [x], g.wait)], true⟩ e w' := by
  obtain ⟨i9, hi9, hz90, hz91, hz92⟩ := info_rule
  obtain ⟨b, cap, hv, hbb1, hblt, f0, c0, c1, c2⟩ := h.last
  rw [hn] at hv c0 c1 c2
  subst hv
  have HG : Hid (GsOwn w base base2 (.slice (some ⟨b, 0, none⟩) (n + 1) cap) (M ++ [g])) := h
  have hI := OwnsR.rowsOf h.1
  have hc1 : n + 1 ≤ cap := by have := hI.1; rw [List.length_append, hn] at this; exact this
  have hc2 := hI.2.1
  unfold maxLen at hc2
  have HN : Hid (M.length = n) := hn
  clear h hI hn
  have hw3 : IntKind.i64.wrap (n : Int) = (n : Int) := IntWalk.i64_in _ (by omega)
  have hn0 : (0 : Int) ≤ (n : Int) := by omega
  have hn1 : (n : Int) ≤ (cap : Int) := by omega
  have hnl : decide ((n : Int) < 0) = false := decide_eq_false (by omega)
  have hn2 : (n : Int) < (n : Int) + 1 := by omega
  have hn3 : n < n + 1 := by omega
  have HA : Hid (GsOwn ((w.alloc (.cells #[.bool x.lt, .string x.path] 78)).alloc (.cells #[.bool x.lt, .string x.path] 37)) base base2 (.slice (some ⟨b, 0, none⟩) (n + 1) cap) (M ++ [g])) := (HG.out.alloc (.cells #[.bool x.lt, .string x.path] 78)).alloc _
  have HNO : Hid (OwnsR FRu 37 ((w.alloc (.cells #[.bool x.lt, .string x.path] 78)).alloc (.cells #[.bool x.lt, .string x.path] 37)) base2 (.slice g.ra g.ru.length g.rc) g.ru) := (HA.out.2.1 g (by simp)).2
  have hs1 : (w.alloc (.cells #[.bool x.lt, .string x.path] 78)).heap.size = w.heap.size + 1 := by simp
  have HX2 : Hid (∀ j u, (FRu.enc x)[j]? = some u → ((w.alloc (.cells #[.bool x.lt, .string x.path] 78)).alloc (.cells #[.bool x.lt, .string x.path] 37)).cell? ((⟨w.heap.size + 1, 0, none⟩ : Addr).add j) = some u) := by
    have := cell_two_new (w.alloc (.cells #[.bool x.lt, .string x.path] 78)) (.bool x.lt) (.string x.path) 37
    rw [hs1] at this; exact this
  have HFA : Hid (Fr base base2 w ((w.alloc (.cells #[.bool x.lt, .string x.path] 78)).alloc (.cells #[.bool x.lt, .string x.path] 37))) := (Fr.alloc base base2 w _ (by omega) hb2).trans (Fr.alloc base base2 _ _ (by simp; omega) (by simp; omega))
  have x0 : (w.alloc (.cells #[.bool x.lt, .string x.path] 78)).cell? ⟨w.heap.size, 0, none⟩ = some (.bool x.lt) := (Bx.new 78 w _).cell 0 rfl
  have x1 : (w.alloc (.cells #[.bool x.lt, .string x.path] 78)).cell? ⟨w.heap.size, 1, none⟩ = some (.string x.path) := (Bx.new 78 w _).cell 1 rfl
  have p0 : (w.alloc (.cells #[.bool x.lt, .string x.path] 78)).cell? ⟨b, n * 3 + 1, none⟩ = some (.slice g.ra g.ru.length g.rc) := alloc_cell _ c1
  have p0a : ∀ o, ((w.alloc (.cells #[.bool x.lt, .string x.path] 78)).alloc o).cell? ⟨b, n * 3 + 1, none⟩ = some (.slice g.ra g.ru.length g.rc) := fun o => alloc_cell o p0
  have p0d : (w.alloc (.cells #[.bool x.lt, .string x.path] 78)).drew.cell? ⟨b, n * 3 + 1, none⟩ = some (.slice g.ra g.ru.length g.rc) := p0
  have p0ad : ∀ o, ((w.alloc (.cells #[.bool x.lt, .string x.path] 78)).alloc o).drew.cell? ⟨b, n * 3 + 1, none⟩ = some (.slice g.ra g.ru.length g.rc) := fun o => p0a o
  have p0da : ∀ o, ((w.alloc (.cells #[.bool x.lt, .string x.path] 78)).drew.alloc o).cell? ⟨b, n * 3 + 1, none⟩ = some (.slice g.ra g.ru.length g.rc) := fun o => p0a o
  clear hs1
  have ta1 := Tryd.ta_c
  have ta2 := Tryd.ta_r
  have ta3 := Tryd.ta_t
  have ta4 := Tryd.ta_rc
  have ta5 := Tryd.ta_tc
  have ta6 := Tryd.ta_tr
  go_enter Tryd.func29, Tryd.ntmps29
  go_wp2
  go_region_law
    (first
    | (refine step_append_lies _ rfl (.tmp 63) (.tmp 66) 32 rfl base2 37 i9 (.agg #[.bool false, .string ⟨#[]⟩]) 2 24 Tryd.underlying32 hi9 hz90 hz91 hz92 rfl (by decide) (.slice g.ra g.ru.length g.rc) g.ru.length (FRu.cells g.ru) rfl (by exact OwnsR.heapEq HNO.out rfl) ⟨w.heap.size + 1, 0, none⟩ 1 1 (FRu.enc x) rfl rfl (by exact HX2.out) (FRu.one x) (by omega) (by unfold maxLen; omega) (by omega) (by simp; omega) (w.heap.size + 1 + 1) (by simp) ?_
       intro g1 k1 w8 hown8 hgrow8 hat8 hlt8
       have hgA : ((w.alloc (.cells #[.bool x.lt, .string x.path] 78)).alloc (.cells #[.bool x.lt, .string x.path] 37)).grownBy w8 ((.slice g.ra g.ru.length g.rc) : Value).ownBlock := by
         refine grown_trans ?_ hgrow8
         exact ⟨rfl, rfl, rfl, Nat.le_refl _, fun _ _ _ => rfl⟩
       have hr8 := HA.out.row2 hgA
       have H9 : Hid (GsOwn (w8.setCell ⟨b, M.length * 3 + 1, none⟩ (.slice (some ⟨g1, 0, none⟩) (g.ru.length + 1) k1)) base base2 (.slice (some ⟨b, 0, none⟩) (M.length + 1) cap) (M ++ [{ g with ru := g.ru ++ [x], ra := some ⟨g1, 0, none⟩, rc := k1 }])) := GsOwn.rule (by rw [HN.out]; exact HA.out) hown8 hgA hat8 (by simp)
       have HF8 : Hid (Fr base base2 w (w8.setCell ⟨b, M.length * 3 + 1, none⟩ (.slice (some ⟨g1, 0, none⟩) (g.ru.length + 1) k1))) := (HFA.out.trans (Fr.far hgA (by simp; omega) (fun k hk => by have := OwnsR.block HNO.out k hk; omega))).trans (Fr.set hr8 (by have := hgA.size; simp at this; omega))
       have hl8 := row_last hr8
       rw [HN.out] at hl8 H9 HF8
       obtain ⟨f8, q0, q1, q2⟩ := hl8
       clear hown8 hgrow8 hat8 hr8 hgA)
    | fail)
  all_goals
    go_wp2
    go_ret2
    exact ⟨.slice (some ⟨b, 0, none⟩) (n + 1) cap, M ++ [{ g with ru := g.ru ++ [x], ra := some ⟨g1, 0, none⟩, rc := k1 }], rfl, H9.out, by rw [List.map_append]; rfl, HF8.out⟩
end Go.Proofs.YtacelbhoccckbaaDoor.NiP
