/- A line of a notice is read, of the program: put behind what was read. -/
import Derived.Test.YtacelbhoccckbaaDoorNi2
import Derived.Deep.RegionLaw
namespace Go.Proofs.YtacelbhoccckbaaDoor.NiP
open Go.RowKit Go.Proofs.YtacelbhoccckbaaDoor.EscM Go.Proofs.YtacelbhoccckbaaDoor.EscL Go.Proofs.YtacelbhoccckbaaDoor.RuleM Go.Proofs.YtacelbhoccckbaaDoor.Ru1 Go.Proofs.YtacelbhoccckbaaDoor.ReadM Go.Proofs.YtacelbhoccckbaaDoor.Rd1 Go.Proofs.YtacelbhoccckbaaDoor.St Go.Proofs.YtacelbhoccckbaaDoor.RR Go.Proofs.YtacelbhoccckbaaDoor.LetM Go.Proofs.YtacelbhoccckbaaDoor.Nm Go.Proofs.YtacelbhoccckbaaDoor.GrM Go.Proofs.YtacelbhoccckbaaDoor.Dr Go.Proofs.YtacelbhoccckbaaDoor.NrM Go.Proofs.YtacelbhoccckbaaDoor.NrW Go.Proofs.YtacelbhoccckbaaDoor.NrS Go.Proofs.YtacelbhoccckbaaDoor.Im

theorem new_blkR0 {L : List Gr} : ∀ x ∈ L, ∀ b, ruBlk x = some b → (Value.slice none 0 0).ownBlock ≠ some b := fun _ _ _ _ e => by simp [Value.ownBlock] at e
theorem heap_cell {w w' : World} (e : w'.heap = w.heap) {p : Addr} {v : Value} (h : w.cell? p = some v) : w'.cell? p = some v := by unfold World.cell? at *; rw [e]; exact h
theorem alloc_cell {w : World} (o : Obj) {p : Addr} {v : Value} (h : w.cell? p = some v) : (w.alloc o).cell? p = some v := by
  rw [World.cell?_of_block (w := w) (alloc_keep _ _ _ (St.cell_block h))]; exact h

theorem Tryd.ta_c (x : Value) (w : World) : (Instr.typeAssert (.iface 76 x) 48 76 true).run Tryd.prog w = .ok (.tuple #[x, .bool true]) w := by kernel_rfl
theorem Tryd.ta_r (x : Value) (w : World) : (Instr.typeAssert (.iface 78 x) 48 78 true).run Tryd.prog w = .ok (.tuple #[x, .bool true]) w := by kernel_rfl
theorem Tryd.ta_t (x : Value) (w : World) : (Instr.typeAssert (.iface 80 x) 48 80 true).run Tryd.prog w = .ok (.tuple #[x, .bool true]) w := by kernel_rfl
theorem Tryd.ta_rc (x : Value) (w : World) : (Instr.typeAssert (.iface 78 x) 48 76 true).run Tryd.prog w = .ok (.tuple #[.agg #[.string ⟨#[]⟩], .bool false]) w := by kernel_rfl
theorem Tryd.ta_tc (x : Value) (w : World) : (Instr.typeAssert (.iface 80 x) 48 76 true).run Tryd.prog w = .ok (.tuple #[.agg #[.string ⟨#[]⟩], .bool false]) w := by kernel_rfl
theorem Tryd.ta_tr (x : Value) (w : World) : (Instr.typeAssert (.iface 80 x) 48 78 true).run Tryd.prog w = .ok (.tuple #[.agg #[.bool false, .string ⟨#[]⟩], .bool false]) w := by kernel_rfl
set_option maxRecDepth 100000 in
set_option maxHeartbeats 3200000 in
theorem add_new (base base2 : Nat) (v : Value) (L : List Gr) (rs : ByteArray) (w : World) (h : GsOwn w base base2 v L) (hb : base ≤ w.heap.size) (hb2 : base2 ≤ w.heap.size) (hl : L.length ≤ 1000) (hp : 0 < L.length) :
    Calls Tryd.prog 29 #[v, .bool true, .iface 76 (.agg #[.string rs])] w fun e w' => NrS.Read base base2 w ⟨L.map grp ++ [([rs], [], 0)], false⟩ e w' := by
  obtain ⟨i0, hi, hz0, hz1, hz2⟩ := info_group
  obtain ⟨a0, cap, hv, hI, _⟩ := h.at
  subst hv
  have HG : Hid (GsOwn w base base2 (.slice a0 L.length cap) L) := h
  have hc1 : L.length ≤ cap := hI.1
  have hc2 := hI.2.1
  unfold maxLen at hc2
  clear h hI
  have HN0 : Hid (GsOwn (w.alloc (.cells #[.string rs] 76)) base base2 (.slice a0 L.length cap) L) := HG.out.alloc _
  have HN2 : Hid (GsOwn ((w.alloc (.cells #[.string rs] 76)).alloc (.cells #[.string rs] 9)) base base2 (.slice a0 L.length cap) L) := HN0.out.alloc _
  obtain ⟨g, hg⟩ : ∃ g : Gr, g = ⟨[rs], some ⟨w.heap.size + 1, 0, none⟩, 1, [], none, 0, 0⟩ := ⟨_, rfl⟩
  have HGN : Hid (grp g = ([rs], [], 0)) := by rw [hg]; rfl
  have HEN : Hid (FGr.enc g = [.slice (some ⟨w.heap.size + 1, 0, none⟩) 1 1, .slice none 0 0, .int .i64 0]) := by rw [hg]; rfl
  have hs0 : (w.alloc (.cells #[.string rs] 76)).heap.size = w.heap.size + 1 := by simp
  have HGO : Hid (GrOwn ((w.alloc (.cells #[.string rs] 76)).alloc (.cells #[.string rs] 9)) base2 g) := by
    rw [hg]
    refine ⟨?_, OwnsR.nil _ _ _ _⟩
    have := Owns.lit1 (w.alloc (.cells #[.string rs] 76)) base2 rs (by simp; omega)
    rw [hs0] at this; exact this
  have HDN : Hid (∀ x ∈ L, ∀ b, nmBlk x = some b → nmBlk g ≠ some b) := by rw [hg]; exact new_blk HG.out.2.1 (by omega)
  have HDR : Hid (∀ x ∈ L, ∀ b, ruBlk x = some b → ruBlk g ≠ some b) := by rw [hg]; exact new_blkR0
  have HFR : Hid (Fr base base2 w ((w.alloc (.cells #[.string rs] 76)).alloc (.cells #[.string rs] 9))) := (Fr.alloc base base2 w _ hb hb2).trans (Fr.alloc base base2 _ _ (by simp; omega) (by simp; omega))
  have hsz : ((w.alloc (.cells #[.string rs] 76)).alloc (.cells #[.string rs] 9)).heap.size = w.heap.size + 1 + 1 := by simp
  have HX2 : Hid (∀ j u, (FGr.enc g)[j]? = some u → (((w.alloc (.cells #[.string rs] 76)).alloc (.cells #[.string rs] 9)).alloc (.cells #[.slice (some ⟨w.heap.size + 1, 0, none⟩) 1 1, .slice none 0 0, .int .i64 0] 34)).cell? ((⟨w.heap.size + 1 + 1, 0, none⟩ : Addr).add j) = some u) := HEN.out ▸ cell_three_newE hsz _ _ _ _
  clear hg hsz hs0
  have hng : decide ((L.length : Int) - 1 < 0) = false := decide_eq_false (by omega)
  have ta1 := Tryd.ta_c
  have ta2 := Tryd.ta_r
  have ta3 := Tryd.ta_t
  have ta4 := Tryd.ta_rc
  have ta5 := Tryd.ta_tc
  have ta6 := Tryd.ta_tr
  go_enter Tryd.func29, Tryd.ntmps29
  go_wp2_with (at_builtin; refine wpList_append_own _ rfl _ _ 23 rfl base 34 i0 (.agg #[.slice none 0 0, .slice none 0 0, .int .i64 0]) 3 56 Tryd.underlying23 hi hz0 hz1 hz2 rfl (by decide) _ _ _ rfl (HN2.out.alloc _).1 ⟨w.heap.size + 1 + 1, 0, none⟩ 1 1 (FGr.enc g) rfl rfl HX2.out (FGr.one g) ?c3 ?c4 ?c5 ?_)
  case c3 => first | (unfold maxLen; omega) | (simp [maxLen])
  case c4 => first | omega | simp
  case c5 => simp; omega
  intro v8 w8 hown8 hgrow8 _
  have H8 : Hid (GsOwn w8 base base2 v8 (L ++ [g])) := (HN2.out.alloc _).more (HGO.out.keep (alloc_keep _ _)) HDN.out HDR.out hown8 hgrow8
  have HF8 : Hid (Fr base base2 w w8) := (HFR.out.trans (Fr.alloc base base2 _ _ (by simp; omega) (by simp; omega))).trans (Fr.row (HN2.out.alloc _).1 hgrow8 (by simp; omega))
  clear hown8 hgrow8
  go_wp2
  go_ret2
  exact ⟨v8, L ++ [g], rfl, H8.out, by rw [List.map_append, List.map_cons, List.map_nil, HGN.out], HF8.out⟩
set_option maxRecDepth 100000 in
set_option maxHeartbeats 3200000 in
theorem add_new0 (base base2 : Nat) (v : Value) (bg : Bool) (rs : ByteArray) (w : World) (h : GsOwn w base base2 v []) (hb : base ≤ w.heap.size) (hb2 : base2 ≤ w.heap.size) :
    Calls Tryd.prog 29 #[v, .bool bg, .iface 76 (.agg #[.string rs])] w fun e w' => NrS.Read base base2 w ⟨[([rs], [], 0)], false⟩ e w' := by
  obtain ⟨i0, hi, hz0, hz1, hz2⟩ := info_group
  obtain ⟨a0, cap, hv, hI, _⟩ := h.at
  have hv : v = .slice a0 0 cap := hv
  subst hv
  have HG : Hid (GsOwn w base base2 (.slice a0 0 cap) []) := h
  have hc1 : 0 ≤ cap := hI.1
  have hc2 := hI.2.1
  unfold maxLen at hc2
  clear h hI
  have HN0 : Hid (GsOwn (w.alloc (.cells #[.string rs] 76)) base base2 (.slice a0 0 cap) []) := HG.out.alloc _
  have HN2 : Hid (GsOwn ((w.alloc (.cells #[.string rs] 76)).alloc (.cells #[.string rs] 9)) base base2 (.slice a0 0 cap) []) := HN0.out.alloc _
  obtain ⟨g, hg⟩ : ∃ g : Gr, g = ⟨[rs], some ⟨w.heap.size + 1, 0, none⟩, 1, [], none, 0, 0⟩ := ⟨_, rfl⟩
  have HGN : Hid (grp g = ([rs], [], 0)) := by rw [hg]; rfl
  have HEN : Hid (FGr.enc g = [.slice (some ⟨w.heap.size + 1, 0, none⟩) 1 1, .slice none 0 0, .int .i64 0]) := by rw [hg]; rfl
  have hs0 : (w.alloc (.cells #[.string rs] 76)).heap.size = w.heap.size + 1 := by simp
  have HGO : Hid (GrOwn ((w.alloc (.cells #[.string rs] 76)).alloc (.cells #[.string rs] 9)) base2 g) := by
    rw [hg]
    refine ⟨?_, OwnsR.nil _ _ _ _⟩
    have := Owns.lit1 (w.alloc (.cells #[.string rs] 76)) base2 rs (by simp; omega)
    rw [hs0] at this; exact this
  have HDN : Hid (∀ x ∈ [], ∀ b, nmBlk x = some b → nmBlk g ≠ some b) := by rw [hg]; exact new_blk HG.out.2.1 (by omega)
  have HDR : Hid (∀ x ∈ [], ∀ b, ruBlk x = some b → ruBlk g ≠ some b) := by rw [hg]; exact new_blkR0
  have HFR : Hid (Fr base base2 w ((w.alloc (.cells #[.string rs] 76)).alloc (.cells #[.string rs] 9))) := (Fr.alloc base base2 w _ hb hb2).trans (Fr.alloc base base2 _ _ (by simp; omega) (by simp; omega))
  have hsz : ((w.alloc (.cells #[.string rs] 76)).alloc (.cells #[.string rs] 9)).heap.size = w.heap.size + 1 + 1 := by simp
  have HX2 : Hid (∀ j u, (FGr.enc g)[j]? = some u → (((w.alloc (.cells #[.string rs] 76)).alloc (.cells #[.string rs] 9)).alloc (.cells #[.slice (some ⟨w.heap.size + 1, 0, none⟩) 1 1, .slice none 0 0, .int .i64 0] 34)).cell? ((⟨w.heap.size + 1 + 1, 0, none⟩ : Addr).add j) = some u) := HEN.out ▸ cell_three_newE hsz _ _ _ _
  clear hg hsz hs0
  have ta1 := Tryd.ta_c
  have ta2 := Tryd.ta_r
  have ta3 := Tryd.ta_t
  have ta4 := Tryd.ta_rc
  have ta5 := Tryd.ta_tc
  have ta6 := Tryd.ta_tr
  go_enter Tryd.func29, Tryd.ntmps29
  go_wp2_with (at_builtin; refine wpList_append_own _ rfl _ _ 23 rfl base 34 i0 (.agg #[.slice none 0 0, .slice none 0 0, .int .i64 0]) 3 56 Tryd.underlying23 hi hz0 hz1 hz2 rfl (by decide) _ _ _ rfl (HN2.out.alloc _).1 ⟨w.heap.size + 1 + 1, 0, none⟩ 1 1 (FGr.enc g) rfl rfl HX2.out (FGr.one g) ?c3 ?c4 ?c5 ?_)
  case c3 => first | (unfold maxLen; omega) | (simp [maxLen])
  case c4 => first | omega | simp
  case c5 => simp; omega
  intro v8 w8 hown8 hgrow8 _
  have H8 : Hid (GsOwn w8 base base2 v8 ([] ++ [g])) := (HN2.out.alloc _).more (HGO.out.keep (alloc_keep _ _)) HDN.out HDR.out hown8 hgrow8
  have HF8 : Hid (Fr base base2 w w8) := (HFR.out.trans (Fr.alloc base base2 _ _ (by simp; omega) (by simp; omega))).trans (Fr.row (HN2.out.alloc _).1 hgrow8 (by simp; omega))
  clear hown8 hgrow8
  go_wp2
  go_ret2
  exact ⟨v8, [] ++ [g], rfl, H8.out, by rw [List.map_append, List.map_cons, List.map_nil, HGN.out]; rfl, HF8.out⟩
end Go.Proofs.YtacelbhoccckbaaDoor.NiP
