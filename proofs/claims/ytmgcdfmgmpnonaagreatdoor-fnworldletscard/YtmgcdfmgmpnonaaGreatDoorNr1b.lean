/- A line of a notice is read, of the model: a name more. -/
import Derived.Test.YtmgcdfmgmpnonaaGreatDoorNr1
namespace Go.Proofs.YtmgcdfmgmpnonaaGreatDoor.NrS
open Go.RowKit Go.Proofs.YtmgcdfmgmpnonaaGreatDoor.EscM Go.Proofs.YtmgcdfmgmpnonaaGreatDoor.EscL Go.Proofs.YtmgcdfmgmpnonaaGreatDoor.RuleM Go.Proofs.YtmgcdfmgmpnonaaGreatDoor.Ru1 Go.Proofs.YtmgcdfmgmpnonaaGreatDoor.ReadM Go.Proofs.YtmgcdfmgmpnonaaGreatDoor.St Go.Proofs.YtmgcdfmgmpnonaaGreatDoor.RR Go.Proofs.YtmgcdfmgmpnonaaGreatDoor.LetM Go.Proofs.YtmgcdfmgmpnonaaGreatDoor.Nm Go.Proofs.YtmgcdfmgmpnonaaGreatDoor.GrM Go.Proofs.YtmgcdfmgmpnonaaGreatDoor.Dr Go.Proofs.YtmgcdfmgmpnonaaGreatDoor.NrM Go.Proofs.YtmgcdfmgmpnonaaGreatDoor.NrW

set_option maxRecDepth 100000 in
set_option maxHeartbeats 3200000 in
theorem line_name (base base2 n : Nat) (v : Value) (M : List Gr) (g : Gr) (wd rs : ByteArray) (w : World) (hn : M.length = n) (h : GsOwn w base base2 v (M ++ [g])) (hbb : base ≤ base2) (hb2 : base2 ≤ w.heap.size) (hl : n ≤ 1000) (hl2 : g.nm.length ≤ 1000) (hr : rs.size ≤ 4194304)
    (hw : (wd.toList == [99, 97, 108, 108, 101, 114]) = true) (hc : callB rs = true) :
    Calls Tryz.prog 114 #[v, .string wd, .string rs, .bool false] w fun e w' => Read base base2 w ⟨M.map grp ++ [(g.nm ++ [rs], g.ru, g.wait)], false⟩ e w' := by
  obtain ⟨i9, hi9, hz90, hz91, hz92⟩ := info_parts Tryz.infoS
  obtain ⟨b, cap, hv, hbb1, hblt, f0, c0, c1, c2⟩ := h.last
  rw [hn] at hv c0 c1 c2
  subst hv
  have HG : Hid (GsOwn (w.alloc (.cells #[.string rs] 9)) base base2 (.slice (some ⟨b, 0, none⟩) (n + 1) cap) (M ++ [g])) := h.alloc _
  have hI := OwnsR.rowsOf h.1
  have hc1 : n + 1 ≤ cap := by have := hI.1; rw [List.length_append, hn] at this; exact this
  have hc2 := hI.2.1
  unfold maxLen at hc2
  have HC : Hid (callB rs = true) := hc
  have HNO : Hid (Owns (w.alloc (.cells #[.string rs] 9)) base2 (.slice g.na g.nm.length g.nc) g.nm) := (HG.out.2.1 g (by simp)).1
  have HX2 : Hid (∀ j u, [Value.string rs][j]? = some u → (w.alloc (.cells #[.string rs] 9)).cell? ((⟨w.heap.size, 0, none⟩ : Addr).add j) = some u) := cell_one_new w _ _
  have HFA : Hid (Fr base base2 w (w.alloc (.cells #[.string rs] 9))) := Fr.alloc base base2 w _ (by omega) hb2
  have HN : Hid (M.length = n) := hn
  clear h hI hc hn
  have hw3 : IntKind.i64.wrap (n : Int) = (n : Int) := IntWalk.i64_in _ (by omega)
  have hn0 : (0 : Int) ≤ (n : Int) := by omega
  have hn1 : (n : Int) ≤ (cap : Int) := by omega
  cases hstar : (rs.toList == [42]) with
  | true =>
    go_enter Tryz.func114, Tryz.ntmps114
    go_wp2_with (at_builtin; refine wpList_append_lies _ rfl _ _ 26 rfl base2 9 i9 (.string ⟨#[]⟩) 1 16 Tryz.underlying26 hi9 hz90 hz91 hz92 rfl (by decide) _ _ _ rfl HNO.out ⟨w.heap.size, 0, none⟩ 1 1 [.string rs] rfl rfl HX2.out ?c2 (by omega) ?c3 ?c4 ?c5 (w.heap.size + 1) ?c6 ?_)
    case c2 => intro u hu; simp at hu; subst hu; rfl
    case c3 => unfold maxLen; omega
    case c4 => omega
    case c5 => simp; omega
    case c6 => simp
    intro g1 k1 w8 hown8 hgrow8 hat8 hlt8
    have hr8 := HG.out.row1 hgrow8
    have H9 : Hid (GsOwn (w8.setCell ⟨b, M.length * 3, none⟩ (.slice (some ⟨g1, 0, none⟩) (g.nm.length + 1) k1)) base base2 (.slice (some ⟨b, 0, none⟩) (M.length + 1) cap) (M ++ [{ g with nm := g.nm ++ [rs], na := some ⟨g1, 0, none⟩, nc := k1 }])) := GsOwn.name (by rw [HN.out]; exact HG.out) hown8 hgrow8 hat8 (by simp)
    have HF8 : Hid (Fr base base2 w (w8.setCell ⟨b, M.length * 3, none⟩ (.slice (some ⟨g1, 0, none⟩) (g.nm.length + 1) k1))) := (HFA.out.trans (Fr.far hgrow8 (by simp; omega) (fun k hk => by have := Owns.block HNO.out k hk; omega))).trans (Fr.set hr8 (by have := hgrow8.size; simp at this; omega))
    have hl8 := row_last hr8
    rw [HN.out] at hl8 H9 HF8
    obtain ⟨f8, p0, _, _⟩ := hl8
    clear hown8 hgrow8 hat8 hr8 f0 c0 c1 c2
    go_wp2
    go_ret2
    exact ⟨.slice (some ⟨b, 0, none⟩) (n + 1) cap, M ++ [{ g with nm := g.nm ++ [rs], na := some ⟨g1, 0, none⟩, nc := k1 }], rfl, H9.out, by rw [List.map_append]; rfl, HF8.out⟩
  | false =>
    have hnb : nameB rs = true := by
      have := HC.out
      unfold callB at this
      rw [hstar] at this
      exact this
    go_enter Tryz.func114, Tryz.ntmps114
    go_wp2_with (first | (go_at_call 44; refine (specName_any rs _ (by unfold maxLen; omega)).mono ?_; rintro e w1 ⟨rfl, e1⟩; have e2 := e1.symm; subst e2) | (at_builtin; refine wpList_append_lies _ rfl _ _ 26 rfl base2 9 i9 (.string ⟨#[]⟩) 1 16 Tryz.underlying26 hi9 hz90 hz91 hz92 rfl (by decide) _ _ _ rfl HNO.out ⟨w.heap.size, 0, none⟩ 1 1 [.string rs] rfl rfl HX2.out ?c2 (by omega) ?c3 ?c4 ?c5 (w.heap.size + 1) ?c6 ?_))
    case c2 => intro u hu; simp at hu; subst hu; rfl
    case c3 => unfold maxLen; omega
    case c4 => omega
    case c5 => simp; omega
    case c6 => simp
    intro g1 k1 w8 hown8 hgrow8 hat8 hlt8
    have hr8 := HG.out.row1 hgrow8
    have H9 : Hid (GsOwn (w8.setCell ⟨b, M.length * 3, none⟩ (.slice (some ⟨g1, 0, none⟩) (g.nm.length + 1) k1)) base base2 (.slice (some ⟨b, 0, none⟩) (M.length + 1) cap) (M ++ [{ g with nm := g.nm ++ [rs], na := some ⟨g1, 0, none⟩, nc := k1 }])) := GsOwn.name (by rw [HN.out]; exact HG.out) hown8 hgrow8 hat8 (by simp)
    have HF8 : Hid (Fr base base2 w (w8.setCell ⟨b, M.length * 3, none⟩ (.slice (some ⟨g1, 0, none⟩) (g.nm.length + 1) k1))) := (HFA.out.trans (Fr.far hgrow8 (by simp; omega) (fun k hk => by have := Owns.block HNO.out k hk; omega))).trans (Fr.set hr8 (by have := hgrow8.size; simp at this; omega))
    have hl8 := row_last hr8
    rw [HN.out] at hl8 H9 HF8
    obtain ⟨f8, p0, _, _⟩ := hl8
    clear hown8 hgrow8 hat8 hr8 f0 c0 c1 c2
    go_wp2
    go_ret2
    exact ⟨.slice (some ⟨b, 0, none⟩) (n + 1) cap, M ++ [{ g with nm := g.nm ++ [rs], na := some ⟨g1, 0, none⟩, nc := k1 }], rfl, H9.out, by rw [List.map_append]; rfl, HF8.out⟩
end Go.Proofs.YtmgcdfmgmpnonaaGreatDoor.NrS
