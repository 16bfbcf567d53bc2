/- Of the program: when one called at a house. -/
import Derived.Test.YtiennniclkbjlaaGreatDoorReStPk
import Derived.Test.YtiennniclkbjlaaGreatDoorTrOncePk
namespace Go.Proofs.YtiennniclkbjlaaGreatDoor.Tn
open Go.RowKit Go.Proofs.YtiennniclkbjlaaGreatDoor.EscM Go.Proofs.YtiennniclkbjlaaGreatDoor.AddrM Go.Proofs.YtiennniclkbjlaaGreatDoor.ReadM Go.Proofs.YtiennniclkbjlaaGreatDoor.Rd1 Go.Proofs.YtiennniclkbjlaaGreatDoor.Ad1 Go.Proofs.YtiennniclkbjlaaGreatDoor.RuleM Go.Proofs.YtiennniclkbjlaaGreatDoor.St Go.Proofs.YtiennniclkbjlaaGreatDoor.EscL Go.Proofs.YtiennniclkbjlaaGreatDoor.RR Go.Proofs.YtiennniclkbjlaaGreatDoor.LetM Go.Proofs.YtiennniclkbjlaaGreatDoor.GrM Go.Proofs.YtiennniclkbjlaaGreatDoor.RoIt Go.Proofs.YtiennniclkbjlaaGreatDoor.RoLk Go.Proofs.YtiennniclkbjlaaGreatDoor.RoQ Go.Proofs.YtiennniclkbjlaaGreatDoor.Mp Go.Proofs.YtiennniclkbjlaaGreatDoor.WdM Go.Proofs.YtiennniclkbjlaaGreatDoor.Wd Go.Proofs.YtiennniclkbjlaaGreatDoor.TpM Go.Proofs.YtiennniclkbjlaaGreatDoor.TrM Go.Proofs.YtiennniclkbjlaaGreatDoor.TrW Go.Proofs.YtiennniclkbjlaaGreatDoor.Tq Go.Proofs.YtiennniclkbjlaaGreatDoor.PgA Go.Proofs.YtiennniclkbjlaaGreatDoor.MkA Go.Proofs.YtiennniclkbjlaaGreatDoor.Im Go.Proofs.YtiennniclkbjlaaGreatDoor.Nm

def FIn : Frm Int where
  enc p := [.int .i64 p]
  k := 1
  pos := by decide
  len _ := rfl
  one _ u hu := by
    simp only [List.mem_cons, List.not_mem_nil, or_false] at hu
    rcases hu with rfl
    rfl
theorem Tryz.infoInC : (Tryz.prog.info? 3).map (fun i => (i.zero, i.size, i.bytes)) = some (some (.int .i64 0), 1, 8) := by kernel_rfl
theorem at_take {lk : List Lk} {k : Nat} {house : ByteArray} (hk : k < lk.length) : (atL (lk.take (k + 1)) house).map Lk.time = if houseX lk[k].addr = house then (atL (lk.take k) house).map Lk.time ++ [lk[k].time] else (atL (lk.take k) house).map Lk.time := by
  rw [List.take_succ_eq_append_getElem hk, at_snoc]
  split
  · rw [List.map_append]; rfl
  · rfl
theorem at_le {lk : List Lk} {k : Nat} {house : ByteArray} : ((atL (lk.take k) house).map Lk.time).length ≤ lk.length := by
  rw [List.length_map]
  unfold atL
  have h1 := List.length_filter_le (fun z => decide (houseX z.addr = house)) (lk.take k)
  have h2 := List.length_take_le k lk
  have h3 : (lk.take k).length ≤ lk.length := by rw [List.length_take]; exact Nat.min_le_right _ _
  omega
set_option maxRecDepth 100000 in
set_option maxHeartbeats 3200000 in
theorem tripCalls_any (t : Tp) (house : ByteArray) (w : World) (hM : Mx w) (hA : TpAt w t) (hk : TmOk (tmP t)) (hl : t.hs.length ≤ 1000) (hl2 : ∀ h ∈ t.hs, h.todo.length ≤ 1000) :
    Calls Tryz.prog 22 #[tpV t, .string house] w fun e w' => ∃ v, e = .returned v ∧ OwnsR FIn 3 w' w.heap.size v ((atL t.lk house).map Lk.time) ∧ Below w.heap.size w w' := by
  obtain ⟨i0, hi, hz0, hz1, hz2⟩ := info_parts Tryz.infoInC
  have HB0 : Hid (Below w.heap.size w (w.alloc (.cells #[.string t.name, .int .i64 t.now, .slice t.ha t.hs.length t.hc, .slice t.sa t.seen.length t.sc, .slice t.la t.lk.length t.lc] 29))) := (Below.refl _ w).alloc (Nat.le_refl _) _
  have HX0 : Hid (Bs 29 (w.alloc (.cells #[.string t.name, .int .i64 t.now, .slice t.ha t.hs.length t.hc, .slice t.sa t.seen.length t.sc, .slice t.la t.lk.length t.lc] 29)) w.heap.size #[.string t.name, .int .i64 t.now, .slice t.ha t.hs.length t.hc, .slice t.sa t.seen.length t.sc, .slice t.la t.lk.length t.lc]) := Bs.new _ _ _
  have HOK : Hid (∀ W, Below w.heap.size w W → Calls Tryz.prog 13 #[tpV t] W fun e w' => e = .returned (.bool true) ∧ Below W.heap.size W w') := fun W hW => tripOk_true t W (hM.below hW) (hA.below hW) hk hl hl2
  have HM : Hid (Mx w) := hM
  have HLK : Hid (IsRows FLk w t.la t.lc t.lk) := hA.2.2.2
  have HNA : Hid (∀ l ∈ t.lk, ∃ A, normA l.addr = some A) := fun l h => (hk.lt l h).2.2.1
  have hll : t.lk.length ≤ 400 := hk.ll
  clear hM hA hk hl2
  unfold tpV at HOK ⊢
  have x0 := HX0.out.cell 0 rfl
  have x1 := HX0.out.cell 1 rfl
  have x2 := HX0.out.cell 2 rfl
  have x3 := HX0.out.cell 3 rfl
  have x4 := HX0.out.cell 4 rfl
  go_enter Tryz.func22, Tryz.ntmps22
  go_wp2_with (go_at_call 13; refine Calls.mono (HOK.out _ HB0.out) ?_; rintro e w2 ⟨rfl, hb2⟩; have HB2 : Hid (Below w.heap.size w w2) := HB0.out.trans (hb2.mono HB0.out.size); have x4' := (HX0.out.below hb2).cell 4 rfl; clear hb2)
  go_loopw [5, 14] (fun v i wr => ∃ (k : Nat) (a : Option Addr) (c n : Nat), k ≤ t.lk.length ∧ i = .int .i64 (k : Int) ∧ v = .slice a n c ∧ Hid (OwnsR FIn 3 wr w.heap.size (.slice a n c) ((atL (t.lk.take k) house).map Lk.time)) ∧ Hid (Below w.heap.size w wr)) (fun _ i _ => t.lk.length - (intOf i).toNat)
  case atStart => exact ⟨0, none, 0, 0, Nat.zero_le _, rfl, rfl, OwnsR.nil _ _ _ _, HB2.out⟩
  case round =>
    obtain ⟨k, va, vc, vn, hkl, rfl, rfl, HO, HB⟩ := hrel
    by_cases hlt : k < t.lk.length
    · obtain ⟨b, off, e1, c0, c1, c2⟩ := lk_at (HLK.out.below HB.out) hlt
      obtain ⟨A0, hA0⟩ := HNA.out _ (List.getElem_mem hlt)
      have HST : Hid ((atL (t.lk.take (k + 1)) house).map Lk.time = if houseX t.lk[k].addr = house then (atL (t.lk.take k) house).map Lk.time ++ [t.lk[k].time] else (atL (t.lk.take k) house).map Lk.time) := at_take hlt
      have HHX : Hid (houseX t.lk[k].addr = A0.house) := by show _ = _; unfold houseX; rw [hA0]
      have HLE : Hid (((atL (t.lk.take k) house).map Lk.time).length ≤ 400) := Nat.le_trans at_le hll
      generalize (atL (t.lk.take k) house).map Lk.time = T at *
      have HCC : Hid (∀ W, Below w.heap.size w W → Calls Tryz.prog 50 #[.agg #[.int .i64 t.lk[k].time, .string t.lk[k].addr, .int .i64 t.lk[k].kind]] W fun e w' => e = .returned (.string A0.house) ∧ Below W.heap.size W w') := fun W hW => houseAt_any t.lk[k] A0 W (HM.out.below hW) hA0
      clear hA0
      generalize t.lk[k] = l at *
      have HBa : Hid (Below w.heap.size w (wr.alloc (.cells #[.int .i64 l.time, .string l.addr, .int .i64 l.kind] 57))) := HB.out.alloc HB.out.size _
      have HXa : Hid (Bs 57 (wr.alloc (.cells #[.int .i64 l.time, .string l.addr, .int .i64 l.kind] 57)) wr.heap.size #[.int .i64 l.time, .string l.addr, .int .i64 l.kind]) := Bs.new _ _ _
      have HOa : Hid (OwnsR FIn 3 (wr.alloc (.cells #[.int .i64 l.time, .string l.addr, .int .i64 l.kind] 57)) w.heap.size (.slice va vn vc) T) := OwnsR.keep HO.out (alloc_keep _ _)
      have y0 := HXa.out.cell 0 rfl
      have y1 := HXa.out.cell 1 rfl
      have y2 := HXa.out.cell 2 rfl
      rw [e1]
      clear e1
      have HNM : Hid ((A0.house.toList == house.toList) = decide (A0.house = house)) := str_eq_iff _ _
      by_cases he : A0.house = house
      · have hq : (A0.house.toList == house.toList) = true := by rw [HNM.out]; exact decide_eq_true he
        have HT2 : Hid ((atL (t.lk.take (k + 1)) house).map Lk.time = T ++ [l.time]) := by
          have := HST.out
          rw [HHX.out, if_pos he] at this; exact this
        clear he HNM
        go_wp2_with (first
          | (go_at_call 50
             refine Calls.mono (HCC.out _ HBa.out) ?_
             rintro e w3 ⟨rfl, hb3⟩
             have HB3 : Hid (Below w.heap.size w w3) := HBa.out.trans (hb3.mono HBa.out.size)
             have HO3 : Hid (OwnsR FIn 3 w3 w.heap.size (.slice va vn vc) T) := OwnsR.keep HOa.out (fun k hk => hb3.block k hk)
             have y0' := (HXa.out.below hb3).cell 0 rfl
             clear hb3)
          | (at_builtin
             refine wpList_append_lies _ rfl _ _ 51 rfl w.heap.size 3 i0 (.int .i64 0) 1 8 Tryz.underlying51 hi hz0 hz1 hz2 rfl (by decide) _ _ _ rfl (World.ownsRow.alloc HO3.out _) ⟨w3.heap.size, 0, none⟩ 1 1 [.int .i64 l.time] rfl rfl (cell_one_new _ _ _) ?c2 (by omega) ?c3 ?c4 ?c5 (w3.heap.size + 1) ?c6 ?_))
        case c2 => first | rfl | (intro u hu; simp at hu; subst hu; rfl)
        case c3 => have := HLE.out; unfold maxLen; omega
        case c4 => have := HLE.out; omega
        case c5 => exact (HB3.out.alloc HB3.out.size _).size
        case c6 => simp
        intro g cg w4 hown hg0 hat _
        have HO4 : Hid (OwnsR FIn 3 w4 w.heap.size (.slice (some ⟨g, 0, none⟩) (T.length + 1) cg) (T ++ [l.time])) := OwnsR.append (F := FIn) (x := l.time) hown
        have HB4 : Hid (Below w.heap.size w w4) := Below.grown (HB3.out.alloc HB3.out.size _) hg0 (HB3.out.alloc HB3.out.size _).size (fun k hk => (HO3.out.lt k hk).1)
        clear hown hg0 hat
        go_wp2_with fail
        go_roundw
        case rel => exact ⟨k + 1, some ⟨g, 0, none⟩, cg, T.length + 1, by omega, by go_num, rfl, by rw [HT2.out]; exact HO4, HB4⟩
        case measure => simp [intOf]; omega
      · have hq : (A0.house.toList == house.toList) = false := by rw [HNM.out]; exact decide_eq_false he
        have HT2 : Hid ((atL (t.lk.take (k + 1)) house).map Lk.time = T) := by
          have := HST.out
          rw [HHX.out, if_neg he] at this; exact this
        clear he HNM
        go_wp2_with (go_at_call 50; refine Calls.mono (HCC.out _ HBa.out) ?_; rintro e w3 ⟨rfl, hb3⟩; have HB3 : Hid (Below w.heap.size w w3) := HBa.out.trans (hb3.mono HBa.out.size); have HO3 : Hid (OwnsR FIn 3 w3 w.heap.size (.slice va vn vc) T) := OwnsR.keep HOa.out (fun k hk => hb3.block k hk); clear hb3)
        go_roundw
        case rel => exact ⟨k + 1, va, vc, vn, by omega, by go_num, rfl, by rw [HT2.out]; exact HO3, HB3⟩
        case measure => simp [intOf]; omega
    · have hke : k = t.lk.length := by omega
      subst hke
      have HOE : Hid (OwnsR FIn 3 wr w.heap.size (.slice va vn vc) ((atL t.lk house).map Lk.time)) := by
        have := HO.out
        rw [List.take_of_length_le (Nat.le_refl _)] at this; exact this
      go_wp2
      go_ret
      exact ⟨_, rfl, HOE.out, HB.out⟩
end Go.Proofs.YtiennniclkbjlaaGreatDoor.Tn
