/- Of the program: what was looked at. -/
import Derived.Test.YtiennniclkbjlaaGreatDoorTn11
import Derived.Test.YtiennniclkbjlaaGreatDoorPgA1Pk
import Derived.Test.YtiennniclkbjlaaGreatDoorReStPk
import Derived.Test.YtiennniclkbjlaaGreatDoorEscLeafPk
namespace Go.Proofs.YtiennniclkbjlaaGreatDoor.Tn
open Go.RowKit Go.Proofs.YtiennniclkbjlaaGreatDoor.EscM Go.Proofs.YtiennniclkbjlaaGreatDoor.AddrM Go.Proofs.YtiennniclkbjlaaGreatDoor.ReadM Go.Proofs.YtiennniclkbjlaaGreatDoor.Rd1 Go.Proofs.YtiennniclkbjlaaGreatDoor.Ad1 Go.Proofs.YtiennniclkbjlaaGreatDoor.RuleM Go.Proofs.YtiennniclkbjlaaGreatDoor.St Go.Proofs.YtiennniclkbjlaaGreatDoor.EscL Go.Proofs.YtiennniclkbjlaaGreatDoor.RR Go.Proofs.YtiennniclkbjlaaGreatDoor.LetM Go.Proofs.YtiennniclkbjlaaGreatDoor.GrM Go.Proofs.YtiennniclkbjlaaGreatDoor.RoIt Go.Proofs.YtiennniclkbjlaaGreatDoor.RoLk Go.Proofs.YtiennniclkbjlaaGreatDoor.RoQ Go.Proofs.YtiennniclkbjlaaGreatDoor.Mp Go.Proofs.YtiennniclkbjlaaGreatDoor.WdM Go.Proofs.YtiennniclkbjlaaGreatDoor.Wd Go.Proofs.YtiennniclkbjlaaGreatDoor.WdN Go.Proofs.YtiennniclkbjlaaGreatDoor.TpM Go.Proofs.YtiennniclkbjlaaGreatDoor.TrM Go.Proofs.YtiennniclkbjlaaGreatDoor.TrW Go.Proofs.YtiennniclkbjlaaGreatDoor.Tq Go.Proofs.YtiennniclkbjlaaGreatDoor.PgA Go.Proofs.YtiennniclkbjlaaGreatDoor.MkA Go.Proofs.YtiennniclkbjlaaGreatDoor.Im Go.Proofs.YtiennniclkbjlaaGreatDoor.Nm Go.Proofs.YtiennniclkbjlaaGreatDoor.ReM

/-- a map tells a number of each text; 0, if it tells none -/
def AskM (M : List (ByteArray × Value)) (f : ByteArray → Int) : Prop := (∀ y, (getM M y).getD (.int .i64 0) = .int .i64 (f y)) ∧ ∀ y, 0 ≤ f y ∧ f y ≤ 3
theorem ask_new : AskM [] (fun _ => 0) := ⟨fun _ => rfl, fun _ => ⟨Int.le_refl _, (show (0 : Int) ≤ 3 by decide)⟩⟩
theorem ask_put {M : List (ByteArray × Value)} {f : ByteArray → Int} (h : AskM M f) (x : ByteArray) {v : Int} (hv : 0 ≤ v ∧ v ≤ 3) : AskM (putM M x (.int .i64 v)) (fun y => if y = x then v else f y) := by
  refine ⟨fun y => ?_, fun y => ?_⟩
  · rw [get_put]
    dsimp only
    by_cases e : y = x
    · rw [if_pos e, if_pos e]; rfl
    · rw [if_neg e, if_neg e]; exact h.1 y
  · dsimp only
    split
    · exact hv
    · exact h.2 y
theorem ls_take {lk : List Lk} {k : Nat} (hk : k < lk.length) : lsF (lk.take (k + 1)) = lsStep (lsF (lk.take k)) lk[k] := by
  rw [List.take_succ_eq_append_getElem hk, ls_snoc]
theorem ls_le (lk : List Lk) : ∀ k, k ≤ lk.length → (lsF (lk.take k)).out.length ≤ k := by
  intro k
  induction k with
  | zero => intro _; exact Nat.le_refl _
  | succ k ih =>
    intro hk
    have h1 := ih (by omega)
    rw [ls_take hk]
    unfold lsStep
    dsimp only
    split
    · unfold putL
      split
      · omega
      · rw [List.length_append]; exact Nat.add_le_add_right h1 1
    · omega
theorem ls_step {s : LS} {l : Lk} {h : ByteArray} {a f : Bool} (hx : houseX l.addr = h) (ha : (decide (l.addr = doorS h) && decide (s.asked h < 3)) = a) (hf : decide (l.kind = 3) = f) : lsStep s l = ⟨fun y => if y = h then (if a && f then s.asked h + 1 else 3) else s.asked y, if !a && !f then putL s.out l.addr else s.out⟩ := by
  unfold lsStep
  rw [hx, ha, hf]
set_option maxRecDepth 100000 in
set_option maxHeartbeats 6400000 in
theorem tripLooked_any (t : Tp) (w : World) (hM : Mx w) (hA : TpAt w t) (hk : TmOk (tmP t)) (hl : t.hs.length ≤ 1000) (hl2 : ∀ h ∈ t.hs, h.todo.length ≤ 1000) :
    Calls Tryz.prog 25 #[tpV t] w fun e w' => ∃ v, e = .returned v ∧ Owns w' w.heap.size v (lsF t.lk).out ∧ Below w.heap.size w w' := by
  obtain ⟨i0, hi, hz0, hz1, hz2⟩ := info_parts Tryz.infoS
  have HB0 : Hid (Below w.heap.size w (w.alloc (.cells #[.string t.name, .int .i64 t.now, .slice t.ha t.hs.length t.hc, .slice t.sa t.seen.length t.sc, .slice t.la t.lk.length t.lc] 29))) := (Below.refl _ w).alloc (Nat.le_refl _) _
  have HX0 : Hid (Bs 29 (w.alloc (.cells #[.string t.name, .int .i64 t.now, .slice t.ha t.hs.length t.hc, .slice t.sa t.seen.length t.sc, .slice t.la t.lk.length t.lc] 29)) w.heap.size #[.string t.name, .int .i64 t.now, .slice t.ha t.hs.length t.hc, .slice t.sa t.seen.length t.sc, .slice t.la t.lk.length t.lc]) := Bs.new _ _ _
  have HOK : Hid (∀ W, Below w.heap.size w W → Calls Tryz.prog 13 #[tpV t] W fun e w' => e = .returned (.bool true) ∧ Below W.heap.size W w') := fun W hW => tripOk_true t W (hM.below hW) (hA.below hW) hk hl hl2
  have HM : Hid (Mx w) := hM
  have HLK : Hid (IsRows FLk w t.la t.lc t.lk) := hA.2.2.2
  have HNA : Hid (∀ l ∈ t.lk, ∃ A, normA l.addr = some A) := fun l h => (hk.lt l h).2.2.1
  have hll : t.lk.length ≤ 400 := hk.ll
  have hmm : ∀ (W : World), (Instr.makeMap 89 none).run Tryz.prog W = .ok (.map (some W.heap.size)) (W.alloc (.map #[] 0)) := fun W => by
    simp [Instr.makeMap, newObj]; rfl
  clear hM hA hk hl2
  unfold tpV at HOK ⊢
  have x0 := HX0.out.cell 0 rfl
  have x1 := HX0.out.cell 1 rfl
  have x2 := HX0.out.cell 2 rfl
  have x3 := HX0.out.cell 3 rfl
  have x4 := HX0.out.cell 4 rfl
  go_enter Tryz.func25, Tryz.ntmps25
  go_wp2_with (go_at_call 13; refine Calls.mono (HOK.out _ HB0.out) ?_; rintro e w2 ⟨rfl, hb2⟩; have HB2 : Hid (Below w.heap.size w w2) := HB0.out.trans (hb2.mono HB0.out.size); have x4' := ((HX0.out.below hb2).alloc (.map #[] 0)).cell 4 rfl; have HB3 : Hid (Below w.heap.size w (w2.alloc (.map #[] 0))) := HB2.out.alloc HB2.out.size _; have HM3 : Hid (IsMap (w2.alloc (.map #[] 0)) w2.heap.size []) := IsMap.new w2; have HMB : Hid (w.heap.size ≤ w2.heap.size) := HB2.out.size; clear hb2)
  clear x0 x1 x2 x3 x4 x4' hmm
  obtain ⟨mb, hmb⟩ : ∃ mb, w2.heap.size = mb := ⟨_, rfl⟩
  rw [hmb] at HM3 HMB
  rw [hmb]
  clear hmb
  go_loopw [3, 17] (fun v i wr => ∃ (k : Nat) (a : Option Addr) (c n : Nat) (M : List (ByteArray × Value)), k ≤ t.lk.length ∧ i = .int .i64 (k : Int) ∧ v = .slice a n c ∧ Hid (Owns wr w.heap.size (.slice a n c) (lsF (t.lk.take k)).out) ∧ Hid (IsMap wr mb M ∧ AskM M (lsF (t.lk.take k)).asked) ∧ Hid (Below w.heap.size w wr) ∧ Hid (Ap v.ownBlock (some mb))) (fun _ i _ => t.lk.length - (intOf i).toNat)
  case atStart => exact ⟨0, none, 0, 0, [], Nat.zero_le _, rfl, rfl, World.ownsRow_nil _ _ _ _, ⟨HM3.out, ask_new⟩, HB3.out, none_ap⟩
  case round =>
    obtain ⟨k, va, vc, vn, M, hkl, rfl, rfl, HO, HMA, HB, HOMB⟩ := hrel
    obtain ⟨_, _, ev, -⟩ := HO.out.strs
    injection ev with ev1 evn ev3
    clear ev1 ev3
    subst evn
    by_cases hlt : k < t.lk.length
    · obtain ⟨b, off, e1, c0, c1, c2⟩ := lk_at (HLK.out.below HB.out) hlt
      obtain ⟨A0, hA0⟩ := HNA.out _ (List.getElem_mem hlt)
      have HTK : Hid (lsF (t.lk.take (k + 1)) = lsStep (lsF (t.lk.take k)) t.lk[k]) := ls_take hlt
      have HHX : Hid (houseX t.lk[k].addr = A0.house) := by show _ = _; unfold houseX; rw [hA0]
      have HLE : Hid ((lsF (t.lk.take k)).out.length ≤ 400) := Nat.le_trans (ls_le _ k hkl) (by omega)
      have HHB : Hid (houseB A0.house = true) := norm_house hA0
      generalize lsF (t.lk.take k) = ls at *
      have HCC : Hid (∀ W, Below w.heap.size w W → Calls Tryz.prog 50 #[.agg #[.int .i64 t.lk[k].time, .string t.lk[k].addr, .int .i64 t.lk[k].kind]] W fun e w' => e = .returned (.string A0.house) ∧ Below W.heap.size W w') := fun W hW => houseAt_any t.lk[k] A0 W (HM.out.below hW) hA0
      clear hA0
      generalize t.lk[k] = l at *
      have HBa : Hid (Below w.heap.size w (wr.alloc (.cells #[.int .i64 l.time, .string l.addr, .int .i64 l.kind] 57))) := HB.out.alloc HB.out.size _
      have HXa : Hid (Bs 57 (wr.alloc (.cells #[.int .i64 l.time, .string l.addr, .int .i64 l.kind] 57)) wr.heap.size #[.int .i64 l.time, .string l.addr, .int .i64 l.kind]) := Bs.new _ _ _
      have HOa : Hid (Owns (wr.alloc (.cells #[.int .i64 l.time, .string l.addr, .int .i64 l.kind] 57)) w.heap.size (.slice va ls.out.length vc) ls.out) := Owns.keep HO.out (alloc_keep _ _)
      have HMa : Hid (IsMap (wr.alloc (.cells #[.int .i64 l.time, .string l.addr, .int .i64 l.kind] 57)) mb M) := HMA.out.1.alloc _
      have HAM : Hid (AskM M ls.asked) := HMA.out.2
      have y0 := HXa.out.cell 0 rfl
      have y1 := HXa.out.cell 1 rfl
      have y2 := HXa.out.cell 2 rfl
      have HNE : Hid (wr.heap.size ≠ mb) := fun e => by have := HMA.out.1.lt; omega
      rw [e1]
      clear e1 HMA HO HB
      go_wp2_with (go_at_call 50; refine Calls.mono (HCC.out _ HBa.out) ?_; rintro e w3 ⟨rfl, hb3⟩; have HB4 : Hid (Below w.heap.size w w3) := HBa.out.trans (hb3.mono HBa.out.size); have HX4 : Hid (Bs 57 w3 wr.heap.size #[.int .i64 l.time, .string l.addr, .int .i64 l.kind]) := HXa.out.below hb3; have HO4 : Hid (Owns w3 w.heap.size (.slice va ls.out.length vc) ls.out) := Owns.keep HOa.out (fun k hk => hb3.block k hk); have HM4 : Hid (IsMap w3 mb M) := HMa.out.below hb3; clear hb3)
      have HOM : Hid (Ap (Value.slice va ls.out.length vc).ownBlock (some mb)) := HOMB.out
      obtain ⟨q, hq⟩ : ∃ q, ls.asked A0.house = q := ⟨_, rfl⟩
      have HQ : Hid (ls.asked A0.house = q) := hq
      have hq0 : 0 ≤ q ∧ q ≤ 3 := by rw [← hq]; exact HAM.out.2 A0.house
      clear hq
      have HSQ : Hid ((l.addr.toList == (doorS A0.house).toList) = decide (l.addr = doorS A0.house)) := str_eq_iff _ _
      by_cases hd : l.addr = doorS A0.house
      · have hsq : (l.addr.toList == (doorS A0.house).toList) = true := by rw [HSQ.out]; exact decide_eq_true hd
        by_cases h3 : q < 3
        · have hd3 : decide (q < 3) = true := decide_eq_true h3
          have HL3 : Hid (ls.asked A0.house < 3) := by show _ < _; rw [HQ.out]; exact h3
          have HAK : Hid ((decide (l.addr = doorS A0.house) && decide (ls.asked A0.house < 3)) = true) := by show _ = _; rw [decide_eq_true hd, decide_eq_true HL3.out]; rfl
          clear hd
          have S4 : w3.drew.cell? ⟨wr.heap.size, 1, none⟩ = some (.string l.addr) := HX4.out.cell 1 rfl
          refine wp_region_held_drew (S := fun w' => w'.cell? ⟨wr.heap.size, 1, none⟩ = some (.string l.addr)) (by kernel_rfl) S4 (fun hHeld => ?_)
          refine wpAnyH_take (i := 0) (oi := ({ dst := some 23, op := Go.Op.fieldAddr 57 (Go.Operand.tmp 6) 1, type := 0, pos := "l12_trip.go:356", after := #[], guard := none } : Oper)) (v := ?_) rfl (by kernel_rfl) (by kernel_rfl) (by kernel_rfl) (fun _ _ _ h => h) (Or.inl ⟨by rfl, ?_⟩) hHeld ?_
          rotate_left
          · (intro w hSw; (try dsimp only at hSw); go_simp; try with_reducible rfl)
          try simp only [Act.put, List.setIfInBounds_toArray, List.set_cons_zero, List.set_cons_succ]
          refine wpAnyH_take (i := 1) (oi := ({ dst := some 24, op := Go.Op.load 9 (Go.Operand.tmp 23), type := 9, pos := "l12_trip.go:356", after := #[{ on := 0, ground := Go.Ground.data }], guard := none } : Oper)) (v := ?_) rfl (by kernel_rfl) (by kernel_rfl) (by kernel_rfl) (fun _ _ _ h => h) (Or.inl ⟨by rfl, ?_⟩) hHeld ?_
          rotate_left
          · (intro w hSw; (try dsimp only at hSw); go_simp; try with_reducible rfl)
          try simp only [Act.put, List.setIfInBounds_toArray, List.set_cons_zero, List.set_cons_succ]
          refine wpAnyH_take (i := 2) (oi := ({ dst := some 25, op := Go.Op.move (Go.Operand.tmp 7), type := 9, pos := "l12_trip.go:356", after := #[], guard := none } : Oper)) (v := ?_) rfl (by kernel_rfl) (by kernel_rfl) (by kernel_rfl) (fun _ _ _ h => h) (Or.inl ⟨by rfl, ?_⟩) hHeld ?_
          rotate_left
          · (intro w hSw; (try dsimp only at hSw); go_simp; try with_reducible rfl)
          try simp only [Act.put, List.setIfInBounds_toArray, List.set_cons_zero, List.set_cons_succ]
          refine wpAnyH_ready (rs := [3]) (by kernel_rfl) (by simp) ?_
          refine AllReadyH.cons rfl (fun K hK => ?_) AllReadyH.nil
          go_simp
          refine (noticeAddr_any A0.house _ HHB.out).mono ?_
          rintro e w5 ⟨rfl, hb5⟩
          have hb5' : Below w3.heap.size w3 w5 := ((Below.refl _ w3).drew).trans hb5
          have HB5 : Hid (Below w.heap.size w w5) := HB4.out.trans (hb5'.mono HB4.out.size)
          have HX5 : Hid (Bs 57 w5 wr.heap.size #[.int .i64 l.time, .string l.addr, .int .i64 l.kind]) := HX4.out.below hb5'
          have HO5 : Hid (Owns w5 w.heap.size (.slice va ls.out.length vc) ls.out) := Owns.keep HO4.out (fun k hk => hb5'.block k hk)
          have HM5 : Hid (IsMap w5 mb M) := HM4.out.below hb5'
          have y1 := HX5.out.cell 1 rfl
          have y2 := HX5.out.cell 2 rfl
          have S5 : w5.cell? ⟨wr.heap.size, 1, none⟩ = some (.string l.addr) := HX5.out.cell 1 rfl
          have hlk : (Instr.lookup 89 (.map (some mb)) (.string A0.house) false).run Tryz.prog w5 = .ok (.int .i64 q) w5 := by
            have h1 := run_look (P := Tryz.prog) HM5.out Tryz.underlying89 Tryz.underlying9 (zeroInt w5) A0.house false
            have h2 := HAM.out.1 A0.house
            rw [HQ.out] at h2
            rw [h2] at h1
            exact h1
          refine hK.out _ _ S5 (fun hHeld => ?_)
          clear hK K
          clear hb5 hb5'
          refine wpAnyH_take (i := 4) (oi := ({ dst := some 27, op := Go.Op.binOp Go.BinOp.eql 9 (Go.Operand.tmp 24) (Go.Operand.tmp 26) 9, type := 4, pos := "l12_trip.go:356", after := #[{ on := 1, ground := Go.Ground.data }, { on := 3, ground := Go.Ground.data }], guard := none } : Oper)) (v := ?_) rfl (by kernel_rfl) (by kernel_rfl) (by kernel_rfl) (fun _ _ _ h => h) (Or.inl ⟨by rfl, ?_⟩) hHeld ?_
          rotate_left
          · (intro w hSw; (try dsimp only at hSw); go_simp; try with_reducible rfl)
          try simp only [Act.put, List.setIfInBounds_toArray, List.set_cons_zero, List.set_cons_succ]
          refine wpAnyH_take (i := 5) (oi := ({ dst := some 28, op := Go.Op.move (Go.Operand.tmp 27), type := 4, pos := "l12_trip.go:356", after := #[{ on := 4, ground := Go.Ground.data }, { on := 3, ground := Go.Ground.chain }], guard := none } : Oper)) (v := ?_) rfl (by kernel_rfl) (by kernel_rfl) (by kernel_rfl) (fun _ _ _ h => h) (Or.inl ⟨by rfl, ?_⟩) hHeld ?_
          rotate_left
          · (intro w hSw; (try dsimp only at hSw); go_simp; try with_reducible rfl)
          try simp only [Act.put, List.setIfInBounds_toArray, List.set_cons_zero, List.set_cons_succ]
          refine wpAnyH_take (i := 6) (oi := ({ dst := some 29, op := Go.Op.move (Go.Operand.tmp 4), type := 89, pos := "l12_trip.go:356", after := #[{ on := 5, ground := Go.Ground.guard }], guard := some (5, true) } : Oper)) (v := ?_) rfl (by kernel_rfl) (by kernel_rfl) (by kernel_rfl) (fun _ _ _ h => h) (Or.inl ⟨by rfl, ?_⟩) hHeld ?_
          rotate_left
          · (intro w hSw; (try dsimp only at hSw); go_simp; try with_reducible rfl)
          try simp only [Act.put, List.setIfInBounds_toArray, List.set_cons_zero, List.set_cons_succ]
          refine wpAnyH_take (i := 7) (oi := ({ dst := some 30, op := Go.Op.move (Go.Operand.tmp 7), type := 9, pos := "l12_trip.go:356", after := #[{ on := 5, ground := Go.Ground.guard }], guard := some (5, true) } : Oper)) (v := ?_) rfl (by kernel_rfl) (by kernel_rfl) (by kernel_rfl) (fun _ _ _ h => h) (Or.inl ⟨by rfl, ?_⟩) hHeld ?_
          rotate_left
          · (intro w hSw; (try dsimp only at hSw); go_simp; try with_reducible rfl)
          try simp only [Act.put, List.setIfInBounds_toArray, List.set_cons_zero, List.set_cons_succ]
          refine wpAnyH_ready (rs := [8]) (by kernel_rfl) (by simp) ?_
          refine AllReadyH.cons rfl (fun K hK => ?_) AllReadyH.nil
          go_simp
          refine hK.out _ _ S5 (fun hHeld => ?_)
          clear hK K
          refine wpAnyH_take (i := 9) (oi := ({ dst := some 32, op := Go.Op.binOp Go.BinOp.lss 3 (Go.Operand.tmp 31) (Go.Operand.const (Go.Value.int Go.IntKind.i64 3)) 3, type := 4, pos := "l12_trip.go:356", after := #[{ on := 8, ground := Go.Ground.data }, { on := 5, ground := Go.Ground.guard }], guard := some (5, true) } : Oper)) (v := ?_) rfl (by kernel_rfl) (by kernel_rfl) (by kernel_rfl) (fun _ _ _ h => h) (Or.inl ⟨by rfl, ?_⟩) hHeld ?_
          rotate_left
          · (intro w hSw; (try dsimp only at hSw); go_simp; try with_reducible rfl)
          try simp only [Act.put, List.setIfInBounds_toArray, List.set_cons_zero, List.set_cons_succ]
          refine wpAnyH_take (i := 10) (oi := ({ dst := some 33, op := Go.Op.pick (Go.Operand.tmp 28) (Go.Operand.tmp 32) (Go.Operand.const (Go.Value.bool false)), type := 4, pos := "l12_trip.go:356", after := #[{ on := 5, ground := Go.Ground.data }, { on := 9, ground := Go.Ground.data }], guard := none } : Oper)) (v := ?_) rfl (by kernel_rfl) (by kernel_rfl) (by kernel_rfl) (fun _ _ _ h => h) (Or.inl ⟨by rfl, ?_⟩) hHeld ?_
          rotate_left
          · (intro w hSw; (try dsimp only at hSw); go_simp; try with_reducible rfl)
          try simp only [Act.put, List.setIfInBounds_toArray, List.set_cons_zero, List.set_cons_succ]
          refine wpAnyH_take (i := 11) (oi := ({ dst := some 8, op := Go.Op.assign (Go.Operand.tmp 33), type := 4, pos := "l12_trip.go:356", after := #[{ on := 10, ground := Go.Ground.data }, { on := 5, ground := Go.Ground.chain }, { on := 0, ground := Go.Ground.phase }, { on := 1, ground := Go.Ground.phase }, { on := 2, ground := Go.Ground.phase }, { on := 3, ground := Go.Ground.phase }, { on := 4, ground := Go.Ground.phase }, { on := 5, ground := Go.Ground.phase }, { on := 6, ground := Go.Ground.phase }, { on := 7, ground := Go.Ground.phase }, { on := 8, ground := Go.Ground.phase }, { on := 9, ground := Go.Ground.phase }, { on := 10, ground := Go.Ground.phase }], guard := none } : Oper)) (v := ?_) rfl (by kernel_rfl) (by kernel_rfl) (by kernel_rfl) (fun _ _ _ h => h) (Or.inl ⟨by rfl, ?_⟩) hHeld ?_
          rotate_left
          · (intro w hSw; (try dsimp only at hSw); go_simp; try with_reducible rfl)
          try simp only [Act.put, List.setIfInBounds_toArray, List.set_cons_zero, List.set_cons_succ]
          refine wpAnyH_done (by kernel_rfl) ?_ _
          clear S4 S5 hlk
          by_cases hfk : l.kind = 3
          · have hkq : (l.kind == 3) = true := by simpa using hfk
            have HFK : Hid (decide (l.kind = 3) = true) := decide_eq_true hfk
            clear hfk
            have HST : Hid (lsF (t.lk.take (k + 1)) = ⟨fun y => if y = A0.house then ls.asked A0.house + 1 else ls.asked y, ls.out⟩) := by
              show _ = _
              rw [HTK.out, ls_step (a := true) (f := true) HHX.out HAK.out HFK.out]; rfl
            have hv3 := HAM.out.2 A0.house
            have hlt3 : ls.asked A0.house < 3 := HL3.out
            have hwq : wrap64 (q + 1) = q + 1 := by have := HQ.out; unfold wrap64; omega
            have HNEW : Hid (AskM (putM M A0.house (.int .i64 (q + 1))) (fun y => if y = A0.house then ls.asked A0.house + 1 else ls.asked y)) := by have := ask_put HAM.out A0.house (v := q + 1) (by have := HQ.out; omega); rw [← HQ.out] at this ⊢; exact this
            have HGQ : Hid ((getM M A0.house).getD (.int .i64 0) = .int .i64 q) := by have := HAM.out.1 A0.house; rw [HQ.out] at this; exact this
            clear hv3 hlt3
            go_wp2_with (first
              | (at_lookup; refine wp_look _ rfl _ _ 89 false rfl 9 3 Tryz.underlying89 Tryz.underlying9 (.int .i64 0) (zeroInt _) mb M rfl HM5.out A0.house rfl (.int .i64 q) HGQ.out ?_)
              | (at_mapUpdate
                 refine wp_store _ rfl _ _ _ 89 rfl 9 3 Tryz.underlying89 Tryz.underlying9 mb M rfl HM5.out A0.house rfl (.int .i64 (q + 1)) rfl ?_
                 intro w6 hm6 hg6
                 have HB6 : Hid (Below w.heap.size w w6) := HB5.out.trans (grown_low _ hg6 HB5.out.size (fun j e => by cases e; exact HMB.out))
                 have HM6 : Hid (IsMap w6 mb (putM M A0.house (.int .i64 (q + 1)))) := hm6
                 have hne6 : wr.heap.size ≠ mb := HNE.out
                 have HX6 : Hid (Bs 57 w6 wr.heap.size #[.int .i64 l.time, .string l.addr, .int .i64 l.kind]) := HX5.out.grown hg6 (fun e => hne6 (Option.some.inj e).symm)
                 have HO6 : Hid (Owns w6 w.heap.size (.slice va ls.out.length vc) ls.out) := owns_ap HO5.out hg6 HOM.out
                 have z1 := HX6.out.cell 1 rfl
                 clear hm6 hg6 hne6)
              | fail)
            go_roundw
            case rel => exact ⟨k + 1, va, vc, ls.out.length, _, by omega, by go_num, rfl, by rw [HST.out]; exact HO6, by rw [HST.out]; exact ⟨HM6.out, HNEW.out⟩, HB6, HOM⟩
            case measure => simp [intOf]; omega
          · have hkq : (l.kind == 3) = false := by simpa using hfk
            have HFK : Hid (decide (l.kind = 3) = false) := decide_eq_false hfk
            clear hfk
            have HST : Hid (lsF (t.lk.take (k + 1)) = ⟨fun y => if y = A0.house then 3 else ls.asked y, ls.out⟩) := by
              show _ = _
              rw [HTK.out, ls_step (a := true) (f := false) HHX.out HAK.out HFK.out]; rfl
            have HNEW : Hid (AskM (putM M A0.house (.int .i64 3)) (fun y => if y = A0.house then 3 else ls.asked y)) := ask_put HAM.out A0.house ⟨by decide, by decide⟩
            go_wp2_with (first
              | (at_mapUpdate
                 refine wp_store _ rfl _ _ _ 89 rfl 9 3 Tryz.underlying89 Tryz.underlying9 mb M rfl HM5.out A0.house rfl (.int .i64 3) rfl ?_
                 intro w6 hm6 hg6
                 have HB6 : Hid (Below w.heap.size w w6) := HB5.out.trans (grown_low _ hg6 HB5.out.size (fun j e => by cases e; exact HMB.out))
                 have HM6 : Hid (IsMap w6 mb (putM M A0.house (.int .i64 (3)))) := hm6
                 have hne6 : wr.heap.size ≠ mb := HNE.out
                 have HX6 : Hid (Bs 57 w6 wr.heap.size #[.int .i64 l.time, .string l.addr, .int .i64 l.kind]) := HX5.out.grown hg6 (fun e => hne6 (Option.some.inj e).symm)
                 have HO6 : Hid (Owns w6 w.heap.size (.slice va ls.out.length vc) ls.out) := owns_ap HO5.out hg6 HOM.out
                 have z1 := HX6.out.cell 1 rfl
                 clear hm6 hg6 hne6)
              | fail)
            go_roundw
            case rel => exact ⟨k + 1, va, vc, ls.out.length, _, by omega, by go_num, rfl, by rw [HST.out]; exact HO6, by rw [HST.out]; exact ⟨HM6.out, HNEW.out⟩, HB6, HOM⟩
            case measure => simp [intOf]; omega
        · have hd3 : decide (q < 3) = false := decide_eq_false h3
          have HAK : Hid ((decide (l.addr = doorS A0.house) && decide (ls.asked A0.house < 3)) = false) := by show _ = _; rw [HQ.out, decide_eq_false h3, Bool.and_false]
          clear hd
          have S4 : w3.drew.cell? ⟨wr.heap.size, 1, none⟩ = some (.string l.addr) := HX4.out.cell 1 rfl
          refine wp_region_held_drew (S := fun w' => w'.cell? ⟨wr.heap.size, 1, none⟩ = some (.string l.addr)) (by kernel_rfl) S4 (fun hHeld => ?_)
          refine wpAnyH_take (i := 0) (oi := ({ dst := some 23, op := Go.Op.fieldAddr 57 (Go.Operand.tmp 6) 1, type := 0, pos := "l12_trip.go:356", after := #[], guard := none } : Oper)) (v := ?_) rfl (by kernel_rfl) (by kernel_rfl) (by kernel_rfl) (fun _ _ _ h => h) (Or.inl ⟨by rfl, ?_⟩) hHeld ?_
          rotate_left
          · (intro w hSw; (try dsimp only at hSw); go_simp; try with_reducible rfl)
          try simp only [Act.put, List.setIfInBounds_toArray, List.set_cons_zero, List.set_cons_succ]
          refine wpAnyH_take (i := 1) (oi := ({ dst := some 24, op := Go.Op.load 9 (Go.Operand.tmp 23), type := 9, pos := "l12_trip.go:356", after := #[{ on := 0, ground := Go.Ground.data }], guard := none } : Oper)) (v := ?_) rfl (by kernel_rfl) (by kernel_rfl) (by kernel_rfl) (fun _ _ _ h => h) (Or.inl ⟨by rfl, ?_⟩) hHeld ?_
          rotate_left
          · (intro w hSw; (try dsimp only at hSw); go_simp; try with_reducible rfl)
          try simp only [Act.put, List.setIfInBounds_toArray, List.set_cons_zero, List.set_cons_succ]
          refine wpAnyH_take (i := 2) (oi := ({ dst := some 25, op := Go.Op.move (Go.Operand.tmp 7), type := 9, pos := "l12_trip.go:356", after := #[], guard := none } : Oper)) (v := ?_) rfl (by kernel_rfl) (by kernel_rfl) (by kernel_rfl) (fun _ _ _ h => h) (Or.inl ⟨by rfl, ?_⟩) hHeld ?_
          rotate_left
          · (intro w hSw; (try dsimp only at hSw); go_simp; try with_reducible rfl)
          try simp only [Act.put, List.setIfInBounds_toArray, List.set_cons_zero, List.set_cons_succ]
          refine wpAnyH_ready (rs := [3]) (by kernel_rfl) (by simp) ?_
          refine AllReadyH.cons rfl (fun K hK => ?_) AllReadyH.nil
          go_simp
          refine (noticeAddr_any A0.house _ HHB.out).mono ?_
          rintro e w5 ⟨rfl, hb5⟩
          have hb5' : Below w3.heap.size w3 w5 := ((Below.refl _ w3).drew).trans hb5
          have HB5 : Hid (Below w.heap.size w w5) := HB4.out.trans (hb5'.mono HB4.out.size)
          have HX5 : Hid (Bs 57 w5 wr.heap.size #[.int .i64 l.time, .string l.addr, .int .i64 l.kind]) := HX4.out.below hb5'
          have HO5 : Hid (Owns w5 w.heap.size (.slice va ls.out.length vc) ls.out) := Owns.keep HO4.out (fun k hk => hb5'.block k hk)
          have HM5 : Hid (IsMap w5 mb M) := HM4.out.below hb5'
          have y1 := HX5.out.cell 1 rfl
          have y2 := HX5.out.cell 2 rfl
          have S5 : w5.cell? ⟨wr.heap.size, 1, none⟩ = some (.string l.addr) := HX5.out.cell 1 rfl
          have hlk : (Instr.lookup 89 (.map (some mb)) (.string A0.house) false).run Tryz.prog w5 = .ok (.int .i64 q) w5 := by
            have h1 := run_look (P := Tryz.prog) HM5.out Tryz.underlying89 Tryz.underlying9 (zeroInt w5) A0.house false
            have h2 := HAM.out.1 A0.house
            rw [HQ.out] at h2
            rw [h2] at h1
            exact h1
          refine hK.out _ _ S5 (fun hHeld => ?_)
          clear hK K
          clear hb5 hb5'
          refine wpAnyH_take (i := 4) (oi := ({ dst := some 27, op := Go.Op.binOp Go.BinOp.eql 9 (Go.Operand.tmp 24) (Go.Operand.tmp 26) 9, type := 4, pos := "l12_trip.go:356", after := #[{ on := 1, ground := Go.Ground.data }, { on := 3, ground := Go.Ground.data }], guard := none } : Oper)) (v := ?_) rfl (by kernel_rfl) (by kernel_rfl) (by kernel_rfl) (fun _ _ _ h => h) (Or.inl ⟨by rfl, ?_⟩) hHeld ?_
          rotate_left
          · (intro w hSw; (try dsimp only at hSw); go_simp; try with_reducible rfl)
          try simp only [Act.put, List.setIfInBounds_toArray, List.set_cons_zero, List.set_cons_succ]
          refine wpAnyH_take (i := 5) (oi := ({ dst := some 28, op := Go.Op.move (Go.Operand.tmp 27), type := 4, pos := "l12_trip.go:356", after := #[{ on := 4, ground := Go.Ground.data }, { on := 3, ground := Go.Ground.chain }], guard := none } : Oper)) (v := ?_) rfl (by kernel_rfl) (by kernel_rfl) (by kernel_rfl) (fun _ _ _ h => h) (Or.inl ⟨by rfl, ?_⟩) hHeld ?_
          rotate_left
          · (intro w hSw; (try dsimp only at hSw); go_simp; try with_reducible rfl)
          try simp only [Act.put, List.setIfInBounds_toArray, List.set_cons_zero, List.set_cons_succ]
          refine wpAnyH_take (i := 6) (oi := ({ dst := some 29, op := Go.Op.move (Go.Operand.tmp 4), type := 89, pos := "l12_trip.go:356", after := #[{ on := 5, ground := Go.Ground.guard }], guard := some (5, true) } : Oper)) (v := ?_) rfl (by kernel_rfl) (by kernel_rfl) (by kernel_rfl) (fun _ _ _ h => h) (Or.inl ⟨by rfl, ?_⟩) hHeld ?_
          rotate_left
          · (intro w hSw; (try dsimp only at hSw); go_simp; try with_reducible rfl)
          try simp only [Act.put, List.setIfInBounds_toArray, List.set_cons_zero, List.set_cons_succ]
          refine wpAnyH_take (i := 7) (oi := ({ dst := some 30, op := Go.Op.move (Go.Operand.tmp 7), type := 9, pos := "l12_trip.go:356", after := #[{ on := 5, ground := Go.Ground.guard }], guard := some (5, true) } : Oper)) (v := ?_) rfl (by kernel_rfl) (by kernel_rfl) (by kernel_rfl) (fun _ _ _ h => h) (Or.inl ⟨by rfl, ?_⟩) hHeld ?_
          rotate_left
          · (intro w hSw; (try dsimp only at hSw); go_simp; try with_reducible rfl)
          try simp only [Act.put, List.setIfInBounds_toArray, List.set_cons_zero, List.set_cons_succ]
          refine wpAnyH_ready (rs := [8]) (by kernel_rfl) (by simp) ?_
          refine AllReadyH.cons rfl (fun K hK => ?_) AllReadyH.nil
          go_simp
          refine hK.out _ _ S5 (fun hHeld => ?_)
          clear hK K
          refine wpAnyH_take (i := 9) (oi := ({ dst := some 32, op := Go.Op.binOp Go.BinOp.lss 3 (Go.Operand.tmp 31) (Go.Operand.const (Go.Value.int Go.IntKind.i64 3)) 3, type := 4, pos := "l12_trip.go:356", after := #[{ on := 8, ground := Go.Ground.data }, { on := 5, ground := Go.Ground.guard }], guard := some (5, true) } : Oper)) (v := ?_) rfl (by kernel_rfl) (by kernel_rfl) (by kernel_rfl) (fun _ _ _ h => h) (Or.inl ⟨by rfl, ?_⟩) hHeld ?_
          rotate_left
          · (intro w hSw; (try dsimp only at hSw); go_simp; try with_reducible rfl)
          try simp only [Act.put, List.setIfInBounds_toArray, List.set_cons_zero, List.set_cons_succ]
          refine wpAnyH_take (i := 10) (oi := ({ dst := some 33, op := Go.Op.pick (Go.Operand.tmp 28) (Go.Operand.tmp 32) (Go.Operand.const (Go.Value.bool false)), type := 4, pos := "l12_trip.go:356", after := #[{ on := 5, ground := Go.Ground.data }, { on := 9, ground := Go.Ground.data }], guard := none } : Oper)) (v := ?_) rfl (by kernel_rfl) (by kernel_rfl) (by kernel_rfl) (fun _ _ _ h => h) (Or.inl ⟨by rfl, ?_⟩) hHeld ?_
          rotate_left
          · (intro w hSw; (try dsimp only at hSw); go_simp; try with_reducible rfl)
          try simp only [Act.put, List.setIfInBounds_toArray, List.set_cons_zero, List.set_cons_succ]
          refine wpAnyH_take (i := 11) (oi := ({ dst := some 8, op := Go.Op.assign (Go.Operand.tmp 33), type := 4, pos := "l12_trip.go:356", after := #[{ on := 10, ground := Go.Ground.data }, { on := 5, ground := Go.Ground.chain }, { on := 0, ground := Go.Ground.phase }, { on := 1, ground := Go.Ground.phase }, { on := 2, ground := Go.Ground.phase }, { on := 3, ground := Go.Ground.phase }, { on := 4, ground := Go.Ground.phase }, { on := 5, ground := Go.Ground.phase }, { on := 6, ground := Go.Ground.phase }, { on := 7, ground := Go.Ground.phase }, { on := 8, ground := Go.Ground.phase }, { on := 9, ground := Go.Ground.phase }, { on := 10, ground := Go.Ground.phase }], guard := none } : Oper)) (v := ?_) rfl (by kernel_rfl) (by kernel_rfl) (by kernel_rfl) (fun _ _ _ h => h) (Or.inl ⟨by rfl, ?_⟩) hHeld ?_
          rotate_left
          · (intro w hSw; (try dsimp only at hSw); go_simp; try with_reducible rfl)
          try simp only [Act.put, List.setIfInBounds_toArray, List.set_cons_zero, List.set_cons_succ]
          refine wpAnyH_done (by kernel_rfl) ?_ _
          clear S4 S5 hlk
          by_cases hfk : l.kind = 3
          · have hkq : (l.kind == 3) = true := by simpa using hfk
            have HFK : Hid (decide (l.kind = 3) = true) := decide_eq_true hfk
            clear hfk
            have HST : Hid (lsF (t.lk.take (k + 1)) = ⟨fun y => if y = A0.house then 3 else ls.asked y, ls.out⟩) := by
              show _ = _
              rw [HTK.out, ls_step (a := false) (f := true) HHX.out HAK.out HFK.out]; rfl
            have HNEW : Hid (AskM (putM M A0.house (.int .i64 3)) (fun y => if y = A0.house then 3 else ls.asked y)) := ask_put HAM.out A0.house ⟨by decide, by decide⟩
            go_wp2_with (first
              | (at_mapUpdate
                 refine wp_store _ rfl _ _ _ 89 rfl 9 3 Tryz.underlying89 Tryz.underlying9 mb M rfl HM5.out A0.house rfl (.int .i64 3) rfl ?_
                 intro w6 hm6 hg6
                 have HB6 : Hid (Below w.heap.size w w6) := HB5.out.trans (grown_low _ hg6 HB5.out.size (fun j e => by cases e; exact HMB.out))
                 have HM6 : Hid (IsMap w6 mb (putM M A0.house (.int .i64 (3)))) := hm6
                 have hne6 : wr.heap.size ≠ mb := HNE.out
                 have HX6 : Hid (Bs 57 w6 wr.heap.size #[.int .i64 l.time, .string l.addr, .int .i64 l.kind]) := HX5.out.grown hg6 (fun e => hne6 (Option.some.inj e).symm)
                 have HO6 : Hid (Owns w6 w.heap.size (.slice va ls.out.length vc) ls.out) := owns_ap HO5.out hg6 HOM.out
                 have z1 := HX6.out.cell 1 rfl
                 clear hm6 hg6 hne6)
              | fail)
            go_roundw
            case rel => exact ⟨k + 1, va, vc, ls.out.length, _, by omega, by go_num, rfl, by rw [HST.out]; exact HO6, by rw [HST.out]; exact ⟨HM6.out, HNEW.out⟩, HB6, HOM⟩
            case measure => simp [intOf]; omega
          · have hkq : (l.kind == 3) = false := by simpa using hfk
            have HFK : Hid (decide (l.kind = 3) = false) := decide_eq_false hfk
            clear hfk
            have HST : Hid (lsF (t.lk.take (k + 1)) = ⟨fun y => if y = A0.house then 3 else ls.asked y, putL ls.out l.addr⟩) := by
              show _ = _
              rw [HTK.out, ls_step (a := false) (f := false) HHX.out HAK.out HFK.out]; rfl
            have HNEW : Hid (AskM (putM M A0.house (.int .i64 3)) (fun y => if y = A0.house then 3 else ls.asked y)) := ask_put HAM.out A0.house ⟨by decide, by decide⟩
            go_wp2_with (first
              | (at_mapUpdate
                 refine wp_store _ rfl _ _ _ 89 rfl 9 3 Tryz.underlying89 Tryz.underlying9 mb M rfl HM5.out A0.house rfl (.int .i64 3) rfl ?_
                 intro w6 hm6 hg6
                 have HB6 : Hid (Below w.heap.size w w6) := HB5.out.trans (grown_low _ hg6 HB5.out.size (fun j e => by cases e; exact HMB.out))
                 have HM6 : Hid (IsMap w6 mb (putM M A0.house (.int .i64 (3)))) := hm6
                 have hne6 : wr.heap.size ≠ mb := HNE.out
                 have HX6 : Hid (Bs 57 w6 wr.heap.size #[.int .i64 l.time, .string l.addr, .int .i64 l.kind]) := HX5.out.grown hg6 (fun e => hne6 (Option.some.inj e).symm)
                 have HO6 : Hid (Owns w6 w.heap.size (.slice va ls.out.length vc) ls.out) := owns_ap HO5.out hg6 HOM.out
                 have z1 := HX6.out.cell 1 rfl
                 clear hm6 hg6 hne6)
              | fail)
            refine (Ct.contains_any va vc ls.out l.addr w6 HO6.out.strsOf (by have := HLE.out; omega)).mono ?_
            rintro e w7 ⟨rfl, n7, hw7⟩
            have hb7 : Below w6.heap.size w6 w7 := by rw [hw7]; exact ⟨rfl, rfl, rfl, Nat.le_refl _, fun _ _ => rfl⟩
            have HB7 : Hid (Below w.heap.size w w7) := HB6.out.trans (hb7.mono HB6.out.size)
            have HM7 : Hid (IsMap w7 mb (putM M A0.house (.int .i64 (3)))) := HM6.out.below hb7
            have HO7 : Hid (Owns w7 w.heap.size (.slice va ls.out.length vc) ls.out) := Owns.keep HO6.out (fun k hk => hb7.block k hk)
            have z2 := (HX6.out.below hb7).cell 1 rfl
            clear hw7 hb7
            cases hcs : hasB l.addr ls.out with
            | true =>
              have HPT : Hid (putL ls.out l.addr = ls.out) := by show _ = _; unfold putL; rw [if_pos hcs]
              clear hcs
              go_wp2_with fail
              go_roundw
              case rel => exact ⟨k + 1, va, vc, ls.out.length, _, by omega, by go_num, rfl, by rw [HST.out]; show Owns _ _ _ (putL ls.out l.addr); rw [HPT.out]; exact HO7, by rw [HST.out]; exact ⟨HM7.out, HNEW.out⟩, HB7, HOM⟩
              case measure => simp [intOf]; omega
            | false =>
              have HPT : Hid (putL ls.out l.addr = ls.out ++ [l.addr]) := by show _ = _; unfold putL; rw [if_neg (by rw [hcs]; simp)]
              clear hcs
              go_wp2_with (at_builtin; refine wpList_append_lies _ rfl _ _ 23 rfl w.heap.size 9 i0 (.string ⟨#[]⟩) 1 16 Tryz.underlying23 hi hz0 hz1 hz2 rfl (by decide) _ _ _ rfl (World.ownsRow.alloc HO7.out _) ⟨w7.heap.size, 0, none⟩ 1 1 [.string l.addr] rfl rfl (cell_one_new _ _ _) ?c2 (by omega) ?c3 ?c4 ?c5 (w7.heap.size + 1) ?c6 ?_)
              case c2 => first | rfl | (intro u hu; simp at hu; subst hu; rfl)
              case c3 => have := HLE.out; unfold maxLen; omega
              case c4 => have := HLE.out; omega
              case c5 => exact (HB7.out.alloc HB7.out.size _).size
              case c6 => simp
              intro g cg w8 hown hg8 hat _
              have HO8 : Hid (Owns w8 w.heap.size (.slice (some ⟨g, 0, none⟩) (ls.out.length + 1) cg) (ls.out ++ [l.addr])) := Owns.append (X := ls.out) (p := l.addr) hown
              have HB8 : Hid (Below w.heap.size w w8) := Below.grown (HB7.out.alloc HB7.out.size _) hg8 (HB7.out.alloc HB7.out.size _).size (fun k hk => (World.ownsRow.lt HO7.out k hk).1)
              have HM8 : Hid (IsMap w8 mb (putM M A0.house (.int .i64 (3)))) := (HM7.out.alloc _).grown hg8 (fun e => HOM.out mb e rfl)
              have HO8M : Hid (Ap (Value.slice (some ⟨g, 0, none⟩) (ls.out.length + 1) cg).ownBlock (some mb)) := by
                rcases hat with h | h
                · have : (Value.slice (some ⟨g, 0, none⟩) (ls.out.length + 1) cg).ownBlock = (Value.slice va ls.out.length vc).ownBlock := h.symm
                  rw [this]; exact HOM.out
                · intro j e1 e2
                  have e3 : g = j := Option.some.inj e1
                  have e4 : mb = j := Option.some.inj e2
                  have := HM7.out.lt
                  omega
              clear hown hg8 hat
              go_wp2_with fail
              go_roundw
              case rel => exact ⟨k + 1, some ⟨g, 0, none⟩, cg, ls.out.length + 1, _, by omega, by go_num, rfl, by rw [HST.out]; show Owns _ _ _ (putL ls.out l.addr); rw [HPT.out]; exact HO8, by rw [HST.out]; exact ⟨HM8.out, HNEW.out⟩, HB8, HO8M⟩
              case measure => simp [intOf]; omega
      · have hsq : (l.addr.toList == (doorS A0.house).toList) = false := by rw [HSQ.out]; exact decide_eq_false hd
        have HAK : Hid ((decide (l.addr = doorS A0.house) && decide (ls.asked A0.house < 3)) = false) := by show _ = _; rw [decide_eq_false hd, Bool.false_and]
        clear hd
        have S4 : w3.drew.cell? ⟨wr.heap.size, 1, none⟩ = some (.string l.addr) := HX4.out.cell 1 rfl
        refine wp_region_held_drew (S := fun w' => w'.cell? ⟨wr.heap.size, 1, none⟩ = some (.string l.addr)) (by kernel_rfl) S4 (fun hHeld => ?_)
        refine wpAnyH_take (i := 0) (oi := ({ dst := some 23, op := Go.Op.fieldAddr 57 (Go.Operand.tmp 6) 1, type := 0, pos := "l12_trip.go:356", after := #[], guard := none } : Oper)) (v := ?_) rfl (by kernel_rfl) (by kernel_rfl) (by kernel_rfl) (fun _ _ _ h => h) (Or.inl ⟨by rfl, ?_⟩) hHeld ?_
        rotate_left
        · (intro w hSw; (try dsimp only at hSw); go_simp; try with_reducible rfl)
        try simp only [Act.put, List.setIfInBounds_toArray, List.set_cons_zero, List.set_cons_succ]
        refine wpAnyH_take (i := 1) (oi := ({ dst := some 24, op := Go.Op.load 9 (Go.Operand.tmp 23), type := 9, pos := "l12_trip.go:356", after := #[{ on := 0, ground := Go.Ground.data }], guard := none } : Oper)) (v := ?_) rfl (by kernel_rfl) (by kernel_rfl) (by kernel_rfl) (fun _ _ _ h => h) (Or.inl ⟨by rfl, ?_⟩) hHeld ?_
        rotate_left
        · (intro w hSw; (try dsimp only at hSw); go_simp; try with_reducible rfl)
        try simp only [Act.put, List.setIfInBounds_toArray, List.set_cons_zero, List.set_cons_succ]
        refine wpAnyH_take (i := 2) (oi := ({ dst := some 25, op := Go.Op.move (Go.Operand.tmp 7), type := 9, pos := "l12_trip.go:356", after := #[], guard := none } : Oper)) (v := ?_) rfl (by kernel_rfl) (by kernel_rfl) (by kernel_rfl) (fun _ _ _ h => h) (Or.inl ⟨by rfl, ?_⟩) hHeld ?_
        rotate_left
        · (intro w hSw; (try dsimp only at hSw); go_simp; try with_reducible rfl)
        try simp only [Act.put, List.setIfInBounds_toArray, List.set_cons_zero, List.set_cons_succ]
        refine wpAnyH_ready (rs := [3]) (by kernel_rfl) (by simp) ?_
        refine AllReadyH.cons rfl (fun K hK => ?_) AllReadyH.nil
        go_simp
        refine (noticeAddr_any A0.house _ HHB.out).mono ?_
        rintro e w5 ⟨rfl, hb5⟩
        have hb5' : Below w3.heap.size w3 w5 := ((Below.refl _ w3).drew).trans hb5
        have HB5 : Hid (Below w.heap.size w w5) := HB4.out.trans (hb5'.mono HB4.out.size)
        have HX5 : Hid (Bs 57 w5 wr.heap.size #[.int .i64 l.time, .string l.addr, .int .i64 l.kind]) := HX4.out.below hb5'
        have HO5 : Hid (Owns w5 w.heap.size (.slice va ls.out.length vc) ls.out) := Owns.keep HO4.out (fun k hk => hb5'.block k hk)
        have HM5 : Hid (IsMap w5 mb M) := HM4.out.below hb5'
        have y1 := HX5.out.cell 1 rfl
        have y2 := HX5.out.cell 2 rfl
        have S5 : w5.cell? ⟨wr.heap.size, 1, none⟩ = some (.string l.addr) := HX5.out.cell 1 rfl
        refine hK.out _ _ S5 (fun hHeld => ?_)
        clear hK K
        clear hb5 hb5'
        refine wpAnyH_take (i := 4) (oi := ({ dst := some 27, op := Go.Op.binOp Go.BinOp.eql 9 (Go.Operand.tmp 24) (Go.Operand.tmp 26) 9, type := 4, pos := "l12_trip.go:356", after := #[{ on := 1, ground := Go.Ground.data }, { on := 3, ground := Go.Ground.data }], guard := none } : Oper)) (v := ?_) rfl (by kernel_rfl) (by kernel_rfl) (by kernel_rfl) (fun _ _ _ h => h) (Or.inl ⟨by rfl, ?_⟩) hHeld ?_
        rotate_left
        · (intro w hSw; (try dsimp only at hSw); go_simp; try with_reducible rfl)
        try simp only [Act.put, List.setIfInBounds_toArray, List.set_cons_zero, List.set_cons_succ]
        refine wpAnyH_take (i := 5) (oi := ({ dst := some 28, op := Go.Op.move (Go.Operand.tmp 27), type := 4, pos := "l12_trip.go:356", after := #[{ on := 4, ground := Go.Ground.data }, { on := 3, ground := Go.Ground.chain }], guard := none } : Oper)) (v := ?_) rfl (by kernel_rfl) (by kernel_rfl) (by kernel_rfl) (fun _ _ _ h => h) (Or.inl ⟨by rfl, ?_⟩) hHeld ?_
        rotate_left
        · (intro w hSw; (try dsimp only at hSw); go_simp; try with_reducible rfl)
        try simp only [Act.put, List.setIfInBounds_toArray, List.set_cons_zero, List.set_cons_succ]
        refine wpAnyH_take (i := 6) (oi := ({ dst := some 29, op := Go.Op.move (Go.Operand.tmp 4), type := 89, pos := "l12_trip.go:356", after := #[{ on := 5, ground := Go.Ground.guard }], guard := some (5, true) } : Oper)) (v := undef) rfl (by kernel_rfl) (by kernel_rfl) (by kernel_rfl) (fun _ _ _ h => h) (Or.inr ⟨by rfl, by rfl⟩) hHeld ?_
        try simp only [Act.put, List.setIfInBounds_toArray, List.set_cons_zero, List.set_cons_succ]
        refine wpAnyH_take (i := 7) (oi := ({ dst := some 30, op := Go.Op.move (Go.Operand.tmp 7), type := 9, pos := "l12_trip.go:356", after := #[{ on := 5, ground := Go.Ground.guard }], guard := some (5, true) } : Oper)) (v := undef) rfl (by kernel_rfl) (by kernel_rfl) (by kernel_rfl) (fun _ _ _ h => h) (Or.inr ⟨by rfl, by rfl⟩) hHeld ?_
        try simp only [Act.put, List.setIfInBounds_toArray, List.set_cons_zero, List.set_cons_succ]
        refine wpAnyH_take (i := 8) (oi := ({ dst := some 31, op := Go.Op.lookup 89 (Go.Operand.tmp 29) (Go.Operand.tmp 30) false, type := 3, pos := "l12_trip.go:356", after := #[{ on := 6, ground := Go.Ground.data }, { on := 7, ground := Go.Ground.data }, { on := 5, ground := Go.Ground.guard }], guard := some (5, true) } : Oper)) (v := undef) rfl (by kernel_rfl) (by kernel_rfl) (by kernel_rfl) (fun _ _ _ h => h) (Or.inr ⟨by rfl, by rfl⟩) hHeld ?_
        try simp only [Act.put, List.setIfInBounds_toArray, List.set_cons_zero, List.set_cons_succ]
        refine wpAnyH_take (i := 9) (oi := ({ dst := some 32, op := Go.Op.binOp Go.BinOp.lss 3 (Go.Operand.tmp 31) (Go.Operand.const (Go.Value.int Go.IntKind.i64 3)) 3, type := 4, pos := "l12_trip.go:356", after := #[{ on := 8, ground := Go.Ground.data }, { on := 5, ground := Go.Ground.guard }], guard := some (5, true) } : Oper)) (v := undef) rfl (by kernel_rfl) (by kernel_rfl) (by kernel_rfl) (fun _ _ _ h => h) (Or.inr ⟨by rfl, by rfl⟩) hHeld ?_
        try simp only [Act.put, List.setIfInBounds_toArray, List.set_cons_zero, List.set_cons_succ]
        refine wpAnyH_take (i := 10) (oi := ({ dst := some 33, op := Go.Op.pick (Go.Operand.tmp 28) (Go.Operand.tmp 32) (Go.Operand.const (Go.Value.bool false)), type := 4, pos := "l12_trip.go:356", after := #[{ on := 5, ground := Go.Ground.data }, { on := 9, ground := Go.Ground.data }], guard := none } : Oper)) (v := ?_) rfl (by kernel_rfl) (by kernel_rfl) (by kernel_rfl) (fun _ _ _ h => h) (Or.inl ⟨by rfl, ?_⟩) hHeld ?_
        rotate_left
        · (intro w hSw; (try dsimp only at hSw); go_simp; try with_reducible rfl)
        try simp only [Act.put, List.setIfInBounds_toArray, List.set_cons_zero, List.set_cons_succ]
        refine wpAnyH_take (i := 11) (oi := ({ dst := some 8, op := Go.Op.assign (Go.Operand.tmp 33), type := 4, pos := "l12_trip.go:356", after := #[{ on := 10, ground := Go.Ground.data }, { on := 5, ground := Go.Ground.chain }, { on := 0, ground := Go.Ground.phase }, { on := 1, ground := Go.Ground.phase }, { on := 2, ground := Go.Ground.phase }, { on := 3, ground := Go.Ground.phase }, { on := 4, ground := Go.Ground.phase }, { on := 5, ground := Go.Ground.phase }, { on := 6, ground := Go.Ground.phase }, { on := 7, ground := Go.Ground.phase }, { on := 8, ground := Go.Ground.phase }, { on := 9, ground := Go.Ground.phase }, { on := 10, ground := Go.Ground.phase }], guard := none } : Oper)) (v := ?_) rfl (by kernel_rfl) (by kernel_rfl) (by kernel_rfl) (fun _ _ _ h => h) (Or.inl ⟨by rfl, ?_⟩) hHeld ?_
        rotate_left
        · (intro w hSw; (try dsimp only at hSw); go_simp; try with_reducible rfl)
        try simp only [Act.put, List.setIfInBounds_toArray, List.set_cons_zero, List.set_cons_succ]
        refine wpAnyH_done (by kernel_rfl) ?_ _
        clear S4 S5
        by_cases hfk : l.kind = 3
        · have hkq : (l.kind == 3) = true := by simpa using hfk
          have HFK : Hid (decide (l.kind = 3) = true) := decide_eq_true hfk
          clear hfk
          have HST : Hid (lsF (t.lk.take (k + 1)) = ⟨fun y => if y = A0.house then 3 else ls.asked y, ls.out⟩) := by
            show _ = _
            rw [HTK.out, ls_step (a := false) (f := true) HHX.out HAK.out HFK.out]; rfl
          have HNEW : Hid (AskM (putM M A0.house (.int .i64 3)) (fun y => if y = A0.house then 3 else ls.asked y)) := ask_put HAM.out A0.house ⟨by decide, by decide⟩
          go_wp2_with (first
            | (at_mapUpdate
               refine wp_store _ rfl _ _ _ 89 rfl 9 3 Tryz.underlying89 Tryz.underlying9 mb M rfl HM5.out A0.house rfl (.int .i64 3) rfl ?_
               intro w6 hm6 hg6
               have HB6 : Hid (Below w.heap.size w w6) := HB5.out.trans (grown_low _ hg6 HB5.out.size (fun j e => by cases e; exact HMB.out))
               have HM6 : Hid (IsMap w6 mb (putM M A0.house (.int .i64 (3)))) := hm6
               have hne6 : wr.heap.size ≠ mb := HNE.out
               have HX6 : Hid (Bs 57 w6 wr.heap.size #[.int .i64 l.time, .string l.addr, .int .i64 l.kind]) := HX5.out.grown hg6 (fun e => hne6 (Option.some.inj e).symm)
               have HO6 : Hid (Owns w6 w.heap.size (.slice va ls.out.length vc) ls.out) := owns_ap HO5.out hg6 HOM.out
               have z1 := HX6.out.cell 1 rfl
               clear hm6 hg6 hne6)
            | fail)
          go_roundw
          case rel => exact ⟨k + 1, va, vc, ls.out.length, _, by omega, by go_num, rfl, by rw [HST.out]; exact HO6, by rw [HST.out]; exact ⟨HM6.out, HNEW.out⟩, HB6, HOM⟩
          case measure => simp [intOf]; omega
        · have hkq : (l.kind == 3) = false := by simpa using hfk
          have HFK : Hid (decide (l.kind = 3) = false) := decide_eq_false hfk
          clear hfk
          have HST : Hid (lsF (t.lk.take (k + 1)) = ⟨fun y => if y = A0.house then 3 else ls.asked y, putL ls.out l.addr⟩) := by
            show _ = _
            rw [HTK.out, ls_step (a := false) (f := false) HHX.out HAK.out HFK.out]; rfl
          have HNEW : Hid (AskM (putM M A0.house (.int .i64 3)) (fun y => if y = A0.house then 3 else ls.asked y)) := ask_put HAM.out A0.house ⟨by decide, by decide⟩
          go_wp2_with (first
            | (at_mapUpdate
               refine wp_store _ rfl _ _ _ 89 rfl 9 3 Tryz.underlying89 Tryz.underlying9 mb M rfl HM5.out A0.house rfl (.int .i64 3) rfl ?_
               intro w6 hm6 hg6
               have HB6 : Hid (Below w.heap.size w w6) := HB5.out.trans (grown_low _ hg6 HB5.out.size (fun j e => by cases e; exact HMB.out))
               have HM6 : Hid (IsMap w6 mb (putM M A0.house (.int .i64 (3)))) := hm6
               have hne6 : wr.heap.size ≠ mb := HNE.out
               have HX6 : Hid (Bs 57 w6 wr.heap.size #[.int .i64 l.time, .string l.addr, .int .i64 l.kind]) := HX5.out.grown hg6 (fun e => hne6 (Option.some.inj e).symm)
               have HO6 : Hid (Owns w6 w.heap.size (.slice va ls.out.length vc) ls.out) := owns_ap HO5.out hg6 HOM.out
               have z1 := HX6.out.cell 1 rfl
               clear hm6 hg6 hne6)
            | fail)
          refine (Ct.contains_any va vc ls.out l.addr w6 HO6.out.strsOf (by have := HLE.out; omega)).mono ?_
          rintro e w7 ⟨rfl, n7, hw7⟩
          have hb7 : Below w6.heap.size w6 w7 := by rw [hw7]; exact ⟨rfl, rfl, rfl, Nat.le_refl _, fun _ _ => rfl⟩
          have HB7 : Hid (Below w.heap.size w w7) := HB6.out.trans (hb7.mono HB6.out.size)
          have HM7 : Hid (IsMap w7 mb (putM M A0.house (.int .i64 (3)))) := HM6.out.below hb7
          have HO7 : Hid (Owns w7 w.heap.size (.slice va ls.out.length vc) ls.out) := Owns.keep HO6.out (fun k hk => hb7.block k hk)
          have z2 := (HX6.out.below hb7).cell 1 rfl
          clear hw7 hb7
          cases hcs : hasB l.addr ls.out with
          | true =>
            have HPT : Hid (putL ls.out l.addr = ls.out) := by show _ = _; unfold putL; rw [if_pos hcs]
            clear hcs
            go_wp2_with fail
            go_roundw
            case rel => exact ⟨k + 1, va, vc, ls.out.length, _, by omega, by go_num, rfl, by rw [HST.out]; show Owns _ _ _ (putL ls.out l.addr); rw [HPT.out]; exact HO7, by rw [HST.out]; exact ⟨HM7.out, HNEW.out⟩, HB7, HOM⟩
            case measure => simp [intOf]; omega
          | false =>
            have HPT : Hid (putL ls.out l.addr = ls.out ++ [l.addr]) := by show _ = _; unfold putL; rw [if_neg (by rw [hcs]; simp)]
            clear hcs
            go_wp2_with (at_builtin; refine wpList_append_lies _ rfl _ _ 23 rfl w.heap.size 9 i0 (.string ⟨#[]⟩) 1 16 Tryz.underlying23 hi hz0 hz1 hz2 rfl (by decide) _ _ _ rfl (World.ownsRow.alloc HO7.out _) ⟨w7.heap.size, 0, none⟩ 1 1 [.string l.addr] rfl rfl (cell_one_new _ _ _) ?c2 (by omega) ?c3 ?c4 ?c5 (w7.heap.size + 1) ?c6 ?_)
            case c2 => first | rfl | (intro u hu; simp at hu; subst hu; rfl)
            case c3 => have := HLE.out; unfold maxLen; omega
            case c4 => have := HLE.out; omega
            case c5 => exact (HB7.out.alloc HB7.out.size _).size
            case c6 => simp
            intro g cg w8 hown hg8 hat _
            have HO8 : Hid (Owns w8 w.heap.size (.slice (some ⟨g, 0, none⟩) (ls.out.length + 1) cg) (ls.out ++ [l.addr])) := Owns.append (X := ls.out) (p := l.addr) hown
            have HB8 : Hid (Below w.heap.size w w8) := Below.grown (HB7.out.alloc HB7.out.size _) hg8 (HB7.out.alloc HB7.out.size _).size (fun k hk => (World.ownsRow.lt HO7.out k hk).1)
            have HM8 : Hid (IsMap w8 mb (putM M A0.house (.int .i64 (3)))) := (HM7.out.alloc _).grown hg8 (fun e => HOM.out mb e rfl)
            have HO8M : Hid (Ap (Value.slice (some ⟨g, 0, none⟩) (ls.out.length + 1) cg).ownBlock (some mb)) := by
              rcases hat with h | h
              · have : (Value.slice (some ⟨g, 0, none⟩) (ls.out.length + 1) cg).ownBlock = (Value.slice va ls.out.length vc).ownBlock := h.symm
                rw [this]; exact HOM.out
              · intro j e1 e2
                have e3 : g = j := Option.some.inj e1
                have e4 : mb = j := Option.some.inj e2
                have := HM7.out.lt
                omega
            clear hown hg8 hat
            go_wp2_with fail
            go_roundw
            case rel => exact ⟨k + 1, some ⟨g, 0, none⟩, cg, ls.out.length + 1, _, by omega, by go_num, rfl, by rw [HST.out]; show Owns _ _ _ (putL ls.out l.addr); rw [HPT.out]; exact HO8, by rw [HST.out]; exact ⟨HM8.out, HNEW.out⟩, HB8, HO8M⟩
            case measure => simp [intOf]; omega
    · have hke : k = t.lk.length := by omega
      subst hke
      have HOE : Hid (Owns wr w.heap.size (.slice va (lsF t.lk).out.length vc) (lsF t.lk).out) := by
        have := HO.out
        rw [List.take_of_length_le (Nat.le_refl _)] at this; exact this
      go_wp2
      go_ret
      exact ⟨.slice va (lsF (t.lk.take t.lk.length)).out.length vc, rfl, by rw [List.take_of_length_le (Nat.le_refl _)]; exact HOE.out, HB.out⟩
end Go.Proofs.YtiennniclkbjlaaGreatDoor.Tn
