/- Of the laws: a trip that goes on from its beginning. -/
import Derived.Test.YtiennniclkbjlaaGreatDoorTn20
namespace Go.Proofs.YtiennniclkbjlaaGreatDoor.Tn
open Go.RowKit Go.Proofs.YtiennniclkbjlaaGreatDoor.Bk Go.Proofs.YtiennniclkbjlaaGreatDoor.WdN Go.Proofs.YtiennniclkbjlaaGreatDoor.RoPg Go.Proofs.YtiennniclkbjlaaGreatDoor.EscM Go.Proofs.YtiennniclkbjlaaGreatDoor.AddrM Go.Proofs.YtiennniclkbjlaaGreatDoor.ReadM Go.Proofs.YtiennniclkbjlaaGreatDoor.Rd1 Go.Proofs.YtiennniclkbjlaaGreatDoor.Ad1 Go.Proofs.YtiennniclkbjlaaGreatDoor.RuleM Go.Proofs.YtiennniclkbjlaaGreatDoor.St Go.Proofs.YtiennniclkbjlaaGreatDoor.EscL Go.Proofs.YtiennniclkbjlaaGreatDoor.RR Go.Proofs.YtiennniclkbjlaaGreatDoor.LetM Go.Proofs.YtiennniclkbjlaaGreatDoor.GrM Go.Proofs.YtiennniclkbjlaaGreatDoor.RoIt Go.Proofs.YtiennniclkbjlaaGreatDoor.RoLk Go.Proofs.YtiennniclkbjlaaGreatDoor.RoQ Go.Proofs.YtiennniclkbjlaaGreatDoor.Mp Go.Proofs.YtiennniclkbjlaaGreatDoor.WdM Go.Proofs.YtiennniclkbjlaaGreatDoor.Wd Go.Proofs.YtiennniclkbjlaaGreatDoor.TpM Go.Proofs.YtiennniclkbjlaaGreatDoor.TrM Go.Proofs.YtiennniclkbjlaaGreatDoor.TrW Go.Proofs.YtiennniclkbjlaaGreatDoor.Tq Go.Proofs.YtiennniclkbjlaaGreatDoor.PgM Go.Proofs.YtiennniclkbjlaaGreatDoor.PgA Go.Proofs.YtiennniclkbjlaaGreatDoor.MkA Go.Proofs.YtiennniclkbjlaaGreatDoor.Im Go.Proofs.YtiennniclkbjlaaGreatDoor.Nm

def GoneIs (L : List Pg) (name : ByteArray) (S : List ByteArray) (n : Nat) (w : World) (e : Ending) (w' : World) : Prop :=
  if wOk L then ∃ p' : Tp, e = .returned (.tuple #[tpV p', .bool true]) ∧ tmP p' = TrM.runT L n (newT name S) ∧ OwnTp w' w.heap.size p' ∧ Below w.heap.size w w'
  else e = .returned (.tuple #[tpV tpZ, .bool false]) ∧ Below w.heap.size w w'
set_option maxRecDepth 100000 in
set_option maxHeartbeats 6400000 in
theorem lpGone_any (b0 : Option Addr) (dap : Nat) (L : List Pg) (name : ByteArray) (a0 : Option Addr) (cap : Nat) (S : List ByteArray) (n : Nat) (ea eb : Addr) (w : World) (hM : Mx w) (hE : Errs w ea eb) (hI : IsRows FPg w b0 dap L) (hz : PgSz L) (hAs : PgAs L) (hT : PgTx L) (ht : ∀ p ∈ L, p.text.size ≤ 1000000) (hS : IsStrs w a0 cap S) (hnm : nameB name = true) (hl : S.length ≤ 12) (hx : ∀ s ∈ S, s.size ≤ 4194304 ∧ ascii s) (hn : n ≤ 400) :
    Calls Tryz.prog 23 #[.slice b0 L.length dap, .string name, .slice a0 S.length cap, .int .i64 (n : Int)] w fun e w' => GoneIs L name S n w e w' := by
  have hnz : name.size ≤ 4194304 := by
    unfold nameB at hnm
    simp at hnm
    omega
  have HB0 : Hid (Below w.heap.size w (w.alloc (.cells #[.string ⟨#[]⟩, .int .i64 0, .slice none 0 0, .slice none 0 0, .slice none 0 0] 29))) := (Below.refl _ w).alloc (Nat.le_refl _) _
  have HZ0 : Hid (Bs 29 (w.alloc (.cells #[.string ⟨#[]⟩, .int .i64 0, .slice none 0 0, .slice none 0 0, .slice none 0 0] 29)) w.heap.size #[.string ⟨#[]⟩, .int .i64 0, .slice none 0 0, .slice none 0 0, .slice none 0 0]) := Bs.new _ _ _
  have HTN : Hid (Calls Tryz.prog 11 #[.string name, .slice a0 S.length cap] (w.alloc (.cells #[.string ⟨#[]⟩, .int .i64 0, .slice none 0 0, .slice none 0 0, .slice none 0 0] 29)) fun e w' => NewIs name S (w.alloc (.cells #[.string ⟨#[]⟩, .int .i64 0, .slice none 0 0, .slice none 0 0, .slice none 0 0] 29)) e w') := tripNew_any name a0 cap S _ (hM.below HB0.out) (hS.below HB0.out) hnz (by omega) hx
  have HN12 : Hid ((nameB name && decide (S.length ≤ 12)) = true) := by show _ = _; rw [hnm, decide_eq_true hl]; rfl
  have HM : Hid (Mx w) := hM
  have HE : Hid (Errs w ea eb) := hE
  have HI : Hid (IsRows FPg w b0 dap L) := hI
  have HZ : Hid (PgSz L) := hz
  have HAS : Hid (PgAs L) := hAs
  have HTX : Hid (PgTx L) := hT
  have HTZ : Hid (∀ p ∈ L, p.text.size ≤ 1000000) := ht
  have HNM : Hid (nameB name = true) := hnm
  clear hM hE hI hz hAs hT ht hS hx hnm
  go_enter Tryz.func23, Tryz.ntmps23
  go_wp2_with fail
  refine Calls.mono HTN.out ?_
  intro e w2 hz2
  unfold NewIs at hz2
  rw [HN12.out, if_pos rfl] at hz2
  obtain ⟨p, rfl, hp, hpA, hb2⟩ := hz2
  have HPE : Hid (tmP p = newT name S) := hp
  have HB3 : Hid (Below w.heap.size w (w2.alloc (.cells #[.string p.name, .int .i64 p.now, .slice p.ha p.hs.length p.hc, .slice p.sa p.seen.length p.sc, .slice p.la p.lk.length p.lc] 29))) := (HB0.out.trans (hb2.mono HB0.out.size)).alloc (HB0.out.trans (hb2.mono HB0.out.size)).size _
  have HA3 : Hid (TpAt (w2.alloc (.cells #[.string p.name, .int .i64 p.now, .slice p.ha p.hs.length p.hc, .slice p.sa p.seen.length p.sc, .slice p.la p.lk.length p.lc] 29)) p) := hpA.keep (alloc_keep _ _)
  have HZ3 : Hid (Bs 29 (w2.alloc (.cells #[.string p.name, .int .i64 p.now, .slice p.ha p.hs.length p.hc, .slice p.sa p.seen.length p.sc, .slice p.la p.lk.length p.lc] 29)) w.heap.size #[.string ⟨#[]⟩, .int .i64 0, .slice none 0 0, .slice none 0 0, .slice none 0 0]) := (HZ0.out.below hb2).alloc _
  have HX3 : Hid (Bs 29 (w2.alloc (.cells #[.string p.name, .int .i64 p.now, .slice p.ha p.hs.length p.hc, .slice p.sa p.seen.length p.sc, .slice p.la p.lk.length p.lc] 29)) w2.heap.size #[.string p.name, .int .i64 p.now, .slice p.ha p.hs.length p.hc, .slice p.sa p.seen.length p.sc, .slice p.la p.lk.length p.lc]) := Bs.new _ _ _
  have HW3 : Hid ((w2.alloc (.cells #[.string p.name, .int .i64 p.now, .slice p.ha p.hs.length p.hc, .slice p.sa p.seen.length p.sc, .slice p.la p.lk.length p.lc] 29)).heap.size = w2.heap.size + 1) := by show _ = _; simp
  have HLT : Hid (w.heap.size < w2.heap.size + 1) := by
    show _ < _
    have h2 := hb2.size
    rw [World.size_alloc] at h2
    omega
  have hok : TmOk (tmP p) := by rw [hp]; exact new_ok HNM.out S
  have hfe : (tmP p).hs.length ≤ (tmP p).seen.length := by rw [hp]; exact hears_fewer S (Nat.le_refl _)
  have HTR : Hid (Calls Tryz.prog 17 #[.slice b0 L.length dap, tpV p, .int .i64 (n : Int)] (w2.alloc (.cells #[.string p.name, .int .i64 p.now, .slice p.ha p.hs.length p.hc, .slice p.sa p.seen.length p.sc, .slice p.la p.lk.length p.lc] 29)) fun e w' => RunIs L n p (w2.alloc (.cells #[.string p.name, .int .i64 p.now, .slice p.ha p.hs.length p.hc, .slice p.sa p.seen.length p.sc, .slice p.la p.lk.length p.lc] 29)) e w') := tripRun_any b0 dap L p n ea eb _ (HM.out.below HB3.out) (HE.out.below HB3.out) (HI.out.below HB3.out) HZ.out HAS.out HTX.out HTZ.out HA3.out hok hfe hn
  have x0 := HX3.out.cell 0 rfl
  have x1 := HX3.out.cell 1 rfl
  have x2 := HX3.out.cell 2 rfl
  have x3 := HX3.out.cell 3 rfl
  have x4 := HX3.out.cell 4 rfl
  unfold RunIs at HTR
  unfold tpV tpZ at HTR
  unfold tpV
  dsimp only [List.length_nil] at HTR
  clear hp hpA hb2 hok hfe HTN HA3
  cases hwk : wOk L with
  | true =>
    have HWK : Hid (wOk L = true) := hwk
    simp only [hwk, ↓reduceIte] at HTR
    clear hwk
    go_wp2_with fail
    clear x0 x1 x2 x3 x4
    refine Calls.mono HTR.out ?_
    rintro e w4 ⟨q, rfl, hqe, hqo, hb4⟩
    have HB5 : Hid (Below w.heap.size w (w4.alloc (.cells #[.string q.name, .int .i64 q.now, .slice q.ha q.hs.length q.hc, .slice q.sa q.seen.length q.sc, .slice q.la q.lk.length q.lc] 29))) := (HB3.out.trans (hb4.mono HB3.out.size)).alloc (HB3.out.trans (hb4.mono HB3.out.size)).size _
    have HZ5 : Hid (Bs 29 (w4.alloc (.cells #[.string q.name, .int .i64 q.now, .slice q.ha q.hs.length q.hc, .slice q.sa q.seen.length q.sc, .slice q.la q.lk.length q.lc] 29)) w.heap.size #[.string ⟨#[]⟩, .int .i64 0, .slice none 0 0, .slice none 0 0, .slice none 0 0]) := (HZ3.out.below hb4).alloc _
    have HY5 : Hid (Bs 29 (w4.alloc (.cells #[.string q.name, .int .i64 q.now, .slice q.ha q.hs.length q.hc, .slice q.sa q.seen.length q.sc, .slice q.la q.lk.length q.lc] 29)) w4.heap.size #[.string q.name, .int .i64 q.now, .slice q.ha q.hs.length q.hc, .slice q.sa q.seen.length q.sc, .slice q.la q.lk.length q.lc]) := Bs.new _ _ _
    have HQ5 : Hid (OwnTp (w4.alloc (.cells #[.string q.name, .int .i64 q.now, .slice q.ha q.hs.length q.hc, .slice q.sa q.seen.length q.sc, .slice q.la q.lk.length q.lc] 29)) (w2.heap.size + 1) q) := ((hqo.mono (Nat.le_of_eq HW3.out.symm)).below ((Below.refl _ w4).alloc (Nat.le_refl _) _))
    have HQE : Hid _ := hqe
    have y0 := HY5.out.cell 0 rfl
    have z0 := HZ5.out.cell 0 rfl
    have f0 := HZ5.out.free 0
    have y1 := HY5.out.cell 1 rfl
    have z1 := HZ5.out.cell 1 rfl
    have f1 := HZ5.out.free 1
    have y2 := HY5.out.cell 2 rfl
    have z2 := HZ5.out.cell 2 rfl
    have f2 := HZ5.out.free 2
    have y3 := HY5.out.cell 3 rfl
    have z3 := HZ5.out.cell 3 rfl
    have f3 := HZ5.out.free 3
    have y4 := HY5.out.cell 4 rfl
    have z4 := HZ5.out.cell 4 rfl
    have f4 := HZ5.out.free 4
    clear hb4 HB3 HZ3 HTR hqo hqe
    go_wp2_with fail
    have HF : Hid (Bs 29 ((((((w4.alloc (.cells #[.string q.name, .int .i64 q.now, .slice q.ha q.hs.length q.hc, .slice q.sa q.seen.length q.sc, .slice q.la q.lk.length q.lc] 29)).setCell ⟨w.heap.size, 0, none⟩ (.string q.name)).setCell ⟨w.heap.size, 1, none⟩ (.int .i64 q.now)).setCell ⟨w.heap.size, 2, none⟩ (.slice q.ha q.hs.length q.hc)).setCell ⟨w.heap.size, 3, none⟩ (.slice q.sa q.seen.length q.sc)).setCell ⟨w.heap.size, 4, none⟩ (.slice q.la q.lk.length q.lc)) w.heap.size #[.string q.name, .int .i64 q.now, .slice q.ha q.hs.length q.hc, .slice q.sa q.seen.length q.sc, .slice q.la q.lk.length q.lc]) := ((((HZ5.out.set 0 (.string q.name)).set 1 (.int .i64 q.now)).set 2 (.slice q.ha q.hs.length q.hc)).set 3 (.slice q.sa q.seen.length q.sc)).set 4 (.slice q.la q.lk.length q.lc)
    have HBF : Hid (Below w.heap.size w ((((((w4.alloc (.cells #[.string q.name, .int .i64 q.now, .slice q.ha q.hs.length q.hc, .slice q.sa q.seen.length q.sc, .slice q.la q.lk.length q.lc] 29)).setCell ⟨w.heap.size, 0, none⟩ (.string q.name)).setCell ⟨w.heap.size, 1, none⟩ (.int .i64 q.now)).setCell ⟨w.heap.size, 2, none⟩ (.slice q.ha q.hs.length q.hc)).setCell ⟨w.heap.size, 3, none⟩ (.slice q.sa q.seen.length q.sc)).setCell ⟨w.heap.size, 4, none⟩ (.slice q.la q.lk.length q.lc))) := by
      show Below _ _ _
      iterate 5 refine Below.setCell ?_ (by exact Nat.le_refl _) _
      exact HB5.out
    have HPT : Hid (OwnTp ((((((w4.alloc (.cells #[.string q.name, .int .i64 q.now, .slice q.ha q.hs.length q.hc, .slice q.sa q.seen.length q.sc, .slice q.la q.lk.length q.lc] 29)).setCell ⟨w.heap.size, 0, none⟩ (.string q.name)).setCell ⟨w.heap.size, 1, none⟩ (.int .i64 q.now)).setCell ⟨w.heap.size, 2, none⟩ (.slice q.ha q.hs.length q.hc)).setCell ⟨w.heap.size, 3, none⟩ (.slice q.sa q.seen.length q.sc)).setCell ⟨w.heap.size, 4, none⟩ (.slice q.la q.lk.length q.lc)) (w2.heap.size + 1) q) := ((((HQ5.out.set HLT.out).set HLT.out).set HLT.out).set HLT.out).set HLT.out
    obtain ⟨wf, hwf⟩ : ∃ wf, ((((((w4.alloc (.cells #[.string q.name, .int .i64 q.now, .slice q.ha q.hs.length q.hc, .slice q.sa q.seen.length q.sc, .slice q.la q.lk.length q.lc] 29)).setCell ⟨w.heap.size, 0, none⟩ (.string q.name)).setCell ⟨w.heap.size, 1, none⟩ (.int .i64 q.now)).setCell ⟨w.heap.size, 2, none⟩ (.slice q.ha q.hs.length q.hc)).setCell ⟨w.heap.size, 3, none⟩ (.slice q.sa q.seen.length q.sc)).setCell ⟨w.heap.size, 4, none⟩ (.slice q.la q.lk.length q.lc)) = wf := ⟨_, rfl⟩
    rw [hwf] at HF HBF HPT ⊢
    have q0 := HF.out.cell 0 rfl
    have q1 := HF.out.cell 1 rfl
    have q2 := HF.out.cell 2 rfl
    have q3 := HF.out.cell 3 rfl
    have q4 := HF.out.cell 4 rfl
    refine bodyPost_ret (v := .tuple #[tpV q, .bool true]) (by simp [results, Tryz.results23, go_sem, q0, q1, q2, q3, q4, tpV]) rfl ?_
    unfold GoneIs
    rw [HWK.out, if_pos rfl]
    exact ⟨q, rfl, by rw [HQE.out, HPE.out], HPT.out.mono (Nat.le_of_lt HLT.out), HBF.out⟩
  | false =>
    have HWK : Hid (wOk L = false) := hwk
    simp only [hwk, Bool.false_eq_true, ↓reduceIte] at HTR
    clear hwk
    go_wp2_with fail
    clear x0 x1 x2 x3 x4
    refine Calls.mono HTR.out ?_
    rintro e w4 ⟨rfl, hb4⟩
    have HB5 : Hid (Below w.heap.size w (w4.alloc (.cells #[.string ⟨#[]⟩, .int .i64 0, .slice none 0 0, .slice none 0 0, .slice none 0 0] 29))) := (HB3.out.trans (hb4.mono HB3.out.size)).alloc (HB3.out.trans (hb4.mono HB3.out.size)).size _
    have HZ5 : Hid (Bs 29 (w4.alloc (.cells #[.string ⟨#[]⟩, .int .i64 0, .slice none 0 0, .slice none 0 0, .slice none 0 0] 29)) w.heap.size #[.string ⟨#[]⟩, .int .i64 0, .slice none 0 0, .slice none 0 0, .slice none 0 0]) := (HZ3.out.below hb4).alloc _
    have HY5 : Hid (Bs 29 (w4.alloc (.cells #[.string ⟨#[]⟩, .int .i64 0, .slice none 0 0, .slice none 0 0, .slice none 0 0] 29)) w4.heap.size #[.string ⟨#[]⟩, .int .i64 0, .slice none 0 0, .slice none 0 0, .slice none 0 0]) := Bs.new _ _ _
    have y0 := HY5.out.cell 0 rfl
    have z0 := HZ5.out.cell 0 rfl
    have f0 := HZ5.out.free 0
    have y1 := HY5.out.cell 1 rfl
    have z1 := HZ5.out.cell 1 rfl
    have f1 := HZ5.out.free 1
    have y2 := HY5.out.cell 2 rfl
    have z2 := HZ5.out.cell 2 rfl
    have f2 := HZ5.out.free 2
    have y3 := HY5.out.cell 3 rfl
    have z3 := HZ5.out.cell 3 rfl
    have f3 := HZ5.out.free 3
    have y4 := HY5.out.cell 4 rfl
    have z4 := HZ5.out.cell 4 rfl
    have f4 := HZ5.out.free 4
    clear hb4 HB3 HZ3 HTR
    go_wp2_with fail
    have HF : Hid (Bs 29 ((((((w4.alloc (.cells #[.string ⟨#[]⟩, .int .i64 0, .slice none 0 0, .slice none 0 0, .slice none 0 0] 29)).setCell ⟨w.heap.size, 0, none⟩ (.string ⟨#[]⟩)).setCell ⟨w.heap.size, 1, none⟩ (.int .i64 0)).setCell ⟨w.heap.size, 2, none⟩ (.slice none 0 0)).setCell ⟨w.heap.size, 3, none⟩ (.slice none 0 0)).setCell ⟨w.heap.size, 4, none⟩ (.slice none 0 0)) w.heap.size #[.string ⟨#[]⟩, .int .i64 0, .slice none 0 0, .slice none 0 0, .slice none 0 0]) := ((((HZ5.out.set 0 (.string ⟨#[]⟩)).set 1 (.int .i64 0)).set 2 (.slice none 0 0)).set 3 (.slice none 0 0)).set 4 (.slice none 0 0)
    have HBF : Hid (Below w.heap.size w ((((((w4.alloc (.cells #[.string ⟨#[]⟩, .int .i64 0, .slice none 0 0, .slice none 0 0, .slice none 0 0] 29)).setCell ⟨w.heap.size, 0, none⟩ (.string ⟨#[]⟩)).setCell ⟨w.heap.size, 1, none⟩ (.int .i64 0)).setCell ⟨w.heap.size, 2, none⟩ (.slice none 0 0)).setCell ⟨w.heap.size, 3, none⟩ (.slice none 0 0)).setCell ⟨w.heap.size, 4, none⟩ (.slice none 0 0))) := by
      show Below _ _ _
      iterate 5 refine Below.setCell ?_ (by exact Nat.le_refl _) _
      exact HB5.out
    obtain ⟨wf, hwf⟩ : ∃ wf, ((((((w4.alloc (.cells #[.string ⟨#[]⟩, .int .i64 0, .slice none 0 0, .slice none 0 0, .slice none 0 0] 29)).setCell ⟨w.heap.size, 0, none⟩ (.string ⟨#[]⟩)).setCell ⟨w.heap.size, 1, none⟩ (.int .i64 0)).setCell ⟨w.heap.size, 2, none⟩ (.slice none 0 0)).setCell ⟨w.heap.size, 3, none⟩ (.slice none 0 0)).setCell ⟨w.heap.size, 4, none⟩ (.slice none 0 0)) = wf := ⟨_, rfl⟩
    rw [hwf] at HF HBF ⊢
    have q0 := HF.out.cell 0 rfl
    have q1 := HF.out.cell 1 rfl
    have q2 := HF.out.cell 2 rfl
    have q3 := HF.out.cell 3 rfl
    have q4 := HF.out.cell 4 rfl
    refine bodyPost_ret (v := .tuple #[tpV tpZ, .bool false]) (by simp [results, Tryz.results23, go_sem, q0, q1, q2, q3, q4, tpV, tpZ]) rfl ?_
    unfold GoneIs
    rw [HWK.out, if_neg (by simp)]
    exact ⟨rfl, HBF.out⟩
end Go.Proofs.YtiennniclkbjlaaGreatDoor.Tn
