/- Of the program: TripRun and TripStep. -/
import Derived.Test.YtiennniclkbjlaaGreatDoorTn14Pk
import Derived.Test.YtiennniclkbjlaaGreatDoorErrIs
namespace Go.Proofs.YtiennniclkbjlaaGreatDoor.Tn
open Go.RowKit Go.Proofs.YtiennniclkbjlaaGreatDoor.Bk Go.Proofs.YtiennniclkbjlaaGreatDoor.WdN Go.Proofs.YtiennniclkbjlaaGreatDoor.RoPg Go.Proofs.YtiennniclkbjlaaGreatDoor.EscM Go.Proofs.YtiennniclkbjlaaGreatDoor.AddrM Go.Proofs.YtiennniclkbjlaaGreatDoor.ReadM Go.Proofs.YtiennniclkbjlaaGreatDoor.Rd1 Go.Proofs.YtiennniclkbjlaaGreatDoor.Ad1 Go.Proofs.YtiennniclkbjlaaGreatDoor.RuleM Go.Proofs.YtiennniclkbjlaaGreatDoor.St Go.Proofs.YtiennniclkbjlaaGreatDoor.EscL Go.Proofs.YtiennniclkbjlaaGreatDoor.RR Go.Proofs.YtiennniclkbjlaaGreatDoor.LetM Go.Proofs.YtiennniclkbjlaaGreatDoor.GrM Go.Proofs.YtiennniclkbjlaaGreatDoor.RoIt Go.Proofs.YtiennniclkbjlaaGreatDoor.RoLk Go.Proofs.YtiennniclkbjlaaGreatDoor.RoQ Go.Proofs.YtiennniclkbjlaaGreatDoor.Mp Go.Proofs.YtiennniclkbjlaaGreatDoor.WdM Go.Proofs.YtiennniclkbjlaaGreatDoor.Wd Go.Proofs.YtiennniclkbjlaaGreatDoor.TpM Go.Proofs.YtiennniclkbjlaaGreatDoor.TrM Go.Proofs.YtiennniclkbjlaaGreatDoor.TrW Go.Proofs.YtiennniclkbjlaaGreatDoor.Tq Go.Proofs.YtiennniclkbjlaaGreatDoor.PgM Go.Proofs.YtiennniclkbjlaaGreatDoor.PgA Go.Proofs.YtiennniclkbjlaaGreatDoor.MkA Go.Proofs.YtiennniclkbjlaaGreatDoor.Im Go.Proofs.YtiennniclkbjlaaGreatDoor.Nm

/-- the two errors of trips: where they lie -/
structure Errs (w : World) (ea eb : Addr) : Prop where
  c : w.cell? ⟨0, 0, none⟩ = some (.iface 249 (.pointer (some ea)))
  n : w.cell? ⟨1, 0, none⟩ = some (.iface 249 (.pointer (some eb)))
  ne : eb ≠ ea
  ra : ∃ ca ta, w.heap[ea.block]? = some (.cells ca ta (0, 0))
  rb : ∃ cb tb, w.heap[eb.block]? = some (.cells cb tb (0, 0))
theorem Errs.below {w w' : World} {ea eb : Addr} (h : Errs w ea eb) (hb : Below w.heap.size w w') : Errs w' ea eb := by
  obtain ⟨ca, ta, h1⟩ := h.ra
  obtain ⟨cb, tb, h2⟩ := h.rb
  exact ⟨(hb.cell (St.cell_block h.c)).trans h.c, (hb.cell (St.cell_block h.n)).trans h.n, h.ne, ⟨ca, ta, (hb.block _ (Array.getElem?_eq_some_iff.1 h1).1).trans h1⟩, ⟨cb, tb, (hb.block _ (Array.getElem?_eq_some_iff.1 h2).1).trans h2⟩⟩
def RunIs (L : List Pg) (n : Nat) (p : Tp) (w : World) (e : Ending) (w' : World) : Prop :=
  if wOk L then ∃ p' : Tp, e = .returned (.tuple #[tpV p', .bool true]) ∧ tmP p' = TrM.runT L n (tmP p) ∧ OwnTp w' w.heap.size p' ∧ Below w.heap.size w w'
  else e = .returned (.tuple #[tpV tpZ, .bool false]) ∧ Below w.heap.size w w'
def StepIs (L : List Pg) (p : Tp) (w : World) (e : Ending) (w' : World) : Prop :=
  match (if wOk L then TrM.stepT L (tmP p) else none) with
  | some t' => ∃ p' : Tp, e = .returned (.tuple #[tpV p', .bool true]) ∧ tmP p' = t' ∧ OwnTp w' w.heap.size p' ∧ Below w.heap.size w w'
  | none => e = .returned (.tuple #[tpV tpZ, .bool false]) ∧ Below w.heap.size w w'
set_option maxRecDepth 100000 in
set_option maxHeartbeats 6400000 in
theorem tripRun_any (b0 : Option Addr) (dap : Nat) (L : List Pg) (p : Tp) (n : Nat) (ea eb : Addr) (w : World) (hM : Mx w) (hE : Errs w ea eb) (hI : IsRows FPg w b0 dap L) (hz : PgSz L) (hAs : PgAs L) (hT : PgTx L) (ht : ∀ p ∈ L, p.text.size ≤ 1000000) (hA : TpAt w p) (hok : TmOk (tmP p)) (hfe : (tmP p).hs.length ≤ (tmP p).seen.length) (hn : n ≤ 400) :
    Calls Tryz.prog 17 #[.slice b0 L.length dap, tpV p, .int .i64 (n : Int)] w fun e w' => RunIs L n p w e w' := by
  have HX0 : Hid (Bs 29 ((w.alloc (.cells #[.string p.name, .int .i64 p.now, .slice p.ha p.hs.length p.hc, .slice p.sa p.seen.length p.sc, .slice p.la p.lk.length p.lc] 29)).alloc (.cells #[.string ⟨#[]⟩, .int .i64 0, .slice none 0 0, .slice none 0 0, .slice none 0 0] 29)) w.heap.size #[.string p.name, .int .i64 p.now, .slice p.ha p.hs.length p.hc, .slice p.sa p.seen.length p.sc, .slice p.la p.lk.length p.lc]) := (Bs.new _ _ _).alloc _
  have HZ0 : Hid (Bs 29 ((w.alloc (.cells #[.string p.name, .int .i64 p.now, .slice p.ha p.hs.length p.hc, .slice p.sa p.seen.length p.sc, .slice p.la p.lk.length p.lc] 29)).alloc (.cells #[.string ⟨#[]⟩, .int .i64 0, .slice none 0 0, .slice none 0 0, .slice none 0 0] 29)) (w.heap.size + 1) #[.string ⟨#[]⟩, .int .i64 0, .slice none 0 0, .slice none 0 0, .slice none 0 0]) := by
    have := Bs.new 29 (w.alloc (.cells #[.string p.name, .int .i64 p.now, .slice p.ha p.hs.length p.hc, .slice p.sa p.seen.length p.sc, .slice p.la p.lk.length p.lc] 29)) #[.string ⟨#[]⟩, .int .i64 0, .slice none 0 0, .slice none 0 0, .slice none 0 0]
    rw [show (w.alloc (.cells #[.string p.name, .int .i64 p.now, .slice p.ha p.hs.length p.hc, .slice p.sa p.seen.length p.sc, .slice p.la p.lk.length p.lc] 29)).heap.size = w.heap.size + 1 by simp] at this
    exact this
  have HB0 : Hid (Below w.heap.size w ((w.alloc (.cells #[.string p.name, .int .i64 p.now, .slice p.ha p.hs.length p.hc, .slice p.sa p.seen.length p.sc, .slice p.la p.lk.length p.lc] 29)).alloc (.cells #[.string ⟨#[]⟩, .int .i64 0, .slice none 0 0, .slice none 0 0, .slice none 0 0] 29))) := ((Below.refl _ w).alloc (Nat.le_refl _) _).alloc (by simp) _
  have HSZ : Hid (((w.alloc (.cells #[.string p.name, .int .i64 p.now, .slice p.ha p.hs.length p.hc, .slice p.sa p.seen.length p.sc, .slice p.la p.lk.length p.lc] 29)).alloc (.cells #[.string ⟨#[]⟩, .int .i64 0, .slice none 0 0, .slice none 0 0, .slice none 0 0] 29)).heap.size = w.heap.size + 2) := by show _ = _; simp
  obtain ⟨w0, hw0⟩ : ∃ w0, ((w.alloc (.cells #[.string p.name, .int .i64 p.now, .slice p.ha p.hs.length p.hc, .slice p.sa p.seen.length p.sc, .slice p.la p.lk.length p.lc] 29)).alloc (.cells #[.string ⟨#[]⟩, .int .i64 0, .slice none 0 0, .slice none 0 0, .slice none 0 0] 29)) = w0 := ⟨_, rfl⟩
  rw [hw0] at HX0 HZ0 HB0 HSZ
  have HE : Hid (Errs w ea eb) := hE
  have HRZ : Hid (w.heap.size + 1 < w0.heap.size) := by show _ < _; rw [HSZ.out]; omega
  have HMK : Hid (Calls Tryz.prog 44 #[.slice b0 L.length dap, tpV p, .int .i64 (n : Int)] w0 fun e w' => MadeIs L n p (.iface 249 (.pointer (some ea))) (.iface 249 (.pointer (some eb))) w0 e w') := makeCalls_any b0 dap L p n ea eb w0 (hM.below HB0.out) (hE.below HB0.out).c (hE.below HB0.out).n (hI.below HB0.out) hz hAs hT ht (hA.below HB0.out) hok hfe (by omega)
  have x0 := HX0.out.cell 0 rfl
  have x1 := HX0.out.cell 1 rfl
  have x2 := HX0.out.cell 2 rfl
  have x3 := HX0.out.cell 3 rfl
  have x4 := HX0.out.cell 4 rfl
  clear hM hE hI hz hAs hT ht hA hok hfe
  unfold MadeIs at HMK
  unfold tpV tpZ at HMK
  unfold tpV
  dsimp only [List.length_nil] at HMK
  have hnn : ∀ (v : Value) (W : World), (binOp .neq 76 (.iface 249 v) .nilIface).run Tryz.prog W = .ok (.bool true) W := fun _ _ => by first | rfl | kernel_rfl
  have hn0 : ∀ (W : World), (binOp .neq 76 .nilIface .nilIface).run Tryz.prog W = .ok (.bool false) W := fun _ => by first | rfl | kernel_rfl
  cases hwk : wOk L with
  | true =>
    have HWK : Hid (wOk L = true) := hwk
    simp only [hwk, ↓reduceIte] at HMK
    clear hwk
    cases hrb : TrM.runB L n (tmP p) with
    | true =>
      simp only [hrb, ↓reduceIte] at HMK
      clear hrb
      go_enter Tryz.func17, Tryz.ntmps17
      go_wp2_with fail
      clear hw0 x0 x1 x2 x3 x4
      refine Calls.mono HMK.out ?_
      rintro e w1 ⟨pf, rfl, hpf, hpA, hb1⟩
      have HB1 : Hid (Below w.heap.size w (w1.alloc (.cells #[.string pf.name, .int .i64 pf.now, .slice pf.ha pf.hs.length pf.hc, .slice pf.sa pf.seen.length pf.sc, .slice pf.la pf.lk.length pf.lc] 29))) := (HB0.out.trans (hb1.mono HB0.out.size)).alloc (HB0.out.trans (hb1.mono HB0.out.size)).size _
      have HPF : Hid _ := hpf
      have HPA : Hid (OwnTp (w1.alloc (.cells #[.string pf.name, .int .i64 pf.now, .slice pf.ha pf.hs.length pf.hc, .slice pf.sa pf.seen.length pf.sc, .slice pf.la pf.lk.length pf.lc] 29)) w0.heap.size pf) := hpA.below ((Below.refl _ w1).alloc (Nat.le_refl _) _)
      have HZ1 : Hid (Bs 29 (w1.alloc (.cells #[.string pf.name, .int .i64 pf.now, .slice pf.ha pf.hs.length pf.hc, .slice pf.sa pf.seen.length pf.sc, .slice pf.la pf.lk.length pf.lc] 29)) (w.heap.size + 1) #[.string ⟨#[]⟩, .int .i64 0, .slice none 0 0, .slice none 0 0, .slice none 0 0]) := (HZ0.out.below hb1).alloc _
      have HY1 : Hid (Bs 29 (w1.alloc (.cells #[.string pf.name, .int .i64 pf.now, .slice pf.ha pf.hs.length pf.hc, .slice pf.sa pf.seen.length pf.sc, .slice pf.la pf.lk.length pf.lc] 29)) w1.heap.size #[.string pf.name, .int .i64 pf.now, .slice pf.ha pf.hs.length pf.hc, .slice pf.sa pf.seen.length pf.sc, .slice pf.la pf.lk.length pf.lc]) := Bs.new _ _ _
      have HE1 : Hid (Errs (w1.alloc (.cells #[.string pf.name, .int .i64 pf.now, .slice pf.ha pf.hs.length pf.hc, .slice pf.sa pf.seen.length pf.sc, .slice pf.la pf.lk.length pf.lc] 29)) ea eb) := HE.out.below HB1.out
      have hs1 : w.heap.size + 1 < w1.heap.size := Nat.lt_of_lt_of_le (by rw [HSZ.out]; omega) hb1.size
      have HHS : Hid (w.heap.size + 1 < w1.heap.size) := hs1
      obtain ⟨wA, hwA⟩ : ∃ wA, w1.alloc (.cells #[.string pf.name, .int .i64 pf.now, .slice pf.ha pf.hs.length pf.hc, .slice pf.sa pf.seen.length pf.sc, .slice pf.la pf.lk.length pf.lc] 29) = wA := ⟨_, rfl⟩
      rw [hwA] at HY1
      rw [hwA] at HB1 HZ1 HE1 HPA
      have y0 := HY1.out.cell 0 rfl
      have z0 := HZ1.out.cell 0 rfl
      have f0 := HZ1.out.free 0
      have y1 := HY1.out.cell 1 rfl
      have z1 := HZ1.out.cell 1 rfl
      have f1 := HZ1.out.free 1
      have y2 := HY1.out.cell 2 rfl
      have z2 := HZ1.out.cell 2 rfl
      have f2 := HZ1.out.free 2
      have y3 := HY1.out.cell 3 rfl
      have z3 := HZ1.out.cell 3 rfl
      have f3 := HZ1.out.free 3
      have y4 := HY1.out.cell 4 rfl
      have z4 := HZ1.out.cell 4 rfl
      have f4 := HZ1.out.free 4
      clear hb1 hs1 HMK hpf hpA
      go_wp2_with fail
      have HF : Hid (Bs 29 (((((wA.setCell ⟨w.heap.size + 1, 0, none⟩ (.string pf.name)).setCell ⟨w.heap.size + 1, 1, none⟩ (.int .i64 pf.now)).setCell ⟨w.heap.size + 1, 2, none⟩ (.slice pf.ha pf.hs.length pf.hc)).setCell ⟨w.heap.size + 1, 3, none⟩ (.slice pf.sa pf.seen.length pf.sc)).setCell ⟨w.heap.size + 1, 4, none⟩ (.slice pf.la pf.lk.length pf.lc)) (w.heap.size + 1) #[.string pf.name, .int .i64 pf.now, .slice pf.ha pf.hs.length pf.hc, .slice pf.sa pf.seen.length pf.sc, .slice pf.la pf.lk.length pf.lc]) := ((((HZ1.out.set 0 _).set 1 _).set 2 _).set 3 _).set 4 _
      have HBF : Hid (Below w.heap.size w (((((wA.setCell ⟨w.heap.size + 1, 0, none⟩ (.string pf.name)).setCell ⟨w.heap.size + 1, 1, none⟩ (.int .i64 pf.now)).setCell ⟨w.heap.size + 1, 2, none⟩ (.slice pf.ha pf.hs.length pf.hc)).setCell ⟨w.heap.size + 1, 3, none⟩ (.slice pf.sa pf.seen.length pf.sc)).setCell ⟨w.heap.size + 1, 4, none⟩ (.slice pf.la pf.lk.length pf.lc))) := by
        show Below _ _ _
        iterate 5 refine Below.setCell ?_ (by dsimp only; omega) _
        exact HB1.out
      have HPT : Hid (OwnTp (((((wA.setCell ⟨w.heap.size + 1, 0, none⟩ (.string pf.name)).setCell ⟨w.heap.size + 1, 1, none⟩ (.int .i64 pf.now)).setCell ⟨w.heap.size + 1, 2, none⟩ (.slice pf.ha pf.hs.length pf.hc)).setCell ⟨w.heap.size + 1, 3, none⟩ (.slice pf.sa pf.seen.length pf.sc)).setCell ⟨w.heap.size + 1, 4, none⟩ (.slice pf.la pf.lk.length pf.lc)) w0.heap.size pf) := ((((HPA.out.set HRZ.out).set HRZ.out).set HRZ.out).set HRZ.out).set HRZ.out
      obtain ⟨wf, hwf⟩ : ∃ wf, (((((wA.setCell ⟨w.heap.size + 1, 0, none⟩ (.string pf.name)).setCell ⟨w.heap.size + 1, 1, none⟩ (.int .i64 pf.now)).setCell ⟨w.heap.size + 1, 2, none⟩ (.slice pf.ha pf.hs.length pf.hc)).setCell ⟨w.heap.size + 1, 3, none⟩ (.slice pf.sa pf.seen.length pf.sc)).setCell ⟨w.heap.size + 1, 4, none⟩ (.slice pf.la pf.lk.length pf.lc)) = wf := ⟨_, rfl⟩
      rw [hwf] at HF HBF HPT ⊢
      have q0 := HF.out.cell 0 rfl
      have q1 := HF.out.cell 1 rfl
      have q2 := HF.out.cell 2 rfl
      have q3 := HF.out.cell 3 rfl
      have q4 := HF.out.cell 4 rfl
      refine bodyPost_ret (v := .tuple #[tpV pf, .bool true]) (by simp [results, Tryz.results17, go_sem, q0, q1, q2, q3, q4, tpV]) rfl ?_
      unfold RunIs
      rw [HWK.out, if_pos rfl]
      exact ⟨pf, rfl, HPF.out, HPT.out.mono HB0.out.size, HBF.out⟩
    | false =>
      simp only [hrb, Bool.false_eq_true, ↓reduceIte] at HMK
      clear hrb
      go_enter Tryz.func17, Tryz.ntmps17
      go_wp2_with fail
      clear hw0 x0 x1 x2 x3 x4
      refine Calls.mono HMK.out ?_
      rintro e w1 ⟨pf, rfl, hpf, hpA, hb1⟩
      have HB1 : Hid (Below w.heap.size w (w1.alloc (.cells #[.string pf.name, .int .i64 pf.now, .slice pf.ha pf.hs.length pf.hc, .slice pf.sa pf.seen.length pf.sc, .slice pf.la pf.lk.length pf.lc] 29))) := (HB0.out.trans (hb1.mono HB0.out.size)).alloc (HB0.out.trans (hb1.mono HB0.out.size)).size _
      have HPF : Hid _ := hpf
      have HPA : Hid (OwnTp (w1.alloc (.cells #[.string pf.name, .int .i64 pf.now, .slice pf.ha pf.hs.length pf.hc, .slice pf.sa pf.seen.length pf.sc, .slice pf.la pf.lk.length pf.lc] 29)) w0.heap.size pf) := hpA.below ((Below.refl _ w1).alloc (Nat.le_refl _) _)
      have HZ1 : Hid (Bs 29 (w1.alloc (.cells #[.string pf.name, .int .i64 pf.now, .slice pf.ha pf.hs.length pf.hc, .slice pf.sa pf.seen.length pf.sc, .slice pf.la pf.lk.length pf.lc] 29)) (w.heap.size + 1) #[.string ⟨#[]⟩, .int .i64 0, .slice none 0 0, .slice none 0 0, .slice none 0 0]) := (HZ0.out.below hb1).alloc _
      have HY1 : Hid (Bs 29 (w1.alloc (.cells #[.string pf.name, .int .i64 pf.now, .slice pf.ha pf.hs.length pf.hc, .slice pf.sa pf.seen.length pf.sc, .slice pf.la pf.lk.length pf.lc] 29)) w1.heap.size #[.string pf.name, .int .i64 pf.now, .slice pf.ha pf.hs.length pf.hc, .slice pf.sa pf.seen.length pf.sc, .slice pf.la pf.lk.length pf.lc]) := Bs.new _ _ _
      have HE1 : Hid (Errs (w1.alloc (.cells #[.string pf.name, .int .i64 pf.now, .slice pf.ha pf.hs.length pf.hc, .slice pf.sa pf.seen.length pf.sc, .slice pf.la pf.lk.length pf.lc] 29)) ea eb) := HE.out.below HB1.out
      have hs1 : w.heap.size + 1 < w1.heap.size := Nat.lt_of_lt_of_le (by rw [HSZ.out]; omega) hb1.size
      have HHS : Hid (w.heap.size + 1 < w1.heap.size) := hs1
      obtain ⟨wA, hwA⟩ : ∃ wA, w1.alloc (.cells #[.string pf.name, .int .i64 pf.now, .slice pf.ha pf.hs.length pf.hc, .slice pf.sa pf.seen.length pf.sc, .slice pf.la pf.lk.length pf.lc] 29) = wA := ⟨_, rfl⟩
      rw [hwA] at HY1
      rw [hwA] at HB1 HZ1 HE1 HPA
      have y0 := HY1.out.cell 0 rfl
      have z0 := HZ1.out.cell 0 rfl
      have f0 := HZ1.out.free 0
      have y1 := HY1.out.cell 1 rfl
      have z1 := HZ1.out.cell 1 rfl
      have f1 := HZ1.out.free 1
      have y2 := HY1.out.cell 2 rfl
      have z2 := HZ1.out.cell 2 rfl
      have f2 := HZ1.out.free 2
      have y3 := HY1.out.cell 3 rfl
      have z3 := HZ1.out.cell 3 rfl
      have f3 := HZ1.out.free 3
      have y4 := HY1.out.cell 4 rfl
      have z4 := HZ1.out.cell 4 rfl
      have f4 := HZ1.out.free 4
      have e1 := HE1.out.c
      clear hb1 hs1 HMK hpf hpA
      go_wp2_with (go_at_call 45; refine (eis_same ea _).mono ?_; rintro e w5 ⟨rfl, e5⟩; have e6 := e5.symm; subst e6)
      have HF : Hid (Bs 29 (((((wA.setCell ⟨w.heap.size + 1, 0, none⟩ (.string pf.name)).setCell ⟨w.heap.size + 1, 1, none⟩ (.int .i64 pf.now)).setCell ⟨w.heap.size + 1, 2, none⟩ (.slice pf.ha pf.hs.length pf.hc)).setCell ⟨w.heap.size + 1, 3, none⟩ (.slice pf.sa pf.seen.length pf.sc)).setCell ⟨w.heap.size + 1, 4, none⟩ (.slice pf.la pf.lk.length pf.lc)) (w.heap.size + 1) #[.string pf.name, .int .i64 pf.now, .slice pf.ha pf.hs.length pf.hc, .slice pf.sa pf.seen.length pf.sc, .slice pf.la pf.lk.length pf.lc]) := ((((HZ1.out.set 0 _).set 1 _).set 2 _).set 3 _).set 4 _
      have HBF : Hid (Below w.heap.size w (((((wA.setCell ⟨w.heap.size + 1, 0, none⟩ (.string pf.name)).setCell ⟨w.heap.size + 1, 1, none⟩ (.int .i64 pf.now)).setCell ⟨w.heap.size + 1, 2, none⟩ (.slice pf.ha pf.hs.length pf.hc)).setCell ⟨w.heap.size + 1, 3, none⟩ (.slice pf.sa pf.seen.length pf.sc)).setCell ⟨w.heap.size + 1, 4, none⟩ (.slice pf.la pf.lk.length pf.lc))) := by
        show Below _ _ _
        iterate 5 refine Below.setCell ?_ (by dsimp only; omega) _
        exact HB1.out
      have HPT : Hid (OwnTp (((((wA.setCell ⟨w.heap.size + 1, 0, none⟩ (.string pf.name)).setCell ⟨w.heap.size + 1, 1, none⟩ (.int .i64 pf.now)).setCell ⟨w.heap.size + 1, 2, none⟩ (.slice pf.ha pf.hs.length pf.hc)).setCell ⟨w.heap.size + 1, 3, none⟩ (.slice pf.sa pf.seen.length pf.sc)).setCell ⟨w.heap.size + 1, 4, none⟩ (.slice pf.la pf.lk.length pf.lc)) w0.heap.size pf) := ((((HPA.out.set HRZ.out).set HRZ.out).set HRZ.out).set HRZ.out).set HRZ.out
      obtain ⟨wf, hwf⟩ : ∃ wf, (((((wA.setCell ⟨w.heap.size + 1, 0, none⟩ (.string pf.name)).setCell ⟨w.heap.size + 1, 1, none⟩ (.int .i64 pf.now)).setCell ⟨w.heap.size + 1, 2, none⟩ (.slice pf.ha pf.hs.length pf.hc)).setCell ⟨w.heap.size + 1, 3, none⟩ (.slice pf.sa pf.seen.length pf.sc)).setCell ⟨w.heap.size + 1, 4, none⟩ (.slice pf.la pf.lk.length pf.lc)) = wf := ⟨_, rfl⟩
      rw [hwf] at HF HBF HPT ⊢
      have q0 := HF.out.cell 0 rfl
      have q1 := HF.out.cell 1 rfl
      have q2 := HF.out.cell 2 rfl
      have q3 := HF.out.cell 3 rfl
      have q4 := HF.out.cell 4 rfl
      refine bodyPost_ret (v := .tuple #[tpV pf, .bool true]) (by simp [results, Tryz.results17, go_sem, q0, q1, q2, q3, q4, tpV]) rfl ?_
      unfold RunIs
      rw [HWK.out, if_pos rfl]
      exact ⟨pf, rfl, HPF.out, HPT.out.mono HB0.out.size, HBF.out⟩
  | false =>
    have HWK : Hid (wOk L = false) := hwk
    simp only [hwk, Bool.false_eq_true, ↓reduceIte] at HMK
    clear hwk
    go_enter Tryz.func17, Tryz.ntmps17
    go_wp2_with fail
    clear hw0 x0 x1 x2 x3 x4
    refine Calls.mono HMK.out ?_
    rintro e w1 ⟨rfl, hb1⟩
    have HB1 : Hid (Below w.heap.size w (w1.alloc (.cells #[.string ⟨#[]⟩, .int .i64 0, .slice none 0 0, .slice none 0 0, .slice none 0 0] 29))) := (HB0.out.trans (hb1.mono HB0.out.size)).alloc (HB0.out.trans (hb1.mono HB0.out.size)).size _
    have HZ1 : Hid (Bs 29 (w1.alloc (.cells #[.string ⟨#[]⟩, .int .i64 0, .slice none 0 0, .slice none 0 0, .slice none 0 0] 29)) (w.heap.size + 1) #[.string ⟨#[]⟩, .int .i64 0, .slice none 0 0, .slice none 0 0, .slice none 0 0]) := (HZ0.out.below hb1).alloc _
    have HY1 : Hid (Bs 29 (w1.alloc (.cells #[.string ⟨#[]⟩, .int .i64 0, .slice none 0 0, .slice none 0 0, .slice none 0 0] 29)) w1.heap.size #[.string ⟨#[]⟩, .int .i64 0, .slice none 0 0, .slice none 0 0, .slice none 0 0]) := Bs.new _ _ _
    have HE1 : Hid (Errs (w1.alloc (.cells #[.string ⟨#[]⟩, .int .i64 0, .slice none 0 0, .slice none 0 0, .slice none 0 0] 29)) ea eb) := HE.out.below HB1.out
    have hs1 : w.heap.size + 1 < w1.heap.size := Nat.lt_of_lt_of_le (by rw [HSZ.out]; omega) hb1.size
    have HHS : Hid (w.heap.size + 1 < w1.heap.size) := hs1
    have y0 := HY1.out.cell 0 rfl
    have z0 := HZ1.out.cell 0 rfl
    have f0 := HZ1.out.free 0
    have y1 := HY1.out.cell 1 rfl
    have z1 := HZ1.out.cell 1 rfl
    have f1 := HZ1.out.free 1
    have y2 := HY1.out.cell 2 rfl
    have z2 := HZ1.out.cell 2 rfl
    have f2 := HZ1.out.free 2
    have y3 := HY1.out.cell 3 rfl
    have z3 := HZ1.out.cell 3 rfl
    have f3 := HZ1.out.free 3
    have y4 := HY1.out.cell 4 rfl
    have z4 := HZ1.out.cell 4 rfl
    have f4 := HZ1.out.free 4
    have e1 := HE1.out.c
    obtain ⟨ca, ta, hra⟩ := HE1.out.ra
    obtain ⟨cb, tb, hrb⟩ := HE1.out.rb
    clear hb1 hs1 HMK
    go_wp2_with (go_at_call 45; refine (eis_other eb ea cb ca tb ta _ HE1.out.ne hrb hra).mono ?_; rintro e w5 ⟨rfl, e5⟩; have e6 := e5.symm; subst e6)
    have HF : Hid (Bs 29 ((((((w1.alloc (.cells #[.string ⟨#[]⟩, .int .i64 0, .slice none 0 0, .slice none 0 0, .slice none 0 0] 29)).setCell ⟨w.heap.size + 1, 0, none⟩ (.string ⟨#[]⟩)).setCell ⟨w.heap.size + 1, 1, none⟩ (.int .i64 0)).setCell ⟨w.heap.size + 1, 2, none⟩ (.slice none 0 0)).setCell ⟨w.heap.size + 1, 3, none⟩ (.slice none 0 0)).setCell ⟨w.heap.size + 1, 4, none⟩ (.slice none 0 0)) (w.heap.size + 1) #[.string ⟨#[]⟩, .int .i64 0, .slice none 0 0, .slice none 0 0, .slice none 0 0]) := ((((HZ1.out.set 0 (.string ⟨#[]⟩)).set 1 (.int .i64 0)).set 2 (.slice none 0 0)).set 3 (.slice none 0 0)).set 4 (.slice none 0 0)
    have HBF : Hid (Below w.heap.size w ((((((w1.alloc (.cells #[.string ⟨#[]⟩, .int .i64 0, .slice none 0 0, .slice none 0 0, .slice none 0 0] 29)).setCell ⟨w.heap.size + 1, 0, none⟩ (.string ⟨#[]⟩)).setCell ⟨w.heap.size + 1, 1, none⟩ (.int .i64 0)).setCell ⟨w.heap.size + 1, 2, none⟩ (.slice none 0 0)).setCell ⟨w.heap.size + 1, 3, none⟩ (.slice none 0 0)).setCell ⟨w.heap.size + 1, 4, none⟩ (.slice none 0 0))) := by
      show Below _ _ _
      iterate 5 refine Below.setCell ?_ (by dsimp only; omega) _
      exact HB1.out
    obtain ⟨wf, hwf⟩ : ∃ wf, ((((((w1.alloc (.cells #[.string ⟨#[]⟩, .int .i64 0, .slice none 0 0, .slice none 0 0, .slice none 0 0] 29)).setCell ⟨w.heap.size + 1, 0, none⟩ (.string ⟨#[]⟩)).setCell ⟨w.heap.size + 1, 1, none⟩ (.int .i64 0)).setCell ⟨w.heap.size + 1, 2, none⟩ (.slice none 0 0)).setCell ⟨w.heap.size + 1, 3, none⟩ (.slice none 0 0)).setCell ⟨w.heap.size + 1, 4, none⟩ (.slice none 0 0)) = wf := ⟨_, rfl⟩
    rw [hwf] at HF HBF ⊢
    have q0 := HF.out.cell 0 rfl
    have q1 := HF.out.cell 1 rfl
    have q2 := HF.out.cell 2 rfl
    have q3 := HF.out.cell 3 rfl
    have q4 := HF.out.cell 4 rfl
    refine bodyPost_ret (v := .tuple #[tpV tpZ, .bool false]) (by simp [results, Tryz.results17, go_sem, q0, q1, q2, q3, q4, tpV, tpZ]) rfl ?_
    unfold RunIs
    rw [HWK.out, if_neg (by simp)]
    exact ⟨rfl, HBF.out⟩
set_option maxRecDepth 100000 in
set_option maxHeartbeats 6400000 in
theorem tripStep_any (b0 : Option Addr) (dap : Nat) (L : List Pg) (p : Tp) (ea eb : Addr) (w : World) (hM : Mx w) (hE : Errs w ea eb) (hI : IsRows FPg w b0 dap L) (hz : PgSz L) (hAs : PgAs L) (hT : PgTx L) (ht : ∀ p ∈ L, p.text.size ≤ 1000000) (hA : TpAt w p) (hok : TmOk (tmP p)) (hfe : (tmP p).hs.length ≤ (tmP p).seen.length) :
    Calls Tryz.prog 19 #[.slice b0 L.length dap, tpV p] w fun e w' => StepIs L p w e w' := by
  have HX0 : Hid (Bs 29 ((w.alloc (.cells #[.string p.name, .int .i64 p.now, .slice p.ha p.hs.length p.hc, .slice p.sa p.seen.length p.sc, .slice p.la p.lk.length p.lc] 29)).alloc (.cells #[.string ⟨#[]⟩, .int .i64 0, .slice none 0 0, .slice none 0 0, .slice none 0 0] 29)) w.heap.size #[.string p.name, .int .i64 p.now, .slice p.ha p.hs.length p.hc, .slice p.sa p.seen.length p.sc, .slice p.la p.lk.length p.lc]) := (Bs.new _ _ _).alloc _
  have HZ0 : Hid (Bs 29 ((w.alloc (.cells #[.string p.name, .int .i64 p.now, .slice p.ha p.hs.length p.hc, .slice p.sa p.seen.length p.sc, .slice p.la p.lk.length p.lc] 29)).alloc (.cells #[.string ⟨#[]⟩, .int .i64 0, .slice none 0 0, .slice none 0 0, .slice none 0 0] 29)) (w.heap.size + 1) #[.string ⟨#[]⟩, .int .i64 0, .slice none 0 0, .slice none 0 0, .slice none 0 0]) := by
    have := Bs.new 29 (w.alloc (.cells #[.string p.name, .int .i64 p.now, .slice p.ha p.hs.length p.hc, .slice p.sa p.seen.length p.sc, .slice p.la p.lk.length p.lc] 29)) #[.string ⟨#[]⟩, .int .i64 0, .slice none 0 0, .slice none 0 0, .slice none 0 0]
    rw [show (w.alloc (.cells #[.string p.name, .int .i64 p.now, .slice p.ha p.hs.length p.hc, .slice p.sa p.seen.length p.sc, .slice p.la p.lk.length p.lc] 29)).heap.size = w.heap.size + 1 by simp] at this
    exact this
  have HB0 : Hid (Below w.heap.size w ((w.alloc (.cells #[.string p.name, .int .i64 p.now, .slice p.ha p.hs.length p.hc, .slice p.sa p.seen.length p.sc, .slice p.la p.lk.length p.lc] 29)).alloc (.cells #[.string ⟨#[]⟩, .int .i64 0, .slice none 0 0, .slice none 0 0, .slice none 0 0] 29))) := ((Below.refl _ w).alloc (Nat.le_refl _) _).alloc (by simp) _
  have HSZ : Hid (((w.alloc (.cells #[.string p.name, .int .i64 p.now, .slice p.ha p.hs.length p.hc, .slice p.sa p.seen.length p.sc, .slice p.la p.lk.length p.lc] 29)).alloc (.cells #[.string ⟨#[]⟩, .int .i64 0, .slice none 0 0, .slice none 0 0, .slice none 0 0] 29)).heap.size = w.heap.size + 2) := by show _ = _; simp
  obtain ⟨w0, hw0⟩ : ∃ w0, ((w.alloc (.cells #[.string p.name, .int .i64 p.now, .slice p.ha p.hs.length p.hc, .slice p.sa p.seen.length p.sc, .slice p.la p.lk.length p.lc] 29)).alloc (.cells #[.string ⟨#[]⟩, .int .i64 0, .slice none 0 0, .slice none 0 0, .slice none 0 0] 29)) = w0 := ⟨_, rfl⟩
  rw [hw0] at HX0 HZ0 HB0 HSZ
  have HE : Hid (Errs w ea eb) := hE
  have HRZ : Hid (w.heap.size + 1 < w0.heap.size) := by show _ < _; rw [HSZ.out]; omega
  have HMK : Hid (Calls Tryz.prog 44 #[.slice b0 L.length dap, tpV p, .int .i64 ((1 : Nat) : Int)] w0 fun e w' => MadeIs L 1 p (.iface 249 (.pointer (some ea))) (.iface 249 (.pointer (some eb))) w0 e w') := makeCalls_any b0 dap L p 1 ea eb w0 (hM.below HB0.out) (hE.below HB0.out).c (hE.below HB0.out).n (hI.below HB0.out) hz hAs hT ht (hA.below HB0.out) hok hfe (by omega)
  have x0 := HX0.out.cell 0 rfl
  have x1 := HX0.out.cell 1 rfl
  have x2 := HX0.out.cell 2 rfl
  have x3 := HX0.out.cell 3 rfl
  have x4 := HX0.out.cell 4 rfl
  clear hM hE hI hz hAs hT ht hA hok hfe
  unfold MadeIs at HMK
  unfold tpV tpZ at HMK
  unfold tpV
  dsimp only [List.length_nil] at HMK
  have hnn : ∀ (v : Value) (W : World), (binOp .neq 76 (.iface 249 v) .nilIface).run Tryz.prog W = .ok (.bool true) W := fun _ _ => by first | rfl | kernel_rfl
  have hn0 : ∀ (W : World), (binOp .neq 76 .nilIface .nilIface).run Tryz.prog W = .ok (.bool false) W := fun _ => by first | rfl | kernel_rfl
  cases hwk : wOk L with
  | true =>
    have HWK : Hid (wOk L = true) := hwk
    simp only [hwk, ↓reduceIte] at HMK
    clear hwk
    cases hst : TrM.stepT L (tmP p) with
    | some t' =>
      have HST : Hid (TrM.stepT L (tmP p) = some t') := hst
      have HRN : Hid (TrM.runT L 1 (tmP p) = t') := run_some hst 0
      simp only [show TrM.runB L 1 (tmP p) = true from runB_some hst 0, ↓reduceIte] at HMK
      clear hst
      go_enter Tryz.func19, Tryz.ntmps19
      go_wp2_with fail
      clear hw0 x0 x1 x2 x3 x4
      refine Calls.mono HMK.out ?_
      rintro e w1 ⟨pf, rfl, hpf, hpA, hb1⟩
      have HB1 : Hid (Below w.heap.size w (w1.alloc (.cells #[.string pf.name, .int .i64 pf.now, .slice pf.ha pf.hs.length pf.hc, .slice pf.sa pf.seen.length pf.sc, .slice pf.la pf.lk.length pf.lc] 29))) := (HB0.out.trans (hb1.mono HB0.out.size)).alloc (HB0.out.trans (hb1.mono HB0.out.size)).size _
      have HPF : Hid _ := hpf
      have HPA : Hid (OwnTp (w1.alloc (.cells #[.string pf.name, .int .i64 pf.now, .slice pf.ha pf.hs.length pf.hc, .slice pf.sa pf.seen.length pf.sc, .slice pf.la pf.lk.length pf.lc] 29)) w0.heap.size pf) := hpA.below ((Below.refl _ w1).alloc (Nat.le_refl _) _)
      have HZ1 : Hid (Bs 29 (w1.alloc (.cells #[.string pf.name, .int .i64 pf.now, .slice pf.ha pf.hs.length pf.hc, .slice pf.sa pf.seen.length pf.sc, .slice pf.la pf.lk.length pf.lc] 29)) (w.heap.size + 1) #[.string ⟨#[]⟩, .int .i64 0, .slice none 0 0, .slice none 0 0, .slice none 0 0]) := (HZ0.out.below hb1).alloc _
      have HY1 : Hid (Bs 29 (w1.alloc (.cells #[.string pf.name, .int .i64 pf.now, .slice pf.ha pf.hs.length pf.hc, .slice pf.sa pf.seen.length pf.sc, .slice pf.la pf.lk.length pf.lc] 29)) w1.heap.size #[.string pf.name, .int .i64 pf.now, .slice pf.ha pf.hs.length pf.hc, .slice pf.sa pf.seen.length pf.sc, .slice pf.la pf.lk.length pf.lc]) := Bs.new _ _ _
      have HE1 : Hid (Errs (w1.alloc (.cells #[.string pf.name, .int .i64 pf.now, .slice pf.ha pf.hs.length pf.hc, .slice pf.sa pf.seen.length pf.sc, .slice pf.la pf.lk.length pf.lc] 29)) ea eb) := HE.out.below HB1.out
      have hs1 : w.heap.size + 1 < w1.heap.size := Nat.lt_of_lt_of_le (by rw [HSZ.out]; omega) hb1.size
      have HHS : Hid (w.heap.size + 1 < w1.heap.size) := hs1
      obtain ⟨wA, hwA⟩ : ∃ wA, w1.alloc (.cells #[.string pf.name, .int .i64 pf.now, .slice pf.ha pf.hs.length pf.hc, .slice pf.sa pf.seen.length pf.sc, .slice pf.la pf.lk.length pf.lc] 29) = wA := ⟨_, rfl⟩
      rw [hwA] at HY1
      rw [hwA] at HB1 HZ1 HE1 HPA
      have y0 := HY1.out.cell 0 rfl
      have z0 := HZ1.out.cell 0 rfl
      have f0 := HZ1.out.free 0
      have y1 := HY1.out.cell 1 rfl
      have z1 := HZ1.out.cell 1 rfl
      have f1 := HZ1.out.free 1
      have y2 := HY1.out.cell 2 rfl
      have z2 := HZ1.out.cell 2 rfl
      have f2 := HZ1.out.free 2
      have y3 := HY1.out.cell 3 rfl
      have z3 := HZ1.out.cell 3 rfl
      have f3 := HZ1.out.free 3
      have y4 := HY1.out.cell 4 rfl
      have z4 := HZ1.out.cell 4 rfl
      have f4 := HZ1.out.free 4
      clear hb1 hs1 HMK hpf hpA
      go_wp2_with fail
      have HF : Hid (Bs 29 (((((wA.setCell ⟨w.heap.size + 1, 0, none⟩ (.string pf.name)).setCell ⟨w.heap.size + 1, 1, none⟩ (.int .i64 pf.now)).setCell ⟨w.heap.size + 1, 2, none⟩ (.slice pf.ha pf.hs.length pf.hc)).setCell ⟨w.heap.size + 1, 3, none⟩ (.slice pf.sa pf.seen.length pf.sc)).setCell ⟨w.heap.size + 1, 4, none⟩ (.slice pf.la pf.lk.length pf.lc)) (w.heap.size + 1) #[.string pf.name, .int .i64 pf.now, .slice pf.ha pf.hs.length pf.hc, .slice pf.sa pf.seen.length pf.sc, .slice pf.la pf.lk.length pf.lc]) := ((((HZ1.out.set 0 _).set 1 _).set 2 _).set 3 _).set 4 _
      have HBF : Hid (Below w.heap.size w (((((wA.setCell ⟨w.heap.size + 1, 0, none⟩ (.string pf.name)).setCell ⟨w.heap.size + 1, 1, none⟩ (.int .i64 pf.now)).setCell ⟨w.heap.size + 1, 2, none⟩ (.slice pf.ha pf.hs.length pf.hc)).setCell ⟨w.heap.size + 1, 3, none⟩ (.slice pf.sa pf.seen.length pf.sc)).setCell ⟨w.heap.size + 1, 4, none⟩ (.slice pf.la pf.lk.length pf.lc))) := by
        show Below _ _ _
        iterate 5 refine Below.setCell ?_ (by dsimp only; omega) _
        exact HB1.out
      have HPT : Hid (OwnTp (((((wA.setCell ⟨w.heap.size + 1, 0, none⟩ (.string pf.name)).setCell ⟨w.heap.size + 1, 1, none⟩ (.int .i64 pf.now)).setCell ⟨w.heap.size + 1, 2, none⟩ (.slice pf.ha pf.hs.length pf.hc)).setCell ⟨w.heap.size + 1, 3, none⟩ (.slice pf.sa pf.seen.length pf.sc)).setCell ⟨w.heap.size + 1, 4, none⟩ (.slice pf.la pf.lk.length pf.lc)) w0.heap.size pf) := ((((HPA.out.set HRZ.out).set HRZ.out).set HRZ.out).set HRZ.out).set HRZ.out
      obtain ⟨wf, hwf⟩ : ∃ wf, (((((wA.setCell ⟨w.heap.size + 1, 0, none⟩ (.string pf.name)).setCell ⟨w.heap.size + 1, 1, none⟩ (.int .i64 pf.now)).setCell ⟨w.heap.size + 1, 2, none⟩ (.slice pf.ha pf.hs.length pf.hc)).setCell ⟨w.heap.size + 1, 3, none⟩ (.slice pf.sa pf.seen.length pf.sc)).setCell ⟨w.heap.size + 1, 4, none⟩ (.slice pf.la pf.lk.length pf.lc)) = wf := ⟨_, rfl⟩
      rw [hwf] at HF HBF HPT ⊢
      have q0 := HF.out.cell 0 rfl
      have q1 := HF.out.cell 1 rfl
      have q2 := HF.out.cell 2 rfl
      have q3 := HF.out.cell 3 rfl
      have q4 := HF.out.cell 4 rfl
      refine bodyPost_ret (v := .tuple #[tpV pf, .bool true]) (by simp [results, Tryz.results19, go_sem, q0, q1, q2, q3, q4, tpV]) rfl ?_
      unfold StepIs
      rw [HWK.out, if_pos rfl, HST.out]
      exact ⟨pf, rfl, HPF.out.trans HRN.out, HPT.out.mono HB0.out.size, HBF.out⟩
    | none =>
      have HST : Hid (TrM.stepT L (tmP p) = none) := hst
      simp only [show TrM.runB L 1 (tmP p) = false from runB_none hst 0, Bool.false_eq_true, ↓reduceIte] at HMK
      clear hst
      go_enter Tryz.func19, Tryz.ntmps19
      go_wp2_with fail
      clear hw0 x0 x1 x2 x3 x4
      refine Calls.mono HMK.out ?_
      rintro e w1 ⟨pf, rfl, _, _, hb1⟩
      have HB1 : Hid (Below w.heap.size w (w1.alloc (.cells #[.string pf.name, .int .i64 pf.now, .slice pf.ha pf.hs.length pf.hc, .slice pf.sa pf.seen.length pf.sc, .slice pf.la pf.lk.length pf.lc] 29))) := (HB0.out.trans (hb1.mono HB0.out.size)).alloc (HB0.out.trans (hb1.mono HB0.out.size)).size _
      have HZ1 : Hid (Bs 29 (w1.alloc (.cells #[.string pf.name, .int .i64 pf.now, .slice pf.ha pf.hs.length pf.hc, .slice pf.sa pf.seen.length pf.sc, .slice pf.la pf.lk.length pf.lc] 29)) (w.heap.size + 1) #[.string ⟨#[]⟩, .int .i64 0, .slice none 0 0, .slice none 0 0, .slice none 0 0]) := (HZ0.out.below hb1).alloc _
      have HY1 : Hid (Bs 29 (w1.alloc (.cells #[.string pf.name, .int .i64 pf.now, .slice pf.ha pf.hs.length pf.hc, .slice pf.sa pf.seen.length pf.sc, .slice pf.la pf.lk.length pf.lc] 29)) w1.heap.size #[.string pf.name, .int .i64 pf.now, .slice pf.ha pf.hs.length pf.hc, .slice pf.sa pf.seen.length pf.sc, .slice pf.la pf.lk.length pf.lc]) := Bs.new _ _ _
      have HE1 : Hid (Errs (w1.alloc (.cells #[.string pf.name, .int .i64 pf.now, .slice pf.ha pf.hs.length pf.hc, .slice pf.sa pf.seen.length pf.sc, .slice pf.la pf.lk.length pf.lc] 29)) ea eb) := HE.out.below HB1.out
      have hs1 : w.heap.size + 1 < w1.heap.size := Nat.lt_of_lt_of_le (by rw [HSZ.out]; omega) hb1.size
      have HHS : Hid (w.heap.size + 1 < w1.heap.size) := hs1
      obtain ⟨wA, hwA⟩ : ∃ wA, w1.alloc (.cells #[.string pf.name, .int .i64 pf.now, .slice pf.ha pf.hs.length pf.hc, .slice pf.sa pf.seen.length pf.sc, .slice pf.la pf.lk.length pf.lc] 29) = wA := ⟨_, rfl⟩
      rw [hwA] at HY1
      rw [hwA] at HB1 HZ1 HE1
      have y0 := HY1.out.cell 0 rfl
      have z0 := HZ1.out.cell 0 rfl
      have f0 := HZ1.out.free 0
      have y1 := HY1.out.cell 1 rfl
      have z1 := HZ1.out.cell 1 rfl
      have f1 := HZ1.out.free 1
      have y2 := HY1.out.cell 2 rfl
      have z2 := HZ1.out.cell 2 rfl
      have f2 := HZ1.out.free 2
      have y3 := HY1.out.cell 3 rfl
      have z3 := HZ1.out.cell 3 rfl
      have f3 := HZ1.out.free 3
      have y4 := HY1.out.cell 4 rfl
      have z4 := HZ1.out.cell 4 rfl
      have f4 := HZ1.out.free 4
      clear hb1 hs1 HMK
      go_wp2_with fail
      have HF : Hid (Bs 29 (((((wA.setCell ⟨w.heap.size + 1, 0, none⟩ (.string ⟨#[]⟩)).setCell ⟨w.heap.size + 1, 1, none⟩ (.int .i64 0)).setCell ⟨w.heap.size + 1, 2, none⟩ (.slice none 0 0)).setCell ⟨w.heap.size + 1, 3, none⟩ (.slice none 0 0)).setCell ⟨w.heap.size + 1, 4, none⟩ (.slice none 0 0)) (w.heap.size + 1) #[.string ⟨#[]⟩, .int .i64 0, .slice none 0 0, .slice none 0 0, .slice none 0 0]) := ((((HZ1.out.set 0 (.string ⟨#[]⟩)).set 1 (.int .i64 0)).set 2 (.slice none 0 0)).set 3 (.slice none 0 0)).set 4 (.slice none 0 0)
      have HBF : Hid (Below w.heap.size w (((((wA.setCell ⟨w.heap.size + 1, 0, none⟩ (.string ⟨#[]⟩)).setCell ⟨w.heap.size + 1, 1, none⟩ (.int .i64 0)).setCell ⟨w.heap.size + 1, 2, none⟩ (.slice none 0 0)).setCell ⟨w.heap.size + 1, 3, none⟩ (.slice none 0 0)).setCell ⟨w.heap.size + 1, 4, none⟩ (.slice none 0 0))) := by
        show Below _ _ _
        iterate 5 refine Below.setCell ?_ (by dsimp only; omega) _
        exact HB1.out
      obtain ⟨wf, hwf⟩ : ∃ wf, (((((wA.setCell ⟨w.heap.size + 1, 0, none⟩ (.string ⟨#[]⟩)).setCell ⟨w.heap.size + 1, 1, none⟩ (.int .i64 0)).setCell ⟨w.heap.size + 1, 2, none⟩ (.slice none 0 0)).setCell ⟨w.heap.size + 1, 3, none⟩ (.slice none 0 0)).setCell ⟨w.heap.size + 1, 4, none⟩ (.slice none 0 0)) = wf := ⟨_, rfl⟩
      rw [hwf] at HF HBF ⊢
      have q0 := HF.out.cell 0 rfl
      have q1 := HF.out.cell 1 rfl
      have q2 := HF.out.cell 2 rfl
      have q3 := HF.out.cell 3 rfl
      have q4 := HF.out.cell 4 rfl
      refine bodyPost_ret (v := .tuple #[tpV tpZ, .bool false]) (by simp [results, Tryz.results19, go_sem, q0, q1, q2, q3, q4, tpV, tpZ]) rfl ?_
      unfold StepIs
      rw [HWK.out, if_pos rfl, HST.out]
      exact ⟨rfl, HBF.out⟩
  | false =>
    have HWK : Hid (wOk L = false) := hwk
    simp only [hwk, Bool.false_eq_true, ↓reduceIte] at HMK
    clear hwk
    go_enter Tryz.func19, Tryz.ntmps19
    go_wp2_with fail
    clear hw0 x0 x1 x2 x3 x4
    refine Calls.mono HMK.out ?_
    rintro e w1 ⟨rfl, hb1⟩
    have HB1 : Hid (Below w.heap.size w (w1.alloc (.cells #[.string ⟨#[]⟩, .int .i64 0, .slice none 0 0, .slice none 0 0, .slice none 0 0] 29))) := (HB0.out.trans (hb1.mono HB0.out.size)).alloc (HB0.out.trans (hb1.mono HB0.out.size)).size _
    have HZ1 : Hid (Bs 29 (w1.alloc (.cells #[.string ⟨#[]⟩, .int .i64 0, .slice none 0 0, .slice none 0 0, .slice none 0 0] 29)) (w.heap.size + 1) #[.string ⟨#[]⟩, .int .i64 0, .slice none 0 0, .slice none 0 0, .slice none 0 0]) := (HZ0.out.below hb1).alloc _
    have HY1 : Hid (Bs 29 (w1.alloc (.cells #[.string ⟨#[]⟩, .int .i64 0, .slice none 0 0, .slice none 0 0, .slice none 0 0] 29)) w1.heap.size #[.string ⟨#[]⟩, .int .i64 0, .slice none 0 0, .slice none 0 0, .slice none 0 0]) := Bs.new _ _ _
    have HE1 : Hid (Errs (w1.alloc (.cells #[.string ⟨#[]⟩, .int .i64 0, .slice none 0 0, .slice none 0 0, .slice none 0 0] 29)) ea eb) := HE.out.below HB1.out
    have hs1 : w.heap.size + 1 < w1.heap.size := Nat.lt_of_lt_of_le (by rw [HSZ.out]; omega) hb1.size
    have HHS : Hid (w.heap.size + 1 < w1.heap.size) := hs1
    have y0 := HY1.out.cell 0 rfl
    have z0 := HZ1.out.cell 0 rfl
    have f0 := HZ1.out.free 0
    have y1 := HY1.out.cell 1 rfl
    have z1 := HZ1.out.cell 1 rfl
    have f1 := HZ1.out.free 1
    have y2 := HY1.out.cell 2 rfl
    have z2 := HZ1.out.cell 2 rfl
    have f2 := HZ1.out.free 2
    have y3 := HY1.out.cell 3 rfl
    have z3 := HZ1.out.cell 3 rfl
    have f3 := HZ1.out.free 3
    have y4 := HY1.out.cell 4 rfl
    have z4 := HZ1.out.cell 4 rfl
    have f4 := HZ1.out.free 4
    clear hb1 hs1 HMK
    go_wp2_with fail
    have HF : Hid (Bs 29 ((((((w1.alloc (.cells #[.string ⟨#[]⟩, .int .i64 0, .slice none 0 0, .slice none 0 0, .slice none 0 0] 29)).setCell ⟨w.heap.size + 1, 0, none⟩ (.string ⟨#[]⟩)).setCell ⟨w.heap.size + 1, 1, none⟩ (.int .i64 0)).setCell ⟨w.heap.size + 1, 2, none⟩ (.slice none 0 0)).setCell ⟨w.heap.size + 1, 3, none⟩ (.slice none 0 0)).setCell ⟨w.heap.size + 1, 4, none⟩ (.slice none 0 0)) (w.heap.size + 1) #[.string ⟨#[]⟩, .int .i64 0, .slice none 0 0, .slice none 0 0, .slice none 0 0]) := ((((HZ1.out.set 0 (.string ⟨#[]⟩)).set 1 (.int .i64 0)).set 2 (.slice none 0 0)).set 3 (.slice none 0 0)).set 4 (.slice none 0 0)
    have HBF : Hid (Below w.heap.size w ((((((w1.alloc (.cells #[.string ⟨#[]⟩, .int .i64 0, .slice none 0 0, .slice none 0 0, .slice none 0 0] 29)).setCell ⟨w.heap.size + 1, 0, none⟩ (.string ⟨#[]⟩)).setCell ⟨w.heap.size + 1, 1, none⟩ (.int .i64 0)).setCell ⟨w.heap.size + 1, 2, none⟩ (.slice none 0 0)).setCell ⟨w.heap.size + 1, 3, none⟩ (.slice none 0 0)).setCell ⟨w.heap.size + 1, 4, none⟩ (.slice none 0 0))) := by
      show Below _ _ _
      iterate 5 refine Below.setCell ?_ (by dsimp only; omega) _
      exact HB1.out
    obtain ⟨wf, hwf⟩ : ∃ wf, ((((((w1.alloc (.cells #[.string ⟨#[]⟩, .int .i64 0, .slice none 0 0, .slice none 0 0, .slice none 0 0] 29)).setCell ⟨w.heap.size + 1, 0, none⟩ (.string ⟨#[]⟩)).setCell ⟨w.heap.size + 1, 1, none⟩ (.int .i64 0)).setCell ⟨w.heap.size + 1, 2, none⟩ (.slice none 0 0)).setCell ⟨w.heap.size + 1, 3, none⟩ (.slice none 0 0)).setCell ⟨w.heap.size + 1, 4, none⟩ (.slice none 0 0)) = wf := ⟨_, rfl⟩
    rw [hwf] at HF HBF ⊢
    have q0 := HF.out.cell 0 rfl
    have q1 := HF.out.cell 1 rfl
    have q2 := HF.out.cell 2 rfl
    have q3 := HF.out.cell 3 rfl
    have q4 := HF.out.cell 4 rfl
    refine bodyPost_ret (v := .tuple #[tpV tpZ, .bool false]) (by simp [results, Tryz.results19, go_sem, q0, q1, q2, q3, q4, tpV, tpZ]) rfl ?_
    unfold StepIs
    rw [HWK.out, if_neg (by simp)]
    exact ⟨rfl, HBF.out⟩
end Go.Proofs.YtiennniclkbjlaaGreatDoor.Tn
