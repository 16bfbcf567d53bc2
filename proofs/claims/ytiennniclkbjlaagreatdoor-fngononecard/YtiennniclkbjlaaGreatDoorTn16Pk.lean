/- Several texts in one: Tn16, Ts1, Ts2, Tn17, Tn18, Tn8, TrCp. -/
import Derived.Test.YtiennniclkbjlaaGreatDoorReStPk
import Derived.Test.YtiennniclkbjlaaGreatDoorPgA1Pk
import Derived.Test.YtiennniclkbjlaaGreatDoorTrOncePk
import Derived.Test.YtiennniclkbjlaaGreatDoorJoin1Pk
import Derived.Laws.EntriesVeiled
/- Of the program: one asks for a house's notice. -/
namespace Go.Proofs.YtiennniclkbjlaaGreatDoor.Tn
open Go.RowKit Go.Proofs.YtiennniclkbjlaaGreatDoor.Bk Go.Proofs.YtiennniclkbjlaaGreatDoor.WdN Go.Proofs.YtiennniclkbjlaaGreatDoor.RoPg Go.Proofs.YtiennniclkbjlaaGreatDoor.EscM Go.Proofs.YtiennniclkbjlaaGreatDoor.AddrM Go.Proofs.YtiennniclkbjlaaGreatDoor.ReadM Go.Proofs.YtiennniclkbjlaaGreatDoor.Rd1 Go.Proofs.YtiennniclkbjlaaGreatDoor.Ad1 Go.Proofs.YtiennniclkbjlaaGreatDoor.RuleM Go.Proofs.YtiennniclkbjlaaGreatDoor.St Go.Proofs.YtiennniclkbjlaaGreatDoor.EscL Go.Proofs.YtiennniclkbjlaaGreatDoor.RR Go.Proofs.YtiennniclkbjlaaGreatDoor.LetM Go.Proofs.YtiennniclkbjlaaGreatDoor.GrM Go.Proofs.YtiennniclkbjlaaGreatDoor.RoIt Go.Proofs.YtiennniclkbjlaaGreatDoor.RoLk Go.Proofs.YtiennniclkbjlaaGreatDoor.RoQ Go.Proofs.YtiennniclkbjlaaGreatDoor.Mp Go.Proofs.YtiennniclkbjlaaGreatDoor.WdM Go.Proofs.YtiennniclkbjlaaGreatDoor.Wd Go.Proofs.YtiennniclkbjlaaGreatDoor.TpM Go.Proofs.YtiennniclkbjlaaGreatDoor.TrM Go.Proofs.YtiennniclkbjlaaGreatDoor.TrW Go.Proofs.YtiennniclkbjlaaGreatDoor.Tq Go.Proofs.YtiennniclkbjlaaGreatDoor.PgA Go.Proofs.YtiennniclkbjlaaGreatDoor.MkA Go.Proofs.YtiennniclkbjlaaGreatDoor.Im Go.Proofs.YtiennniclkbjlaaGreatDoor.Nm

theorem again_any (kd n : Int) (w : World) (hn : 0 ≤ n ∧ n ≤ 2) :
    Calls Tryz.prog 124 #[.int .i64 kd, .int .i64 n] w fun e w' => e = .returned (.bool (decide (kd = 3) && decide (n + 1 < 3))) ∧ w' = w := by
  have hwn : wrap64 (n + 1) = n + 1 := by unfold wrap64; omega
  by_cases h3 : kd = 3
  · have hq : (kd == 3) = true := by simpa using h3
    have HQ : Hid (decide (kd = 3) = true) := decide_eq_true h3
    clear h3
    go_enter Tryz.func124, Tryz.ntmps124
    go_wp2
    go_ret
    rw [HQ.out]
    exact ⟨rfl, rfl⟩
  · have hq : (kd == 3) = false := by simpa using h3
    have HQ : Hid (decide (kd = 3) = false) := decide_eq_false h3
    clear h3
    go_enter Tryz.func124, Tryz.ntmps124
    go_wp2
    go_ret
    rw [HQ.out]
    exact ⟨rfl, rfl⟩
theorem lookAt_tw {w0 : World} {O R : Nat → Prop} (B T0 GH c i mb : Nat) (X : List Hx) (x : Hx) (vS vL : Value) (t : Tm) (L : List Pg) (a : ByteArray) (n kd : Int) (tx : ByteArray) (hkd : kindF L a n = (kd, tx)) (w : World) (h : Tw w0 O R B T0 GH c i (.map (some mb)) X x vS vL t w) (hm : IsMap w mb (entsL L)) (hlk : t.lk.length ≤ 1000) (hmo : ¬ Ow T0 X (vHs GH X.length c) vS vL mb) (hn : 0 ≤ n ∧ n ≤ 2) (hnw : 0 ≤ t.now ∧ t.now ≤ 5000) (hwt : 0 ≤ x.h.gr.wait ∧ x.h.gr.wait ≤ 20) :
    Calls Tryz.prog 123 #[.pointer (some ⟨T0, 0, none⟩), .pointer (some ⟨GH, i * 8, none⟩), .string a, .int .i64 n] w fun e w' => e = .returned (.tuple #[.int .i64 kd, .string tx]) ∧ ∃ X' vL', Tw w0 O R B T0 GH c i (.map (some mb)) X' ⟨{ x.h with ready := (lookH (hmX x) t.now kd n).ready }, x.row⟩ vS vL' { t with lk := t.lk ++ [⟨t.now, a, kd⟩], hs := t.hs.set i (lookH (hmX x) t.now kd n) } w' := by
  obtain ⟨hi, e⟩ := h.lt
  subst e
  refine (lookAt_any B T0 GH c i mb X vS vL t hi L a n w h.own h.pc hm hlk hmo hn hnw hwt).mono ?_
  rintro e w' ⟨rfl, X', vL', q1, q2, ⟨hi', q3, q4⟩, q5, q6, q7⟩
  rw [hkd] at q1 q4
  rw [hkd]
  have q8 : X'[i]? = some ⟨{ X[i].h with ready := (lookH (hmX X[i]) t.now kd n).ready }, X[i].row⟩ := by
    rw [List.getElem?_eq_getElem hi', ← q4, ← q3]
  rw [← q2] at q1
  refine ⟨rfl, X', vL', q1, q8, h.sep.trans ?_, RdK.trans h.rd q7 h.sep.size, q5⟩
  have e1 : Ow T0 X' (vHs GH X'.length c) vS vL' = Ow T0 X' (.slice (some ⟨GH, 0, none⟩) X.length c) vS vL' := by rw [q2]; rfl
  rw [e1]; exact q6
theorem ask_eq1 {L : List Pg} {t : Tm} {i : Nat} {h : Hm} {kd : Int} {tx : ByteArray} (hkd : kindF L (doorS h.name) h.tries = (kd, tx)) (hq : kd = 3 ∧ h.tries + 1 < 3) : askT L t i h = { t with lk := t.lk ++ [⟨t.now, doorS h.name, kd⟩], hs := t.hs.set i { lookH h t.now kd h.tries with tries := h.tries + 1 } } := by
  unfold askT askH
  rw [hkd]
  dsimp only
  rw [if_pos hq]
theorem ask_eq2 {L : List Pg} {t : Tm} {i : Nat} {h : Hm} {kd : Int} {tx : ByteArray} (hkd : kindF L (doorS h.name) h.tries = (kd, tx)) (hq : ¬ (kd = 3 ∧ h.tries + 1 < 3)) {g : List ByteArray × List Ru × Int} (hg : saysG (kindF L (doorS h.name) 2) t.name = g) : askT L t i h = { t with lk := t.lk ++ [⟨t.now, doorS h.name, kd⟩], hs := t.hs.set i { lookH h t.now kd h.tries with known := true, gp := g, ready := max (lookH h t.now kd h.tries).ready (t.now + g.2.2), todo := h.todo.filter (letIt g) } } := by
  unfold askT askH
  rw [hkd, hg]
  dsimp only
  rw [if_neg hq]
theorem IsRows.apart {α : Type} {F : Frm α} {w w' : World} {a : Option Addr} {c : Nat} {L : List α} {r : Option Nat} (h : IsRows F w a c L) (hg : w.grownBy w' r) (ha : Ap r (blk a)) : IsRows F w' a c L := by
  obtain ⟨q1, q2, q3, q4⟩ := h
  refine ⟨q1, q2, q3, fun hn => ?_⟩
  obtain ⟨b, off, e, hc⟩ := q4 hn
  refine ⟨b, off, e, fun j u hu => ?_⟩
  rw [World.cell?_of_block (w := w) (hg.block _ (St.cell_block (hc j u hu)) (fun e' => ha b e'.symm (by rw [e]; rfl)))]; exact hc j u hu
set_option maxRecDepth 100000 in
set_option maxHeartbeats 6400000 in
theorem ask_any {w0 : World} {O R : Nat → Prop} (B T0 GH c i mb : Nat) (X : List Hx) (x : Hx) (vS vL : Value) (t : Tm) (L : List Pg) (w : World) (hM : Mx w) (hMB : 2 < B) (h : Tw w0 O R B T0 GH c i (.map (some mb)) X x vS vL t w) (hm : IsMap w mb (entsL L)) (hlk : t.lk.length ≤ 1000) (hmo : ¬ Ow T0 X (vHs GH X.length c) vS vL mb) (hnw : 0 ≤ t.now ∧ t.now ≤ 5000) (hk : HmOk t.name t.seen (hmX x)) (ht : ∀ p ∈ L, p.text.size ≤ 1000000) (htl : x.h.todo.length ≤ 1000) :
    Calls Tryz.prog 105 #[.pointer (some ⟨T0, 0, none⟩), .pointer (some ⟨GH, i * 8, none⟩)] w fun e w' => e = .returned (.tuple #[]) ∧ ∃ X' x' vL', Tw w0 O R B T0 GH c i (.map (some mb)) X' x' vS vL' (askT L t i (hmX x)) w' := by
  have HNM : Hid (houseB x.h.name = true) := hk.nm
  have HTR : Hid (0 ≤ x.h.tries ∧ x.h.tries ≤ 2) := hk.tr
  obtain ⟨P, hP⟩ : ∃ P, w.heap.size = P := ⟨_, rfl⟩
  have HPW : Hid (w.heap.size = P) := hP
  have HB0 : Hid (Below w.heap.size w (w.alloc (.cells #[.pointer (some ⟨GH, i * 8, none⟩)] 105))) := (Below.refl _ w).alloc (Nat.le_refl _) _
  have HX0 : Hid (Bs 105 (w.alloc (.cells #[.pointer (some ⟨GH, i * 8, none⟩)] 105)) P #[.pointer (some ⟨GH, i * 8, none⟩)]) := by rw [← hP]; exact Bs.new _ _ _
  have HT : Hid (Tw w0 O R B T0 GH c i (.map (some mb)) X x vS vL t w) := h
  have HM : Hid (Mx w) := hM
  have HMP : Hid (IsMap w mb (entsL L)) := hm
  have HK : Hid (HmOk t.name t.seen (hmX x)) := hk
  have HTX : Hid (∀ p ∈ L, p.text.size ≤ 1000000) := ht
  have HMO : Hid (¬ Ow T0 X (vHs GH X.length c) vS vL mb) := hmo
  obtain ⟨kd, tx, hkd⟩ : ∃ kd tx, kindF L (doorS x.h.name) x.h.tries = (kd, tx) := ⟨_, _, rfl⟩
  have HKD : Hid (kindF L (doorS x.h.name) x.h.tries = (kd, tx)) := hkd
  obtain ⟨r2, hr2⟩ : ∃ r2, (lookH (hmX x) t.now kd x.h.tries).ready = r2 := ⟨_, rfl⟩
  have HRD : Hid ((lookH (hmX x) t.now kd x.h.tries).ready = r2) := hr2
  have hrb : 0 ≤ r2 ∧ r2 ≤ 6000 := by
    have := look_in (h := hmX x) (now := t.now) (kd := kd) (tries := x.h.tries) hk.wt hnw
    rw [hr2] at this
    omega
  have HPN : Hid (¬ Ow T0 X (vHs GH X.length c) vS vL P) := fun e => by
    have := h.own.lt P e
    omega
  have HPR : Hid (¬ Rd X P) := fun ⟨y, hy, e⟩ => by
    have q := h.own.each y hy
    rcases e with e | e
    · have := q.nlt P e; omega
    · have := q.rlt P e; omega
  obtain ⟨wa, hwa⟩ : ∃ wa, w.alloc (.cells #[.pointer (some ⟨GH, i * 8, none⟩)] 105) = wa := ⟨_, rfl⟩
  have HWa : Hid (w.alloc (.cells #[.pointer (some ⟨GH, i * 8, none⟩)] 105) = wa) := hwa
  rw [hwa] at HB0 HX0
  have ha : Tw w0 O R B T0 GH c i (.map (some mb)) X x vS vL t wa := h.below HB0.out
  have hma : IsMap wa mb (entsL L) := hm.below HB0.out
  -- the trip against this call's own beginning: what was not of it ahead stays
  have HTa : Hid (Tw wa (Ow T0 X (vHs GH X.length c) vS vL) (Rd X) B T0 GH c i (.map (some mb)) X x vS vL t wa) := ⟨ha.own, ha.at_, Sep.refl, RdK.refl, ha.pc⟩
  have HOUT : Hid (∀ X' x' vL' t' w', Tw wa (Ow T0 X (vHs GH X.length c) vS vL) (Rd X) B T0 GH c i (.map (some mb)) X' x' vS vL' t' w' → Tw w0 O R B T0 GH c i (.map (some mb)) X' x' vS vL' t' w') := fun X' x' vL' t' w' h' => ⟨h'.own, h'.at_, ha.sep.trans h'.sep, RdK.trans ha.rd h'.rd ha.sep.size, h'.pc⟩
  have HLA : Hid (∀ W, Below wa.heap.size wa W → Calls Tryz.prog 123 #[.pointer (some ⟨T0, 0, none⟩), .pointer (some ⟨GH, i * 8, none⟩), .string (doorS x.h.name), .int .i64 x.h.tries] W fun e w' => e = .returned (.tuple #[.int .i64 kd, .string tx]) ∧ ∃ X' vL', Tw wa (Ow T0 X (vHs GH X.length c) vS vL) (Rd X) B T0 GH c i (.map (some mb)) X' ⟨{ x.h with ready := r2 }, x.row⟩ vS vL' { t with lk := t.lk ++ [⟨t.now, doorS x.h.name, kd⟩], hs := t.hs.set i (lookH (hmX x) t.now kd x.h.tries) } w') := fun W hW => by rw [← hr2]; exact lookAt_tw B T0 GH c i mb X x vS vL t L (doorS x.h.name) x.h.tries kd tx hkd W (HTa.out.below hW) (hma.below hW) hlk hmo hk.tr hnw hk.wt
  -- the caller's own box of the house, behind what writes into the trip alone
  have HPX : Hid (∀ X' x' vL' t' w', Tw wa (Ow T0 X (vHs GH X.length c) vS vL) (Rd X) B T0 GH c i (.map (some mb)) X' x' vS vL' t' w' → Bs 105 w' P #[.pointer (some ⟨GH, i * 8, none⟩)]) := fun X' x' vL' t' w' h' => ((h'.kept HX0.out.lt HPN.out).1).trans HX0.out
  have HMX : Hid (∀ X' x' vL' t' w', Tw wa (Ow T0 X (vHs GH X.length c) vS vL) (Rd X) B T0 GH c i (.map (some mb)) X' x' vS vL' t' w' → Mx w' ∧ IsMap w' mb (entsL L)) := fun X' x' vL' t' w' h' => ⟨Mx_low (HM.out.below HB0.out) (h'.sep.low (fun k e => ha.own.low k e) ha.own.hB) hMB, hma.same ((h'.kept hma.lt hmo).1)⟩
  clear h hM hm hk ht hmo hkd hwa hP hr2
  go_enter Tryz.func105, Tryz.ntmps105
  go_wp2_with fail
  rw [HPW.out, HWa.out]
  have p0 := HX0.out.cell 0 rfl
  have k0 : wa.cell? ⟨GH, i * 8, none⟩ = some (.string x.h.name) := HTa.out.cell (j := 0) rfl (by decide)
  have k6 : wa.cell? ⟨GH, i * 8 + 6, none⟩ = some (.int .i64 x.h.tries) := HTa.out.cell (j := 6) rfl (by decide)
  go_region_held_law (fun w' => w'.cell? ⟨P, 0, none⟩ = some (.pointer (some ⟨GH, i * 8, none⟩)) ∧ w'.cell? ⟨GH, i * 8, none⟩ = some (.string x.h.name) ∧ w'.cell? ⟨GH, i * 8 + 6, none⟩ = some (.int .i64 x.h.tries)) (first | go_keep | exact hS1 | exact hS2)
    ((first
    | (go_at_call 53
       refine (noticeAddr_any x.h.name wa.drew HNM.out).mono ?_
       rintro e w1 ⟨rfl, hb0⟩
       have hb1 : Below wa.heap.size wa w1 := ((Below.refl _ wa).drew).trans hb0
       have HB1 : Hid (Below wa.heap.size wa w1) := hb1
       have HX1 : Hid (Bs 105 w1 P #[.pointer (some ⟨GH, i * 8, none⟩)]) := HX0.out.below hb1
       have hS1 : w1.cell? ⟨P, 0, none⟩ = some (.pointer (some ⟨GH, i * 8, none⟩)) ∧ w1.cell? ⟨GH, i * 8, none⟩ = some (.string x.h.name) ∧ w1.cell? ⟨GH, i * 8 + 6, none⟩ = some (.int .i64 x.h.tries) := ⟨HX1.out.cell 0 rfl, (HTa.out.below HB1.out).cell (j := 0) rfl (by decide), (HTa.out.below HB1.out).cell (j := 6) rfl (by decide)⟩
       clear hb0 hb1)
    | (go_at_call 123
       refine (HLA.out w1 HB1.out).mono ?_
       rintro e w2 ⟨rfl, X2, vL2, q1⟩
       have HT2 : Hid (Tw wa (Ow T0 X (vHs GH X.length c) vS vL) (Rd X) B T0 GH c i (.map (some mb)) X2 ⟨{ x.h with ready := r2 }, x.row⟩ vS vL2 { t with lk := t.lk ++ [⟨t.now, doorS x.h.name, kd⟩], hs := t.hs.set i (lookH (hmX x) t.now kd x.h.tries) } w2) := q1
       have hS2 : w2.cell? ⟨P, 0, none⟩ = some (.pointer (some ⟨GH, i * 8, none⟩)) ∧ w2.cell? ⟨GH, i * 8, none⟩ = some (.string x.h.name) ∧ w2.cell? ⟨GH, i * 8 + 6, none⟩ = some (.int .i64 x.h.tries) := ⟨(HPX.out _ _ _ _ _ q1).cell 0 rfl, q1.cell (j := 0) rfl (by decide), q1.cell (j := 6) rfl (by decide)⟩
       clear q1)
    | fail))
  obtain ⟨p2, n2, k26⟩ := hS2
  have HLH : Hid (lookH (hmX x) t.now kd x.h.tries = { hmX x with ready := r2 }) := by show _ = _; rw [← HRD.out]; rfl
  rw [HLH.out] at HT2
  cases hq : decide (kd = 3) && decide (x.h.tries + 1 < 3) with
  | true =>
    have HAG : Hid (∀ W : World, Calls Tryz.prog 124 #[.int .i64 kd, .int .i64 x.h.tries] W fun e w' => e = .returned (.bool true) ∧ w' = W) := fun W => by rw [← hq]; exact again_any kd x.h.tries W HTR.out
    have hq' : kd = 3 ∧ x.h.tries + 1 < 3 := by simpa using hq
    have HQ : Hid (kd = 3 ∧ x.h.tries + 1 < 3) := hq'
    clear hq'
    have f6 := HT2.out.free (i * 8 + 6)
    have hwn : wrap64 (x.h.tries + 1) = x.h.tries + 1 := by have := HTR.out; unfold wrap64; omega
    clear hq
    go_wp2_with (go_at_call 124; refine (HAG.out _).mono ?_; rintro e w3 ⟨rfl, e3⟩; have e4 := e3.symm; subst e4)
    obtain ⟨X3, q3⟩ := HT2.out.set (j := 6) (y := .int .i64 (x.h.tries + 1)) (x' := ⟨{ x.h with ready := r2, tries := x.h.tries + 1 }, x.row⟩) (by decide) rfl rfl rfl rfl rfl rfl
    have q4 := HOUT.out _ _ _ _ _ q3
    dsimp only at q4
    rw [List.set_set] at q4
    refine bodyPost_ret (results_none rfl _ _ _) rfl ?_
    refine ⟨rfl, X3, ⟨{ x.h with ready := r2, tries := x.h.tries + 1 }, x.row⟩, vL2, ?_⟩
    rw [ask_eq1 HKD.out HQ.out]
    have e9 : lookH (hmX x) t.now kd (hmX x).tries = { hmX x with ready := r2 } := HLH.out
    rw [e9]
    exact q4
  | false =>
    have HAG : Hid (∀ W : World, Calls Tryz.prog 124 #[.int .i64 kd, .int .i64 x.h.tries] W fun e w' => e = .returned (.bool false) ∧ w' = W) := fun W => by rw [← hq]; exact again_any kd x.h.tries W HTR.out
    have hq' : ¬ (kd = 3 ∧ x.h.tries + 1 < 3) := by simpa using hq
    have HQ : Hid (¬ (kd = 3 ∧ x.h.tries + 1 < 3)) := hq'
    clear hq'
    have f2 := HT2.out.free (i * 8 + 2)
    have k2 : w2.cell? ⟨GH, i * 8 + 2, none⟩ = some (.bool x.h.known) := HT2.out.cell (j := 2) rfl (by decide)
    obtain ⟨X3, q3⟩ := HT2.out.set (j := 2) (y := .bool true) (x' := ⟨{ x.h with ready := r2, known := true }, x.row⟩) (by decide) rfl rfl rfl rfl rfl rfl
    dsimp only at q3
    rw [List.set_set] at q3
    obtain ⟨w3, hw3⟩ : ∃ w3, w2.setCell ⟨GH, i * 8 + 2, none⟩ (.bool true) = w3 := ⟨_, rfl⟩
    rw [hw3] at q3
    have HT3 : Hid _ := q3
    clear hq q3
    go_wp2_with (go_at_call 124; refine (HAG.out _).mono ?_; rintro e w3 ⟨rfl, e3⟩; have e4 := e3.symm; subst e4)
    clear hw3 k2 f2 p2 n2 k26 HT2
    have hM3 := (HMX.out _ _ _ _ _ HT3.out).1
    have hm3 := (HMX.out _ _ _ _ _ HT3.out).2
    have HM3 : Hid (Mx w3.drew) := hM3
    have HMP3 : Hid (IsMap w3.drew mb (entsL L)) := hm3
    have p3 := (HPX.out _ _ _ _ _ HT3.out).cell 0 rfl
    have k0 : w3.cell? ⟨GH, i * 8, none⟩ = some (.string x.h.name) := HT3.out.cell (j := 0) rfl (by decide)
    have c0 := HT3.out.pc
    have c1 : w3.cell? ⟨T0, 1, none⟩ = some (.string t.name) := HT3.out.own.c0
    clear hM3 hm3
    go_region_held_law (fun w' => w'.cell? ⟨P, 0, none⟩ = some (.pointer (some ⟨GH, i * 8, none⟩)) ∧ w'.cell? ⟨GH, i * 8, none⟩ = some (.string x.h.name) ∧ w'.cell? ⟨T0, 0, none⟩ = some (.map (some mb)) ∧ w'.cell? ⟨T0, 1, none⟩ = some (.string t.name)) (first | exact hS5 | go_keep | exact hS4)
      ((first
      | (go_at_call 125
         refine (noticeAt_any mb L x.h.name t.name w3.drew HM3.out HMP3.out HNM.out HTX.out).mono ?_
         rintro e w4 ⟨gr, rfl, hg, hgo, hb4⟩
         have HG : Hid (grp gr = saysG (kindF L (doorS x.h.name) 2) t.name) := hg
         have HGO : Hid (Dr.GrOwn w4 w3.drew.heap.size gr) := hgo
         have HB4 : Hid (Below w3.drew.heap.size w3.drew w4) := hb4
         have HT4 : Hid _ := HT3.out.drew.below hb4
         have k3 : w4.cell? ⟨GH, i * 8 + 3, none⟩ = some (.slice x.h.gr.na x.h.gr.nm.length x.h.gr.nc) := HT4.out.cell (j := 3) rfl (by decide)
         have k4 : w4.cell? ⟨GH, i * 8 + 4, none⟩ = some (.slice x.h.gr.ra x.h.gr.ru.length x.h.gr.rc) := HT4.out.cell (j := 4) rfl (by decide)
         have k5 : w4.cell? ⟨GH, i * 8 + 5, none⟩ = some (.int .i64 x.h.gr.wait) := HT4.out.cell (j := 5) rfl (by decide)
         have f3 := HT4.out.free (i * 8 + 3)
         have f4 := HT4.out.free (i * 8 + 4)
         have f5 := HT4.out.free (i * 8 + 5)
         have hS4 : w4.cell? ⟨P, 0, none⟩ = some (.pointer (some ⟨GH, i * 8, none⟩)) ∧ w4.cell? ⟨GH, i * 8, none⟩ = some (.string x.h.name) ∧ w4.cell? ⟨T0, 0, none⟩ = some (.map (some mb)) ∧ w4.cell? ⟨T0, 1, none⟩ = some (.string t.name) := ⟨(HPX.out _ _ _ _ _ HT4.out).cell 0 rfl, HT4.out.cell (j := 0) rfl (by decide), HT4.out.pc, HT4.out.own.c0⟩
         obtain ⟨X5, q5⟩ := HT3.out.drew.said hb4 hgo
         dsimp only at q5
         rw [List.set_set] at q5
         obtain ⟨w5, hw5⟩ : ∃ w5, (((w4.setCell ⟨GH, i * 8 + 3, none⟩ (.slice gr.na gr.nm.length gr.nc)).setCell ⟨GH, i * 8 + 3 + 1, none⟩ (.slice gr.ra gr.ru.length gr.rc)).setCell ⟨GH, i * 8 + 3 + 2, none⟩ (.int .i64 gr.wait)) = w5 := ⟨_, rfl⟩
         have HT5 : Hid (Tw wa (Ow T0 X (vHs GH X.length c) vS vL) (Rd X) B T0 GH c i (.map (some mb)) X5 ⟨{ x.h with ready := r2, known := true, gr := gr }, x.row⟩ vS vL2 { t with lk := t.lk ++ [⟨t.now, doorS x.h.name, kd⟩], hs := t.hs.set i (hmX ⟨{ x.h with ready := r2, known := true, gr := gr }, x.row⟩) } w5) := by rw [← hw5]; exact q5
         have hS5 : w5.cell? ⟨P, 0, none⟩ = some (.pointer (some ⟨GH, i * 8, none⟩)) ∧ w5.cell? ⟨GH, i * 8, none⟩ = some (.string x.h.name) ∧ w5.cell? ⟨T0, 0, none⟩ = some (.map (some mb)) ∧ w5.cell? ⟨T0, 1, none⟩ = some (.string t.name) := ⟨(HPX.out _ _ _ _ _ HT5.out).cell 0 rfl, HT5.out.cell (j := 0) rfl (by decide), HT5.out.pc, HT5.out.own.c0⟩
         clear hg hgo hb4 q5)
      | fail))
    clear hw5 hS5 hS4 k3 k4 k5 f3 f4 f5 p3 k0 c0 c1
    have hgw : 0 ≤ gr.wait ∧ gr.wait ≤ 20 := by
      have := (says_fine (kindF L (doorS x.h.name) 2) t.name).2.1
      rw [← HG.out] at this; exact this
    have hwa : IntKind.i64.wrap (t.now + gr.wait) = t.now + gr.wait := IntWalk.i64_in _ (by omega)
    go_wp2_with fail
    have S5 : w5.drew.cell? ⟨P, 0, none⟩ = some (.pointer (some ⟨GH, i * 8, none⟩)) ∧ w5.drew.cell? ⟨T0, 2, none⟩ = some (.int .i64 t.now) ∧ w5.drew.cell? ⟨GH, i * 8 + 5, none⟩ = some (.int .i64 gr.wait) := ⟨(HPX.out _ _ _ _ _ HT5.out.drew).cell 0 rfl, HT5.out.drew.own.c1, HT5.out.drew.cell (j := 5) rfl (by decide)⟩
    have k1 : w5.drew.cell? ⟨GH, i * 8 + 1, none⟩ = some (.int .i64 r2) := HT5.out.drew.cell (j := 1) rfl (by decide)
    have f1 := HT5.out.drew.free (i * 8 + 1)
    refine wp_region_held_drew (S := fun w' => w'.cell? ⟨P, 0, none⟩ = some (.pointer (some ⟨GH, i * 8, none⟩)) ∧ w'.cell? ⟨T0, 2, none⟩ = some (.int .i64 t.now) ∧ w'.cell? ⟨GH, i * 8 + 5, none⟩ = some (.int .i64 gr.wait)) (by kernel_rfl) S5 (fun hHeld => ?_)
    refine wpAnyH_take (i := 0) (oi := ({ dst := some 54, op := Go.Op.load 105 (Go.Operand.tmp 3), type := 105, pos := "l12_trip.go:301", after := #[], guard := none } : Oper)) (v := ?_) rfl (by kernel_rfl) (by kernel_rfl) (by kernel_rfl) (fun _ _ _ h => h) (Or.inl ⟨by rfl, ?_⟩) hHeld ?_
    rotate_left
    · (intro w hSw; (try dsimp only at hSw); go_simp; try with_reducible rfl)
    try simp only [Act.put, List.setIfInBounds_toArray, List.set_cons_zero, List.set_cons_succ]
    refine wpAnyH_take (i := 1) (oi := ({ dst := some 55, op := Go.Op.load 105 (Go.Operand.tmp 3), type := 105, pos := "l12_trip.go:301", after := #[], guard := none } : Oper)) (v := ?_) rfl (by kernel_rfl) (by kernel_rfl) (by kernel_rfl) (fun _ _ _ h => h) (Or.inl ⟨by rfl, ?_⟩) hHeld ?_
    rotate_left
    · (intro w hSw; (try dsimp only at hSw); go_simp; try with_reducible rfl)
    try simp only [Act.put, List.setIfInBounds_toArray, List.set_cons_zero, List.set_cons_succ]
    refine wpAnyH_take (i := 2) (oi := ({ dst := some 56, op := Go.Op.nilCheck (Go.Operand.tmp 55), type := 0, pos := "l12_trip.go:301", after := #[{ on := 1, ground := Go.Ground.data }], guard := none } : Oper)) (v := ?_) rfl (by kernel_rfl) (by kernel_rfl) (by kernel_rfl) (fun _ _ _ h => h) (Or.inl ⟨by rfl, ?_⟩) hHeld ?_
    rotate_left
    · (intro w hSw; (try dsimp only at hSw); go_simp; try with_reducible rfl)
    try simp only [Act.put, List.setIfInBounds_toArray, List.set_cons_zero, List.set_cons_succ]
    refine wpAnyH_take (i := 3) (oi := ({ dst := some 57, op := Go.Op.fieldAddr 38 (Go.Operand.tmp 56) 1, type := 0, pos := "l12_trip.go:301", after := #[{ on := 2, ground := Go.Ground.data }], guard := none } : Oper)) (v := ?_) rfl (by kernel_rfl) (by kernel_rfl) (by kernel_rfl) (fun _ _ _ h => h) (Or.inl ⟨by rfl, ?_⟩) hHeld ?_
    rotate_left
    · (intro w hSw; (try dsimp only at hSw); go_simp; try with_reducible rfl)
    try simp only [Act.put, List.setIfInBounds_toArray, List.set_cons_zero, List.set_cons_succ]
    refine wpAnyH_take (i := 5) (oi := ({ dst := some 59, op := Go.Op.move (Go.Operand.tmp 0), type := 114, pos := "l12_trip.go:301", after := #[], guard := none } : Oper)) (v := ?_) rfl (by kernel_rfl) (by kernel_rfl) (by kernel_rfl) (fun _ _ _ h => h) (Or.inl ⟨by rfl, ?_⟩) hHeld ?_
    rotate_left
    · (intro w hSw; (try dsimp only at hSw); go_simp; try with_reducible rfl)
    try simp only [Act.put, List.setIfInBounds_toArray, List.set_cons_zero, List.set_cons_succ]
    refine wpAnyH_take (i := 6) (oi := ({ dst := some 60, op := Go.Op.nilCheck (Go.Operand.tmp 59), type := 0, pos := "l12_trip.go:301", after := #[{ on := 5, ground := Go.Ground.data }], guard := none } : Oper)) (v := ?_) rfl (by kernel_rfl) (by kernel_rfl) (by kernel_rfl) (fun _ _ _ h => h) (Or.inl ⟨by rfl, ?_⟩) hHeld ?_
    rotate_left
    · (intro w hSw; (try dsimp only at hSw); go_simp; try with_reducible rfl)
    try simp only [Act.put, List.setIfInBounds_toArray, List.set_cons_zero, List.set_cons_succ]
    refine wpAnyH_take (i := 7) (oi := ({ dst := some 61, op := Go.Op.fieldAddr 117 (Go.Operand.tmp 60) 1, type := 0, pos := "l12_trip.go:301", after := #[{ on := 6, ground := Go.Ground.data }], guard := none } : Oper)) (v := ?_) rfl (by kernel_rfl) (by kernel_rfl) (by kernel_rfl) (fun _ _ _ h => h) (Or.inl ⟨by rfl, ?_⟩) hHeld ?_
    rotate_left
    · (intro w hSw; (try dsimp only at hSw); go_simp; try with_reducible rfl)
    try simp only [Act.put, List.setIfInBounds_toArray, List.set_cons_zero, List.set_cons_succ]
    refine wpAnyH_take (i := 8) (oi := ({ dst := some 62, op := Go.Op.fieldAddr 29 (Go.Operand.tmp 61) 1, type := 0, pos := "l12_trip.go:301", after := #[{ on := 7, ground := Go.Ground.data }], guard := none } : Oper)) (v := ?_) rfl (by kernel_rfl) (by kernel_rfl) (by kernel_rfl) (fun _ _ _ h => h) (Or.inl ⟨by rfl, ?_⟩) hHeld ?_
    rotate_left
    · (intro w hSw; (try dsimp only at hSw); go_simp; try with_reducible rfl)
    try simp only [Act.put, List.setIfInBounds_toArray, List.set_cons_zero, List.set_cons_succ]
    refine wpAnyH_take (i := 9) (oi := ({ dst := some 63, op := Go.Op.load 3 (Go.Operand.tmp 62), type := 3, pos := "l12_trip.go:301", after := #[{ on := 8, ground := Go.Ground.data }], guard := none } : Oper)) (v := ?_) rfl (by kernel_rfl) (by kernel_rfl) (by kernel_rfl) (fun _ _ _ h => h) (Or.inl ⟨by rfl, ?_⟩) hHeld ?_
    rotate_left
    · (intro w hSw; (try dsimp only at hSw); go_simp; try with_reducible rfl)
    try simp only [Act.put, List.setIfInBounds_toArray, List.set_cons_zero, List.set_cons_succ]
    refine wpAnyH_take (i := 10) (oi := ({ dst := some 64, op := Go.Op.load 105 (Go.Operand.tmp 3), type := 105, pos := "l12_trip.go:301", after := #[], guard := none } : Oper)) (v := ?_) rfl (by kernel_rfl) (by kernel_rfl) (by kernel_rfl) (fun _ _ _ h => h) (Or.inl ⟨by rfl, ?_⟩) hHeld ?_
    rotate_left
    · (intro w hSw; (try dsimp only at hSw); go_simp; try with_reducible rfl)
    try simp only [Act.put, List.setIfInBounds_toArray, List.set_cons_zero, List.set_cons_succ]
    refine wpAnyH_take (i := 11) (oi := ({ dst := some 65, op := Go.Op.nilCheck (Go.Operand.tmp 64), type := 0, pos := "l12_trip.go:301", after := #[{ on := 10, ground := Go.Ground.data }], guard := none } : Oper)) (v := ?_) rfl (by kernel_rfl) (by kernel_rfl) (by kernel_rfl) (fun _ _ _ h => h) (Or.inl ⟨by rfl, ?_⟩) hHeld ?_
    rotate_left
    · (intro w hSw; (try dsimp only at hSw); go_simp; try with_reducible rfl)
    try simp only [Act.put, List.setIfInBounds_toArray, List.set_cons_zero, List.set_cons_succ]
    refine wpAnyH_take (i := 12) (oi := ({ dst := some 66, op := Go.Op.fieldAddr 38 (Go.Operand.tmp 65) 3, type := 0, pos := "l12_trip.go:301", after := #[{ on := 11, ground := Go.Ground.data }], guard := none } : Oper)) (v := ?_) rfl (by kernel_rfl) (by kernel_rfl) (by kernel_rfl) (fun _ _ _ h => h) (Or.inl ⟨by rfl, ?_⟩) hHeld ?_
    rotate_left
    · (intro w hSw; (try dsimp only at hSw); go_simp; try with_reducible rfl)
    try simp only [Act.put, List.setIfInBounds_toArray, List.set_cons_zero, List.set_cons_succ]
    refine wpAnyH_take (i := 13) (oi := ({ dst := some 67, op := Go.Op.fieldAddr 35 (Go.Operand.tmp 66) 2, type := 0, pos := "l12_trip.go:301", after := #[{ on := 12, ground := Go.Ground.data }], guard := none } : Oper)) (v := ?_) rfl (by kernel_rfl) (by kernel_rfl) (by kernel_rfl) (fun _ _ _ h => h) (Or.inl ⟨by rfl, ?_⟩) hHeld ?_
    rotate_left
    · (intro w hSw; (try dsimp only at hSw); go_simp; try with_reducible rfl)
    try simp only [Act.put, List.setIfInBounds_toArray, List.set_cons_zero, List.set_cons_succ]
    refine wpAnyH_take (i := 14) (oi := ({ dst := some 68, op := Go.Op.load 3 (Go.Operand.tmp 67), type := 3, pos := "l12_trip.go:301", after := #[{ on := 13, ground := Go.Ground.data }], guard := none } : Oper)) (v := ?_) rfl (by kernel_rfl) (by kernel_rfl) (by kernel_rfl) (fun _ _ _ h => h) (Or.inl ⟨by rfl, ?_⟩) hHeld ?_
    rotate_left
    · (intro w hSw; (try dsimp only at hSw); go_simp; try with_reducible rfl)
    try simp only [Act.put, List.setIfInBounds_toArray, List.set_cons_zero, List.set_cons_succ]
    refine wpAnyH_take (i := 15) (oi := ({ dst := some 69, op := Go.Op.binOp Go.BinOp.add 3 (Go.Operand.tmp 63) (Go.Operand.tmp 68) 3, type := 3, pos := "l12_trip.go:301", after := #[{ on := 9, ground := Go.Ground.data }, { on := 14, ground := Go.Ground.data }], guard := none } : Oper)) (v := ?_) rfl (by kernel_rfl) (by kernel_rfl) (by kernel_rfl) (fun _ _ _ h => h) (Or.inl ⟨by rfl, ?_⟩) hHeld ?_
    rotate_left
    · (intro w hSw; (try dsimp only at hSw); go_simp; try with_reducible rfl)
    try simp only [Act.put, List.setIfInBounds_toArray, List.set_cons_zero, List.set_cons_succ]
    refine wpAnyH_ready (rs := [4]) (by kernel_rfl) (by simp) ?_
    refine AllReadyH.cons rfl (fun K hK => ?_) AllReadyH.nil
    go_simp
    refine hK.out _ _ S5 (fun hHeld => ?_)
    clear hK K
    refine wpAnyH_ready (rs := [16]) (by kernel_rfl) (by simp) ?_
    refine AllReadyH.cons rfl (fun K hK => ?_) AllReadyH.nil
    go_simp
    refine hK.out _ _ S5 (fun hHeld => ?_)
    clear hK K
    refine wpAnyH_take (i := 17) (oi := ({ dst := some 71, op := Go.Op.nilCheck (Go.Operand.tmp 54), type := 0, pos := "l12_trip.go:301", after := #[{ on := 0, ground := Go.Ground.data }, { on := 0, ground := Go.Ground.phase }, { on := 1, ground := Go.Ground.phase }, { on := 2, ground := Go.Ground.phase }, { on := 3, ground := Go.Ground.phase }, { on := 4, ground := Go.Ground.phase }, { on := 5, ground := Go.Ground.phase }, { on := 6, ground := Go.Ground.phase }, { on := 7, ground := Go.Ground.phase }, { on := 8, ground := Go.Ground.phase }, { on := 9, ground := Go.Ground.phase }, { on := 10, ground := Go.Ground.phase }, { on := 11, ground := Go.Ground.phase }, { on := 12, ground := Go.Ground.phase }, { on := 13, ground := Go.Ground.phase }, { on := 14, ground := Go.Ground.phase }, { on := 15, ground := Go.Ground.phase }, { on := 16, ground := Go.Ground.phase }], guard := none } : Oper)) (v := ?_) rfl (by kernel_rfl) (by kernel_rfl) (by kernel_rfl) (fun _ _ _ h => h) (Or.inl ⟨by rfl, ?_⟩) hHeld ?_
    rotate_left
    · (intro w hSw; (try dsimp only at hSw); go_simp; try with_reducible rfl)
    try simp only [Act.put, List.setIfInBounds_toArray, List.set_cons_zero, List.set_cons_succ]
    refine wpAnyH_take (i := 18) (oi := ({ dst := some 72, op := Go.Op.fieldAddr 38 (Go.Operand.tmp 71) 1, type := 0, pos := "l12_trip.go:301", after := #[{ on := 17, ground := Go.Ground.data }, { on := 0, ground := Go.Ground.phase }, { on := 1, ground := Go.Ground.phase }, { on := 2, ground := Go.Ground.phase }, { on := 3, ground := Go.Ground.phase }, { on := 4, ground := Go.Ground.phase }, { on := 5, ground := Go.Ground.phase }, { on := 6, ground := Go.Ground.phase }, { on := 7, ground := Go.Ground.phase }, { on := 8, ground := Go.Ground.phase }, { on := 9, ground := Go.Ground.phase }, { on := 10, ground := Go.Ground.phase }, { on := 11, ground := Go.Ground.phase }, { on := 12, ground := Go.Ground.phase }, { on := 13, ground := Go.Ground.phase }, { on := 14, ground := Go.Ground.phase }, { on := 15, ground := Go.Ground.phase }, { on := 16, ground := Go.Ground.phase }], guard := none } : Oper)) (v := ?_) rfl (by kernel_rfl) (by kernel_rfl) (by kernel_rfl) (fun _ _ _ h => h) (Or.inl ⟨by rfl, ?_⟩) hHeld ?_
    rotate_left
    · (intro w hSw; (try dsimp only at hSw); go_simp; try with_reducible rfl)
    try simp only [Act.put, List.setIfInBounds_toArray, List.set_cons_zero, List.set_cons_succ]
    obtain ⟨X6, q6⟩ := HT5.out.drew.set (j := 1) (y := .int .i64 (max r2 (t.now + gr.wait))) (x' := ⟨{ x.h with ready := max r2 (t.now + gr.wait), known := true, gr := gr }, x.row⟩) (by decide) rfl rfl rfl rfl rfl rfl
    dsimp only at q6
    rw [List.set_set] at q6
    obtain ⟨w6, hw6⟩ : ∃ w6, w5.drew.setCell ⟨GH, i * 8 + 1, none⟩ (.int .i64 (max r2 (t.now + gr.wait))) = w6 := ⟨_, rfl⟩
    rw [hw6] at q6
    have HT6 : Hid _ := q6
    have S6 : w6.cell? ⟨P, 0, none⟩ = some (.pointer (some ⟨GH, i * 8, none⟩)) ∧ w6.cell? ⟨T0, 2, none⟩ = some (.int .i64 t.now) ∧ w6.cell? ⟨GH, i * 8 + 5, none⟩ = some (.int .i64 gr.wait) := ⟨(HPX.out _ _ _ _ _ q6).cell 0 rfl, q6.own.c1, q6.cell (j := 5) rfl (by decide)⟩
    clear q6
    refine wpAnyH_ready (rs := [19]) (by kernel_rfl) (by simp) ?_
    refine AllReadyH.cons rfl (fun K hK => ?_) AllReadyH.nil
    go_simp
    refine hK.out _ _ S6 (fun hHeld => ?_)
    clear hK K
    refine wpAnyH_done (by kernel_rfl) ?_ _
    clear hw6 S5 S6 k1 f1 HT5 hwa
    go_wp2_with fail
    have S7 : w6.drew.cell? ⟨P, 0, none⟩ = some (.pointer (some ⟨GH, i * 8, none⟩)) := (HPX.out _ _ _ _ _ HT6.out.drew).cell 0 rfl
    have k7 : w6.drew.cell? ⟨GH, i * 8 + 7, none⟩ = some (.slice x.h.ta x.h.todo.length x.h.tc) := HT6.out.drew.cell (j := 7) rfl (by decide)
    have HDL : Hid (Calls Tryz.prog 126 #[.slice x.h.ta x.h.todo.length x.h.tc, .func (.func 127) #[] #[.pointer (some ⟨P, 0, none⟩)]] w6.drew fun e w' => e = .returned (.slice x.h.ta (x.h.todo.filter (letIt (grp gr))).length x.h.tc) ∧ IsQF FIt w' B x.row (.slice x.h.ta (x.h.todo.filter (letIt (grp gr))).length x.h.tc) (x.h.todo.filter (letIt (grp gr))) ∧ w6.drew.grownBy w' x.row) := by
      have hh := HT6.out.drew.house
      have hlow : ∀ k, x.row = some k → B ≤ k := fun k hk => (hh.todo.lt k hk).1
      obtain ⟨hi6, e6⟩ := HT6.out.drew.lt
      have hq : x.row = X6[i].row := by rw [e6]
      have haH : Ap (some GH) x.row := by have := (HT6.out.drew.own.qH _ (List.getElem_mem hi6)).1; rw [e6] at this; exact this
      have haR : Ap x.row (blk gr.ra) := by have := (HT6.out.drew.own.sx _ (List.getElem_mem hi6) _ (List.getElem_mem hi6)).2; rw [e6] at this; exact this
      have haP : Ap (some P) x.row := fun k e1 e2 => by
        have e3 := Option.some.inj e1
        subst e3
        exact (HT6.out.drew.kept HX0.out.lt HPN.out).2 (Or.inr (Or.inr (Or.inr (Or.inr ⟨_, List.getElem_mem hi6, by rw [e6]; exact e2⟩))))
      refine delFunc_any (letIt (grp gr)) B x.h.ta x.h.tc x.h.todo P x.row w6.drew hh.todo (by omega) (fun W y hW hy => ?_)
      have hrf := says_fine (kindF L (doorS x.h.name) 2) t.name
      rw [← HG.out] at hrf
      obtain ⟨A, hA, _⟩ := (HK.out.td y hy).1
      have hys := norm_size hA
      refine dropC_any y GH (i * 8) P { x.h with ready := max r2 (t.now + gr.wait), known := true, gr := gr } W (Mx_low (HMX.out _ _ _ _ _ HT6.out.drew).1 (below_grown hW hlow HT6.out.drew.own.hB) hMB) (by omega) (fun j u hu => ?_) (IsRows.apart hh.rules hW haR) (by have := hrf.2.2.1; show gr.ru.length ≤ _; have e : (grp gr).2.1.length = gr.ru.length := rfl; omega) (fun r hr => by have h1 := rule_sz (hrf.2.2.2 r hr); have h2 : r.path.size = r.path.data.toList.length := (by show r.path.data.size = _; simp); omega) (cell_ap S7 hW haP)
      exact cell_ap (HT6.out.drew.cell hu (by have := (List.getElem?_eq_some_iff.1 hu).1; rw [FHs.len] at this; exact this)) hW haH
    clear hgw
    refine wp_region_held_drew (S := fun w' => w'.cell? ⟨P, 0, none⟩ = some (.pointer (some ⟨GH, i * 8, none⟩))) (by kernel_rfl) S7 (fun hHeld => ?_)
    refine wpAnyH_take (i := 0) (oi := ({ dst := some 73, op := Go.Op.load 105 (Go.Operand.tmp 3), type := 105, pos := "l12_trip.go:302", after := #[], guard := none } : Oper)) (v := ?_) rfl (by kernel_rfl) (by kernel_rfl) (by kernel_rfl) (fun _ _ _ h => h) (Or.inl ⟨by rfl, ?_⟩) hHeld ?_
    rotate_left
    · (intro w hSw; (try dsimp only at hSw); go_simp; try with_reducible rfl)
    try simp only [Act.put, List.setIfInBounds_toArray, List.set_cons_zero, List.set_cons_succ]
    refine wpAnyH_take (i := 1) (oi := ({ dst := some 74, op := Go.Op.load 105 (Go.Operand.tmp 3), type := 105, pos := "l12_trip.go:302", after := #[], guard := none } : Oper)) (v := ?_) rfl (by kernel_rfl) (by kernel_rfl) (by kernel_rfl) (fun _ _ _ h => h) (Or.inl ⟨by rfl, ?_⟩) hHeld ?_
    rotate_left
    · (intro w hSw; (try dsimp only at hSw); go_simp; try with_reducible rfl)
    try simp only [Act.put, List.setIfInBounds_toArray, List.set_cons_zero, List.set_cons_succ]
    refine wpAnyH_take (i := 2) (oi := ({ dst := some 75, op := Go.Op.nilCheck (Go.Operand.tmp 74), type := 0, pos := "l12_trip.go:302", after := #[{ on := 1, ground := Go.Ground.data }], guard := none } : Oper)) (v := ?_) rfl (by kernel_rfl) (by kernel_rfl) (by kernel_rfl) (fun _ _ _ h => h) (Or.inl ⟨by rfl, ?_⟩) hHeld ?_
    rotate_left
    · (intro w hSw; (try dsimp only at hSw); go_simp; try with_reducible rfl)
    try simp only [Act.put, List.setIfInBounds_toArray, List.set_cons_zero, List.set_cons_succ]
    refine wpAnyH_take (i := 3) (oi := ({ dst := some 76, op := Go.Op.fieldAddr 38 (Go.Operand.tmp 75) 5, type := 0, pos := "l12_trip.go:302", after := #[{ on := 2, ground := Go.Ground.data }], guard := none } : Oper)) (v := ?_) rfl (by kernel_rfl) (by kernel_rfl) (by kernel_rfl) (fun _ _ _ h => h) (Or.inl ⟨by rfl, ?_⟩) hHeld ?_
    rotate_left
    · (intro w hSw; (try dsimp only at hSw); go_simp; try with_reducible rfl)
    try simp only [Act.put, List.setIfInBounds_toArray, List.set_cons_zero, List.set_cons_succ]
    refine wpAnyH_take (i := 5) (oi := ({ dst := some 78, op := Go.Op.makeFunc (Go.Fn.func 127) #[] #[Go.Operand.tmp 3], type := 140, pos := "l12_trip.go:302", after := #[], guard := none } : Oper)) (v := ?_) rfl (by kernel_rfl) (by kernel_rfl) (by kernel_rfl) (fun _ _ _ h => h) (Or.inl ⟨by rfl, ?_⟩) hHeld ?_
    rotate_left
    · (intro w hSw; (try dsimp only at hSw); go_simp; try with_reducible rfl)
    try simp only [Act.put, List.setIfInBounds_toArray, List.set_cons_zero, List.set_cons_succ]
    refine wpAnyH_ready (rs := [4]) (by kernel_rfl) (by simp) ?_
    refine AllReadyH.cons rfl (fun K hK => ?_) AllReadyH.nil
    go_simp
    refine hK.out _ _ S7 (fun hHeld => ?_)
    clear hK K
    refine wpAnyH_ready (rs := [6]) (by kernel_rfl) (by simp) ?_
    refine AllReadyH.cons rfl (fun K hK => ?_) AllReadyH.nil
    go_simp
    refine Calls.mono HDL.out ?_
    rintro e w7 ⟨rfl, hq7, hg7⟩
    have hro : ∃ hi6 : i < X6.length, X6[i].row = x.row := by
      obtain ⟨hi6, e6⟩ := HT6.out.drew.lt
      exact ⟨hi6, by rw [e6]⟩
    obtain ⟨hi6, e6⟩ := hro
    have S8 : w7.cell? ⟨P, 0, none⟩ = some (.pointer (some ⟨GH, i * 8, none⟩)) := cell_ap S7 hg7 (fun k e1 e2 => by
      have e3 := Option.some.inj e1
      subst e3
      exact (HT6.out.drew.kept HX0.out.lt HPN.out).2 (Or.inr (Or.inr (Or.inr (Or.inr ⟨_, List.getElem_mem hi6, by rw [e6]; exact e2⟩)))))
    have k8 : w7.cell? ⟨GH, i * 8 + 7, none⟩ = some (.slice x.h.ta x.h.todo.length x.h.tc) := cell_ap k7 hg7 (by have := (HT6.out.drew.own.qH _ (List.getElem_mem hi6)).1; rw [e6] at this; exact this)
    have f8 : w7.frozen? ⟨GH, i * 8 + 7, none⟩ = false := by
      have h1 : (some GH : Option Nat) ≠ x.row := fun e => (HT6.out.drew.own.qH _ (List.getElem_mem hi6)).1 GH rfl (by rw [e6]; exact e.symm)
      rw [World.frozen?_of_block (w := w6.drew) (a := ⟨GH, i * 8 + 7, none⟩) (hg7.block _ (HT6.out.drew.own.lt GH (Or.inr (Or.inl rfl))) h1)]
      exact HT6.out.drew.free _
    obtain ⟨X8, q8⟩ := HT6.out.drew.todo hg7 hq7 (Or.inl rfl)
    dsimp only at q8
    rw [List.set_set] at q8
    obtain ⟨w8, hw8⟩ : ∃ w8, w7.setCell ⟨GH, i * 8 + 7, none⟩ (.slice x.h.ta (x.h.todo.filter (letIt (grp gr))).length x.h.tc) = w8 := ⟨_, rfl⟩
    rw [hw8] at q8
    have HT8 : Hid _ := q8
    have S9 : w8.cell? ⟨P, 0, none⟩ = some (.pointer (some ⟨GH, i * 8, none⟩)) := (HPX.out _ _ _ _ _ q8).cell 0 rfl
    clear q8 hq7 hg7 k7
    refine hK.out _ _ S8 (fun hHeld => ?_)
    clear hK K
    refine wpAnyH_take (i := 7) (oi := ({ dst := some 80, op := Go.Op.nilCheck (Go.Operand.tmp 73), type := 0, pos := "l12_trip.go:302", after := #[{ on := 0, ground := Go.Ground.data }, { on := 0, ground := Go.Ground.phase }, { on := 1, ground := Go.Ground.phase }, { on := 2, ground := Go.Ground.phase }, { on := 3, ground := Go.Ground.phase }, { on := 4, ground := Go.Ground.phase }, { on := 5, ground := Go.Ground.phase }, { on := 6, ground := Go.Ground.phase }], guard := none } : Oper)) (v := ?_) rfl (by kernel_rfl) (by kernel_rfl) (by kernel_rfl) (fun _ _ _ h => h) (Or.inl ⟨by rfl, ?_⟩) hHeld ?_
    rotate_left
    · (intro w hSw; (try dsimp only at hSw); go_simp; try with_reducible rfl)
    try simp only [Act.put, List.setIfInBounds_toArray, List.set_cons_zero, List.set_cons_succ]
    refine wpAnyH_take (i := 8) (oi := ({ dst := some 81, op := Go.Op.fieldAddr 38 (Go.Operand.tmp 80) 5, type := 0, pos := "l12_trip.go:302", after := #[{ on := 7, ground := Go.Ground.data }, { on := 0, ground := Go.Ground.phase }, { on := 1, ground := Go.Ground.phase }, { on := 2, ground := Go.Ground.phase }, { on := 3, ground := Go.Ground.phase }, { on := 4, ground := Go.Ground.phase }, { on := 5, ground := Go.Ground.phase }, { on := 6, ground := Go.Ground.phase }], guard := none } : Oper)) (v := ?_) rfl (by kernel_rfl) (by kernel_rfl) (by kernel_rfl) (fun _ _ _ h => h) (Or.inl ⟨by rfl, ?_⟩) hHeld ?_
    rotate_left
    · (intro w hSw; (try dsimp only at hSw); go_simp; try with_reducible rfl)
    try simp only [Act.put, List.setIfInBounds_toArray, List.set_cons_zero, List.set_cons_succ]
    refine wpAnyH_ready (rs := [9]) (by kernel_rfl) (by simp) ?_
    refine AllReadyH.cons rfl (fun K hK => ?_) AllReadyH.nil
    go_simp
    refine hK.out _ _ S9 (fun hHeld => ?_)
    clear hK K
    refine wpAnyH_done (by kernel_rfl) ?_ _
    clear hw8 S8 S9 k8 f8
    go_wp2_with fail
    refine bodyPost_end (results_none rfl _ _ _) rfl ?_
    refine ⟨rfl, ?_⟩
    have e8 := HOUT.out _ _ _ _ _ HT8.out
    have e9 : lookH (hmX x) t.now kd (hmX x).tries = { hmX x with ready := r2 } := HLH.out
    rw [ask_eq2 HKD.out HQ.out HG.out.symm, e9]
    exact ⟨X8, _, vL2, e8⟩
end Go.Proofs.YtiennniclkbjlaaGreatDoor.Tn
/- Of the text that the law holds against: a trip hears of a text. -/
namespace Go.Proofs.YtiennniclkbjlaaGreatDoor.Ts
open Go.RowKit Go.Proofs.YtiennniclkbjlaaGreatDoor.EscM Go.Proofs.YtiennniclkbjlaaGreatDoor.AddrM Go.Proofs.YtiennniclkbjlaaGreatDoor.ReadM Go.Proofs.YtiennniclkbjlaaGreatDoor.Rd1 Go.Proofs.YtiennniclkbjlaaGreatDoor.Ad1 Go.Proofs.YtiennniclkbjlaaGreatDoor.RuleM Go.Proofs.YtiennniclkbjlaaGreatDoor.St Go.Proofs.YtiennniclkbjlaaGreatDoor.EscL Go.Proofs.YtiennniclkbjlaaGreatDoor.RR Go.Proofs.YtiennniclkbjlaaGreatDoor.LetM Go.Proofs.YtiennniclkbjlaaGreatDoor.GrM Go.Proofs.YtiennniclkbjlaaGreatDoor.RoIt Go.Proofs.YtiennniclkbjlaaGreatDoor.RoLk Go.Proofs.YtiennniclkbjlaaGreatDoor.RoQ Go.Proofs.YtiennniclkbjlaaGreatDoor.Mp Go.Proofs.YtiennniclkbjlaaGreatDoor.WdM Go.Proofs.YtiennniclkbjlaaGreatDoor.Wd Go.Proofs.YtiennniclkbjlaaGreatDoor.TpM Go.Proofs.YtiennniclkbjlaaGreatDoor.TrM Go.Proofs.YtiennniclkbjlaaGreatDoor.TrW Go.Proofs.YtiennniclkbjlaaGreatDoor.Tq Go.Proofs.YtiennniclkbjlaaGreatDoor.PgA Go.Proofs.YtiennniclkbjlaaGreatDoor.MkA Go.Proofs.YtiennniclkbjlaaGreatDoor.Im Go.Proofs.YtiennniclkbjlaaGreatDoor.Nm Go.Proofs.YtiennniclkbjlaaGreatDoor.Tn

set_option maxRecDepth 100000 in
set_option maxHeartbeats 3200000 in
theorem house_any (name : ByteArray) (now : Int) (aH aS aL : Option Addr) (cH nS cS nL cL : Nat) (L : List Hs) (x : ByteArray) (w : World) (hI : IsRows FHs w aH cH L) (hl : L.length ≤ 4194304) :
    Calls Tryz.prog 60 #[.agg #[.string name, .int .i64 now, .slice aH L.length cH, .slice aS nS cS, .slice aL nL cL], .string x] w fun e w' => (∃ z : Int, e = .returned (.int .i64 z) ∧ ((z = -1 ∧ ∀ h ∈ L, h.name ≠ x) ∨ ∃ (k : Nat) (hk : k < L.length), z = (k : Int) ∧ L[k].name = x ∧ ∀ h ∈ L.take k, h.name ≠ x)) ∧ Below w.heap.size w w' := by
  have HI : Hid (IsRows FHs w aH cH L) := hI
  have HB0 : Hid (Below w.heap.size w (w.alloc (.cells #[.string name, .int .i64 now, .slice aH L.length cH, .slice aS nS cS, .slice aL nL cL] 29))) := (Below.refl _ w).alloc (Nat.le_refl _) _
  have HX0 : Hid (Bs 29 (w.alloc (.cells #[.string name, .int .i64 now, .slice aH L.length cH, .slice aS nS cS, .slice aL nL cL] 29)) w.heap.size #[.string name, .int .i64 now, .slice aH L.length cH, .slice aS nS cS, .slice aL nL cL]) := Bs.new _ _ _
  clear hI
  go_enter Tryz.func60, Tryz.ntmps60
  go_wp2
  go_loopw [5] (fun i wr => ∃ k : Nat, k ≤ L.length ∧ i = .int .i64 (k : Int) ∧ wr = w.alloc (.cells #[.string name, .int .i64 now, .slice aH L.length cH, .slice aS nS cS, .slice aL nL cL] 29) ∧ Hid (∀ h ∈ L.take k, h.name ≠ x)) (fun i _ => L.length - (intOf i).toNat)
  case atStart => exact ⟨0, Nat.zero_le _, rfl, rfl, (fun h hh => by cases hh)⟩
  case round =>
    obtain ⟨k, hk, rfl, rfl, HN⟩ := hrel
    have d2 := HX0.out.cell 2 rfl
    by_cases hlt : k < L.length
    · obtain ⟨b, off, e1, c0, _⟩ := hs_at (HI.out.below HB0.out) hlt
      subst e1
      have HNM : Hid ((L[k].name.toList == x.toList) = decide (L[k].name = x)) := str_eq_iff _ _
      by_cases he : L[k].name = x
      · have HE : Hid (∃ hk : k < L.length, L[k].name = x) := ⟨hlt, he⟩
        have hq : (L[k].name.toList == x.toList) = true := by rw [HNM.out]; exact decide_eq_true he
        clear he HNM
        generalize L[k] = y at c0 hq
        go_wp2_with fail
        go_ret
        obtain ⟨q1, q2⟩ := HE.out
        exact ⟨⟨(k : Int), rfl, Or.inr ⟨k, q1, rfl, q2, HN.out⟩⟩, HB0.out⟩
      · have HN2 : Hid (∀ h ∈ L.take (k + 1), h.name ≠ x) := fun h hh => by
          rw [List.take_succ_eq_append_getElem hlt] at hh
          rcases List.mem_append.1 hh with hh | hh
          · exact HN.out h hh
          · have e : h = L[k] := by simpa using hh
            rw [e]; exact he
        have hq : (L[k].name.toList == x.toList) = false := by rw [HNM.out]; exact decide_eq_false he
        clear he HNM
        generalize L[k] = y at c0 hq
        go_wp2_with fail
        go_roundw
        case rel => exact ⟨k + 1, by omega, by go_num, trivial, HN2⟩
        case measure => simp [intOf]; omega
    · have HF : Hid (∀ h ∈ L, h.name ≠ x) := by
        have e1 : L.take k = L := List.take_of_length_le (by omega)
        have := HN.out
        rw [e1] at this; exact this
      go_wp2
      go_ret
      exact ⟨⟨-1, rfl, Or.inl ⟨rfl, HF.out⟩⟩, HB0.out⟩
/-- it is put into a new block -/
theorem own_box {w : World} {B T0 o : Nat} {X : List Hx} {vH vS vL : Value} {t : Tm} (h : TrOwn w B T0 o X vH vS vL t) : TrOwn (w.alloc (.cells #[.string t.name, .int .i64 t.now, vH, vS, vL] 29)) B w.heap.size 0 X vH vS vL t := by
  have h' := h.alloc (.cells #[.string t.name, .int .i64 t.now, vH, vS, vL] 29)
  have hb := Bs.new 29 w #[.string t.name, .int .i64 t.now, vH, vS, vL]
  have hf : ∀ {v : Option Nat}, (∀ k, v = some k → k < w.heap.size) → Ap (some w.heap.size) v := fun hv => ap_fresh hv (Nat.le_refl _)
  exact ⟨h'.hX, hb.cell 0 rfl, hb.cell 1 rfl, hb.cell 2 rfl, hb.cell 3 rfl, hb.cell 4 rfl, fun j _ => hb.free _, h.hB, h'.hB, h'.houses, h'.seen, h'.looks, h'.each, hf (row_lt h.houses), hf (row_lt h.seen), hf (row_lt h.looks), h.a4, h.a5, h.a6,
    fun x hx => ⟨hf (fun k hk => ((h.each x hx).todo.lt k hk).2), hf (h.each x hx).nlt, hf (h.each x hx).rlt⟩, h.qH, h.qS, h.qL, h.pw, h.sx⟩
/-- it is put into a block that stood there -/
theorem own_move {w : World} {B T1 o P : Nat} {X : List Hx} {vH vS vL : Value} {t : Tm} {C : Array Value} (h : TrOwn w B T1 o X vH vS vL t) (hb : Bs 29 w P C) (hP : B ≤ P) (hC : C.size = 5) (ho : ¬ Ow T1 X vH vS vL P) (hr : ¬ Rd X P) :
    TrOwn (((((w.setCell ⟨P, 0, none⟩ (.string t.name)).setCell ⟨P, 1, none⟩ (.int .i64 t.now)).setCell ⟨P, 2, none⟩ vH).setCell ⟨P, 3, none⟩ vS).setCell ⟨P, 4, none⟩ vL) B P 0 X vH vS vL t := by
  have h' := ((((h.apart (grown_one P 0 (.string t.name)) ho hr).apart (grown_one P 1 (.int .i64 t.now)) ho hr).apart (grown_one P 2 vH) ho hr).apart (grown_one P 3 vS) ho hr).apart (grown_one P 4 vL) ho hr
  have hb' := ((((hb.set 0 (.string t.name)).set 1 (.int .i64 t.now)).set 2 vH).set 3 vS).set 4 vL
  have hf : ∀ {v : Option Nat}, (∀ k, v = some k → Ow T1 X vH vS vL k ∨ Rd X k) → Ap (some P) v := fun hv k h1 h2 => by
    have e := Option.some.inj h1
    subst e
    rcases hv _ h2 with h3 | h3
    · exact ho h3
    · exact hr h3
  refine ⟨h'.hX, hb'.cell 0 (by simp [hC]), hb'.cell 1 (by simp [hC]), hb'.cell 2 (by simp [hC]), hb'.cell 3 (by simp [hC]), hb'.cell 4 (by simp [hC]), fun j _ => hb'.free _, hP, h'.hB, h'.houses, h'.seen, h'.looks, h'.each, hf fun k e => Or.inl (Or.inr (Or.inl e)), hf fun k e => Or.inl (Or.inr (Or.inr (Or.inl e))), hf fun k e => Or.inl (Or.inr (Or.inr (Or.inr (Or.inl e)))), h.a4, h.a5, h.a6,
    fun x hx => ⟨hf fun k e => Or.inl (Or.inr (Or.inr (Or.inr (Or.inr ⟨x, hx, e⟩)))), hf fun k e => Or.inr ⟨x, hx, Or.inl e⟩, hf fun k e => Or.inr ⟨x, hx, Or.inr e⟩⟩, h.qH, h.qS, h.qL, h.pw, h.sx⟩
end Go.Proofs.YtiennniclkbjlaaGreatDoor.Ts
/- Of the text that the law holds against: a trip hears of a text. -/
namespace Go.Proofs.YtiennniclkbjlaaGreatDoor.Ts
open Go.RowKit Go.Proofs.YtiennniclkbjlaaGreatDoor.EscM Go.Proofs.YtiennniclkbjlaaGreatDoor.AddrM Go.Proofs.YtiennniclkbjlaaGreatDoor.ReadM Go.Proofs.YtiennniclkbjlaaGreatDoor.Rd1 Go.Proofs.YtiennniclkbjlaaGreatDoor.Ad1 Go.Proofs.YtiennniclkbjlaaGreatDoor.RuleM Go.Proofs.YtiennniclkbjlaaGreatDoor.St Go.Proofs.YtiennniclkbjlaaGreatDoor.EscL Go.Proofs.YtiennniclkbjlaaGreatDoor.RR Go.Proofs.YtiennniclkbjlaaGreatDoor.LetM Go.Proofs.YtiennniclkbjlaaGreatDoor.GrM Go.Proofs.YtiennniclkbjlaaGreatDoor.RoIt Go.Proofs.YtiennniclkbjlaaGreatDoor.RoLk Go.Proofs.YtiennniclkbjlaaGreatDoor.RoQ Go.Proofs.YtiennniclkbjlaaGreatDoor.Mp Go.Proofs.YtiennniclkbjlaaGreatDoor.WdM Go.Proofs.YtiennniclkbjlaaGreatDoor.Wd Go.Proofs.YtiennniclkbjlaaGreatDoor.TpM Go.Proofs.YtiennniclkbjlaaGreatDoor.TrM Go.Proofs.YtiennniclkbjlaaGreatDoor.TrW Go.Proofs.YtiennniclkbjlaaGreatDoor.Tq Go.Proofs.YtiennniclkbjlaaGreatDoor.PgA Go.Proofs.YtiennniclkbjlaaGreatDoor.MkA Go.Proofs.YtiennniclkbjlaaGreatDoor.Im Go.Proofs.YtiennniclkbjlaaGreatDoor.Nm Go.Proofs.YtiennniclkbjlaaGreatDoor.Tn

theorem wrap_len {n : Nat} (h : n ≤ 1000) : wrap64 (n : Int) = (n : Int) := by unfold wrap64; omega
theorem step_append_qf {α : Type} {F : Frm α} {ops : Array Oper} {o : Oper} {ac : Act} {K : Act → World → Prop} {Q : Exit → Act → World → Prop} {E : Prop} {w : World} {base : Nat} {row : Option Nat} {v : Value} {L : List α} (hgd : o.guard = none) (s x : Operand) (ts te : TypeId)
    (ho : o.op = .call { callee := .builtin .append, args := #[s, x], argTypes := #[ts, ts] })
    (i0 : TypeInfo) (z : Value) (bytes : Nat) (hu : Tryz.prog.underlying ts = some (.slice te)) (hi : Tryz.prog.info? te = some i0) (hz0 : i0.zero = some z) (hz1 : i0.size = F.k) (hz2 : i0.bytes = bytes) (hzs : z.cells.size = F.k) (hbb : bytes ≤ 1000)
    {a : Option Addr} {c : Nat} {M : List α} (hv : ac.eval s = v) (h : IsQF F w base row v L) (hx : ac.eval x = .slice a M.length c) (hs : IsRows F w a c M) (hb : base ≤ w.heap.size) (hl : L.length + M.length ≤ 4194304)
    (hK : ∀ v' w' row', IsQF F w' base row' v' (L ++ M) → w.grownBy w' row → (row' = row ∨ ∃ g, row' = some g ∧ w.heap.size ≤ g) → K (ac.put o.dst v') w') : if Region.wanted o (yielded ops ac.tmps) = true then Oper.wp Tryz.prog o ac w K Q else E := by
  have hw : Region.wanted o (yielded ops ac.tmps) = true := by simp [Region.wanted, hgd]
  rw [if_pos hw]
  obtain ⟨v', w', row', hrun, r1, r2, r3⟩ := run_append_qf o.type ts te i0 z bytes hu hi hz0 hz1 hz2 hzs hbb h hs hb hl
  unfold Oper.wp
  simp [execOp, ho, resolve, invoke, builtin, hv, hx, hrun, Result.andThen]
  exact hK v' w' row' r1 r2 r3
/-- the trip that was given back, as it lies, and what else stays -/
def Heard (w : World) (B : Nat) (X : List Hx) (vH vS vL : Value) (t : Tm) (e : Ending) (w' : World) : Prop :=
  ∃ (T1 : Nat) (X' : List Hx) (aH aS aL : Option Addr) (nH nS nL cH cS cL : Nat), e = .returned (.agg #[.string t.name, .int .i64 t.now, .slice aH nH cH, .slice aS nS cS, .slice aL nL cL]) ∧ TrOwn w' B T1 0 X' (.slice aH nH cH) (.slice aS nS cS) (.slice aL nL cL) t ∧ w.heap.size ≤ T1 ∧
    Sep w w' (Ow w.heap.size X vH vS vL) (Ow T1 X' (.slice aH nH cH) (.slice aS nS cS) (.slice aL nL cL)) ∧ RdK w (Rd X) (Rd X')
/-- it is given back -/
theorem heard_out {w w3 : World} {B T1 P : Nat} {X X' : List Hx} {vH vS vL : Value} {aH aS aL : Option Addr} {nH nS nL cH cS cL : Nat} {t : Tm} (h : TrOwn w3 B T1 0 X' (.slice aH nH cH) (.slice aS nS cS) (.slice aL nL cL) t) (hT : w.heap.size = T1) (hs : Sep w w3 (Ow T1 X vH vS vL) (Ow T1 X' (.slice aH nH cH) (.slice aS nS cS) (.slice aL nL cL))) (hr : RdK w (Rd X) (Rd X')) (hP : w.heap.size ≤ P) (hb : Bs 29 w3 P #[.string ⟨#[]⟩, .int .i64 0, .slice none 0 0, .slice none 0 0, .slice none 0 0]) (ho : ¬ Ow T1 X' (.slice aH nH cH) (.slice aS nS cS) (.slice aL nL cL) P) (hrd : ¬ Rd X' P) {wf : World}
    (hf : (((((w3.setCell ⟨P, 0, none⟩ (.string t.name)).setCell ⟨P, 1, none⟩ (.int .i64 t.now)).setCell ⟨P, 2, none⟩ (.slice aH nH cH)).setCell ⟨P, 3, none⟩ (.slice aS nS cS)).setCell ⟨P, 4, none⟩ (.slice aL nL cL)) = wf) :
    Bs 29 wf P #[.string t.name, .int .i64 t.now, .slice aH nH cH, .slice aS nS cS, .slice aL nL cL] ∧ Heard w B X vH vS vL t (.returned (.agg #[.string t.name, .int .i64 t.now, .slice aH nH cH, .slice aS nS cS, .slice aL nL cL])) wf := by
  subst hf
  constructor
  · exact ((((hb.set 0 _).set 1 _).set 2 _).set 3 _).set 4 _
  · refine ⟨T1, X', aH, aS, aL, nH, nS, nL, cH, cS, cL, rfl, ((((h.apart (grown_one P 0 (.string t.name)) ho hrd).apart (grown_one P 1 (.int .i64 t.now)) ho hrd).apart (grown_one P 2 (.slice aH nH cH)) ho hrd).apart (grown_one P 3 (.slice aS nS cS)) ho hrd).apart (grown_one P 4 (.slice aL nL cL)) ho hrd, by omega, ?_, hr⟩
    rw [hT]
    exact ((((hs.far hP).far hP).far hP).far hP).far hP
set_option maxRecDepth 100000 in
set_option maxHeartbeats 6400000 in
theorem specHear_any (B T0 : Nat) (X : List Hx) (aH aS aL : Option Addr) (nH nS nL cH cS cL : Nat) (t : Tm) (x : ByteArray) (A0 : Ad) (w : World) (h : TrOwn w B T0 0 X (.slice aH nH cH) (.slice aS nS cS) (.slice aL nL cL) t) (hm : Small t) (hx : x.size ≤ 4194304) (hA : normA x = some A0) (hu : ∀ h ∈ t.hs, h.gp.2.1 = []) :
    Calls Tryz.prog 32 #[.agg #[.string t.name, .int .i64 t.now, .slice aH nH cH, .slice aS nS cS, .slice aL nL cL], .string x] w fun e w' => Heard w B X (.slice aH nH cH) (.slice aS nS cS) (.slice aL nL cL) (hearT t x) e w' := by
  obtain ⟨i0, hi, hz0, hz1, hz2⟩ := info_parts Tryz.infoS
  have HZ : Hid (Bs 29 ((w.alloc (.cells #[.string t.name, .int .i64 t.now, .slice aH nH cH, .slice aS nS cS, .slice aL nL cL] 29)).alloc (.cells #[.string ⟨#[]⟩, .int .i64 0, .slice none 0 0, .slice none 0 0, .slice none 0 0] 29)) (w.heap.size + 1) #[.string ⟨#[]⟩, .int .i64 0, .slice none 0 0, .slice none 0 0, .slice none 0 0]) := by
    have := Bs.new 29 (w.alloc (.cells #[.string t.name, .int .i64 t.now, .slice aH nH cH, .slice aS nS cS, .slice aL nL cL] 29)) #[.string ⟨#[]⟩, .int .i64 0, .slice none 0 0, .slice none 0 0, .slice none 0 0]
    rw [show (w.alloc (.cells #[.string t.name, .int .i64 t.now, .slice aH nH cH, .slice aS nS cS, .slice aL nL cL] 29)).heap.size = w.heap.size + 1 by simp] at this
    exact this
  have HT : Hid (TrOwn ((w.alloc (.cells #[.string t.name, .int .i64 t.now, .slice aH nH cH, .slice aS nS cS, .slice aL nL cL] 29)).alloc (.cells #[.string ⟨#[]⟩, .int .i64 0, .slice none 0 0, .slice none 0 0, .slice none 0 0] 29)) B w.heap.size 0 X (.slice aH nH cH) (.slice aS nS cS) (.slice aL nL cL) t) := (own_box h).alloc _
  have HB : Hid (Below w.heap.size w ((w.alloc (.cells #[.string t.name, .int .i64 t.now, .slice aH nH cH, .slice aS nS cS, .slice aL nL cL] 29)).alloc (.cells #[.string ⟨#[]⟩, .int .i64 0, .slice none 0 0, .slice none 0 0, .slice none 0 0] 29))) := ((Below.refl _ w).alloc (Nat.le_refl _) _).alloc (by simp) _
  obtain ⟨w1, hw1⟩ : ∃ w1, (w.alloc (.cells #[.string t.name, .int .i64 t.now, .slice aH nH cH, .slice aS nS cS, .slice aL nL cL] 29)).alloc (.cells #[.string ⟨#[]⟩, .int .i64 0, .slice none 0 0, .slice none 0 0, .slice none 0 0] 29) = w1 := ⟨_, rfl⟩
  have HW1 : Hid ((w.alloc (.cells #[.string t.name, .int .i64 t.now, .slice aH nH cH, .slice aS nS cS, .slice aL nL cL] 29)).alloc (.cells #[.string ⟨#[]⟩, .int .i64 0, .slice none 0 0, .slice none 0 0, .slice none 0 0] 29) = w1) := hw1
  rw [hw1] at HZ HT HB
  have HLT : Hid (∀ k, Ow w.heap.size X (.slice aH nH cH) (.slice aS nS cS) (.slice aL nL cL) k → k < w.heap.size + 1) := fun k hk => by
    have := (own_box h).lt k hk
    simpa using this
  have HPR : Hid (¬ Rd X (w.heap.size + 1)) := fun hk => by
    obtain ⟨y, hy, hk⟩ := hk
    have hq := h.each y hy
    rcases hk with hk | hk
    · have := hq.nlt _ hk
      omega
    · have := hq.rlt _ hk
      omega
  have HSM : Hid (Small t) := hm
  have HNA : Hid (normA x = some A0) := hA
  have HU : Hid (∀ h ∈ t.hs, h.gp.2.1 = []) := hu
  have hsl := hm.seen
  have hnS : nS = t.seen.length := by
    obtain ⟨a, c, e, _⟩ := HT.out.seen.strs
    injection e
  subst hnS
  obtain ⟨L, hL⟩ : ∃ L, X.map Hx.h = L := ⟨_, rfl⟩
  have HL : Hid (X.map Hx.h = L) := hL
  have hnH : nH = L.length := by
    obtain ⟨a, c, e, _⟩ := HT.out.houses.rows
    injection e with _ e2 _
    rw [e2, hL]
  subst hnH
  have HLL : Hid (L.length ≤ 1000) := by
    have e1 := HT.out.hX
    have e2 := hm.hs
    have e3 : L.length = t.hs.length := by rw [← e1, ← hL, List.length_map, List.length_map]
    show _ ≤ _
    omega
  clear h hm hA hu hw1 hL
  obtain ⟨T1, hT1⟩ : ∃ T1, w.heap.size = T1 := ⟨_, rfl⟩
  have HT1 : Hid (w.heap.size = T1) := hT1
  go_enter Tryz.func32, Tryz.ntmps32
  go_wp2
  rw [HW1.out]
  have HTE : Hid (w1.heap.size = w.heap.size + 2) := by show _ = _; rw [← HW1.out]; simp
  have HPO : Hid (¬ Ow T1 X (.slice aH L.length cH) (.slice aS t.seen.length cS) (.slice aL nL cL) (w.heap.size + 1)) := fun h => by
    rw [← hT1] at h
    exact Nat.lt_irrefl _ (HLT.out _ h)
  rw [hT1] at HT
  have HS0 : Hid (Sep w w1 (Ow T1 X (.slice aH L.length cH) (.slice aS t.seen.length cS) (.slice aL nL cL)) (Ow T1 X (.slice aH L.length cH) (.slice aS t.seen.length cS) (.slice aL nL cL))) := Sep.below HB.out
  obtain ⟨P, hP⟩ : ∃ P, w.heap.size + 1 = P := ⟨_, rfl⟩
  rw [hP] at HPO HPR HZ
  have HPE : Hid (w.heap.size + 1 = P) := hP
  have hwp : w.heap.size ≤ P := by omega
  rw [show T1 + 1 = P by omega]
  clear hP hT1
  go_loopw [5] (fun i wr => ∃ k : Nat, k ≤ t.seen.length ∧ i = .int .i64 (k : Int) ∧ wr = w1 ∧ Hid (∀ h ∈ t.seen.take k, h ≠ x)) (fun i _ => t.seen.length - (intOf i).toNat)
  case atStart => exact ⟨0, Nat.zero_le _, rfl, rfl, (fun h hh => by cases hh)⟩
  case round =>
    obtain ⟨k, hk, rfl, rfl, HN⟩ := hrel
    have c3 := HT.out.c3
    rw [Nat.zero_add] at c3
    by_cases hlt : k < t.seen.length
    · obtain ⟨q1, q2, q3, q4⟩ := HT.out.seen.strsOf
      obtain ⟨b, off, e1, hc⟩ := q4 (by intro e; rw [e] at hlt; exact absurd hlt (Nat.not_lt_zero _))
      have hck := hc k hlt
      have HNM : Hid ((t.seen[k].toList == x.toList) = decide (t.seen[k] = x)) := str_eq_iff _ _
      subst e1
      clear hc q1 q3 q4
      by_cases he : t.seen[k] = x
      · have HHB : Hid (hasB x t.seen = true) := ReM.has_mem.2 (he ▸ List.getElem_mem hlt)
        have HE : Hid (hearT t x = t) := hear1_had HHB.out
        have hq : (t.seen[k].toList == x.toList) = true := by rw [HNM.out]; exact decide_eq_true he
        have c0 := HT.out.c0
        have c1 := HT.out.c1
        have c2 := HT.out.c2
        have c4 := HT.out.c4
        rw [Nat.zero_add] at c1 c2 c4
        have z0 := HZ.out.cell 0 rfl
        have z1 := HZ.out.cell 1 rfl
        have z2 := HZ.out.cell 2 rfl
        have z3 := HZ.out.cell 3 rfl
        have z4 := HZ.out.cell 4 rfl
        have f0 := HZ.out.free 0
        have f1 := HZ.out.free 1
        have f2 := HZ.out.free 2
        have f3 := HZ.out.free 3
        have f4 := HZ.out.free 4
        clear he HNM
        generalize t.seen[k] = y at hck hq
        go_wp2_with fail
        rw [HE.out]
        obtain ⟨wf, hwf⟩ : ∃ wf, (((((wr.setCell ⟨P, 0, none⟩ (.string t.name)).setCell ⟨P, 1, none⟩ (.int .i64 t.now)).setCell ⟨P, 2, none⟩ (.slice aH L.length cH)).setCell ⟨P, 3, none⟩ (.slice (some ⟨b, off, none⟩) t.seen.length cS)).setCell ⟨P, 4, none⟩ (.slice aL nL cL)) = wf := ⟨_, rfl⟩
        rw [hwf]
        have hz := heard_out HT.out HT1.out HS0.out RdK.refl hwp HZ.out HPO.out HPR.out hwf
        have y0 := hz.1.cell 0 rfl
        have y1 := hz.1.cell 1 rfl
        have y2 := hz.1.cell 2 rfl
        have y3 := hz.1.cell 3 rfl
        have y4 := hz.1.cell 4 rfl
        refine bodyPost_ret (v := .agg #[.string t.name, .int .i64 t.now, .slice aH L.length cH, .slice (some ⟨b, off, none⟩) t.seen.length cS, .slice aL nL cL]) (by simp [results, Tryz.results32, go_sem, y0, y1, y2, y3, y4]) rfl ?_
        exact hz.2
      · have HN2 : Hid (∀ h ∈ t.seen.take (k + 1), h ≠ x) := fun h hh => by
          rw [List.take_succ_eq_append_getElem hlt] at hh
          rcases List.mem_append.1 hh with hh | hh
          · exact HN.out h hh
          · have e : h = t.seen[k] := by simpa using hh
            rw [e]; exact he
        have hq : (t.seen[k].toList == x.toList) = false := by rw [HNM.out]; exact decide_eq_false he
        clear he HNM
        generalize t.seen[k] = y at hck hq
        go_wp2_with fail
        go_roundw
        case rel => exact ⟨k + 1, by omega, by go_num, trivial, HN2⟩
        case measure => simp [intOf]; omega
    · have HNO : Hid (hasB x t.seen = false) := by
        have e1 : t.seen.take k = t.seen := List.take_of_length_le (by omega)
        have hn := HN.out
        rw [e1] at hn
        show _ = false
        cases hq : hasB x t.seen with
        | false => rfl
        | true => exact absurd rfl (hn x (ReM.has_mem.1 hq))
      have HRD : Hid _ := fun W => specRead_any x W hx
      have HF : Hid (readF x.data.toList = some A0) := (norm_some HNA.out).1
      clear HN
      go_wp2_with fail
      refine (HRD.out wr).mono ?_
      rintro e w2 ⟨A, ok, a1, c1, rfl, hans, hO2, hb2⟩
      have hAB : A = A0 ∧ ok = true := by
        rw [HF.out] at hans
        rcases hans with ⟨h1, h2⟩ | ⟨_, h2, _⟩
        · exact ⟨(Option.some.inj h2).symm, h1⟩
        · cases h2
      obtain ⟨rfl, rfl⟩ := hAB
      have HTx : Hid (TrOwn (w2.alloc (.cells #[.string A.house, .slice a1 A.parts.length c1, .bool A.asks, .string A.ask] 97)) B T1 0 X (.slice aH L.length cH) (.slice aS t.seen.length cS) (.slice aL nL cL) t) := (HT.out.below hb2).alloc _
      have HZx : Hid (Bs 29 (w2.alloc (.cells #[.string A.house, .slice a1 A.parts.length c1, .bool A.asks, .string A.ask] 97)) P #[.string ⟨#[]⟩, .int .i64 0, .slice none 0 0, .slice none 0 0, .slice none 0 0]) := (HZ.out.below hb2).alloc _
      have HSx : Hid (Sep w (w2.alloc (.cells #[.string A.house, .slice a1 A.parts.length c1, .bool A.asks, .string A.ask] 97)) (Ow T1 X (.slice aH L.length cH) (.slice aS t.seen.length cS) (.slice aL nL cL)) (Ow T1 X (.slice aH L.length cH) (.slice aS t.seen.length cS) (.slice aL nL cL))) := HS0.out.trans (Sep.below (hb2.alloc hb2.size _))
      have HGx : Hid (Bs 97 (w2.alloc (.cells #[.string A.house, .slice a1 A.parts.length c1, .bool A.asks, .string A.ask] 97)) w2.heap.size #[.string A.house, .slice a1 A.parts.length c1, .bool A.asks, .string A.ask]) := Bs.new _ _ _
      have HGO : Hid (¬ Ow T1 X (.slice aH L.length cH) (.slice aS t.seen.length cS) (.slice aL nL cL) w2.heap.size) := fun h => by
        have := (HT.out.below hb2).lt _ h
        omega
      obtain ⟨w3, hw3⟩ : ∃ w3, w2.alloc (.cells #[.string A.house, .slice a1 A.parts.length c1, .bool A.asks, .string A.ask] 97) = w3 := ⟨_, rfl⟩
      obtain ⟨G, hG⟩ : ∃ G, w2.heap.size = G := ⟨_, rfl⟩
      rw [hw3] at HTx HZx HSx HGx
      rw [hG] at HGx HGO
      clear hans hO2 hb2 HRD hk hlt
      have c3' := HTx.out.c3
      rw [Nat.zero_add] at c3'
      by_cases h60 : 60 ≤ t.seen.length
      · have HE : Hid (hearT t x = t) := hear1_full h60
        clear c3
        have c0 := HTx.out.c0
        have c1' := HTx.out.c1
        have c2' := HTx.out.c2
        have c4' := HTx.out.c4
        rw [Nat.zero_add] at c1' c2' c4'
        have z0 := HZx.out.cell 0 rfl
        have z1 := HZx.out.cell 1 rfl
        have z2 := HZx.out.cell 2 rfl
        have z3 := HZx.out.cell 3 rfl
        have z4 := HZx.out.cell 4 rfl
        have f0 := HZx.out.free 0
        have f1 := HZx.out.free 1
        have f2 := HZx.out.free 2
        have f3 := HZx.out.free 3
        have f4 := HZx.out.free 4
        go_wp2_with fail
        rw [HE.out]
        obtain ⟨wf, hwf⟩ : ∃ wf, (((((w3.setCell ⟨P, 0, none⟩ (.string t.name)).setCell ⟨P, 1, none⟩ (.int .i64 t.now)).setCell ⟨P, 2, none⟩ (.slice aH L.length cH)).setCell ⟨P, 3, none⟩ (.slice aS t.seen.length cS)).setCell ⟨P, 4, none⟩ (.slice aL nL cL)) = wf := ⟨_, rfl⟩
        rw [hwf]
        have hz := heard_out HTx.out HT1.out HSx.out RdK.refl hwp HZx.out HPO.out HPR.out hwf
        have y0 := hz.1.cell 0 rfl
        have y1 := hz.1.cell 1 rfl
        have y2 := hz.1.cell 2 rfl
        have y3 := hz.1.cell 3 rfl
        have y4 := hz.1.cell 4 rfl
        refine bodyPost_ret (v := .agg #[.string t.name, .int .i64 t.now, .slice aH L.length cH, .slice aS t.seen.length cS, .slice aL nL cL]) (by simp [results, Tryz.results32, go_sem, y0, y1, y2, y3, y4]) rfl ?_
        exact hz.2
      · have HFU : Hid (t.seen.length < 60) := by show _ < _; omega
        have hdc : decide ((60 : Int) ≤ (t.seen.length : Int)) = false := decide_eq_false (by omega)
        have HTa : Hid (TrOwn (w3.alloc (.cells #[.string x] 9)) B T1 0 X (.slice aH L.length cH) (.slice aS t.seen.length cS) (.slice aL nL cL) t) := HTx.out.alloc _
        have HZa : Hid (Bs 29 (w3.alloc (.cells #[.string x] 9)) P #[.string ⟨#[]⟩, .int .i64 0, .slice none 0 0, .slice none 0 0, .slice none 0 0]) := HZx.out.alloc _
        have HGa : Hid (Bs 97 (w3.alloc (.cells #[.string x] 9)) G #[.string A.house, .slice a1 A.parts.length c1, .bool A.asks, .string A.ask]) := HGx.out.alloc _
        have HSa : Hid (Sep w (w3.alloc (.cells #[.string x] 9)) (Ow T1 X (.slice aH L.length cH) (.slice aS t.seen.length cS) (.slice aL nL cL)) (Ow T1 X (.slice aH L.length cH) (.slice aS t.seen.length cS) (.slice aL nL cL))) := HSx.out.trans (Sep.below ((Below.refl _ w3).alloc (Nat.le_refl _) _))
        clear c3
        go_wp2_with (at_builtin; refine wpList_append_lies _ rfl _ _ 23 rfl B 9 i0 (.string ⟨#[]⟩) 1 16 Tryz.underlying23 hi hz0 hz1 hz2 rfl (by decide) _ _ _ rfl HTa.out.seen ⟨w3.heap.size, 0, none⟩ 1 1 [.string x] rfl rfl (cell_one_new _ _ _) ?c2 (by omega) ?c3 ?c4 ?c5 (w3.heap.size + 1) ?c6 ?_)
        case c2 => first | rfl | (intro u hu; simp at hu; subst hu; rfl)
        case c3 => unfold maxLen; omega
        case c4 => omega
        case c5 => exact HTa.out.hB
        case c6 => simp
        intro g cg w4 hown hg0 hat _
        have hOn := Owns.append (X := t.seen) (p := x) hown
        have hn4 : (Value.slice (some ⟨g, 0, none⟩) (t.seen.length + 1) cg).ownBlock = (Value.slice aS t.seen.length cS).ownBlock ∨ ∃ g', (Value.slice (some ⟨g, 0, none⟩) (t.seen.length + 1) cg).ownBlock = some g' ∧ (w3.alloc (.cells #[.string x] 9)).heap.size ≤ g' := by
          rcases hat with h | h
          · exact Or.inl h.symm
          · exact Or.inr ⟨g, rfl, by rw [h]; simp⟩
        have HT5 : Hid (TrOwn (w4.setCell ⟨T1, 3, none⟩ (.slice (some ⟨g, 0, none⟩) (t.seen.length + 1) cg)) B T1 0 X (.slice aH L.length cH) (.slice (some ⟨g, 0, none⟩) (t.seen.length + 1) cg) (.slice aL nL cL) { t with seen := t.seen ++ [x] }) := by
          have := HTa.out.hear hg0 hOn hn4
          rw [Nat.zero_add] at this; exact this
        have hs5 : Sep (w3.alloc (.cells #[.string x] 9)) (w4.setCell ⟨T1, 3, none⟩ (.slice (some ⟨g, 0, none⟩) (t.seen.length + 1) cg)) (Ow T1 X (.slice aH L.length cH) (.slice aS t.seen.length cS) (.slice aL nL cL)) (Ow T1 X (.slice aH L.length cH) (.slice (some ⟨g, 0, none⟩) (t.seen.length + 1) cg) (.slice aL nL cL)) := by
          have := sep_hear (T0 := T1) (o := 0) (X := X) (vH := .slice aH L.length cH) (vL := .slice aL nL cL) (v := .slice (some ⟨g, 0, none⟩) (t.seen.length + 1) cg) hg0 hn4
          rw [Nat.zero_add] at this; exact this
        have HS5 : Hid (Sep w (w4.setCell ⟨T1, 3, none⟩ (.slice (some ⟨g, 0, none⟩) (t.seen.length + 1) cg)) (Ow T1 X (.slice aH L.length cH) (.slice aS t.seen.length cS) (.slice aL nL cL)) (Ow T1 X (.slice aH L.length cH) (.slice (some ⟨g, 0, none⟩) (t.seen.length + 1) cg) (.slice aL nL cL))) := HSa.out.trans hs5
        have q3 : w4.cell? ⟨T1, 3, none⟩ = some (.slice aS t.seen.length cS) := by
          have := cell_ap HTa.out.c3 hg0 HTa.out.a2
          rw [Nat.zero_add] at this; exact this
        have f3 : w4.frozen? ⟨T1, 3, none⟩ = false := by
          have := fr_ap HTa.out.fr HTa.out.T_lt hg0 HTa.out.a2 3 (by decide)
          rw [Nat.zero_add] at this; exact this
        have hg5 := hs5.keep G HGa.out.lt HGO.out
        have hp5 := hs5.keep P HZa.out.lt HPO.out
        have HG5 : Hid (Bs 97 (w4.setCell ⟨T1, 3, none⟩ (.slice (some ⟨g, 0, none⟩) (t.seen.length + 1) cg)) G #[.string A.house, .slice a1 A.parts.length c1, .bool A.asks, .string A.ask]) := hg5.2.trans HGa.out
        have HZ5 : Hid (Bs 29 (w4.setCell ⟨T1, 3, none⟩ (.slice (some ⟨g, 0, none⟩) (t.seen.length + 1) cg)) P #[.string ⟨#[]⟩, .int .i64 0, .slice none 0 0, .slice none 0 0, .slice none 0 0]) := hp5.2.trans HZa.out
        have HGO5 : Hid (¬ Ow T1 X (.slice aH L.length cH) (.slice (some ⟨g, 0, none⟩) (t.seen.length + 1) cg) (.slice aL nL cL) G) := hg5.1
        have HPO5 : Hid (¬ Ow T1 X (.slice aH L.length cH) (.slice (some ⟨g, 0, none⟩) (t.seen.length + 1) cg) (.slice aL nL cL) P) := hp5.1
        have c0 := HT5.out.c0
        have c1' := HT5.out.c1
        have c2' := HT5.out.c2
        have c3 := HT5.out.c3
        have c4' := HT5.out.c4
        rw [Nat.zero_add] at c1' c2' c3 c4'
        have y0 := HG5.out.cell 0 rfl
        clear c3' hown hg0 hat hOn hn4 hs5 hg5 hp5
        obtain ⟨w5, hw5⟩ : ∃ w5, w4.setCell ⟨T1, 3, none⟩ (.slice (some ⟨g, 0, none⟩) (t.seen.length + 1) cg) = w5 := ⟨_, rfl⟩
        rw [hw5] at HT5 HS5 HG5 HZ5 c0 c1' c2' c3 c4' y0
        go_wp2_with fail
        refine (house_any t.name t.now aH (some ⟨g, 0, none⟩) aL cH (t.seen.length + 1) cg nL cL L A.house w5 (by have := HT5.out.houses.rowsOf; rw [HL.out] at this; exact this) (Nat.le_trans HLL.out (by decide))).mono ?_
        rintro e w6 ⟨⟨z, rfl, hz⟩, hb6⟩
        have HT6 : Hid (TrOwn w6 B T1 0 X (.slice aH L.length cH) (.slice (some ⟨g, 0, none⟩) (t.seen.length + 1) cg) (.slice aL nL cL) { t with seen := t.seen ++ [x] }) := HT5.out.below hb6
        have HG6 : Hid (Bs 97 w6 G #[.string A.house, .slice a1 A.parts.length c1, .bool A.asks, .string A.ask]) := HG5.out.below hb6
        have HZ6 : Hid (Bs 29 w6 P #[.string ⟨#[]⟩, .int .i64 0, .slice none 0 0, .slice none 0 0, .slice none 0 0]) := HZ5.out.below hb6
        have HS6 : Hid (Sep w w6 (Ow T1 X (.slice aH L.length cH) (.slice aS t.seen.length cS) (.slice aL nL cL)) (Ow T1 X (.slice aH L.length cH) (.slice (some ⟨g, 0, none⟩) (t.seen.length + 1) cg) (.slice aL nL cL))) := HS5.out.trans (Sep.below hb6)
        have hw6w : w.heap.size ≤ w6.heap.size := HS6.out.size
        clear hb6 c0 c1' c2' c3 c4' y0 q3 f3 HT5 HG5 HZ5 HS5 HTx HZx HGx HSx HTa HZa HGa HSa
        rcases hz with ⟨rfl, hno⟩ | ⟨i, hil, rfl, hkn, hkb⟩
        · -- it is new
          have HNW : Hid (∀ h ∈ L, h.name ≠ A.house) := hno
          clear hno
          obtain ⟨i9, hi9, hy0, hy1, hy2⟩ := info_house
          obtain ⟨nx, hnx⟩ : ∃ nx : Hs, nx = ⟨A.house, 0, false, ⟨[t.name], some ⟨w6.heap.size, 0, none⟩, 1, [], some ⟨w6.heap.size + 1, 0, none⟩, 0, 0⟩, 0, [], none, 0⟩ := ⟨_, rfl⟩
          have c0 := HT6.out.c0
          have c2 := HT6.out.c2
          rw [Nat.zero_add] at c2
          have y0 := HG6.out.cell 0 rfl
          have hsz3 : (((w6.alloc (.cells #[.string t.name] 9)).alloc (.cells #[] 135)).alloc (.cells #[.string A.house, .int .i64 0, .bool false, .slice (some ⟨w6.heap.size, 0, none⟩) 1 1, .slice (some ⟨w6.heap.size + 1, 0, none⟩) 0 0, .int .i64 0, .int .i64 0, .slice none 0 0] 38)).heap.size = w6.heap.size + 3 := by simp
          have hsz2 : ((w6.alloc (.cells #[.string t.name] 9)).alloc (.cells #[] 135)).heap.size = w6.heap.size + 2 := by simp
          have HB8 : Hid (Below w6.heap.size w6 (((w6.alloc (.cells #[.string t.name] 9)).alloc (.cells #[] 135)).alloc (.cells #[.string A.house, .int .i64 0, .bool false, .slice (some ⟨w6.heap.size, 0, none⟩) 1 1, .slice (some ⟨w6.heap.size + 1, 0, none⟩) 0 0, .int .i64 0, .int .i64 0, .slice none 0 0] 38))) := (((Below.refl _ w6).alloc (Nat.le_refl _) _).alloc (by simp) _).alloc (by simp; omega) _
          have HT7 : Hid (TrOwn (((w6.alloc (.cells #[.string t.name] 9)).alloc (.cells #[] 135)).alloc (.cells #[.string A.house, .int .i64 0, .bool false, .slice (some ⟨w6.heap.size, 0, none⟩) 1 1, .slice (some ⟨w6.heap.size + 1, 0, none⟩) 0 0, .int .i64 0, .int .i64 0, .slice none 0 0] 38)) B T1 0 X (.slice aH L.length cH) (.slice (some ⟨g, 0, none⟩) (t.seen.length + 1) cg) (.slice aL nL cL) { t with seen := t.seen ++ [x] }) := HT6.out.below HB8.out
          have HOW : Hid ((((w6.alloc (.cells #[.string t.name] 9)).alloc (.cells #[] 135)).alloc (.cells #[.string A.house, .int .i64 0, .bool false, .slice (some ⟨w6.heap.size, 0, none⟩) 1 1, .slice (some ⟨w6.heap.size + 1, 0, none⟩) 0 0, .int .i64 0, .int .i64 0, .slice none 0 0] 38)).ownsRow B 38 8 (.slice aH L.length cH) L.length (FHs.cells L)) := by
            have := HT7.out.houses
            unfold OwnsR at this
            rw [HL.out] at this; exact this
          have hbk : (((w6.alloc (.cells #[.string t.name] 9)).alloc (.cells #[] 135)).alloc (.cells #[.string A.house, .int .i64 0, .bool false, .slice (some ⟨w6.heap.size, 0, none⟩) 1 1, .slice (some ⟨w6.heap.size + 1, 0, none⟩) 0 0, .int .i64 0, .int .i64 0, .slice none 0 0] 38)).heap[w6.heap.size + 1 + 1]? = some (.cells #[.string A.house, .int .i64 0, .bool false, .slice (some ⟨w6.heap.size, 0, none⟩) 1 1, .slice (some ⟨w6.heap.size + 1, 0, none⟩) 0 0, .int .i64 0, .int .i64 0, .slice none 0 0] 38 (0, 0)) := by
            have := heap_alloc_new ((w6.alloc (.cells #[.string t.name] 9)).alloc (.cells #[] 135)) (.cells #[.string A.house, .int .i64 0, .bool false, .slice (some ⟨w6.heap.size, 0, none⟩) 1 1, .slice (some ⟨w6.heap.size + 1, 0, none⟩) 0 0, .int .i64 0, .int .i64 0, .slice none 0 0] 38)
            rw [hsz2] at this
            exact this
          have HNC : Hid (∀ j u, [Value.string A.house, .int .i64 0, .bool false, .slice (some ⟨w6.heap.size, 0, none⟩) 1 1, .slice (some ⟨w6.heap.size + 1, 0, none⟩) 0 0, .int .i64 0, .int .i64 0, .slice none 0 0][j]? = some u → (((w6.alloc (.cells #[.string t.name] 9)).alloc (.cells #[] 135)).alloc (.cells #[.string A.house, .int .i64 0, .bool false, .slice (some ⟨w6.heap.size, 0, none⟩) 1 1, .slice (some ⟨w6.heap.size + 1, 0, none⟩) 0 0, .int .i64 0, .int .i64 0, .slice none 0 0] 38)).cell? ((⟨w6.heap.size + 1 + 1, 0, none⟩ : Addr).add j) = some u) := fun j u hu => by
            rw [add_mk, Nat.zero_add, cell_of_row _ _ j _ _ (0, 0) hbk]
            simpa using hu
          have HXN : Hid (HxAt (((w6.alloc (.cells #[.string t.name] 9)).alloc (.cells #[] 135)).alloc (.cells #[.string A.house, .int .i64 0, .bool false, .slice (some ⟨w6.heap.size, 0, none⟩) 1 1, .slice (some ⟨w6.heap.size + 1, 0, none⟩) 0 0, .int .i64 0, .int .i64 0, .slice none 0 0] 38)) B (⟨nx, none⟩ : Hx)) := by
            have hc1 : (w6.alloc (.cells #[.string t.name] 9)).cell? ⟨w6.heap.size, 0, none⟩ = some (.string t.name) := by
              have := cell_one_new w6 (.string t.name) 9 0 _ rfl
              rw [add_mk] at this; exact this
            have hb13 : Below (w6.alloc (.cells #[.string t.name] 9)).heap.size (w6.alloc (.cells #[.string t.name] 9)) (((w6.alloc (.cells #[.string t.name] 9)).alloc (.cells #[] 135)).alloc (.cells #[.string A.house, .int .i64 0, .bool false, .slice (some ⟨w6.heap.size, 0, none⟩) 1 1, .slice (some ⟨w6.heap.size + 1, 0, none⟩) 0 0, .int .i64 0, .int .i64 0, .slice none 0 0] 38)) := ((Below.refl _ (w6.alloc (.cells #[.string t.name] 9))).alloc (Nat.le_refl _) _).alloc (by simp) _
            have hc3 := (hb13.cell (St.cell_block hc1)).trans hc1
            rw [hnx]
            refine ⟨⟨Nat.le_refl _, (show 1 ≤ maxLen by decide), (fun e => by cases e), fun _ => ⟨_, 0, rfl, fun i hi => ?_⟩⟩, ⟨Nat.le_refl _, (show 0 ≤ maxLen by decide), (fun e => by cases e), fun e => absurd rfl e⟩, IsQF.nil _ _ _, fun k hk => ?_, fun k hk => ?_⟩
            · have e : i = 0 := by simpa using hi
              subst e; exact hc3
            · have e : w6.heap.size = k := Option.some.inj hk
              omega
            · have e : w6.heap.size + 1 = k := Option.some.inj hk
              omega
          have HXA : Hid (∀ b, (b = some T1 ∨ b = (Value.slice aH L.length cH).ownBlock ∨ b = (Value.slice (some ⟨g, 0, none⟩) (t.seen.length + 1) cg).ownBlock ∨ b = (Value.slice aL nL cL).ownBlock ∨ ∃ y ∈ X, b = y.row) → Ap b (blk (⟨nx, none⟩ : Hx).h.gr.na) ∧ Ap b (blk (⟨nx, none⟩ : Hx).h.gr.ra)) := by
            intro b hb
            have hlt : ∀ k, b = some k → k < w6.heap.size := fun k hk => by
              rcases hb with rfl | rfl | rfl | rfl | ⟨y, hy, rfl⟩
              · have := HT6.out.T_lt
                have e := Option.some.inj hk
                omega
              · exact row_lt HT6.out.houses k hk
              · exact row_lt HT6.out.seen k hk
              · exact row_lt HT6.out.looks k hk
              · exact ((HT6.out.each y hy).todo.lt k hk).2
            rw [hnx]
            exact ⟨Ap.symm (ap_fresh hlt (Nat.le_refl _)), Ap.symm (ap_fresh hlt (Nat.le_succ _))⟩
          clear hbk hsz2
          go_wp2_with (at_builtin; refine wpList_append_lies _ rfl _ _ 26 rfl B 38 i9 (.agg #[.string ⟨#[]⟩, .int .i64 0, .bool false, .slice none 0 0, .slice none 0 0, .int .i64 0, .int .i64 0, .slice none 0 0]) 8 120 Tryz.underlying26 hi9 hy0 hy1 hy2 rfl (by decide) _ L.length (FHs.cells L) rfl HOW.out ⟨w6.heap.size + 1 + 1, 0, none⟩ 1 1 [.string A.house, .int .i64 0, .bool false, .slice (some ⟨w6.heap.size, 0, none⟩) 1 1, .slice (some ⟨w6.heap.size + 1, 0, none⟩) 0 0, .int .i64 0, .int .i64 0, .slice none 0 0] rfl rfl HNC.out ?c2 (by omega) ?c3 ?c4 ?c5 (w6.heap.size + 3) ?c6 ?_)
          case c2 => intro u hu; simp only [List.mem_cons, List.not_mem_nil, or_false] at hu; rcases hu with rfl | rfl | rfl | rfl | rfl | rfl | rfl | rfl <;> rfl
          case c3 => have := HLL.out; unfold maxLen; omega
          case c4 => have := HLL.out; omega
          case c5 => exact HT7.out.hB
          case c6 => simp
          intro g2 cg2 w8 hown hg0 hat _
          have hO9 : OwnsR FHs 38 w8 B (.slice (some ⟨g2, 0, none⟩) (L.length + 1) cg2) ((X ++ [(⟨nx, none⟩ : Hx)]).map Hx.h) := by
            rw [List.map_append, HL.out, hnx]
            exact OwnsR.append (F := FHs) (x := ⟨A.house, 0, false, ⟨[t.name], some ⟨w6.heap.size, 0, none⟩, 1, [], some ⟨w6.heap.size + 1, 0, none⟩, 0, 0⟩, 0, [], none, 0⟩) hown
          have hn9 : (Value.slice (some ⟨g2, 0, none⟩) (L.length + 1) cg2).ownBlock = (Value.slice aH L.length cH).ownBlock ∨ ∃ g', (Value.slice (some ⟨g2, 0, none⟩) (L.length + 1) cg2).ownBlock = some g' ∧ (((w6.alloc (.cells #[.string t.name] 9)).alloc (.cells #[] 135)).alloc (.cells #[.string A.house, .int .i64 0, .bool false, .slice (some ⟨w6.heap.size, 0, none⟩) 1 1, .slice (some ⟨w6.heap.size + 1, 0, none⟩) 0 0, .int .i64 0, .int .i64 0, .slice none 0 0] 38)).heap.size ≤ g' := by
            rcases hat with h | h
            · exact Or.inl h.symm
            · exact Or.inr ⟨g2, rfl, by rw [h, hsz3]; exact Nat.le_refl _⟩
          have hT9 := HT7.out.house hg0 hO9 hn9 HXN.out rfl HXA.out
          rw [Nat.zero_add] at hT9
          have hs9 := sep_house (T0 := T1) (o := 0) (X := X) (x := (⟨nx, none⟩ : Hx)) (vS := .slice (some ⟨g, 0, none⟩) (t.seen.length + 1) cg) (vL := .slice aL nL cL) (v := .slice (some ⟨g2, 0, none⟩) (L.length + 1) cg2) hg0 hn9 rfl
          rw [Nat.zero_add] at hs9
          have q2 : w8.cell? ⟨T1, 2, none⟩ = some (.slice aH L.length cH) := by
            have := cell_ap HT7.out.c2 hg0 HT7.out.a1
            rw [Nat.zero_add] at this; exact this
          have f2 : w8.frozen? ⟨T1, 2, none⟩ = false := by
            have := fr_ap HT7.out.fr HT7.out.T_lt hg0 HT7.out.a1 2 (by decide)
            rw [Nat.zero_add] at this; exact this
          obtain ⟨w9, hw9⟩ : ∃ w9, w8.setCell ⟨T1, 2, none⟩ (.slice (some ⟨g2, 0, none⟩) (L.length + 1) cg2) = w9 := ⟨_, rfl⟩
          rw [hw9] at hT9 hs9
          obtain ⟨X9, hX9⟩ : ∃ X9, X ++ [(⟨nx, none⟩ : Hx)] = X9 := ⟨_, rfl⟩
          have hnew : hmX (⟨nx, none⟩ : Hx) = newH t.name A.house := by rw [hnx]; rfl
          have hXl : X.length = L.length := by rw [← HL.out, List.length_map]
          have hi' : L.length < X9.length := by rw [← hX9, List.length_append, hXl]; exact Nat.lt_succ_self _
          have hX9i : X9[L.length] = (⟨nx, none⟩ : Hx) := by
            subst hX9
            simp [← hXl]
          have hrd9 : RdK w6 (Rd X) (Rd X9) := by
            rw [← hX9]
            exact rd_house (g := w6.heap.size) (fun k hk => by rw [hnx] at hk; have e : w6.heap.size = k := Option.some.inj hk; omega) (fun k hk => by rw [hnx] at hk; have e : w6.heap.size + 1 = k := Option.some.inj hk; omega) (Nat.le_refl _)
          rw [hX9] at hT9 hs9
          have hX9l : X9.length = L.length + 1 := by rw [← hX9, List.length_append, hXl]; rfl
          have hZ8 : Bs 29 (((w6.alloc (.cells #[.string t.name] 9)).alloc (.cells #[] 135)).alloc (.cells #[.string A.house, .int .i64 0, .bool false, .slice (some ⟨w6.heap.size, 0, none⟩) 1 1, .slice (some ⟨w6.heap.size + 1, 0, none⟩) 0 0, .int .i64 0, .int .i64 0, .slice none 0 0] 38)) P #[.string ⟨#[]⟩, .int .i64 0, .slice none 0 0, .slice none 0 0, .slice none 0 0] := HZ6.out.below HB8.out
          have hk9 := hs9.keep P hZ8.lt HPO5.out
          have HT9 : Hid (TrOwn w9 B T1 0 X9 (.slice (some ⟨g2, 0, none⟩) (L.length + 1) cg2) (.slice (some ⟨g, 0, none⟩) (t.seen.length + 1) cg) (.slice aL nL cL) { t with seen := t.seen ++ [x], hs := X9.map hmX }) := by
            have e := hT9.hX
            rw [e]; exact hT9
          have HS9 : Hid (Sep w w9 (Ow T1 X (.slice aH L.length cH) (.slice aS t.seen.length cS) (.slice aL nL cL)) (Ow T1 X9 (.slice (some ⟨g2, 0, none⟩) (L.length + 1) cg2) (.slice (some ⟨g, 0, none⟩) (t.seen.length + 1) cg) (.slice aL nL cL))) := (HS6.out.trans (Sep.below HB8.out)).trans hs9
          have HRD9 : Hid (RdK w (Rd X) (Rd X9)) := RdK.trans RdK.refl hrd9 hw6w
          have HZ9 : Hid (Bs 29 w9 P #[.string ⟨#[]⟩, .int .i64 0, .slice none 0 0, .slice none 0 0, .slice none 0 0]) := hk9.2.trans hZ8
          have HPO9 : Hid (¬ Ow T1 X9 (.slice (some ⟨g2, 0, none⟩) (L.length + 1) cg2) (.slice (some ⟨g, 0, none⟩) (t.seen.length + 1) cg) (.slice aL nL cL) P) := hk9.1
          have HPR9 : Hid (¬ Rd X9 P) := hrd9 P HZ6.out.lt HPR.out
          have HE : Hid (hearT t x = { t with seen := t.seen ++ [x], hs := (X9.map hmX).set L.length { hmX X9[L.length] with todo := X9[L.length].h.todo ++ [(⟨x, 0⟩ : It)] } }) := by
            have e5 : X.map hmX = t.hs := HT6.out.hX
            have e1 := hear1_yes HNA.out HFU.out HNO.out
            have e2 := putAt_new (nm := t.name) (x := x) (A := A) (hs := t.hs) (fun y hy => by
              rw [← e5] at hy
              obtain ⟨z, hz, rfl⟩ := List.mem_map.1 hy
              exact HNW.out z.h (by rw [← HL.out]; exact List.mem_map_of_mem hz))
            have e3 : t.hs.length = L.length := by rw [← e5, List.length_map, hXl]
            have e4 : X9.map hmX = t.hs ++ [newH t.name A.house] := by rw [← hX9, List.map_append, e5, ← hnew]; rfl
            have e6 : addIt A x (newH t.name A.house) = { newH t.name A.house with todo := (newH t.name A.house).todo ++ [⟨x, 0⟩] } := add_free rfl
            rw [e2, e3, e6] at e1
            show _ = _
            rw [e1, e4, hX9i, hnew]
            rw [show (⟨nx, none⟩ : Hx).h.todo = (newH t.name A.house).todo by rw [hnx]; rfl]
          have HTS : Hid (X9[L.length].h.todo.length ≤ 1000) := by show _ ≤ _; rw [hX9i, hnx]; exact Nat.zero_le _
          have c2' : w9.cell? ⟨T1, 2, none⟩ = some (.slice (some ⟨g2, 0, none⟩) (L.length + 1) cg2) := by have := HT9.out.c2; rw [Nat.zero_add] at this; exact this
          have HVH : Hid (Value.slice (some ⟨g2, 0, none⟩) (L.length + 1) cg2 = .slice (some ⟨g2, 0, none⟩) X9.length cg2) := by show _ = _; rw [hX9l]
          have hwr : wrap64 (L.length : Int) = (L.length : Int) := wrap_len HLL.out
          have hb1 : (0 : Int) ≤ (L.length : Int) := Int.natCast_nonneg _
          have hb2 : (L.length : Int) < (L.length : Int) + 1 := Int.lt_succ _
          have HI' : Hid (L.length < X9.length) := hi'
          clear hXl hX9l hw6w hT9 hs9 hZ8 hk9 hrd9 hn9 hO9 hown hg0 hat hX9i hX9 hnew hnx c0 c2 y0 hsz3
          go_wp2_with fail
          have HTd : Hid (TrOwn w9.drew B T1 0 X9 (.slice (some ⟨g2, 0, none⟩) (L.length + 1) cg2) (.slice (some ⟨g, 0, none⟩) (t.seen.length + 1) cg) (.slice aL nL cL) { t with seen := t.seen ++ [x], hs := X9.map hmX }) := HT9.out.below ((Below.refl _ w9).drew)
          have HTa : Hid (TrOwn (w9.drew.alloc (.cells #[.string x, .int .i64 0] 103)) B T1 0 X9 (.slice (some ⟨g2, 0, none⟩) (L.length + 1) cg2) (.slice (some ⟨g, 0, none⟩) (t.seen.length + 1) cg) (.slice aL nL cL) { t with seen := t.seen ++ [x], hs := X9.map hmX }) := HTd.out.alloc _
          have HBa : Hid (Below w9.heap.size w9 (w9.drew.alloc (.cells #[.string x, .int .i64 0] 103))) := ((Below.refl _ w9).drew).alloc (Nat.le_refl _) _
          have HNa : Hid (IsRows FIt (w9.drew.alloc (.cells #[.string x, .int .i64 0] 103)) (some ⟨w9.heap.size, 0, none⟩) 1 [(⟨x, 0⟩ : It)]) := by
            refine ⟨Nat.le_refl _, (show 1 ≤ maxLen by decide), (fun e => by cases e), fun _ => ⟨_, 0, rfl, fun j u hu => ?_⟩⟩
            have hn : (w9.drew.alloc (.cells #[.string x, .int .i64 0] 103)).heap[w9.heap.size]? = some (.cells #[.string x, .int .i64 0] 103 (0, 0)) := heap_alloc_new w9.drew (.cells #[.string x, .int .i64 0] 103)
            rw [cell_of_row _ _ (0 + j) _ _ (0, 0) hn, Nat.zero_add]
            have hu' : [Value.string x, Value.int .i64 0][j]? = some u := hu
            simpa using hu'
          have HSZ : Hid ((X9[L.length]'HI'.out).h.todo.length ≤ 1000) := HTS
          obtain ⟨i1, hi1, hw0, hw1', hw2'⟩ := info_item
          have HQa := (HTa.out.each _ (List.getElem_mem HI'.out)).todo
          have d2 : w9.drew.cell? ⟨T1, 2, none⟩ = some (.slice (some ⟨g2, 0, none⟩) (L.length + 1) cg2) := by have := HTd.out.c2; rw [Nat.zero_add] at this; exact this
          have a2 : (w9.drew.alloc (.cells #[.string x, .int .i64 0] 103)).cell? ⟨T1, 2, none⟩ = some (.slice (some ⟨g2, 0, none⟩) (L.length + 1) cg2) := by have := HTa.out.c2; rw [Nat.zero_add] at this; exact this
          have HD2 : Hid (w9.drew.cell? ⟨T1, 2, none⟩ = some (.slice (some ⟨g2, 0, none⟩) (L.length + 1) cg2)) := d2
          have HA2 : Hid ((w9.drew.alloc (.cells #[.string x, .int .i64 0] 103)).cell? ⟨T1, 2, none⟩ = some (.slice (some ⟨g2, 0, none⟩) (L.length + 1) cg2)) := a2
          clear d2 a2
          refine wp_region_held_drew (S := (fun w' => w'.cell? ⟨T1, 2, none⟩ = some (.slice (some ⟨g2, 0, none⟩) (L.length + 1) cg2))) (by kernel_rfl) HD2.out (fun hHeld => ?_)
          refine wpAnyH_take (i := 0) (oi := ({ dst := some 67, op := Go.Op.fieldAddr 29 (Go.Operand.tmp 2) 2, type := 0, pos := "l12_trip.go:32", after := #[], guard := none } : Oper)) (v := ?_) rfl (by kernel_rfl) (by kernel_rfl) (by kernel_rfl) (fun _ _ _ h => h) (Or.inl ⟨by rfl, ?_⟩) hHeld ?_
          rotate_left
          · (intro w hSw; (try dsimp only at hSw); go_simp; try with_reducible rfl)
          try simp only [Act.put, List.setIfInBounds_toArray, List.set_cons_zero, List.set_cons_succ]
          refine wpAnyH_take (i := 1) (oi := ({ dst := some 68, op := Go.Op.load 26 (Go.Operand.tmp 67), type := 26, pos := "l12_trip.go:32", after := #[{ on := 0, ground := Go.Ground.data }], guard := none } : Oper)) (v := ?_) rfl (by kernel_rfl) (by kernel_rfl) (by kernel_rfl) (fun _ _ _ h => h) (Or.inl ⟨by rfl, ?_⟩) hHeld ?_
          rotate_left
          · (intro w hSw; (try dsimp only at hSw); go_simp; try with_reducible rfl)
          try simp only [Act.put, List.setIfInBounds_toArray, List.set_cons_zero, List.set_cons_succ]
          refine wpAnyH_take (i := 2) (oi := ({ dst := some 69, op := Go.Op.move (Go.Operand.tmp 8), type := 3, pos := "l12_trip.go:32", after := #[], guard := none } : Oper)) (v := ?_) rfl (by kernel_rfl) (by kernel_rfl) (by kernel_rfl) (fun _ _ _ h => h) (Or.inl ⟨by rfl, ?_⟩) hHeld ?_
          rotate_left
          · (intro w hSw; (try dsimp only at hSw); go_simp; try with_reducible rfl)
          try simp only [Act.put, List.setIfInBounds_toArray, List.set_cons_zero, List.set_cons_succ]
          refine wpAnyH_take (i := 3) (oi := ({ dst := some 70, op := Go.Op.fieldAddr 29 (Go.Operand.tmp 2) 2, type := 0, pos := "l12_trip.go:32", after := #[], guard := none } : Oper)) (v := ?_) rfl (by kernel_rfl) (by kernel_rfl) (by kernel_rfl) (fun _ _ _ h => h) (Or.inl ⟨by rfl, ?_⟩) hHeld ?_
          rotate_left
          · (intro w hSw; (try dsimp only at hSw); go_simp; try with_reducible rfl)
          try simp only [Act.put, List.setIfInBounds_toArray, List.set_cons_zero, List.set_cons_succ]
          refine wpAnyH_take (i := 4) (oi := ({ dst := some 71, op := Go.Op.load 26 (Go.Operand.tmp 70), type := 26, pos := "l12_trip.go:32", after := #[{ on := 3, ground := Go.Ground.data }], guard := none } : Oper)) (v := ?_) rfl (by kernel_rfl) (by kernel_rfl) (by kernel_rfl) (fun _ _ _ h => h) (Or.inl ⟨by rfl, ?_⟩) hHeld ?_
          rotate_left
          · (intro w hSw; (try dsimp only at hSw); go_simp; try with_reducible rfl)
          try simp only [Act.put, List.setIfInBounds_toArray, List.set_cons_zero, List.set_cons_succ]
          refine wpAnyH_take (i := 5) (oi := ({ dst := some 72, op := Go.Op.move (Go.Operand.tmp 8), type := 3, pos := "l12_trip.go:32", after := #[], guard := none } : Oper)) (v := ?_) rfl (by kernel_rfl) (by kernel_rfl) (by kernel_rfl) (fun _ _ _ h => h) (Or.inl ⟨by rfl, ?_⟩) hHeld ?_
          rotate_left
          · (intro w hSw; (try dsimp only at hSw); go_simp; try with_reducible rfl)
          try simp only [Act.put, List.setIfInBounds_toArray, List.set_cons_zero, List.set_cons_succ]
          refine wpAnyH_take (i := 6) (oi := ({ dst := some 73, op := Go.Op.indexAddr 26 (Go.Operand.tmp 71) (Go.Operand.tmp 72), type := 0, pos := "l12_trip.go:32", after := #[{ on := 4, ground := Go.Ground.data }, { on := 5, ground := Go.Ground.data }], guard := none } : Oper)) (v := ?_) rfl (by kernel_rfl) (by kernel_rfl) (by kernel_rfl) (fun _ _ _ h => h) (Or.inl ⟨by rfl, ?_⟩) hHeld ?_
          rotate_left
          · (intro w hSw; (try dsimp only at hSw); go_simp; try with_reducible rfl)
          try simp only [Act.put, List.setIfInBounds_toArray, List.set_cons_zero, List.set_cons_succ]
          refine wpAnyH_take (i := 7) (oi := ({ dst := some 74, op := Go.Op.fieldAddr 38 (Go.Operand.tmp 73) 5, type := 0, pos := "l12_trip.go:32", after := #[{ on := 6, ground := Go.Ground.data }], guard := none } : Oper)) (v := ?_) rfl (by kernel_rfl) (by kernel_rfl) (by kernel_rfl) (fun _ _ _ h => h) (Or.inl ⟨by rfl, ?_⟩) hHeld ?_
          rotate_left
          · (intro w hSw; (try dsimp only at hSw); go_simp; try with_reducible rfl)
          try simp only [Act.put, List.setIfInBounds_toArray, List.set_cons_zero, List.set_cons_succ]
          refine wpAnyH_take (i := 9) (oi := ({ dst := some 76, op := Go.Op.move (Go.Operand.tmp 1), type := 9, pos := "l12_trip.go:32", after := #[], guard := none } : Oper)) (v := ?_) rfl (by kernel_rfl) (by kernel_rfl) (by kernel_rfl) (fun _ _ _ h => h) (Or.inl ⟨by rfl, ?_⟩) hHeld ?_
          rotate_left
          · (intro w hSw; (try dsimp only at hSw); go_simp; try with_reducible rfl)
          try simp only [Act.put, List.setIfInBounds_toArray, List.set_cons_zero, List.set_cons_succ]
          refine wpAnyH_take (i := 10) (oi := ({ dst := some 77, op := Go.Op.build 103 #[(0, Go.Operand.tmp 76)], type := 103, pos := "l12_trip.go:32", after := #[{ on := 9, ground := Go.Ground.data }], guard := none } : Oper)) (v := ?_) rfl (by kernel_rfl) (by kernel_rfl) (by kernel_rfl) (fun _ _ _ h => h) (Or.inl ⟨by rfl, ?_⟩) hHeld ?_
          rotate_left
          · (intro w hSw; (try dsimp only at hSw); go_simp; try with_reducible rfl)
          try simp only [Act.put, List.setIfInBounds_toArray, List.set_cons_zero, List.set_cons_succ]
          refine (fun (REST : ?G1) => ?path1) ?rest1
          rotate_right
          case path1 =>
            refine wpAnyH_ready (rs := [8, 11]) (by kernel_rfl) (by simp) ?_
            refine AllReadyH.cons rfl (fun K hK => ?_) (AllReadyH.cons rfl (fun K hK => ?_) AllReadyH.nil)
            · have k7 : w9.cell? ⟨g2, L.length * 8 + 7, none⟩ = some (.slice (X9[L.length]'HI'.out).h.ta (X9[L.length]'HI'.out).h.todo.length (X9[L.length]'HI'.out).h.tc) := HTd.out.cell HVH.out HI'.out (j := 7) rfl (by decide)
              go_simp
              refine hK.out _ _ HD2.out (fun hHeld => ?_)
              clear hK K k7
              refine wpAnyH_ready (rs := [11]) (by kernel_rfl) (by simp) ?_
              refine AllReadyH.cons rfl (fun K hK => ?_) AllReadyH.nil
              go_simp
              refine hK.out _ _ HA2.out (fun hHeld => ?_)
              clear hK K
              exact REST
            · go_simp
              refine hK.out _ _ HA2.out (fun hHeld => ?_)
              clear hK K
              refine wpAnyH_ready (rs := [8]) (by kernel_rfl) (by simp) ?_
              refine AllReadyH.cons rfl (fun K hK => ?_) AllReadyH.nil
              have k7 : (w9.alloc (.cells #[.string x, .int .i64 0] 103)).cell? ⟨g2, L.length * 8 + 7, none⟩ = some (.slice (X9[L.length]'HI'.out).h.ta (X9[L.length]'HI'.out).h.todo.length (X9[L.length]'HI'.out).h.tc) := HTa.out.cell HVH.out HI'.out (j := 7) rfl (by decide)
              go_simp
              refine hK.out _ _ HA2.out (fun hHeld => ?_)
              clear hK K k7
              exact REST
          case rest1 =>
            refine wpAnyH_ready (rs := [12]) (by kernel_rfl) (by simp) ?_
            refine AllReadyH.cons rfl (fun K hK => ?_) AllReadyH.nil
            refine step_append_qf rfl _ _ 36 103 rfl i1 (.agg #[.string ⟨#[]⟩, .int .i64 0]) 24 Tryz.underlying36 hi1 hw0 hw1' hw2' rfl (by decide) rfl HQa rfl HNa.out HTa.out.hB (by have := HSZ.out; simp only [List.length_singleton]; omega) ?_
            intro v9 w10 row9 hq9 hg9 hn9
            obtain ⟨a9, c9, hv9⟩ := hq9.form
            subst hv9
            have hT9 := HTa.out.todo HVH.out HI'.out hg9 hq9 hn9
            have hs9 : Sep (w9.drew.alloc (.cells #[.string x, .int .i64 0] 103)) (w10.setCell ⟨g2, L.length * 8 + 7, none⟩ (.slice a9 ((X9[L.length]'HI'.out).h.todo ++ [(⟨x, 0⟩ : It)]).length c9)) (Ow T1 X9 (.slice (some ⟨g2, 0, none⟩) (L.length + 1) cg2) (.slice (some ⟨g, 0, none⟩) (t.seen.length + 1) cg) (.slice aL nL cL)) (Ow T1 (X9.set L.length ⟨{ (X9[L.length]'HI'.out).h with todo := ((X9[L.length]'HI'.out).h.todo ++ [(⟨x, 0⟩ : It)]), ta := a9, tc := c9 }, row9⟩) (.slice (some ⟨g2, 0, none⟩) (L.length + 1) cg2) (.slice (some ⟨g, 0, none⟩) (t.seen.length + 1) cg) (.slice aL nL cL)) := sep_row HI'.out rfl hg9 hn9
            have k8 := HTa.out.cell HVH.out HI'.out (j := 7) rfl (by decide)
            have haq : Ap (some g2) (X9[L.length]'HI'.out).row := (HTa.out.qH _ (List.getElem_mem HI'.out)).1
            have q7 := cell_ap k8 hg9 haq
            have f7 : w10.frozen? ⟨g2, L.length * 8 + 7, none⟩ = false := by
              rw [World.frozen?_of_block (w := (w9.drew.alloc (.cells #[.string x, .int .i64 0] 103))) (hg9.block g2 (St.cell_block k8) (fun e => haq g2 rfl e.symm))]
              exact HTa.out.free HVH.out _
            have q2 : w10.cell? ⟨T1, 2, none⟩ = some (.slice (some ⟨g2, 0, none⟩) (L.length + 1) cg2) := cell_ap HA2.out hg9 (HTa.out.qT _ (List.getElem_mem HI'.out)).1
            obtain ⟨nn, hnn⟩ : ∃ nn, ((X9[L.length]'HI'.out).h.todo ++ [(⟨x, 0⟩ : It)]).length = nn := ⟨_, rfl⟩
            rw [hnn] at hT9 hs9 ⊢
            obtain ⟨w11, hw11⟩ : ∃ w11, w10.setCell ⟨g2, L.length * 8 + 7, none⟩ (.slice a9 nn c9) = w11 := ⟨_, rfl⟩
            have HTF : Hid (TrOwn w11 B T1 0 (X9.set L.length ⟨{ (X9[L.length]'HI'.out).h with todo := ((X9[L.length]'HI'.out).h.todo ++ [(⟨x, 0⟩ : It)]), ta := a9, tc := c9 }, row9⟩) (.slice (some ⟨g2, 0, none⟩) (L.length + 1) cg2) (.slice (some ⟨g, 0, none⟩) (t.seen.length + 1) cg) (.slice aL nL cL) (hearT t x)) := by
              rw [HE.out, ← hw11]
              exact hT9
            rw [hw11] at hs9
            have HSF : Hid (Sep w w11 (Ow T1 X (.slice aH L.length cH) (.slice aS t.seen.length cS) (.slice aL nL cL)) (Ow T1 (X9.set L.length ⟨{ (X9[L.length]'HI'.out).h with todo := ((X9[L.length]'HI'.out).h.todo ++ [(⟨x, 0⟩ : It)]), ta := a9, tc := c9 }, row9⟩) (.slice (some ⟨g2, 0, none⟩) (L.length + 1) cg2) (.slice (some ⟨g, 0, none⟩) (t.seen.length + 1) cg) (.slice aL nL cL))) := (HS9.out.trans (Sep.below HBa.out)).trans hs9
            have HRF : Hid (RdK w (Rd X) (Rd (X9.set L.length ⟨{ (X9[L.length]'HI'.out).h with todo := ((X9[L.length]'HI'.out).h.todo ++ [(⟨x, 0⟩ : It)]), ta := a9, tc := c9 }, row9⟩))) := RdK.trans HRD9.out (rd_set (w := w) HI'.out rfl rfl) (Nat.le_refl _)
            have hZa : Bs 29 (w9.drew.alloc (.cells #[.string x, .int .i64 0] 103)) P #[.string ⟨#[]⟩, .int .i64 0, .slice none 0 0, .slice none 0 0, .slice none 0 0] := HZ9.out.below HBa.out
            have hkp := hs9.keep P hZa.lt HPO9.out
            have HZF : Hid (Bs 29 w11 P #[.string ⟨#[]⟩, .int .i64 0, .slice none 0 0, .slice none 0 0, .slice none 0 0]) := hkp.2.trans hZa
            have HPOF : Hid (¬ Ow T1 (X9.set L.length ⟨{ (X9[L.length]'HI'.out).h with todo := ((X9[L.length]'HI'.out).h.todo ++ [(⟨x, 0⟩ : It)]), ta := a9, tc := c9 }, row9⟩) (.slice (some ⟨g2, 0, none⟩) (L.length + 1) cg2) (.slice (some ⟨g, 0, none⟩) (t.seen.length + 1) cg) (.slice aL nL cL) P) := hkp.1
            have HPRF : Hid (¬ Rd (X9.set L.length ⟨{ (X9[L.length]'HI'.out).h with todo := ((X9[L.length]'HI'.out).h.todo ++ [(⟨x, 0⟩ : It)]), ta := a9, tc := c9 }, row9⟩) P) := (rd_set (w := (w9.drew.alloc (.cells #[.string x, .int .i64 0] 103))) HI'.out (x' := ⟨{ (X9[L.length]'HI'.out).h with todo := ((X9[L.length]'HI'.out).h.todo ++ [(⟨x, 0⟩ : It)]), ta := a9, tc := c9 }, row9⟩) rfl rfl) P hZa.lt HPR9.out
            have qt2 : w11.cell? ⟨T1, 2, none⟩ = some (.slice (some ⟨g2, 0, none⟩) (L.length + 1) cg2) := by
              rw [← hw11]
              exact cell_ap q2 (grown_one g2 (L.length * 8 + 7) _) HTa.out.a1
            clear k8 hT9 hs9 hg9 hq9 hn9 hZa hkp haq
            refine hK.out _ _ q2 (fun hHeld => ?_)
            clear hK K
            refine wpAnyH_take (i := 13) (oi := ({ dst := some 80, op := Go.Op.indexAddr 26 (Go.Operand.tmp 68) (Go.Operand.tmp 69), type := 0, pos := "l12_trip.go:32", after := #[{ on := 1, ground := Go.Ground.data }, { on := 2, ground := Go.Ground.data }, { on := 0, ground := Go.Ground.phase }, { on := 1, ground := Go.Ground.phase }, { on := 2, ground := Go.Ground.phase }, { on := 3, ground := Go.Ground.phase }, { on := 4, ground := Go.Ground.phase }, { on := 5, ground := Go.Ground.phase }, { on := 6, ground := Go.Ground.phase }, { on := 7, ground := Go.Ground.phase }, { on := 8, ground := Go.Ground.phase }, { on := 9, ground := Go.Ground.phase }, { on := 10, ground := Go.Ground.phase }, { on := 11, ground := Go.Ground.phase }, { on := 12, ground := Go.Ground.phase }], guard := none } : Oper)) (v := ?_) rfl (by kernel_rfl) (by kernel_rfl) (by kernel_rfl) (fun _ _ _ h => h) (Or.inl ⟨by rfl, ?_⟩) hHeld ?_
            rotate_left
            · (intro w hSw; (try dsimp only at hSw); go_simp; try with_reducible rfl)
            simp only [Act.put, List.setIfInBounds_toArray]
            refine wpAnyH_take (i := 14) (oi := ({ dst := some 81, op := Go.Op.fieldAddr 38 (Go.Operand.tmp 80) 5, type := 0, pos := "l12_trip.go:32", after := #[{ on := 13, ground := Go.Ground.data }, { on := 0, ground := Go.Ground.phase }, { on := 1, ground := Go.Ground.phase }, { on := 2, ground := Go.Ground.phase }, { on := 3, ground := Go.Ground.phase }, { on := 4, ground := Go.Ground.phase }, { on := 5, ground := Go.Ground.phase }, { on := 6, ground := Go.Ground.phase }, { on := 7, ground := Go.Ground.phase }, { on := 8, ground := Go.Ground.phase }, { on := 9, ground := Go.Ground.phase }, { on := 10, ground := Go.Ground.phase }, { on := 11, ground := Go.Ground.phase }, { on := 12, ground := Go.Ground.phase }], guard := none } : Oper)) (v := ?_) rfl (by kernel_rfl) (by kernel_rfl) (by kernel_rfl) (fun _ _ _ h => h) (Or.inl ⟨by rfl, ?_⟩) hHeld ?_
            rotate_left
            · (intro w hSw; (try dsimp only at hSw); go_simp; try with_reducible rfl)
            simp only [Act.put]
            refine wpAnyH_ready (rs := [15]) (by kernel_rfl) (by simp) ?_
            refine AllReadyH.cons rfl (fun K hK => ?_) AllReadyH.nil
            go_simp
            try rw [hw11]
            refine hK.out _ _ qt2 (fun hHeld => ?_)
            clear hK K hHeld qt2 q2 q7 f7
            refine wpAnyH_done (by kernel_rfl) ?_ _
            have c0 := HTF.out.c0
            have c1' := HTF.out.c1
            have c2' := HTF.out.c2
            have c3 := HTF.out.c3
            have c4' := HTF.out.c4
            rw [Nat.zero_add] at c1' c2' c3 c4'
            have z0 := HZF.out.cell 0 rfl
            have f0 := HZF.out.free 0
            have z1 := HZF.out.cell 1 rfl
            have f1 := HZF.out.free 1
            have z2 := HZF.out.cell 2 rfl
            have f2 := HZF.out.free 2
            have z3 := HZF.out.cell 3 rfl
            have f3 := HZF.out.free 3
            have z4 := HZF.out.cell 4 rfl
            have f4 := HZF.out.free 4
            go_wp2_with fail
            obtain ⟨wf, hwf⟩ : ∃ wf, (((((w11.setCell ⟨P, 0, none⟩ (.string (hearT t x).name)).setCell ⟨P, 1, none⟩ (.int .i64 (hearT t x).now)).setCell ⟨P, 2, none⟩ (.slice (some ⟨g2, 0, none⟩) (L.length + 1) cg2)).setCell ⟨P, 3, none⟩ (.slice (some ⟨g, 0, none⟩) (t.seen.length + 1) cg)).setCell ⟨P, 4, none⟩ (.slice aL nL cL)) = wf := ⟨_, rfl⟩
            rw [hwf]
            have hz := heard_out HTF.out HT1.out HSF.out HRF.out hwp HZF.out HPOF.out HPRF.out hwf
            have y0 := hz.1.cell 0 rfl
            have y1 := hz.1.cell 1 rfl
            have y2 := hz.1.cell 2 rfl
            have y3 := hz.1.cell 3 rfl
            have y4 := hz.1.cell 4 rfl
            refine bodyPost_ret (v := .agg #[.string (hearT t x).name, .int .i64 (hearT t x).now, (.slice (some ⟨g2, 0, none⟩) (L.length + 1) cg2), (.slice (some ⟨g, 0, none⟩) (t.seen.length + 1) cg), (.slice aL nL cL)]) (by simp [results, Tryz.results32, go_sem, y0, y1, y2, y3, y4]) rfl ?_
            exact hz.2
        · have HKN : Hid (L[i].name = A.house) := hkn
          have HKB : Hid (∀ h ∈ L.take i, h.name ≠ A.house) := hkb
          have hXl : X.length = L.length := by rw [← HL.out, List.length_map]
          have hi' : i < X.length := by omega
          obtain ⟨GH, c, hv, _, _, _, _⟩ := HT6.out.at_house (by omega)
          injection hv with e1 e2 e3
          subst e1 e3
          clear e2
          clear hkn hkb
          have e5 : X.map hmX = t.hs := HT6.out.hX
          have HT9 : Hid (TrOwn w6 B T1 0 X (.slice (some ⟨GH, 0, none⟩) L.length cH) (.slice (some ⟨g, 0, none⟩) (t.seen.length + 1) cg) (.slice aL nL cL) { t with seen := t.seen ++ [x], hs := X.map hmX }) := by
            rw [e5]; exact HT6.out
          have HS9 : Hid (Sep w w6 (Ow T1 X (.slice (some ⟨GH, 0, none⟩) L.length cH) (.slice aS t.seen.length cS) (.slice aL nL cL)) (Ow T1 X (.slice (some ⟨GH, 0, none⟩) L.length cH) (.slice (some ⟨g, 0, none⟩) (t.seen.length + 1) cg) (.slice aL nL cL))) := HS6.out
          have HRD9 : Hid (RdK w (Rd X) (Rd X)) := RdK.refl
          have HZ9 : Hid (Bs 29 w6 P #[.string ⟨#[]⟩, .int .i64 0, .slice none 0 0, .slice none 0 0, .slice none 0 0]) := HZ6.out
          have HPO9 : Hid (¬ Ow T1 X (.slice (some ⟨GH, 0, none⟩) L.length cH) (.slice (some ⟨g, 0, none⟩) (t.seen.length + 1) cg) (.slice aL nL cL) P) := HPO5.out
          have HPR9 : Hid (¬ Rd X P) := HPR.out
          have HE : Hid (hearT t x = { t with seen := t.seen ++ [x], hs := (X.map hmX).set i { hmX X[i] with todo := X[i].h.todo ++ [(⟨x, 0⟩ : It)] } }) := by
            have e1 := hear1_yes HNA.out HFU.out HNO.out
            have hl2 : i < (X.map hmX).length := by rw [List.length_map]; exact hi'
            have eL : ∀ (j : Nat) (hj : j < X.length) (hj2 : j < L.length), X[j].h = L[j] := fun j hj hj2 => by
              have e2 : L[j]? = some X[j].h := by rw [← HL.out, List.getElem?_map, List.getElem?_eq_getElem hj]; rfl
              rw [List.getElem?_eq_getElem hj2] at e2
              exact (Option.some.inj e2).symm
            have e2 := putAt_old (nm := t.name) (x := x) (A := A) hl2 (by rw [List.getElem_map]; show X[i].h.name = _; rw [eL i hi' hil]; exact HKN.out) (fun y hy => by
              rw [← List.map_take] at hy
              obtain ⟨z, hz, rfl⟩ := List.mem_map.1 hy
              exact HKB.out z.h (by rw [← HL.out, ← List.map_take]; exact List.mem_map_of_mem hz))
            have hu1 := HU.out (hmX X[i]) (by rw [← e5]; exact List.mem_map_of_mem (List.getElem_mem hi'))
            rw [List.getElem_map, add_free hu1] at e2
            rw [← e5, e2] at e1
            exact e1
          have HTS : Hid (X[i].h.todo.length ≤ 1000) := (HSM.out.rules (hmX X[i]) (by rw [← e5]; exact List.mem_map_of_mem (List.getElem_mem hi'))).2.2
          have HVH : Hid (Value.slice (some ⟨GH, 0, none⟩) L.length cH = .slice (some ⟨GH, 0, none⟩) X.length cH) := by show _ = _; rw [hXl]
          have HI' : Hid (i < X.length) := hi'
          have hb1 : (0 : Int) ≤ (i : Int) := Int.natCast_nonneg _
          have hb2 : (i : Int) < (L.length : Int) := Int.ofNat_lt.2 hil
          clear e5 hXl hw6w
          have c2' : w6.cell? ⟨T1, 2, none⟩ = some (.slice (some ⟨GH, 0, none⟩) L.length cH) := by have := HT9.out.c2; rw [Nat.zero_add] at this; exact this
          go_wp2_with fail
          have HTd : Hid (TrOwn w6.drew B T1 0 X (.slice (some ⟨GH, 0, none⟩) L.length cH) (.slice (some ⟨g, 0, none⟩) (t.seen.length + 1) cg) (.slice aL nL cL) { t with seen := t.seen ++ [x], hs := X.map hmX }) := HT9.out.below ((Below.refl _ w6).drew)
          have HTa : Hid (TrOwn (w6.drew.alloc (.cells #[.string x, .int .i64 0] 103)) B T1 0 X (.slice (some ⟨GH, 0, none⟩) L.length cH) (.slice (some ⟨g, 0, none⟩) (t.seen.length + 1) cg) (.slice aL nL cL) { t with seen := t.seen ++ [x], hs := X.map hmX }) := HTd.out.alloc _
          have HBa : Hid (Below w6.heap.size w6 (w6.drew.alloc (.cells #[.string x, .int .i64 0] 103))) := ((Below.refl _ w6).drew).alloc (Nat.le_refl _) _
          have HNa : Hid (IsRows FIt (w6.drew.alloc (.cells #[.string x, .int .i64 0] 103)) (some ⟨w6.heap.size, 0, none⟩) 1 [(⟨x, 0⟩ : It)]) := by
            refine ⟨Nat.le_refl _, (show 1 ≤ maxLen by decide), (fun e => by cases e), fun _ => ⟨_, 0, rfl, fun j u hu => ?_⟩⟩
            have hn : (w6.drew.alloc (.cells #[.string x, .int .i64 0] 103)).heap[w6.heap.size]? = some (.cells #[.string x, .int .i64 0] 103 (0, 0)) := heap_alloc_new w6.drew (.cells #[.string x, .int .i64 0] 103)
            rw [cell_of_row _ _ (0 + j) _ _ (0, 0) hn, Nat.zero_add]
            have hu' : [Value.string x, Value.int .i64 0][j]? = some u := hu
            simpa using hu'
          have HSZ : Hid ((X[i]'HI'.out).h.todo.length ≤ 1000) := HTS
          obtain ⟨i1, hi1, hw0, hw1', hw2'⟩ := info_item
          have HQa := (HTa.out.each _ (List.getElem_mem HI'.out)).todo
          have d2 : w6.drew.cell? ⟨T1, 2, none⟩ = some (.slice (some ⟨GH, 0, none⟩) L.length cH) := by have := HTd.out.c2; rw [Nat.zero_add] at this; exact this
          have a2 : (w6.drew.alloc (.cells #[.string x, .int .i64 0] 103)).cell? ⟨T1, 2, none⟩ = some (.slice (some ⟨GH, 0, none⟩) L.length cH) := by have := HTa.out.c2; rw [Nat.zero_add] at this; exact this
          have HD2 : Hid (w6.drew.cell? ⟨T1, 2, none⟩ = some (.slice (some ⟨GH, 0, none⟩) L.length cH)) := d2
          have HA2 : Hid ((w6.drew.alloc (.cells #[.string x, .int .i64 0] 103)).cell? ⟨T1, 2, none⟩ = some (.slice (some ⟨GH, 0, none⟩) L.length cH)) := a2
          clear d2 a2
          refine wp_region_held_drew (S := (fun w' => w'.cell? ⟨T1, 2, none⟩ = some (.slice (some ⟨GH, 0, none⟩) L.length cH))) (by kernel_rfl) HD2.out (fun hHeld => ?_)
          refine wpAnyH_take (i := 0) (oi := ({ dst := some 67, op := Go.Op.fieldAddr 29 (Go.Operand.tmp 2) 2, type := 0, pos := "l12_trip.go:32", after := #[], guard := none } : Oper)) (v := ?_) rfl (by kernel_rfl) (by kernel_rfl) (by kernel_rfl) (fun _ _ _ h => h) (Or.inl ⟨by rfl, ?_⟩) hHeld ?_
          rotate_left
          · (intro w hSw; (try dsimp only at hSw); go_simp; try with_reducible rfl)
          try simp only [Act.put, List.setIfInBounds_toArray, List.set_cons_zero, List.set_cons_succ]
          refine wpAnyH_take (i := 1) (oi := ({ dst := some 68, op := Go.Op.load 26 (Go.Operand.tmp 67), type := 26, pos := "l12_trip.go:32", after := #[{ on := 0, ground := Go.Ground.data }], guard := none } : Oper)) (v := ?_) rfl (by kernel_rfl) (by kernel_rfl) (by kernel_rfl) (fun _ _ _ h => h) (Or.inl ⟨by rfl, ?_⟩) hHeld ?_
          rotate_left
          · (intro w hSw; (try dsimp only at hSw); go_simp; try with_reducible rfl)
          try simp only [Act.put, List.setIfInBounds_toArray, List.set_cons_zero, List.set_cons_succ]
          refine wpAnyH_take (i := 2) (oi := ({ dst := some 69, op := Go.Op.move (Go.Operand.tmp 8), type := 3, pos := "l12_trip.go:32", after := #[], guard := none } : Oper)) (v := ?_) rfl (by kernel_rfl) (by kernel_rfl) (by kernel_rfl) (fun _ _ _ h => h) (Or.inl ⟨by rfl, ?_⟩) hHeld ?_
          rotate_left
          · (intro w hSw; (try dsimp only at hSw); go_simp; try with_reducible rfl)
          try simp only [Act.put, List.setIfInBounds_toArray, List.set_cons_zero, List.set_cons_succ]
          refine wpAnyH_take (i := 3) (oi := ({ dst := some 70, op := Go.Op.fieldAddr 29 (Go.Operand.tmp 2) 2, type := 0, pos := "l12_trip.go:32", after := #[], guard := none } : Oper)) (v := ?_) rfl (by kernel_rfl) (by kernel_rfl) (by kernel_rfl) (fun _ _ _ h => h) (Or.inl ⟨by rfl, ?_⟩) hHeld ?_
          rotate_left
          · (intro w hSw; (try dsimp only at hSw); go_simp; try with_reducible rfl)
          try simp only [Act.put, List.setIfInBounds_toArray, List.set_cons_zero, List.set_cons_succ]
          refine wpAnyH_take (i := 4) (oi := ({ dst := some 71, op := Go.Op.load 26 (Go.Operand.tmp 70), type := 26, pos := "l12_trip.go:32", after := #[{ on := 3, ground := Go.Ground.data }], guard := none } : Oper)) (v := ?_) rfl (by kernel_rfl) (by kernel_rfl) (by kernel_rfl) (fun _ _ _ h => h) (Or.inl ⟨by rfl, ?_⟩) hHeld ?_
          rotate_left
          · (intro w hSw; (try dsimp only at hSw); go_simp; try with_reducible rfl)
          try simp only [Act.put, List.setIfInBounds_toArray, List.set_cons_zero, List.set_cons_succ]
          refine wpAnyH_take (i := 5) (oi := ({ dst := some 72, op := Go.Op.move (Go.Operand.tmp 8), type := 3, pos := "l12_trip.go:32", after := #[], guard := none } : Oper)) (v := ?_) rfl (by kernel_rfl) (by kernel_rfl) (by kernel_rfl) (fun _ _ _ h => h) (Or.inl ⟨by rfl, ?_⟩) hHeld ?_
          rotate_left
          · (intro w hSw; (try dsimp only at hSw); go_simp; try with_reducible rfl)
          try simp only [Act.put, List.setIfInBounds_toArray, List.set_cons_zero, List.set_cons_succ]
          refine wpAnyH_take (i := 6) (oi := ({ dst := some 73, op := Go.Op.indexAddr 26 (Go.Operand.tmp 71) (Go.Operand.tmp 72), type := 0, pos := "l12_trip.go:32", after := #[{ on := 4, ground := Go.Ground.data }, { on := 5, ground := Go.Ground.data }], guard := none } : Oper)) (v := ?_) rfl (by kernel_rfl) (by kernel_rfl) (by kernel_rfl) (fun _ _ _ h => h) (Or.inl ⟨by rfl, ?_⟩) hHeld ?_
          rotate_left
          · (intro w hSw; (try dsimp only at hSw); go_simp; try with_reducible rfl)
          try simp only [Act.put, List.setIfInBounds_toArray, List.set_cons_zero, List.set_cons_succ]
          refine wpAnyH_take (i := 7) (oi := ({ dst := some 74, op := Go.Op.fieldAddr 38 (Go.Operand.tmp 73) 5, type := 0, pos := "l12_trip.go:32", after := #[{ on := 6, ground := Go.Ground.data }], guard := none } : Oper)) (v := ?_) rfl (by kernel_rfl) (by kernel_rfl) (by kernel_rfl) (fun _ _ _ h => h) (Or.inl ⟨by rfl, ?_⟩) hHeld ?_
          rotate_left
          · (intro w hSw; (try dsimp only at hSw); go_simp; try with_reducible rfl)
          try simp only [Act.put, List.setIfInBounds_toArray, List.set_cons_zero, List.set_cons_succ]
          refine wpAnyH_take (i := 9) (oi := ({ dst := some 76, op := Go.Op.move (Go.Operand.tmp 1), type := 9, pos := "l12_trip.go:32", after := #[], guard := none } : Oper)) (v := ?_) rfl (by kernel_rfl) (by kernel_rfl) (by kernel_rfl) (fun _ _ _ h => h) (Or.inl ⟨by rfl, ?_⟩) hHeld ?_
          rotate_left
          · (intro w hSw; (try dsimp only at hSw); go_simp; try with_reducible rfl)
          try simp only [Act.put, List.setIfInBounds_toArray, List.set_cons_zero, List.set_cons_succ]
          refine wpAnyH_take (i := 10) (oi := ({ dst := some 77, op := Go.Op.build 103 #[(0, Go.Operand.tmp 76)], type := 103, pos := "l12_trip.go:32", after := #[{ on := 9, ground := Go.Ground.data }], guard := none } : Oper)) (v := ?_) rfl (by kernel_rfl) (by kernel_rfl) (by kernel_rfl) (fun _ _ _ h => h) (Or.inl ⟨by rfl, ?_⟩) hHeld ?_
          rotate_left
          · (intro w hSw; (try dsimp only at hSw); go_simp; try with_reducible rfl)
          try simp only [Act.put, List.setIfInBounds_toArray, List.set_cons_zero, List.set_cons_succ]
          refine (fun (REST : ?G2) => ?path2) ?rest2
          rotate_right
          case path2 =>
            refine wpAnyH_ready (rs := [8, 11]) (by kernel_rfl) (by simp) ?_
            refine AllReadyH.cons rfl (fun K hK => ?_) (AllReadyH.cons rfl (fun K hK => ?_) AllReadyH.nil)
            · have k7 : w6.cell? ⟨GH, i * 8 + 7, none⟩ = some (.slice (X[i]'HI'.out).h.ta (X[i]'HI'.out).h.todo.length (X[i]'HI'.out).h.tc) := HTd.out.cell HVH.out HI'.out (j := 7) rfl (by decide)
              go_simp
              refine hK.out _ _ HD2.out (fun hHeld => ?_)
              clear hK K k7
              refine wpAnyH_ready (rs := [11]) (by kernel_rfl) (by simp) ?_
              refine AllReadyH.cons rfl (fun K hK => ?_) AllReadyH.nil
              go_simp
              refine hK.out _ _ HA2.out (fun hHeld => ?_)
              clear hK K
              exact REST
            · go_simp
              refine hK.out _ _ HA2.out (fun hHeld => ?_)
              clear hK K
              refine wpAnyH_ready (rs := [8]) (by kernel_rfl) (by simp) ?_
              refine AllReadyH.cons rfl (fun K hK => ?_) AllReadyH.nil
              have k7 : (w6.alloc (.cells #[.string x, .int .i64 0] 103)).cell? ⟨GH, i * 8 + 7, none⟩ = some (.slice (X[i]'HI'.out).h.ta (X[i]'HI'.out).h.todo.length (X[i]'HI'.out).h.tc) := HTa.out.cell HVH.out HI'.out (j := 7) rfl (by decide)
              go_simp
              refine hK.out _ _ HA2.out (fun hHeld => ?_)
              clear hK K k7
              exact REST
          case rest2 =>
            refine wpAnyH_ready (rs := [12]) (by kernel_rfl) (by simp) ?_
            refine AllReadyH.cons rfl (fun K hK => ?_) AllReadyH.nil
            refine step_append_qf rfl _ _ 36 103 rfl i1 (.agg #[.string ⟨#[]⟩, .int .i64 0]) 24 Tryz.underlying36 hi1 hw0 hw1' hw2' rfl (by decide) rfl HQa rfl HNa.out HTa.out.hB (by have := HSZ.out; simp only [List.length_singleton]; omega) ?_
            intro v9 w10 row9 hq9 hg9 hn9
            obtain ⟨a9, c9, hv9⟩ := hq9.form
            subst hv9
            have hT9 := HTa.out.todo HVH.out HI'.out hg9 hq9 hn9
            have hs9 : Sep (w6.drew.alloc (.cells #[.string x, .int .i64 0] 103)) (w10.setCell ⟨GH, i * 8 + 7, none⟩ (.slice a9 ((X[i]'HI'.out).h.todo ++ [(⟨x, 0⟩ : It)]).length c9)) (Ow T1 X (.slice (some ⟨GH, 0, none⟩) L.length cH) (.slice (some ⟨g, 0, none⟩) (t.seen.length + 1) cg) (.slice aL nL cL)) (Ow T1 (X.set i ⟨{ (X[i]'HI'.out).h with todo := ((X[i]'HI'.out).h.todo ++ [(⟨x, 0⟩ : It)]), ta := a9, tc := c9 }, row9⟩) (.slice (some ⟨GH, 0, none⟩) L.length cH) (.slice (some ⟨g, 0, none⟩) (t.seen.length + 1) cg) (.slice aL nL cL)) := sep_row HI'.out rfl hg9 hn9
            have k8 := HTa.out.cell HVH.out HI'.out (j := 7) rfl (by decide)
            have haq : Ap (some GH) (X[i]'HI'.out).row := (HTa.out.qH _ (List.getElem_mem HI'.out)).1
            have q7 := cell_ap k8 hg9 haq
            have f7 : w10.frozen? ⟨GH, i * 8 + 7, none⟩ = false := by
              rw [World.frozen?_of_block (w := (w6.drew.alloc (.cells #[.string x, .int .i64 0] 103))) (hg9.block GH (St.cell_block k8) (fun e => haq GH rfl e.symm))]
              exact HTa.out.free HVH.out _
            have q2 : w10.cell? ⟨T1, 2, none⟩ = some (.slice (some ⟨GH, 0, none⟩) L.length cH) := cell_ap HA2.out hg9 (HTa.out.qT _ (List.getElem_mem HI'.out)).1
            obtain ⟨nn, hnn⟩ : ∃ nn, ((X[i]'HI'.out).h.todo ++ [(⟨x, 0⟩ : It)]).length = nn := ⟨_, rfl⟩
            rw [hnn] at hT9 hs9 ⊢
            obtain ⟨w11, hw11⟩ : ∃ w11, w10.setCell ⟨GH, i * 8 + 7, none⟩ (.slice a9 nn c9) = w11 := ⟨_, rfl⟩
            have HTF : Hid (TrOwn w11 B T1 0 (X.set i ⟨{ (X[i]'HI'.out).h with todo := ((X[i]'HI'.out).h.todo ++ [(⟨x, 0⟩ : It)]), ta := a9, tc := c9 }, row9⟩) (.slice (some ⟨GH, 0, none⟩) L.length cH) (.slice (some ⟨g, 0, none⟩) (t.seen.length + 1) cg) (.slice aL nL cL) (hearT t x)) := by
              rw [HE.out, ← hw11]
              exact hT9
            rw [hw11] at hs9
            have HSF : Hid (Sep w w11 (Ow T1 X (.slice (some ⟨GH, 0, none⟩) L.length cH) (.slice aS t.seen.length cS) (.slice aL nL cL)) (Ow T1 (X.set i ⟨{ (X[i]'HI'.out).h with todo := ((X[i]'HI'.out).h.todo ++ [(⟨x, 0⟩ : It)]), ta := a9, tc := c9 }, row9⟩) (.slice (some ⟨GH, 0, none⟩) L.length cH) (.slice (some ⟨g, 0, none⟩) (t.seen.length + 1) cg) (.slice aL nL cL))) := (HS9.out.trans (Sep.below HBa.out)).trans hs9
            have HRF : Hid (RdK w (Rd X) (Rd (X.set i ⟨{ (X[i]'HI'.out).h with todo := ((X[i]'HI'.out).h.todo ++ [(⟨x, 0⟩ : It)]), ta := a9, tc := c9 }, row9⟩))) := RdK.trans HRD9.out (rd_set (w := w) HI'.out rfl rfl) (Nat.le_refl _)
            have hZa : Bs 29 (w6.drew.alloc (.cells #[.string x, .int .i64 0] 103)) P #[.string ⟨#[]⟩, .int .i64 0, .slice none 0 0, .slice none 0 0, .slice none 0 0] := HZ9.out.below HBa.out
            have hkp := hs9.keep P hZa.lt HPO9.out
            have HZF : Hid (Bs 29 w11 P #[.string ⟨#[]⟩, .int .i64 0, .slice none 0 0, .slice none 0 0, .slice none 0 0]) := hkp.2.trans hZa
            have HPOF : Hid (¬ Ow T1 (X.set i ⟨{ (X[i]'HI'.out).h with todo := ((X[i]'HI'.out).h.todo ++ [(⟨x, 0⟩ : It)]), ta := a9, tc := c9 }, row9⟩) (.slice (some ⟨GH, 0, none⟩) L.length cH) (.slice (some ⟨g, 0, none⟩) (t.seen.length + 1) cg) (.slice aL nL cL) P) := hkp.1
            have HPRF : Hid (¬ Rd (X.set i ⟨{ (X[i]'HI'.out).h with todo := ((X[i]'HI'.out).h.todo ++ [(⟨x, 0⟩ : It)]), ta := a9, tc := c9 }, row9⟩) P) := (rd_set (w := (w6.drew.alloc (.cells #[.string x, .int .i64 0] 103))) HI'.out (x' := ⟨{ (X[i]'HI'.out).h with todo := ((X[i]'HI'.out).h.todo ++ [(⟨x, 0⟩ : It)]), ta := a9, tc := c9 }, row9⟩) rfl rfl) P hZa.lt HPR9.out
            have qt2 : w11.cell? ⟨T1, 2, none⟩ = some (.slice (some ⟨GH, 0, none⟩) L.length cH) := by
              rw [← hw11]
              exact cell_ap q2 (grown_one GH (i * 8 + 7) _) HTa.out.a1
            clear k8 hT9 hs9 hg9 hq9 hn9 hZa hkp haq
            refine hK.out _ _ q2 (fun hHeld => ?_)
            clear hK K
            refine wpAnyH_take (i := 13) (oi := ({ dst := some 80, op := Go.Op.indexAddr 26 (Go.Operand.tmp 68) (Go.Operand.tmp 69), type := 0, pos := "l12_trip.go:32", after := #[{ on := 1, ground := Go.Ground.data }, { on := 2, ground := Go.Ground.data }, { on := 0, ground := Go.Ground.phase }, { on := 1, ground := Go.Ground.phase }, { on := 2, ground := Go.Ground.phase }, { on := 3, ground := Go.Ground.phase }, { on := 4, ground := Go.Ground.phase }, { on := 5, ground := Go.Ground.phase }, { on := 6, ground := Go.Ground.phase }, { on := 7, ground := Go.Ground.phase }, { on := 8, ground := Go.Ground.phase }, { on := 9, ground := Go.Ground.phase }, { on := 10, ground := Go.Ground.phase }, { on := 11, ground := Go.Ground.phase }, { on := 12, ground := Go.Ground.phase }], guard := none } : Oper)) (v := ?_) rfl (by kernel_rfl) (by kernel_rfl) (by kernel_rfl) (fun _ _ _ h => h) (Or.inl ⟨by rfl, ?_⟩) hHeld ?_
            rotate_left
            · (intro w hSw; (try dsimp only at hSw); go_simp; try with_reducible rfl)
            simp only [Act.put, List.setIfInBounds_toArray]
            refine wpAnyH_take (i := 14) (oi := ({ dst := some 81, op := Go.Op.fieldAddr 38 (Go.Operand.tmp 80) 5, type := 0, pos := "l12_trip.go:32", after := #[{ on := 13, ground := Go.Ground.data }, { on := 0, ground := Go.Ground.phase }, { on := 1, ground := Go.Ground.phase }, { on := 2, ground := Go.Ground.phase }, { on := 3, ground := Go.Ground.phase }, { on := 4, ground := Go.Ground.phase }, { on := 5, ground := Go.Ground.phase }, { on := 6, ground := Go.Ground.phase }, { on := 7, ground := Go.Ground.phase }, { on := 8, ground := Go.Ground.phase }, { on := 9, ground := Go.Ground.phase }, { on := 10, ground := Go.Ground.phase }, { on := 11, ground := Go.Ground.phase }, { on := 12, ground := Go.Ground.phase }], guard := none } : Oper)) (v := ?_) rfl (by kernel_rfl) (by kernel_rfl) (by kernel_rfl) (fun _ _ _ h => h) (Or.inl ⟨by rfl, ?_⟩) hHeld ?_
            rotate_left
            · (intro w hSw; (try dsimp only at hSw); go_simp; try with_reducible rfl)
            simp only [Act.put]
            refine wpAnyH_ready (rs := [15]) (by kernel_rfl) (by simp) ?_
            refine AllReadyH.cons rfl (fun K hK => ?_) AllReadyH.nil
            go_simp
            try rw [hw11]
            refine hK.out _ _ qt2 (fun hHeld => ?_)
            clear hK K hHeld qt2 q2 q7 f7
            refine wpAnyH_done (by kernel_rfl) ?_ _
            have c0 := HTF.out.c0
            have c1' := HTF.out.c1
            have c2' := HTF.out.c2
            have c3 := HTF.out.c3
            have c4' := HTF.out.c4
            rw [Nat.zero_add] at c1' c2' c3 c4'
            have z0 := HZF.out.cell 0 rfl
            have f0 := HZF.out.free 0
            have z1 := HZF.out.cell 1 rfl
            have f1 := HZF.out.free 1
            have z2 := HZF.out.cell 2 rfl
            have f2 := HZF.out.free 2
            have z3 := HZF.out.cell 3 rfl
            have f3 := HZF.out.free 3
            have z4 := HZF.out.cell 4 rfl
            have f4 := HZF.out.free 4
            go_wp2_with fail
            obtain ⟨wf, hwf⟩ : ∃ wf, (((((w11.setCell ⟨P, 0, none⟩ (.string (hearT t x).name)).setCell ⟨P, 1, none⟩ (.int .i64 (hearT t x).now)).setCell ⟨P, 2, none⟩ (.slice (some ⟨GH, 0, none⟩) L.length cH)).setCell ⟨P, 3, none⟩ (.slice (some ⟨g, 0, none⟩) (t.seen.length + 1) cg)).setCell ⟨P, 4, none⟩ (.slice aL nL cL)) = wf := ⟨_, rfl⟩
            rw [hwf]
            have hz := heard_out HTF.out HT1.out HSF.out HRF.out hwp HZF.out HPOF.out HPRF.out hwf
            have y0 := hz.1.cell 0 rfl
            have y1 := hz.1.cell 1 rfl
            have y2 := hz.1.cell 2 rfl
            have y3 := hz.1.cell 3 rfl
            have y4 := hz.1.cell 4 rfl
            refine bodyPost_ret (v := .agg #[.string (hearT t x).name, .int .i64 (hearT t x).now, (.slice (some ⟨GH, 0, none⟩) L.length cH), (.slice (some ⟨g, 0, none⟩) (t.seen.length + 1) cg), (.slice aL nL cL)]) (by simp [results, Tryz.results32, go_sem, y0, y1, y2, y3, y4]) rfl ?_
            exact hz.2
end Go.Proofs.YtiennniclkbjlaaGreatDoor.Ts
/- Of the program: the first address that is left at a house is called at. -/
namespace Go.Proofs.YtiennniclkbjlaaGreatDoor.Tn
open Go.RowKit Go.Proofs.YtiennniclkbjlaaGreatDoor.Bk Go.Proofs.YtiennniclkbjlaaGreatDoor.WdN Go.Proofs.YtiennniclkbjlaaGreatDoor.RoPg Go.Proofs.YtiennniclkbjlaaGreatDoor.EscM Go.Proofs.YtiennniclkbjlaaGreatDoor.AddrM Go.Proofs.YtiennniclkbjlaaGreatDoor.ReadM Go.Proofs.YtiennniclkbjlaaGreatDoor.Rd1 Go.Proofs.YtiennniclkbjlaaGreatDoor.Ad1 Go.Proofs.YtiennniclkbjlaaGreatDoor.RuleM Go.Proofs.YtiennniclkbjlaaGreatDoor.St Go.Proofs.YtiennniclkbjlaaGreatDoor.EscL Go.Proofs.YtiennniclkbjlaaGreatDoor.RR Go.Proofs.YtiennniclkbjlaaGreatDoor.LetM Go.Proofs.YtiennniclkbjlaaGreatDoor.GrM Go.Proofs.YtiennniclkbjlaaGreatDoor.RoIt Go.Proofs.YtiennniclkbjlaaGreatDoor.RoLk Go.Proofs.YtiennniclkbjlaaGreatDoor.RoQ Go.Proofs.YtiennniclkbjlaaGreatDoor.Mp Go.Proofs.YtiennniclkbjlaaGreatDoor.WdM Go.Proofs.YtiennniclkbjlaaGreatDoor.Wd Go.Proofs.YtiennniclkbjlaaGreatDoor.TpM Go.Proofs.YtiennniclkbjlaaGreatDoor.TrM Go.Proofs.YtiennniclkbjlaaGreatDoor.TrW Go.Proofs.YtiennniclkbjlaaGreatDoor.Tq Go.Proofs.YtiennniclkbjlaaGreatDoor.PgM Go.Proofs.YtiennniclkbjlaaGreatDoor.PgA Go.Proofs.YtiennniclkbjlaaGreatDoor.MkA Go.Proofs.YtiennniclkbjlaaGreatDoor.Im Go.Proofs.YtiennniclkbjlaaGreatDoor.Nm

theorem first_eq1 {L : List Pg} {t : Tm} {i : Nat} {h : Hm} {it : It} {rest : List It} {kd : Int} {tx : ByteArray} (htd : h.todo = it :: rest) (hkd : kindF L it.addr it.tries = (kd, tx)) (hq : kd = 3 ∧ it.tries + 1 < 3) : firstT L t i h = { t with lk := t.lk ++ [⟨t.now, it.addr, kd⟩], hs := t.hs.set i { lookH { h with todo := rest } t.now kd it.tries with todo := rest ++ [⟨it.addr, it.tries + 1⟩] } } := by
  unfold firstT
  rw [htd]
  dsimp only
  rw [lead_fail (by rw [hkd]; exact hq.1), hkd]
  unfold firstH
  rw [hkd]
  dsimp only
  rw [if_pos hq]; rfl
theorem first_eq2 {L : List Pg} {t : Tm} {i : Nat} {h : Hm} {it : It} {rest : List It} {kd : Int} {tx : ByteArray} {A : Ad} (htd : h.todo = it :: rest) (hkd : kindF L it.addr it.tries = (kd, tx)) (hq : ¬ (kd = 3 ∧ it.tries + 1 < 3)) (hA : normA it.addr = some A) : firstT L t i h = (leadF A (kd, tx)).foldl hearT { t with lk := t.lk ++ [⟨t.now, it.addr, kd⟩], hs := t.hs.set i (lookH { h with todo := rest } t.now kd it.tries) } ∧ firstH L t.now h it rest = lookH { h with todo := rest } t.now kd it.tries := by
  have e1 : firstH L t.now h it rest = lookH { h with todo := rest } t.now kd it.tries := by
    unfold firstH
    rw [hkd]
    dsimp only
    rw [if_neg hq]
  refine ⟨?_, e1⟩
  unfold firstT
  rw [htd]
  dsimp only
  rw [e1]
  unfold leadT
  rw [hA, hkd]
theorem lead_size {L : List Pg} (hz : PgSz L) {A : Ad} {a : ByteArray} {n : Int} {y : ByteArray} (hy : y ∈ leadF A (kindF L a n)) : y.size ≤ 4194304 := by
  unfold leadF at hy
  split at hy
  · obtain ⟨C, _, rfl⟩ := page_each hy
    exact Nat.le_trans (Dr.textF_size C) (by decide)
  · split at hy
    · have e : y = (kindF L a n).2 := by simpa using hy
      rw [e]; exact kind_text hz a n
    · cases hy
theorem lead_len (A : Ad) (k : Int × ByteArray) : (leadF A k).length ≤ 300 := by
  unfold leadF
  split
  · exact page_len _ _
  · split
    · show 1 ≤ 300; omega
    · exact Nat.zero_le _
theorem strs_sep {w w' : World} {O O' : Nat → Prop} {a : Option Addr} {c : Nat} {F : List ByteArray} (h : IsStrs w a c F) (hs : Sep w w' O O') (hn : ∀ b, blk a = some b → ¬ O b) : IsStrs w' a c F := by
  obtain ⟨q1, q2, q3, q4⟩ := h
  refine ⟨q1, q2, q3, fun hne => ?_⟩
  obtain ⟨b, off, e, hc⟩ := q4 hne
  refine ⟨b, off, e, fun j hj => ?_⟩
  rw [World.cell?_of_block (w := w) ((hs.keep b (St.cell_block (hc j hj)) (hn b (by rw [e]; rfl))).2)]
  exact hc j hj
set_option maxRecDepth 100000 in
set_option maxHeartbeats 6400000 in
theorem first_any {w0 : World} {O R : Nat → Prop} (B T0 GH c i mb : Nat) (X : List Hx) (x : Hx) (vS vL : Value) (t : Tm) (L : List Pg) (it : It) (rest : List It) (w : World) (hM : Mx w) (hMB : 2 < B) (h : Tw w0 O R B T0 GH c i (.map (some mb)) X x vS vL t w) (hm : IsMap w mb (entsL L)) (hlk : t.lk.length ≤ 1000) (hmo : ¬ Ow T0 X (vHs GH X.length c) vS vL mb) (hnw : 0 ≤ t.now ∧ t.now ≤ 5000) (hk : HmOk t.name t.seen (hmX x)) (htd : x.h.todo = it :: rest) (htl : x.h.todo.length ≤ 1000) (hz : PgSz L) (hT : PgTx L) (hok : TmOk { t with lk := t.lk ++ [⟨t.now, it.addr, (kindF L it.addr it.tries).1⟩], hs := t.hs.set i (firstH L t.now (hmX x) it rest) }) (hfe : t.hs.length ≤ t.seen.length) :
    Calls Tryz.prog 106 #[.pointer (some ⟨T0, 0, none⟩), .pointer (some ⟨GH, i * 8, none⟩)] w fun e w' => e = .returned (.tuple #[]) ∧ TrIs w0 O R B T0 1 (firstT L t i (hmX x)) w' ∧ w'.cell? ⟨T0, 0, none⟩ = some (.map (some mb)) := by
  obtain ⟨⟨A0, hA0, -⟩, -, hit0, hit2⟩ := hk.td it (by show it ∈ x.h.todo; rw [htd]; exact List.mem_cons_self ..)
  have HA0 : Hid (normA it.addr = some A0) := hA0
  have HIT : Hid (0 ≤ it.tries ∧ it.tries ≤ 2) := ⟨hit0, hit2⟩
  have HTD : Hid ((hmX x).todo = it :: rest) := htd
  have hq0 : IsQF FIt w B x.row (.slice x.h.ta (it :: rest).length x.h.tc) (it :: rest) := by have := h.house.todo; rw [htd] at this; exact this
  obtain ⟨b, off, cap, row', hv, hcm, hrc, hcl, hqr, hrow⟩ := hq0.pop
  injection hv with hva _ hvc
  have hrl : rest.length ≤ 1000 := by rw [htd, List.length_cons] at htl; omega
  obtain ⟨I, hI⟩ : ∃ I, w.heap.size = I := ⟨_, rfl⟩
  have HIW : Hid (w.heap.size = I) := hI
  have HB0 : Hid (Below w.heap.size w (w.alloc (.cells #[.string it.addr, .int .i64 it.tries] 103))) := (Below.refl _ w).alloc (Nat.le_refl _) _
  have HX0 : Hid (Bs 103 (w.alloc (.cells #[.string it.addr, .int .i64 it.tries] 103)) I #[.string it.addr, .int .i64 it.tries]) := by rw [← hI]; exact Bs.new _ _ _
  have HIN : Hid (¬ Ow T0 X (vHs GH X.length c) vS vL I) := fun e => by
    have := h.own.lt I e
    omega
  have k7w : w.cell? ⟨GH, i * 8 + 7, none⟩ = some (.slice (some ⟨b, off, none⟩) (rest.length + 1) (cap + 1)) := by
    have := h.cell (j := 7) rfl (by decide)
    rw [htd, hva, hvc] at this
    exact this
  have i0 : w.cell? ⟨b, off, none⟩ = some (.string it.addr) := hcl 0 _ rfl
  have i1 : w.cell? ⟨b, off + 1, none⟩ = some (.int .i64 it.tries) := hcl 1 _ rfl
  obtain ⟨wa, hwa⟩ : ∃ wa, w.alloc (.cells #[.string it.addr, .int .i64 it.tries] 103) = wa := ⟨_, rfl⟩
  have HWa : Hid (w.alloc (.cells #[.string it.addr, .int .i64 it.tries] 103) = wa) := hwa
  rw [hwa] at HB0 HX0
  have ha : Tw w0 O R B T0 GH c i (.map (some mb)) X x vS vL t wa := h.below HB0.out
  have hma : IsMap wa mb (entsL L) := hm.below HB0.out
  have HTa : Hid (Tw wa (Ow T0 X (vHs GH X.length c) vS vL) (Rd X) B T0 GH c i (.map (some mb)) X x vS vL t wa) := ⟨ha.own, ha.at_, Sep.refl, RdK.refl, ha.pc⟩
  have HOUT : Hid (∀ t' w', TrIs wa (Ow T0 X (vHs GH X.length c) vS vL) (Rd X) B T0 1 t' w' → TrIs w0 O R B T0 1 t' w') := fun t' w' ⟨X', vH', vS', vL', q1, q2, q3⟩ => ⟨X', vH', vS', vL', q1, ha.sep.trans q2, RdK.trans ha.rd q3 ha.sep.size⟩
  have HIX : Hid (∀ X' x' vL' t' w', Tw wa (Ow T0 X (vHs GH X.length c) vS vL) (Rd X) B T0 GH c i (.map (some mb)) X' x' vS vL' t' w' → Bs 103 w' I #[.string it.addr, .int .i64 it.tries]) := fun X' x' vL' t' w' h' => ((h'.kept HX0.out.lt HIN.out).1).trans HX0.out
  have HMX : Hid (∀ X' x' vL' t' w', Tw wa (Ow T0 X (vHs GH X.length c) vS vL) (Rd X) B T0 GH c i (.map (some mb)) X' x' vS vL' t' w' → Mx w' ∧ IsMap w' mb (entsL L) ∧ ¬ Ow T0 X' (vHs GH X'.length c) vS vL' mb) := fun X' x' vL' t' w' h' => ⟨Mx_low (hM.below HB0.out) (h'.sep.low (fun k e => ha.own.low k e) ha.own.hB) hMB, hma.same ((h'.kept hma.lt hmo).1), (h'.kept hma.lt hmo).2⟩
  obtain ⟨kd, tx, hkd⟩ : ∃ kd tx, kindF L it.addr it.tries = (kd, tx) := ⟨_, _, rfl⟩
  have HKD : Hid (kindF L it.addr it.tries = (kd, tx)) := hkd
  have HOK : Hid (TmOk { t with lk := t.lk ++ [⟨t.now, it.addr, kd⟩], hs := t.hs.set i (firstH L t.now (hmX x) it rest) }) := by rw [hkd] at hok; exact hok
  have HFE : Hid (t.hs.length ≤ t.seen.length) := hfe
  have HK : Hid (HmOk t.name t.seen (hmX x)) := hk
  have HZ : Hid (PgSz L) := hz
  have HTX : Hid (PgTx L) := hT
  -- what is left, cut in front
  obtain ⟨a', ha'⟩ : ∃ a' : Option Addr, (if cap = 0 then (some ⟨b, off, none⟩ : Option Addr) else some ⟨b, off + 2, none⟩) = a' := ⟨_, rfl⟩
  have hqa : IsQF FIt wa B row' (.slice a' rest.length cap) rest := by
    have := hqr.below HB0.out
    rw [show FIt.k = 2 from rfl, ha'] at this
    exact this
  obtain ⟨X1, q1⟩ := HTa.out.cut hqa hrow
  obtain ⟨w1, hw1⟩ : ∃ w1, wa.setCell ⟨GH, i * 8 + 7, none⟩ (.slice a' rest.length cap) = w1 := ⟨_, rfl⟩
  rw [hw1] at q1
  have HT1 : Hid (Tw wa (Ow T0 X (vHs GH X.length c) vS vL) (Rd X) B T0 GH c i (.map (some mb)) X1 ⟨{ x.h with todo := rest, ta := a', tc := cap }, row'⟩ vS vL { t with hs := t.hs.set i { hmX x with todo := rest } } w1) := q1
  obtain ⟨r2, hr2⟩ : ∃ r2, (lookH { hmX x with todo := rest } t.now kd it.tries).ready = r2 := ⟨_, rfl⟩
  have HRD : Hid (lookH { hmX x with todo := rest } t.now kd it.tries = { hmX x with ready := r2, todo := rest }) := by show _ = _; rw [← hr2]; rfl
  have HLA : Hid (Calls Tryz.prog 123 #[.pointer (some ⟨T0, 0, none⟩), .pointer (some ⟨GH, i * 8, none⟩), .string it.addr, .int .i64 it.tries] w1 fun e w' => e = .returned (.tuple #[.int .i64 kd, .string tx]) ∧ ∃ X' vL', Tw wa (Ow T0 X (vHs GH X.length c) vS vL) (Rd X) B T0 GH c i (.map (some mb)) X' ⟨{ x.h with ready := r2, todo := rest, ta := a', tc := cap }, row'⟩ vS vL' { t with lk := t.lk ++ [⟨t.now, it.addr, kd⟩], hs := t.hs.set i { hmX x with ready := r2, todo := rest } } w') := by
    obtain ⟨_, m1, m2⟩ := HMX.out _ _ _ _ _ q1
    have := lookAt_tw (w0 := wa) (O := Ow T0 X (vHs GH X.length c) vS vL) (R := Rd X) B T0 GH c i mb X1 ⟨{ x.h with todo := rest, ta := a', tc := cap }, row'⟩ vS vL { t with hs := t.hs.set i { hmX x with todo := rest } } L it.addr it.tries kd tx hkd w1 q1 m1 hlk m2 HIT.out hnw hk.wt
    refine this.mono ?_
    rintro e w' ⟨rfl, X', vL', q2⟩
    refine ⟨rfl, X', vL', ?_⟩
    have e1 : lookH (hmX ⟨{ x.h with todo := rest, ta := a', tc := cap }, row'⟩) t.now kd it.tries = { hmX x with ready := r2, todo := rest } := HRD.out
    dsimp only at q2
    rw [List.set_set, e1] at q2
    exact q2
  have k7a : wa.cell? ⟨GH, i * 8 + 7, none⟩ = some (.slice (some ⟨b, off, none⟩) (rest.length + 1) (cap + 1)) := (HB0.out.cell (St.cell_block k7w)).trans k7w
  have f7a := HTa.out.free (i * 8 + 7)
  have j0 : w1.cell? ⟨I, 0, none⟩ = some (.string it.addr) := (HIX.out _ _ _ _ _ q1).cell 0 rfl
  have j1 : w1.cell? ⟨I, 1, none⟩ = some (.int .i64 it.tries) := (HIX.out _ _ _ _ _ q1).cell 1 rfl
  have HW1 : Hid (wa.setCell ⟨GH, i * 8 + 7, none⟩ (.slice a' rest.length cap) = w1) := hw1
  clear h hM hm hk htd hmo hz hT hok hfe hA0 hkd q1 hqa hqr hrow hq0 ha hma hr2 hva hvc hcl
  go_enter Tryz.func106, Tryz.ntmps106
  have hsp : (cap = 0 ∧ some ⟨b, off, none⟩ = a') ∨ (¬ cap = 0 ∧ some ⟨b, off + 2, none⟩ = a') := by
    by_cases hc0 : cap = 0
    · rw [if_pos hc0] at ha'; exact Or.inl ⟨hc0, ha'⟩
    · rw [if_neg hc0] at ha'; exact Or.inr ⟨hc0, ha'⟩
  clear ha'
  rcases hsp with ⟨hc0, e⟩ | ⟨hc0, e⟩
  · subst hc0
    subst e
    clear hrc
    go_wp2_with fail
    clear hw1 j0 j1 k7a f7a i0 i1 k7w
    refine Calls.mono HLA.out ?_
    rintro e w2 ⟨rfl, X2, vL2, q2⟩
    have HT2 : Hid _ := q2
    have p0 : w2.cell? ⟨I, 0, none⟩ = some (.string it.addr) := (HIX.out _ _ _ _ _ q2).cell 0 rfl
    have p1 : w2.cell? ⟨I, 1, none⟩ = some (.int .i64 it.tries) := (HIX.out _ _ _ _ _ q2).cell 1 rfl
    clear q2
    cases hq : decide (kd = 3) && decide (it.tries + 1 < 3) with
    | true =>
      have HAG : Hid (∀ W : World, Calls Tryz.prog 124 #[.int .i64 kd, .int .i64 it.tries] W fun e w' => e = .returned (.bool true) ∧ w' = W) := fun W => by rw [← hq]; exact again_any kd it.tries W HIT.out
      have hq' : kd = 3 ∧ it.tries + 1 < 3 := by simpa using hq
      have HQ : Hid (kd = 3 ∧ it.tries + 1 < 3) := hq'
      have hit := HIT.out
      clear hq'
      clear hq
      go_wp2_with (go_at_call 124; refine (HAG.out _).mono ?_; rintro e w3 ⟨rfl, e3⟩; have e4 := e3.symm; subst e4)
      obtain ⟨i1, hi1, hy0, hy1, hy2⟩ := info_item
      have hwn : IntKind.i64.wrap (it.tries + 1) = it.tries + 1 := IntWalk.i64_in _ (by omega)
      have S2 : w2.drew.cell? ⟨I, 0, none⟩ = some (.string it.addr) ∧ w2.drew.cell? ⟨I, 1, none⟩ = some (.int .i64 it.tries) := ⟨p0, p1⟩
      have k7 := HT2.out.drew.cell (j := 7) rfl (by decide)
      have HTb : Hid (Tw wa (Ow T0 X (vHs GH X.length c) vS vL) (Rd X) B T0 GH c i (.map (some mb)) X2 _ vS vL2 _ (w2.drew.alloc (.cells #[.string it.addr, .int .i64 (it.tries + 1)] 103))) := HT2.out.drew.below ((Below.refl _ _).alloc (Nat.le_refl _) _)
      have S3 : (w2.drew.alloc (.cells #[.string it.addr, .int .i64 (it.tries + 1)] 103)).cell? ⟨I, 0, none⟩ = some (.string it.addr) ∧ (w2.drew.alloc (.cells #[.string it.addr, .int .i64 (it.tries + 1)] 103)).cell? ⟨I, 1, none⟩ = some (.int .i64 it.tries) := ⟨(HIX.out _ _ _ _ _ HTb.out).cell 0 rfl, (HIX.out _ _ _ _ _ HTb.out).cell 1 rfl⟩
      have k7b := HTb.out.cell (j := 7) rfl (by decide)
      have k7c : (w2.alloc (.cells #[.string it.addr, .int .i64 (it.tries + 1)] 103)).cell? ⟨GH, i * 8 + 7, none⟩ = some (.slice _ rest.length _) := (HT2.out.below ((Below.refl _ w2).alloc (Nat.le_refl _) (.cells #[.string it.addr, .int .i64 (it.tries + 1)] 103))).cell (j := 7) rfl (by decide)
      have HNb : Hid (IsRows FIt (w2.drew.alloc (.cells #[.string it.addr, .int .i64 (it.tries + 1)] 103)) (some ⟨w2.drew.heap.size, 0, none⟩) 1 [(⟨it.addr, it.tries + 1⟩ : It)]) := by
        refine ⟨Nat.le_refl _, (show 1 ≤ maxLen by decide), (fun e => by cases e), fun _ => ⟨_, 0, rfl, fun j u hu => ?_⟩⟩
        rw [cell_of_row _ _ (0 + j) _ _ (0, 0) (heap_alloc_new w2.drew (.cells #[.string it.addr, .int .i64 (it.tries + 1)] 103)), Nat.zero_add]
        have hu' : [Value.string it.addr, Value.int .i64 (it.tries + 1)][j]? = some u := hu
        simpa using hu'
      have HQb : Hid _ := HTb.out.house.todo
      refine wp_region_held_drew (S := fun w' => w'.cell? ⟨I, 0, none⟩ = some (.string it.addr) ∧ w'.cell? ⟨I, 1, none⟩ = some (.int .i64 it.tries)) (by kernel_rfl) S2 (fun hHeld => ?_)
      refine wpAnyH_take (i := 0) (oi := ({ dst := some 39, op := Go.Op.move (Go.Operand.tmp 1), type := 105, pos := "l12_trip.go:314", after := #[], guard := none } : Oper)) (v := ?_) rfl (by kernel_rfl) (by kernel_rfl) (by kernel_rfl) (fun _ _ _ h => h) (Or.inl ⟨by rfl, ?_⟩) hHeld ?_
      rotate_left
      · (intro w hSw; (try dsimp only at hSw); go_simp; try with_reducible rfl)
      try simp only [Act.put, List.setIfInBounds_toArray, List.set_cons_zero, List.set_cons_succ]
      refine wpAnyH_take (i := 1) (oi := ({ dst := some 40, op := Go.Op.move (Go.Operand.tmp 1), type := 105, pos := "l12_trip.go:314", after := #[], guard := none } : Oper)) (v := ?_) rfl (by kernel_rfl) (by kernel_rfl) (by kernel_rfl) (fun _ _ _ h => h) (Or.inl ⟨by rfl, ?_⟩) hHeld ?_
      rotate_left
      · (intro w hSw; (try dsimp only at hSw); go_simp; try with_reducible rfl)
      try simp only [Act.put, List.setIfInBounds_toArray, List.set_cons_zero, List.set_cons_succ]
      refine wpAnyH_take (i := 2) (oi := ({ dst := some 41, op := Go.Op.nilCheck (Go.Operand.tmp 40), type := 0, pos := "l12_trip.go:314", after := #[{ on := 1, ground := Go.Ground.data }], guard := none } : Oper)) (v := ?_) rfl (by kernel_rfl) (by kernel_rfl) (by kernel_rfl) (fun _ _ _ h => h) (Or.inl ⟨by rfl, ?_⟩) hHeld ?_
      rotate_left
      · (intro w hSw; (try dsimp only at hSw); go_simp; try with_reducible rfl)
      try simp only [Act.put, List.setIfInBounds_toArray, List.set_cons_zero, List.set_cons_succ]
      refine wpAnyH_take (i := 3) (oi := ({ dst := some 42, op := Go.Op.fieldAddr 38 (Go.Operand.tmp 41) 5, type := 0, pos := "l12_trip.go:314", after := #[{ on := 2, ground := Go.Ground.data }], guard := none } : Oper)) (v := ?_) rfl (by kernel_rfl) (by kernel_rfl) (by kernel_rfl) (fun _ _ _ h => h) (Or.inl ⟨by rfl, ?_⟩) hHeld ?_
      rotate_left
      · (intro w hSw; (try dsimp only at hSw); go_simp; try with_reducible rfl)
      try simp only [Act.put, List.setIfInBounds_toArray, List.set_cons_zero, List.set_cons_succ]
      refine wpAnyH_take (i := 5) (oi := ({ dst := some 44, op := Go.Op.fieldAddr 103 (Go.Operand.tmp 4) 0, type := 0, pos := "l12_trip.go:314", after := #[], guard := none } : Oper)) (v := ?_) rfl (by kernel_rfl) (by kernel_rfl) (by kernel_rfl) (fun _ _ _ h => h) (Or.inl ⟨by rfl, ?_⟩) hHeld ?_
      rotate_left
      · (intro w hSw; (try dsimp only at hSw); go_simp; try with_reducible rfl)
      try simp only [Act.put, List.setIfInBounds_toArray, List.set_cons_zero, List.set_cons_succ]
      refine wpAnyH_take (i := 6) (oi := ({ dst := some 45, op := Go.Op.load 9 (Go.Operand.tmp 44), type := 9, pos := "l12_trip.go:314", after := #[{ on := 5, ground := Go.Ground.data }], guard := none } : Oper)) (v := ?_) rfl (by kernel_rfl) (by kernel_rfl) (by kernel_rfl) (fun _ _ _ h => h) (Or.inl ⟨by rfl, ?_⟩) hHeld ?_
      rotate_left
      · (intro w hSw; (try dsimp only at hSw); go_simp; try with_reducible rfl)
      try simp only [Act.put, List.setIfInBounds_toArray, List.set_cons_zero, List.set_cons_succ]
      refine wpAnyH_take (i := 7) (oi := ({ dst := some 46, op := Go.Op.fieldAddr 103 (Go.Operand.tmp 4) 1, type := 0, pos := "l12_trip.go:314", after := #[], guard := none } : Oper)) (v := ?_) rfl (by kernel_rfl) (by kernel_rfl) (by kernel_rfl) (fun _ _ _ h => h) (Or.inl ⟨by rfl, ?_⟩) hHeld ?_
      rotate_left
      · (intro w hSw; (try dsimp only at hSw); go_simp; try with_reducible rfl)
      try simp only [Act.put, List.setIfInBounds_toArray, List.set_cons_zero, List.set_cons_succ]
      refine wpAnyH_take (i := 8) (oi := ({ dst := some 47, op := Go.Op.load 3 (Go.Operand.tmp 46), type := 3, pos := "l12_trip.go:314", after := #[{ on := 7, ground := Go.Ground.data }], guard := none } : Oper)) (v := ?_) rfl (by kernel_rfl) (by kernel_rfl) (by kernel_rfl) (fun _ _ _ h => h) (Or.inl ⟨by rfl, ?_⟩) hHeld ?_
      rotate_left
      · (intro w hSw; (try dsimp only at hSw); go_simp; try with_reducible rfl)
      try simp only [Act.put, List.setIfInBounds_toArray, List.set_cons_zero, List.set_cons_succ]
      refine wpAnyH_take (i := 9) (oi := ({ dst := some 48, op := Go.Op.binOp Go.BinOp.add 3 (Go.Operand.tmp 47) (Go.Operand.const (Go.Value.int Go.IntKind.i64 1)) 3, type := 3, pos := "l12_trip.go:314", after := #[{ on := 8, ground := Go.Ground.data }], guard := none } : Oper)) (v := ?_) rfl (by kernel_rfl) (by kernel_rfl) (by kernel_rfl) (fun _ _ _ h => h) (Or.inl ⟨by rfl, ?_⟩) hHeld ?_
      rotate_left
      · (intro w hSw; (try dsimp only at hSw); go_simp; try with_reducible rfl)
      try simp only [Act.put, List.setIfInBounds_toArray, List.set_cons_zero, List.set_cons_succ]
      refine wpAnyH_take (i := 10) (oi := ({ dst := some 49, op := Go.Op.build 103 #[(0, Go.Operand.tmp 45), (1, Go.Operand.tmp 48)], type := 103, pos := "l12_trip.go:314", after := #[{ on := 6, ground := Go.Ground.data }, { on := 9, ground := Go.Ground.data }], guard := none } : Oper)) (v := ?_) rfl (by kernel_rfl) (by kernel_rfl) (by kernel_rfl) (fun _ _ _ h => h) (Or.inl ⟨by rfl, ?_⟩) hHeld ?_
      rotate_left
      · (intro w hSw; (try dsimp only at hSw); go_simp; try with_reducible rfl)
      try simp only [Act.put, List.setIfInBounds_toArray, List.set_cons_zero, List.set_cons_succ]
      refine (fun (REST : ?G1) => ?path1) ?rest1
      rotate_right
      case path1 =>
        refine wpAnyH_ready (rs := [4, 11]) (by kernel_rfl) (by simp) ?_
        refine AllReadyH.cons rfl (fun K hK => ?_) (AllReadyH.cons rfl (fun K hK => ?_) AllReadyH.nil)
        · go_simp
          refine hK.out _ _ S2 (fun hHeld => ?_)
          clear hK K
          refine wpAnyH_ready (rs := [11]) (by kernel_rfl) (by simp) ?_
          refine AllReadyH.cons rfl (fun K hK => ?_) AllReadyH.nil
          go_simp
          refine hK.out _ _ S3 (fun hHeld => ?_)
          clear hK K
          exact REST
        · go_simp
          refine hK.out _ _ S3 (fun hHeld => ?_)
          clear hK K
          refine wpAnyH_ready (rs := [4]) (by kernel_rfl) (by simp) ?_
          refine AllReadyH.cons rfl (fun K hK => ?_) AllReadyH.nil
          go_simp
          refine hK.out _ _ S3 (fun hHeld => ?_)
          clear hK K
          exact REST
      case rest1 =>
        obtain ⟨i1, hi1, hy0, hy1, hy2⟩ := info_item
        refine wpAnyH_ready (rs := [12]) (by kernel_rfl) (by simp) ?_
        refine AllReadyH.cons rfl (fun K hK => ?_) AllReadyH.nil
        refine Ts.step_append_qf rfl _ _ 36 103 rfl i1 (.agg #[.string ⟨#[]⟩, .int .i64 0]) 24 Tryz.underlying36 hi1 hy0 hy1 hy2 rfl (by decide) rfl HQb.out rfl HNb.out HTb.out.own.hB (by simp only [List.length_singleton]; omega) ?_
        intro v9 w9 row9 hq9 hg9 hn9
        obtain ⟨a9, c9, hv9⟩ := hq9.form
        subst hv9
        obtain ⟨X9, q9⟩ := HTb.out.todo hg9 hq9 hn9
        dsimp only at q9
        rw [List.set_set] at q9
        obtain ⟨hi2, e2⟩ := HTb.out.lt
        have hrw : X2[i].row = row' := by rw [e2]
        have haI : Ap (some I) row' := fun k e1 e3 => by
          have e4 := Option.some.inj e1
          subst e4
          exact (HTb.out.kept HX0.out.lt HIN.out).2 (Or.inr (Or.inr (Or.inr (Or.inr ⟨_, List.getElem_mem hi2, by rw [hrw]; exact e3⟩))))
        have haG : Ap (some GH) row' := by have := (HTb.out.own.qH _ (List.getElem_mem hi2)).1; rw [hrw] at this; exact this
        have S9 : w9.cell? ⟨I, 0, none⟩ = some (.string it.addr) ∧ w9.cell? ⟨I, 1, none⟩ = some (.int .i64 it.tries) := ⟨cell_ap S3.1 hg9 haI, cell_ap S3.2 hg9 haI⟩
        have k9 := cell_ap k7b hg9 haG
        have f9 : w9.frozen? ⟨GH, i * 8 + 7, none⟩ = false := by
          rw [World.frozen?_of_block (w := w2.drew.alloc (.cells #[.string it.addr, .int .i64 (it.tries + 1)] 103)) (a := ⟨GH, i * 8 + 7, none⟩) (hg9.block GH (St.cell_block k7b) (fun e => haG GH rfl e.symm))]
          exact HTb.out.free _
        obtain ⟨nn, hnn⟩ : ∃ nn, (rest ++ [(⟨it.addr, it.tries + 1⟩ : It)]).length = nn := ⟨_, rfl⟩
        have hnn2 : rest.length + [(⟨it.addr, it.tries + 1⟩ : It)].length = nn := by rw [← hnn, List.length_append]
        dsimp only at hnn q9 k9 ⊢
        rw [hnn] at q9 ⊢
        obtain ⟨wx, hwx⟩ : ∃ wx, w9.setCell ⟨GH, i * 8 + 7, none⟩ (.slice a9 nn c9) = wx := ⟨_, rfl⟩
        rw [hwx] at q9
        have HT9 : Hid _ := q9
        have Sx : wx.cell? ⟨I, 0, none⟩ = some (.string it.addr) ∧ wx.cell? ⟨I, 1, none⟩ = some (.int .i64 it.tries) := ⟨(HIX.out _ _ _ _ _ q9).cell 0 rfl, (HIX.out _ _ _ _ _ q9).cell 1 rfl⟩
        clear q9 hq9 hg9 hn9 hnn hnn2 k7 k7b k7c S2 S3 e2 hrw haI haG
        refine hK.out _ _ S9 (fun hHeld => ?_)
        clear hK K
        refine wpAnyH_take (i := 13) (oi := ({ dst := some 52, op := Go.Op.nilCheck (Go.Operand.tmp 39), type := 0, pos := "l12_trip.go:314", after := #[{ on := 0, ground := Go.Ground.data }, { on := 0, ground := Go.Ground.phase }, { on := 1, ground := Go.Ground.phase }, { on := 2, ground := Go.Ground.phase }, { on := 3, ground := Go.Ground.phase }, { on := 4, ground := Go.Ground.phase }, { on := 5, ground := Go.Ground.phase }, { on := 6, ground := Go.Ground.phase }, { on := 7, ground := Go.Ground.phase }, { on := 8, ground := Go.Ground.phase }, { on := 9, ground := Go.Ground.phase }, { on := 10, ground := Go.Ground.phase }, { on := 11, ground := Go.Ground.phase }, { on := 12, ground := Go.Ground.phase }], guard := none } : Oper)) (v := ?_) rfl (by kernel_rfl) (by kernel_rfl) (by kernel_rfl) (fun _ _ _ h => h) (Or.inl ⟨by rfl, ?_⟩) hHeld ?_
        rotate_left
        · (intro w hSw; (try dsimp only at hSw); go_simp; try with_reducible rfl)
        refine wpAnyH_take (i := 14) (oi := ({ dst := some 53, op := Go.Op.fieldAddr 38 (Go.Operand.tmp 52) 5, type := 0, pos := "l12_trip.go:314", after := #[{ on := 13, ground := Go.Ground.data }, { on := 0, ground := Go.Ground.phase }, { on := 1, ground := Go.Ground.phase }, { on := 2, ground := Go.Ground.phase }, { on := 3, ground := Go.Ground.phase }, { on := 4, ground := Go.Ground.phase }, { on := 5, ground := Go.Ground.phase }, { on := 6, ground := Go.Ground.phase }, { on := 7, ground := Go.Ground.phase }, { on := 8, ground := Go.Ground.phase }, { on := 9, ground := Go.Ground.phase }, { on := 10, ground := Go.Ground.phase }, { on := 11, ground := Go.Ground.phase }, { on := 12, ground := Go.Ground.phase }], guard := none } : Oper)) (v := ?_) rfl (by kernel_rfl) (by kernel_rfl) (by kernel_rfl) (fun _ _ _ h => h) (Or.inl ⟨by rfl, ?_⟩) hHeld ?_
        rotate_left
        · (intro w hSw; (try dsimp only at hSw); go_simp; try with_reducible rfl)
        refine wpAnyH_ready (rs := [15]) (by kernel_rfl) (by simp) ?_
        refine AllReadyH.cons rfl (fun K hK => ?_) AllReadyH.nil
        go_simp
        refine hK.out _ _ Sx (fun hHeld => ?_)
        clear hK K
        refine wpAnyH_done (by kernel_rfl) ?_ _
        clear hwx S9 Sx k9 f9
        go_wp2_with fail
        refine bodyPost_ret (results_none rfl _ _ _) rfl ?_
        refine ⟨rfl, ?_, HT9.out.pc⟩
        refine HOUT.out _ _ ?_
        rw [first_eq1 HTD.out HKD.out HQ.out]
        have e9 : lookH { hmX x with todo := rest } t.now kd it.tries = { hmX x with ready := r2, todo := rest } := HRD.out
        rw [e9]
        exact ⟨_, _, _, _, HT9.out.own, HT9.out.sep, HT9.out.rd⟩
    | false =>
      have HAG : Hid (∀ W : World, Calls Tryz.prog 124 #[.int .i64 kd, .int .i64 it.tries] W fun e w' => e = .returned (.bool false) ∧ w' = W) := fun W => by rw [← hq]; exact again_any kd it.tries W HIT.out
      have hq' : ¬ (kd = 3 ∧ it.tries + 1 < 3) := by simpa using hq
      have HQ : Hid (¬ (kd = 3 ∧ it.tries + 1 < 3)) := hq'
      clear hq'
      clear hq
      have HFT : Hid (firstT L t i (hmX x) = (leadF A0 (kd, tx)).foldl hearT { t with lk := t.lk ++ [⟨t.now, it.addr, kd⟩], hs := t.hs.set i { hmX x with ready := r2, todo := rest } } ∧ firstH L t.now (hmX x) it rest = { hmX x with ready := r2, todo := rest }) := by
        have := first_eq2 (t := t) (i := i) HTD.out HKD.out HQ.out HA0.out
        rw [HRD.out] at this; exact this
      have HOK2 : Hid (TmOk { t with lk := t.lk ++ [⟨t.now, it.addr, kd⟩], hs := t.hs.set i { hmX x with ready := r2, todo := rest } }) := by
        have := HOK.out
        rw [HFT.out.2] at this; exact this
      have HFE2 : Hid ((t.hs.set i { hmX x with ready := r2, todo := rest }).length ≤ t.seen.length) := by show _ ≤ _; rw [List.length_set]; exact HFE.out
      have HM2 : Hid (Mx w2) := (HMX.out _ _ _ _ _ HT2.out).1
      have HBK : Hid (bulkA A0 ≤ 1000) := read_le (norm_some HA0.out).1
      have HTZ : Hid (tx.size ≤ 4194304) := by have := kind_text HZ.out it.addr it.tries; rw [HKD.out] at this; exact this
      have HTA : Hid (kd = 1 → asc tx) := by have := kind_asc HTX.out it.addr it.tries; rw [HKD.out] at this; exact this
      have HFZ : Hid (∀ y ∈ leadF A0 (kd, tx), y.size ≤ 4194304) := fun y hy => by rw [← HKD.out] at hy; exact lead_size HZ.out hy
      have HRA : Hid (Calls Tryz.prog 62 #[.string it.addr] w2 fun e w' => ∃ a1 c1, e = .returned (.tuple #[.agg #[.string A0.house, .slice a1 A0.parts.length c1, .bool A0.asks, .string A0.ask], .bool true]) ∧ IsStrs w' a1 c1 A0.parts ∧ Below w2.heap.size w2 w') := by
        refine (readAddress_any it.addr w2 HM2.out (by have := norm_size HA0.out; omega) trivial).mono ?_
        rintro e w' ⟨A, ok, a1, c1, rfl, hans, hO, hb⟩
        rcases hans with ⟨rfl, h2⟩ | ⟨_, h2, _⟩
        · have h3 : A0 = A := Option.some.inj (HA0.out.symm.trans h2)
          subst h3
          exact ⟨a1, c1, rfl, hO.strsOf, hb⟩
        · rw [HA0.out] at h2; cases h2
      go_wp2_with (first
        | (go_at_call 124
           refine (HAG.out _).mono ?_
           rintro e w3 ⟨rfl, e3⟩
           have e4 := e3.symm
           subst e4)
        | (go_at_call 62
           refine Calls.mono HRA.out ?_
           rintro e w3 ⟨a2, c2, rfl, hS3, hb3⟩
           have HXa : Hid (Bs 97 (w3.alloc (.cells #[.string A0.house, .slice a2 A0.parts.length c2, .bool A0.asks, .string A0.ask] 97)) w3.heap.size #[.string A0.house, .slice a2 A0.parts.length c2, .bool A0.asks, .string A0.ask]) := Bs.new _ _ _
           have y0 := HXa.out.cell 0 rfl
           have y1 := HXa.out.cell 1 rfl
           have y2 := HXa.out.cell 2 rfl
           have y3 := HXa.out.cell 3 rfl
           have HBa : Hid (Below w2.heap.size w2 (w3.alloc (.cells #[.string A0.house, .slice a2 A0.parts.length c2, .bool A0.asks, .string A0.ask] 97))) := hb3.alloc hb3.size _
           have HLT : Hid (Calls Tryz.prog 128 #[.agg #[.string A0.house, .slice a2 A0.parts.length c2, .bool A0.asks, .string A0.ask], .int .i64 kd, .string tx] (w3.alloc (.cells #[.string A0.house, .slice a2 A0.parts.length c2, .bool A0.asks, .string A0.ask] 97)) fun e w' => ∃ v, e = .returned v ∧ Owns w' (w3.alloc (.cells #[.string A0.house, .slice a2 A0.parts.length c2, .bool A0.asks, .string A0.ask] 97)).heap.size v (leadF A0 (kd, tx)) ∧ Below (w3.alloc (.cells #[.string A0.house, .slice a2 A0.parts.length c2, .bool A0.asks, .string A0.ask] 97)).heap.size (w3.alloc (.cells #[.string A0.house, .slice a2 A0.parts.length c2, .bool A0.asks, .string A0.ask] 97)) w') := leadsTo_any A0 tx kd a2 c2 _ (HM2.out.below HBa.out) (hS3.keep (alloc_keep _ _)) HBK.out HTZ.out HTA.out
           clear hS3 hb3)
        | (go_at_call 128
           refine Calls.mono HLT.out ?_
           rintro e w4 ⟨v4, rfl, hO4, hb4⟩
           obtain ⟨aF, cF, hvF, hSF⟩ := hO4.strs
           subst hvF
           have HB4 : Hid (Below w2.heap.size w2 w4) := HBa.out.trans (hb4.mono HBa.out.size)
           have HSF : Hid (IsStrs w4 aF cF (leadF A0 (kd, tx))) := hSF
           have HT4 : Hid _ := HT2.out.below HB4.out
           have HFN : Hid (∀ b, blk aF = some b → ¬ Ow T0 X2 (vHs GH X2.length c) vS vL2 b) := fun b hb ho => by
             have q1 := (World.ownsRow.lt hO4 b (by rw [own_blk]; exact hb)).1
             have q2 := HT2.out.own.lt b ho
             have q3 := HBa.out.size
             omega
           clear hO4 hb4 hSF))
      have hfl : (leadF A0 (kd, tx)).length ≤ 300 := lead_len A0 (kd, tx)
      obtain ⟨F, hF⟩ : ∃ F, leadF A0 (kd, tx) = F := ⟨_, rfl⟩
      have HF : Hid (leadF A0 (kd, tx) = F) := hF
      rw [hF] at HSF HFZ HLT hfl
      rw [hF]
      clear hF HLT HRA HAG
      obtain ⟨t2, ht2⟩ : ∃ t2 : Tm, ({ t with lk := t.lk ++ [⟨t.now, it.addr, kd⟩], hs := t.hs.set i { hmX x with ready := r2, todo := rest } } : Tm) = t2 := ⟨_, rfl⟩
      have HT2E : Hid (({ t with lk := t.lk ++ [⟨t.now, it.addr, kd⟩], hs := t.hs.set i { hmX x with ready := r2, todo := rest } } : Tm) = t2) := ht2
      have HFE3 : Hid (t2.hs.length ≤ t2.seen.length) := by rw [← ht2]; exact HFE2.out
      rw [ht2] at HOK2 HT4
      clear ht2
      have HSZ : Hid (∀ k, Small ((F.take k).foldl hearT t2)) := fun k => small_of (hears_ok _ HOK2.out) (hears_fewer _ HFE3.out)
      go_loopw [65] (fun i wr => ∃ k : Nat, k ≤ F.length ∧ i = .int .i64 (k : Int) ∧ Hid (TrIs w4 (Ow T0 X2 (vHs GH X2.length c) vS vL2) (Rd X2) B T0 1 ((F.take k).foldl hearT t2) wr ∧ Lo T0 1 w4 wr)) (fun i _ => F.length - (intOf i).toNat)
      case atStart => exact ⟨0, Nat.zero_le _, rfl, ⟨X2, _, _, _, HT4.out.own, Sep.refl, RdK.refl⟩, fun _ _ => rfl⟩
      case round =>
        obtain ⟨k, hk, rfl, HR⟩ := hrel
        by_cases hlt : k < F.length
        · obtain ⟨⟨X', vH', vS', vL', hT', hs', hr'⟩, hlo'⟩ := HR.out
          obtain ⟨b5, o5, e5, hc5⟩ := (strs_sep HSF.out hs' HFN.out).2.2.2 (by intro e; rw [e] at hlt; exact absurd hlt (Nat.not_lt_zero _))
          have hck := hc5 k hlt
          have HTK : Hid ((F.take (k + 1)).foldl hearT t2 = hearT ((F.take k).foldl hearT t2) F[k]) := by
            show _ = _
            rw [List.take_succ_eq_append_getElem hlt, List.foldl_append]; rfl
          have HHC : Hid _ := hear_lo B T0 1 X' vH' vS' vL' _ F[k] wr (Mx_low (HM2.out.below HB4.out) (hs'.low HT4.out.own.low HT4.out.own.hB) hMB) hMB hT' (HSZ.out k) (HFZ.out _ (List.getElem_mem hlt)) trivial
          have HS' : Hid _ := hs'
          have HR' : Hid _ := hr'
          have HL' : Hid _ := hlo'
          have e5' := e5
          subst e5'
          clear hT' hs' hr' hlo' hc5 HR
          generalize F[k] = y at *
          go_wp2_with (go_at_call 34; refine Calls.mono HHC.out ?_; rintro e w5 ⟨rfl, ⟨X5, vH5, vS5, vL5, hT5, hs5, hr5⟩, hlo5⟩; have HT5 : Hid _ := hT5; have HS5 : Hid _ := hs5; have HR5 : Hid _ := hr5; have HL5 : Hid _ := hlo5; clear hT5 hs5 hr5 hlo5)
          go_roundw
          case rel =>
            refine ⟨k + 1, by omega, by go_num, ⟨X5, vH5, vS5, vL5, ?_, HS'.out.trans HS5.out, RdK.trans HR'.out HR5.out HS'.out.size⟩, Lo.trans HL'.out HL5.out⟩
            rw [HTK.out]; exact HT5.out
          case measure => simp [intOf]; omega
        · have hke : k = F.length := by omega
          subst hke
          have HEND : Hid (TrIs w4 (Ow T0 X2 (vHs GH X2.length c) vS vL2) (Rd X2) B T0 1 (F.foldl hearT t2) wr ∧ Lo T0 1 w4 wr) := by
            have := HR.out
            rw [List.take_of_length_le (Nat.le_refl _)] at this; exact this
          go_wp2_with fail
          refine bodyPost_end (results_none rfl _ _ _) rfl ?_
          obtain ⟨⟨X', vH', vS', vL', hT', hs', hr'⟩, hlo'⟩ := HEND.out
          refine ⟨rfl, ?_, (hlo' 0 (by decide)).trans HT4.out.pc⟩
          rw [HFT.out.1, HF.out, HT2E.out]
          exact HOUT.out _ _ ⟨X', vH', vS', vL', hT', HT4.out.sep.trans hs', RdK.trans HT4.out.rd hr' HT4.out.sep.size⟩
  · subst e
    go_wp2_with fail
    clear hw1 j0 j1 k7a f7a i0 i1 k7w
    refine Calls.mono HLA.out ?_
    rintro e w2 ⟨rfl, X2, vL2, q2⟩
    have HT2 : Hid _ := q2
    have p0 : w2.cell? ⟨I, 0, none⟩ = some (.string it.addr) := (HIX.out _ _ _ _ _ q2).cell 0 rfl
    have p1 : w2.cell? ⟨I, 1, none⟩ = some (.int .i64 it.tries) := (HIX.out _ _ _ _ _ q2).cell 1 rfl
    clear q2
    cases hq : decide (kd = 3) && decide (it.tries + 1 < 3) with
    | true =>
      have HAG : Hid (∀ W : World, Calls Tryz.prog 124 #[.int .i64 kd, .int .i64 it.tries] W fun e w' => e = .returned (.bool true) ∧ w' = W) := fun W => by rw [← hq]; exact again_any kd it.tries W HIT.out
      have hq' : kd = 3 ∧ it.tries + 1 < 3 := by simpa using hq
      have HQ : Hid (kd = 3 ∧ it.tries + 1 < 3) := hq'
      have hit := HIT.out
      clear hq'
      clear hq
      go_wp2_with (go_at_call 124; refine (HAG.out _).mono ?_; rintro e w3 ⟨rfl, e3⟩; have e4 := e3.symm; subst e4)
      obtain ⟨i1, hi1, hy0, hy1, hy2⟩ := info_item
      have hwn : IntKind.i64.wrap (it.tries + 1) = it.tries + 1 := IntWalk.i64_in _ (by omega)
      have S2 : w2.drew.cell? ⟨I, 0, none⟩ = some (.string it.addr) ∧ w2.drew.cell? ⟨I, 1, none⟩ = some (.int .i64 it.tries) := ⟨p0, p1⟩
      have k7 := HT2.out.drew.cell (j := 7) rfl (by decide)
      have HTb : Hid (Tw wa (Ow T0 X (vHs GH X.length c) vS vL) (Rd X) B T0 GH c i (.map (some mb)) X2 _ vS vL2 _ (w2.drew.alloc (.cells #[.string it.addr, .int .i64 (it.tries + 1)] 103))) := HT2.out.drew.below ((Below.refl _ _).alloc (Nat.le_refl _) _)
      have S3 : (w2.drew.alloc (.cells #[.string it.addr, .int .i64 (it.tries + 1)] 103)).cell? ⟨I, 0, none⟩ = some (.string it.addr) ∧ (w2.drew.alloc (.cells #[.string it.addr, .int .i64 (it.tries + 1)] 103)).cell? ⟨I, 1, none⟩ = some (.int .i64 it.tries) := ⟨(HIX.out _ _ _ _ _ HTb.out).cell 0 rfl, (HIX.out _ _ _ _ _ HTb.out).cell 1 rfl⟩
      have k7b := HTb.out.cell (j := 7) rfl (by decide)
      have k7c : (w2.alloc (.cells #[.string it.addr, .int .i64 (it.tries + 1)] 103)).cell? ⟨GH, i * 8 + 7, none⟩ = some (.slice _ rest.length _) := (HT2.out.below ((Below.refl _ w2).alloc (Nat.le_refl _) (.cells #[.string it.addr, .int .i64 (it.tries + 1)] 103))).cell (j := 7) rfl (by decide)
      have HNb : Hid (IsRows FIt (w2.drew.alloc (.cells #[.string it.addr, .int .i64 (it.tries + 1)] 103)) (some ⟨w2.drew.heap.size, 0, none⟩) 1 [(⟨it.addr, it.tries + 1⟩ : It)]) := by
        refine ⟨Nat.le_refl _, (show 1 ≤ maxLen by decide), (fun e => by cases e), fun _ => ⟨_, 0, rfl, fun j u hu => ?_⟩⟩
        rw [cell_of_row _ _ (0 + j) _ _ (0, 0) (heap_alloc_new w2.drew (.cells #[.string it.addr, .int .i64 (it.tries + 1)] 103)), Nat.zero_add]
        have hu' : [Value.string it.addr, Value.int .i64 (it.tries + 1)][j]? = some u := hu
        simpa using hu'
      have HQb : Hid _ := HTb.out.house.todo
      refine wp_region_held_drew (S := fun w' => w'.cell? ⟨I, 0, none⟩ = some (.string it.addr) ∧ w'.cell? ⟨I, 1, none⟩ = some (.int .i64 it.tries)) (by kernel_rfl) S2 (fun hHeld => ?_)
      refine wpAnyH_take (i := 0) (oi := ({ dst := some 39, op := Go.Op.move (Go.Operand.tmp 1), type := 105, pos := "l12_trip.go:314", after := #[], guard := none } : Oper)) (v := ?_) rfl (by kernel_rfl) (by kernel_rfl) (by kernel_rfl) (fun _ _ _ h => h) (Or.inl ⟨by rfl, ?_⟩) hHeld ?_
      rotate_left
      · (intro w hSw; (try dsimp only at hSw); go_simp; try with_reducible rfl)
      try simp only [Act.put, List.setIfInBounds_toArray, List.set_cons_zero, List.set_cons_succ]
      refine wpAnyH_take (i := 1) (oi := ({ dst := some 40, op := Go.Op.move (Go.Operand.tmp 1), type := 105, pos := "l12_trip.go:314", after := #[], guard := none } : Oper)) (v := ?_) rfl (by kernel_rfl) (by kernel_rfl) (by kernel_rfl) (fun _ _ _ h => h) (Or.inl ⟨by rfl, ?_⟩) hHeld ?_
      rotate_left
      · (intro w hSw; (try dsimp only at hSw); go_simp; try with_reducible rfl)
      try simp only [Act.put, List.setIfInBounds_toArray, List.set_cons_zero, List.set_cons_succ]
      refine wpAnyH_take (i := 2) (oi := ({ dst := some 41, op := Go.Op.nilCheck (Go.Operand.tmp 40), type := 0, pos := "l12_trip.go:314", after := #[{ on := 1, ground := Go.Ground.data }], guard := none } : Oper)) (v := ?_) rfl (by kernel_rfl) (by kernel_rfl) (by kernel_rfl) (fun _ _ _ h => h) (Or.inl ⟨by rfl, ?_⟩) hHeld ?_
      rotate_left
      · (intro w hSw; (try dsimp only at hSw); go_simp; try with_reducible rfl)
      try simp only [Act.put, List.setIfInBounds_toArray, List.set_cons_zero, List.set_cons_succ]
      refine wpAnyH_take (i := 3) (oi := ({ dst := some 42, op := Go.Op.fieldAddr 38 (Go.Operand.tmp 41) 5, type := 0, pos := "l12_trip.go:314", after := #[{ on := 2, ground := Go.Ground.data }], guard := none } : Oper)) (v := ?_) rfl (by kernel_rfl) (by kernel_rfl) (by kernel_rfl) (fun _ _ _ h => h) (Or.inl ⟨by rfl, ?_⟩) hHeld ?_
      rotate_left
      · (intro w hSw; (try dsimp only at hSw); go_simp; try with_reducible rfl)
      try simp only [Act.put, List.setIfInBounds_toArray, List.set_cons_zero, List.set_cons_succ]
      refine wpAnyH_take (i := 5) (oi := ({ dst := some 44, op := Go.Op.fieldAddr 103 (Go.Operand.tmp 4) 0, type := 0, pos := "l12_trip.go:314", after := #[], guard := none } : Oper)) (v := ?_) rfl (by kernel_rfl) (by kernel_rfl) (by kernel_rfl) (fun _ _ _ h => h) (Or.inl ⟨by rfl, ?_⟩) hHeld ?_
      rotate_left
      · (intro w hSw; (try dsimp only at hSw); go_simp; try with_reducible rfl)
      try simp only [Act.put, List.setIfInBounds_toArray, List.set_cons_zero, List.set_cons_succ]
      refine wpAnyH_take (i := 6) (oi := ({ dst := some 45, op := Go.Op.load 9 (Go.Operand.tmp 44), type := 9, pos := "l12_trip.go:314", after := #[{ on := 5, ground := Go.Ground.data }], guard := none } : Oper)) (v := ?_) rfl (by kernel_rfl) (by kernel_rfl) (by kernel_rfl) (fun _ _ _ h => h) (Or.inl ⟨by rfl, ?_⟩) hHeld ?_
      rotate_left
      · (intro w hSw; (try dsimp only at hSw); go_simp; try with_reducible rfl)
      try simp only [Act.put, List.setIfInBounds_toArray, List.set_cons_zero, List.set_cons_succ]
      refine wpAnyH_take (i := 7) (oi := ({ dst := some 46, op := Go.Op.fieldAddr 103 (Go.Operand.tmp 4) 1, type := 0, pos := "l12_trip.go:314", after := #[], guard := none } : Oper)) (v := ?_) rfl (by kernel_rfl) (by kernel_rfl) (by kernel_rfl) (fun _ _ _ h => h) (Or.inl ⟨by rfl, ?_⟩) hHeld ?_
      rotate_left
      · (intro w hSw; (try dsimp only at hSw); go_simp; try with_reducible rfl)
      try simp only [Act.put, List.setIfInBounds_toArray, List.set_cons_zero, List.set_cons_succ]
      refine wpAnyH_take (i := 8) (oi := ({ dst := some 47, op := Go.Op.load 3 (Go.Operand.tmp 46), type := 3, pos := "l12_trip.go:314", after := #[{ on := 7, ground := Go.Ground.data }], guard := none } : Oper)) (v := ?_) rfl (by kernel_rfl) (by kernel_rfl) (by kernel_rfl) (fun _ _ _ h => h) (Or.inl ⟨by rfl, ?_⟩) hHeld ?_
      rotate_left
      · (intro w hSw; (try dsimp only at hSw); go_simp; try with_reducible rfl)
      try simp only [Act.put, List.setIfInBounds_toArray, List.set_cons_zero, List.set_cons_succ]
      refine wpAnyH_take (i := 9) (oi := ({ dst := some 48, op := Go.Op.binOp Go.BinOp.add 3 (Go.Operand.tmp 47) (Go.Operand.const (Go.Value.int Go.IntKind.i64 1)) 3, type := 3, pos := "l12_trip.go:314", after := #[{ on := 8, ground := Go.Ground.data }], guard := none } : Oper)) (v := ?_) rfl (by kernel_rfl) (by kernel_rfl) (by kernel_rfl) (fun _ _ _ h => h) (Or.inl ⟨by rfl, ?_⟩) hHeld ?_
      rotate_left
      · (intro w hSw; (try dsimp only at hSw); go_simp; try with_reducible rfl)
      try simp only [Act.put, List.setIfInBounds_toArray, List.set_cons_zero, List.set_cons_succ]
      refine wpAnyH_take (i := 10) (oi := ({ dst := some 49, op := Go.Op.build 103 #[(0, Go.Operand.tmp 45), (1, Go.Operand.tmp 48)], type := 103, pos := "l12_trip.go:314", after := #[{ on := 6, ground := Go.Ground.data }, { on := 9, ground := Go.Ground.data }], guard := none } : Oper)) (v := ?_) rfl (by kernel_rfl) (by kernel_rfl) (by kernel_rfl) (fun _ _ _ h => h) (Or.inl ⟨by rfl, ?_⟩) hHeld ?_
      rotate_left
      · (intro w hSw; (try dsimp only at hSw); go_simp; try with_reducible rfl)
      try simp only [Act.put, List.setIfInBounds_toArray, List.set_cons_zero, List.set_cons_succ]
      refine (fun (REST : ?G2) => ?path2) ?rest2
      rotate_right
      case path2 =>
        refine wpAnyH_ready (rs := [4, 11]) (by kernel_rfl) (by simp) ?_
        refine AllReadyH.cons rfl (fun K hK => ?_) (AllReadyH.cons rfl (fun K hK => ?_) AllReadyH.nil)
        · go_simp
          refine hK.out _ _ S2 (fun hHeld => ?_)
          clear hK K
          refine wpAnyH_ready (rs := [11]) (by kernel_rfl) (by simp) ?_
          refine AllReadyH.cons rfl (fun K hK => ?_) AllReadyH.nil
          go_simp
          refine hK.out _ _ S3 (fun hHeld => ?_)
          clear hK K
          exact REST
        · go_simp
          refine hK.out _ _ S3 (fun hHeld => ?_)
          clear hK K
          refine wpAnyH_ready (rs := [4]) (by kernel_rfl) (by simp) ?_
          refine AllReadyH.cons rfl (fun K hK => ?_) AllReadyH.nil
          go_simp
          refine hK.out _ _ S3 (fun hHeld => ?_)
          clear hK K
          exact REST
      case rest2 =>
        obtain ⟨i1, hi1, hy0, hy1, hy2⟩ := info_item
        refine wpAnyH_ready (rs := [12]) (by kernel_rfl) (by simp) ?_
        refine AllReadyH.cons rfl (fun K hK => ?_) AllReadyH.nil
        refine Ts.step_append_qf rfl _ _ 36 103 rfl i1 (.agg #[.string ⟨#[]⟩, .int .i64 0]) 24 Tryz.underlying36 hi1 hy0 hy1 hy2 rfl (by decide) rfl HQb.out rfl HNb.out HTb.out.own.hB (by simp only [List.length_singleton]; omega) ?_
        intro v9 w9 row9 hq9 hg9 hn9
        obtain ⟨a9, c9, hv9⟩ := hq9.form
        subst hv9
        obtain ⟨X9, q9⟩ := HTb.out.todo hg9 hq9 hn9
        dsimp only at q9
        rw [List.set_set] at q9
        obtain ⟨hi2, e2⟩ := HTb.out.lt
        have hrw : X2[i].row = row' := by rw [e2]
        have haI : Ap (some I) row' := fun k e1 e3 => by
          have e4 := Option.some.inj e1
          subst e4
          exact (HTb.out.kept HX0.out.lt HIN.out).2 (Or.inr (Or.inr (Or.inr (Or.inr ⟨_, List.getElem_mem hi2, by rw [hrw]; exact e3⟩))))
        have haG : Ap (some GH) row' := by have := (HTb.out.own.qH _ (List.getElem_mem hi2)).1; rw [hrw] at this; exact this
        have S9 : w9.cell? ⟨I, 0, none⟩ = some (.string it.addr) ∧ w9.cell? ⟨I, 1, none⟩ = some (.int .i64 it.tries) := ⟨cell_ap S3.1 hg9 haI, cell_ap S3.2 hg9 haI⟩
        have k9 := cell_ap k7b hg9 haG
        have f9 : w9.frozen? ⟨GH, i * 8 + 7, none⟩ = false := by
          rw [World.frozen?_of_block (w := w2.drew.alloc (.cells #[.string it.addr, .int .i64 (it.tries + 1)] 103)) (a := ⟨GH, i * 8 + 7, none⟩) (hg9.block GH (St.cell_block k7b) (fun e => haG GH rfl e.symm))]
          exact HTb.out.free _
        obtain ⟨nn, hnn⟩ : ∃ nn, (rest ++ [(⟨it.addr, it.tries + 1⟩ : It)]).length = nn := ⟨_, rfl⟩
        have hnn2 : rest.length + [(⟨it.addr, it.tries + 1⟩ : It)].length = nn := by rw [← hnn, List.length_append]
        dsimp only at hnn q9 k9 ⊢
        rw [hnn] at q9 ⊢
        obtain ⟨wx, hwx⟩ : ∃ wx, w9.setCell ⟨GH, i * 8 + 7, none⟩ (.slice a9 nn c9) = wx := ⟨_, rfl⟩
        rw [hwx] at q9
        have HT9 : Hid _ := q9
        have Sx : wx.cell? ⟨I, 0, none⟩ = some (.string it.addr) ∧ wx.cell? ⟨I, 1, none⟩ = some (.int .i64 it.tries) := ⟨(HIX.out _ _ _ _ _ q9).cell 0 rfl, (HIX.out _ _ _ _ _ q9).cell 1 rfl⟩
        clear q9 hq9 hg9 hn9 hnn hnn2 k7 k7b k7c S2 S3 e2 hrw haI haG
        refine hK.out _ _ S9 (fun hHeld => ?_)
        clear hK K
        refine wpAnyH_take (i := 13) (oi := ({ dst := some 52, op := Go.Op.nilCheck (Go.Operand.tmp 39), type := 0, pos := "l12_trip.go:314", after := #[{ on := 0, ground := Go.Ground.data }, { on := 0, ground := Go.Ground.phase }, { on := 1, ground := Go.Ground.phase }, { on := 2, ground := Go.Ground.phase }, { on := 3, ground := Go.Ground.phase }, { on := 4, ground := Go.Ground.phase }, { on := 5, ground := Go.Ground.phase }, { on := 6, ground := Go.Ground.phase }, { on := 7, ground := Go.Ground.phase }, { on := 8, ground := Go.Ground.phase }, { on := 9, ground := Go.Ground.phase }, { on := 10, ground := Go.Ground.phase }, { on := 11, ground := Go.Ground.phase }, { on := 12, ground := Go.Ground.phase }], guard := none } : Oper)) (v := ?_) rfl (by kernel_rfl) (by kernel_rfl) (by kernel_rfl) (fun _ _ _ h => h) (Or.inl ⟨by rfl, ?_⟩) hHeld ?_
        rotate_left
        · (intro w hSw; (try dsimp only at hSw); go_simp; try with_reducible rfl)
        refine wpAnyH_take (i := 14) (oi := ({ dst := some 53, op := Go.Op.fieldAddr 38 (Go.Operand.tmp 52) 5, type := 0, pos := "l12_trip.go:314", after := #[{ on := 13, ground := Go.Ground.data }, { on := 0, ground := Go.Ground.phase }, { on := 1, ground := Go.Ground.phase }, { on := 2, ground := Go.Ground.phase }, { on := 3, ground := Go.Ground.phase }, { on := 4, ground := Go.Ground.phase }, { on := 5, ground := Go.Ground.phase }, { on := 6, ground := Go.Ground.phase }, { on := 7, ground := Go.Ground.phase }, { on := 8, ground := Go.Ground.phase }, { on := 9, ground := Go.Ground.phase }, { on := 10, ground := Go.Ground.phase }, { on := 11, ground := Go.Ground.phase }, { on := 12, ground := Go.Ground.phase }], guard := none } : Oper)) (v := ?_) rfl (by kernel_rfl) (by kernel_rfl) (by kernel_rfl) (fun _ _ _ h => h) (Or.inl ⟨by rfl, ?_⟩) hHeld ?_
        rotate_left
        · (intro w hSw; (try dsimp only at hSw); go_simp; try with_reducible rfl)
        refine wpAnyH_ready (rs := [15]) (by kernel_rfl) (by simp) ?_
        refine AllReadyH.cons rfl (fun K hK => ?_) AllReadyH.nil
        go_simp
        refine hK.out _ _ Sx (fun hHeld => ?_)
        clear hK K
        refine wpAnyH_done (by kernel_rfl) ?_ _
        clear hwx S9 Sx k9 f9
        go_wp2_with fail
        refine bodyPost_ret (results_none rfl _ _ _) rfl ?_
        refine ⟨rfl, ?_, HT9.out.pc⟩
        refine HOUT.out _ _ ?_
        rw [first_eq1 HTD.out HKD.out HQ.out]
        have e9 : lookH { hmX x with todo := rest } t.now kd it.tries = { hmX x with ready := r2, todo := rest } := HRD.out
        rw [e9]
        exact ⟨_, _, _, _, HT9.out.own, HT9.out.sep, HT9.out.rd⟩
    | false =>
      have HAG : Hid (∀ W : World, Calls Tryz.prog 124 #[.int .i64 kd, .int .i64 it.tries] W fun e w' => e = .returned (.bool false) ∧ w' = W) := fun W => by rw [← hq]; exact again_any kd it.tries W HIT.out
      have hq' : ¬ (kd = 3 ∧ it.tries + 1 < 3) := by simpa using hq
      have HQ : Hid (¬ (kd = 3 ∧ it.tries + 1 < 3)) := hq'
      clear hq'
      clear hq
      have HFT : Hid (firstT L t i (hmX x) = (leadF A0 (kd, tx)).foldl hearT { t with lk := t.lk ++ [⟨t.now, it.addr, kd⟩], hs := t.hs.set i { hmX x with ready := r2, todo := rest } } ∧ firstH L t.now (hmX x) it rest = { hmX x with ready := r2, todo := rest }) := by
        have := first_eq2 (t := t) (i := i) HTD.out HKD.out HQ.out HA0.out
        rw [HRD.out] at this; exact this
      have HOK2 : Hid (TmOk { t with lk := t.lk ++ [⟨t.now, it.addr, kd⟩], hs := t.hs.set i { hmX x with ready := r2, todo := rest } }) := by
        have := HOK.out
        rw [HFT.out.2] at this; exact this
      have HFE2 : Hid ((t.hs.set i { hmX x with ready := r2, todo := rest }).length ≤ t.seen.length) := by show _ ≤ _; rw [List.length_set]; exact HFE.out
      have HM2 : Hid (Mx w2) := (HMX.out _ _ _ _ _ HT2.out).1
      have HBK : Hid (bulkA A0 ≤ 1000) := read_le (norm_some HA0.out).1
      have HTZ : Hid (tx.size ≤ 4194304) := by have := kind_text HZ.out it.addr it.tries; rw [HKD.out] at this; exact this
      have HTA : Hid (kd = 1 → asc tx) := by have := kind_asc HTX.out it.addr it.tries; rw [HKD.out] at this; exact this
      have HFZ : Hid (∀ y ∈ leadF A0 (kd, tx), y.size ≤ 4194304) := fun y hy => by rw [← HKD.out] at hy; exact lead_size HZ.out hy
      have HRA : Hid (Calls Tryz.prog 62 #[.string it.addr] w2 fun e w' => ∃ a1 c1, e = .returned (.tuple #[.agg #[.string A0.house, .slice a1 A0.parts.length c1, .bool A0.asks, .string A0.ask], .bool true]) ∧ IsStrs w' a1 c1 A0.parts ∧ Below w2.heap.size w2 w') := by
        refine (readAddress_any it.addr w2 HM2.out (by have := norm_size HA0.out; omega) trivial).mono ?_
        rintro e w' ⟨A, ok, a1, c1, rfl, hans, hO, hb⟩
        rcases hans with ⟨rfl, h2⟩ | ⟨_, h2, _⟩
        · have h3 : A0 = A := Option.some.inj (HA0.out.symm.trans h2)
          subst h3
          exact ⟨a1, c1, rfl, hO.strsOf, hb⟩
        · rw [HA0.out] at h2; cases h2
      go_wp2_with (first
        | (go_at_call 124
           refine (HAG.out _).mono ?_
           rintro e w3 ⟨rfl, e3⟩
           have e4 := e3.symm
           subst e4)
        | (go_at_call 62
           refine Calls.mono HRA.out ?_
           rintro e w3 ⟨a2, c2, rfl, hS3, hb3⟩
           have HXa : Hid (Bs 97 (w3.alloc (.cells #[.string A0.house, .slice a2 A0.parts.length c2, .bool A0.asks, .string A0.ask] 97)) w3.heap.size #[.string A0.house, .slice a2 A0.parts.length c2, .bool A0.asks, .string A0.ask]) := Bs.new _ _ _
           have y0 := HXa.out.cell 0 rfl
           have y1 := HXa.out.cell 1 rfl
           have y2 := HXa.out.cell 2 rfl
           have y3 := HXa.out.cell 3 rfl
           have HBa : Hid (Below w2.heap.size w2 (w3.alloc (.cells #[.string A0.house, .slice a2 A0.parts.length c2, .bool A0.asks, .string A0.ask] 97))) := hb3.alloc hb3.size _
           have HLT : Hid (Calls Tryz.prog 128 #[.agg #[.string A0.house, .slice a2 A0.parts.length c2, .bool A0.asks, .string A0.ask], .int .i64 kd, .string tx] (w3.alloc (.cells #[.string A0.house, .slice a2 A0.parts.length c2, .bool A0.asks, .string A0.ask] 97)) fun e w' => ∃ v, e = .returned v ∧ Owns w' (w3.alloc (.cells #[.string A0.house, .slice a2 A0.parts.length c2, .bool A0.asks, .string A0.ask] 97)).heap.size v (leadF A0 (kd, tx)) ∧ Below (w3.alloc (.cells #[.string A0.house, .slice a2 A0.parts.length c2, .bool A0.asks, .string A0.ask] 97)).heap.size (w3.alloc (.cells #[.string A0.house, .slice a2 A0.parts.length c2, .bool A0.asks, .string A0.ask] 97)) w') := leadsTo_any A0 tx kd a2 c2 _ (HM2.out.below HBa.out) (hS3.keep (alloc_keep _ _)) HBK.out HTZ.out HTA.out
           clear hS3 hb3)
        | (go_at_call 128
           refine Calls.mono HLT.out ?_
           rintro e w4 ⟨v4, rfl, hO4, hb4⟩
           obtain ⟨aF, cF, hvF, hSF⟩ := hO4.strs
           subst hvF
           have HB4 : Hid (Below w2.heap.size w2 w4) := HBa.out.trans (hb4.mono HBa.out.size)
           have HSF : Hid (IsStrs w4 aF cF (leadF A0 (kd, tx))) := hSF
           have HT4 : Hid _ := HT2.out.below HB4.out
           have HFN : Hid (∀ b, blk aF = some b → ¬ Ow T0 X2 (vHs GH X2.length c) vS vL2 b) := fun b hb ho => by
             have q1 := (World.ownsRow.lt hO4 b (by rw [own_blk]; exact hb)).1
             have q2 := HT2.out.own.lt b ho
             have q3 := HBa.out.size
             omega
           clear hO4 hb4 hSF))
      have hfl : (leadF A0 (kd, tx)).length ≤ 300 := lead_len A0 (kd, tx)
      obtain ⟨F, hF⟩ : ∃ F, leadF A0 (kd, tx) = F := ⟨_, rfl⟩
      have HF : Hid (leadF A0 (kd, tx) = F) := hF
      rw [hF] at HSF HFZ HLT hfl
      rw [hF]
      clear hF HLT HRA HAG
      obtain ⟨t2, ht2⟩ : ∃ t2 : Tm, ({ t with lk := t.lk ++ [⟨t.now, it.addr, kd⟩], hs := t.hs.set i { hmX x with ready := r2, todo := rest } } : Tm) = t2 := ⟨_, rfl⟩
      have HT2E : Hid (({ t with lk := t.lk ++ [⟨t.now, it.addr, kd⟩], hs := t.hs.set i { hmX x with ready := r2, todo := rest } } : Tm) = t2) := ht2
      have HFE3 : Hid (t2.hs.length ≤ t2.seen.length) := by rw [← ht2]; exact HFE2.out
      rw [ht2] at HOK2 HT4
      clear ht2
      have HSZ : Hid (∀ k, Small ((F.take k).foldl hearT t2)) := fun k => small_of (hears_ok _ HOK2.out) (hears_fewer _ HFE3.out)
      go_loopw [65] (fun i wr => ∃ k : Nat, k ≤ F.length ∧ i = .int .i64 (k : Int) ∧ Hid (TrIs w4 (Ow T0 X2 (vHs GH X2.length c) vS vL2) (Rd X2) B T0 1 ((F.take k).foldl hearT t2) wr ∧ Lo T0 1 w4 wr)) (fun i _ => F.length - (intOf i).toNat)
      case atStart => exact ⟨0, Nat.zero_le _, rfl, ⟨X2, _, _, _, HT4.out.own, Sep.refl, RdK.refl⟩, fun _ _ => rfl⟩
      case round =>
        obtain ⟨k, hk, rfl, HR⟩ := hrel
        by_cases hlt : k < F.length
        · obtain ⟨⟨X', vH', vS', vL', hT', hs', hr'⟩, hlo'⟩ := HR.out
          obtain ⟨b5, o5, e5, hc5⟩ := (strs_sep HSF.out hs' HFN.out).2.2.2 (by intro e; rw [e] at hlt; exact absurd hlt (Nat.not_lt_zero _))
          have hck := hc5 k hlt
          have HTK : Hid ((F.take (k + 1)).foldl hearT t2 = hearT ((F.take k).foldl hearT t2) F[k]) := by
            show _ = _
            rw [List.take_succ_eq_append_getElem hlt, List.foldl_append]; rfl
          have HHC : Hid _ := hear_lo B T0 1 X' vH' vS' vL' _ F[k] wr (Mx_low (HM2.out.below HB4.out) (hs'.low HT4.out.own.low HT4.out.own.hB) hMB) hMB hT' (HSZ.out k) (HFZ.out _ (List.getElem_mem hlt)) trivial
          have HS' : Hid _ := hs'
          have HR' : Hid _ := hr'
          have HL' : Hid _ := hlo'
          have e5' := e5
          subst e5'
          clear hT' hs' hr' hlo' hc5 HR
          generalize F[k] = y at *
          go_wp2_with (go_at_call 34; refine Calls.mono HHC.out ?_; rintro e w5 ⟨rfl, ⟨X5, vH5, vS5, vL5, hT5, hs5, hr5⟩, hlo5⟩; have HT5 : Hid _ := hT5; have HS5 : Hid _ := hs5; have HR5 : Hid _ := hr5; have HL5 : Hid _ := hlo5; clear hT5 hs5 hr5 hlo5)
          go_roundw
          case rel =>
            refine ⟨k + 1, by omega, by go_num, ⟨X5, vH5, vS5, vL5, ?_, HS'.out.trans HS5.out, RdK.trans HR'.out HR5.out HS'.out.size⟩, Lo.trans HL'.out HL5.out⟩
            rw [HTK.out]; exact HT5.out
          case measure => simp [intOf]; omega
        · have hke : k = F.length := by omega
          subst hke
          have HEND : Hid (TrIs w4 (Ow T0 X2 (vHs GH X2.length c) vS vL2) (Rd X2) B T0 1 (F.foldl hearT t2) wr ∧ Lo T0 1 w4 wr) := by
            have := HR.out
            rw [List.take_of_length_le (Nat.le_refl _)] at this; exact this
          go_wp2_with fail
          refine bodyPost_end (results_none rfl _ _ _) rfl ?_
          obtain ⟨⟨X', vH', vS', vL', hT', hs', hr'⟩, hlo'⟩ := HEND.out
          refine ⟨rfl, ?_, (hlo' 0 (by decide)).trans HT4.out.pc⟩
          rw [HFT.out.1, HF.out, HT2E.out]
          exact HOUT.out _ _ ⟨X', vH', vS', vL', hT', HT4.out.sep.trans hs', RdK.trans HT4.out.rd hr' HT4.out.sep.size⟩
end Go.Proofs.YtiennniclkbjlaaGreatDoor.Tn
/- Of the program: the next call of a caller. -/
namespace Go.Proofs.YtiennniclkbjlaaGreatDoor.Tn
open Go.RowKit Go.Proofs.YtiennniclkbjlaaGreatDoor.Bk Go.Proofs.YtiennniclkbjlaaGreatDoor.WdN Go.Proofs.YtiennniclkbjlaaGreatDoor.RoPg Go.Proofs.YtiennniclkbjlaaGreatDoor.EscM Go.Proofs.YtiennniclkbjlaaGreatDoor.AddrM Go.Proofs.YtiennniclkbjlaaGreatDoor.ReadM Go.Proofs.YtiennniclkbjlaaGreatDoor.Rd1 Go.Proofs.YtiennniclkbjlaaGreatDoor.Ad1 Go.Proofs.YtiennniclkbjlaaGreatDoor.RuleM Go.Proofs.YtiennniclkbjlaaGreatDoor.St Go.Proofs.YtiennniclkbjlaaGreatDoor.EscL Go.Proofs.YtiennniclkbjlaaGreatDoor.RR Go.Proofs.YtiennniclkbjlaaGreatDoor.LetM Go.Proofs.YtiennniclkbjlaaGreatDoor.GrM Go.Proofs.YtiennniclkbjlaaGreatDoor.RoIt Go.Proofs.YtiennniclkbjlaaGreatDoor.RoLk Go.Proofs.YtiennniclkbjlaaGreatDoor.RoQ Go.Proofs.YtiennniclkbjlaaGreatDoor.Mp Go.Proofs.YtiennniclkbjlaaGreatDoor.WdM Go.Proofs.YtiennniclkbjlaaGreatDoor.Wd Go.Proofs.YtiennniclkbjlaaGreatDoor.TpM Go.Proofs.YtiennniclkbjlaaGreatDoor.TrM Go.Proofs.YtiennniclkbjlaaGreatDoor.TrW Go.Proofs.YtiennniclkbjlaaGreatDoor.Tq Go.Proofs.YtiennniclkbjlaaGreatDoor.PgM Go.Proofs.YtiennniclkbjlaaGreatDoor.PgA Go.Proofs.YtiennniclkbjlaaGreatDoor.MkA Go.Proofs.YtiennniclkbjlaaGreatDoor.Im Go.Proofs.YtiennniclkbjlaaGreatDoor.Nm

/-- how a call ends: with the error of none, the trip as it was; or with the trip behind it -/
def Called (w : World) (O R : Nat → Prop) (B T0 mb : Nat) (L : List Pg) (t : Tm) (ev : Value) (e : Ending) (w' : World) : Prop := match TrM.stepT L t with
  | none => e = .returned ev ∧ Below w.heap.size w w'
  | some t' => e = .returned .nilIface ∧ TrIs w O R B T0 1 t' w' ∧ w'.cell? ⟨T0, 0, none⟩ = some (.map (some mb))
set_option maxRecDepth 100000 in
set_option maxHeartbeats 6400000 in
theorem call_any (B T0 mb : Nat) (X : List Hx) (vH vS vL : Value) (t : Tm) (L : List Pg) (ev : Value) (w : World) (hM : Mx w) (hMB : 2 < B) (hev : w.cell? ⟨0, 0, none⟩ = some ev) (h : TrOwn w B T0 1 X vH vS vL t) (hp : w.cell? ⟨T0, 0, none⟩ = some (.map (some mb))) (hm : IsMap w mb (entsL L)) (hmo : ¬ Ow T0 X vH vS vL mb) (hok : TmOk t) (hfe : t.hs.length ≤ t.seen.length) (hz : PgSz L) (hT : PgTx L) (ht : ∀ p ∈ L, p.text.size ≤ 1000000) :
    Calls Tryz.prog 72 #[.pointer (some ⟨T0, 0, none⟩)] w fun e w' => Called w (Ow T0 X vH vS vL) (Rd X) B T0 mb L t ev e w' := by
  obtain ⟨aH, cH, hvH, hIH⟩ := h.houses.rows
  obtain ⟨aL, cL, hvL, hIL⟩ := h.looks.rows
  rw [List.length_map] at hvH
  subst hvH hvL
  have hXt : X.length = t.hs.length := by rw [← h.hX, List.length_map]
  have hXl : X.length ≤ 60 := by have := hok.sl; omega
  have HT : Hid (TrOwn w B T0 1 X (.slice aH X.length cH) vS (.slice aL t.lk.length cL) t) := h
  have HM : Hid (Mx w) := hM
  have HEV : Hid (w.cell? ⟨0, 0, none⟩ = some ev) := hev
  have HP : Hid (w.cell? ⟨T0, 0, none⟩ = some (.map (some mb))) := hp
  have HMP : Hid (IsMap w mb (entsL L)) := hm
  have HMO : Hid (¬ Ow T0 X (.slice aH X.length cH) vS (.slice aL t.lk.length cL) mb) := hmo
  have HOK : Hid (TmOk t) := hok
  have HFE : Hid (t.hs.length ≤ t.seen.length) := hfe
  have HZ : Hid (PgSz L) := hz
  have HTX : Hid (PgTx L) := hT
  have HTZ : Hid (∀ p ∈ L, p.text.size ≤ 1000000) := ht
  have hlk : t.lk.length ≤ 400 := hok.ll
  have HNC : Hid (Calls Tryz.prog 49 #[.pointer (some ⟨T0, 1, none⟩)] w fun e w' => e = .returned (.tuple #[.int .i64 (plI (nextT t)), .int .i64 (plM (nextT t)), .bool (nextT t).isSome]) ∧ Below w.heap.size w w') := nextCall_any T0 1 aH cH (X.map Hx.h) t.now w hIH (by rw [List.length_map]; exact h.c2) h.c1 (by rw [List.length_map]; omega) t rfl (by rw [List.map_map]; exact h.hX.symm)
  clear h hM hev hp hm hmo hok hfe hz hT ht hIH hIL hXt
  cases hn : nextT t with
  | none =>
    have HE : Hid (TrM.stepT L t = none) := by show _ = _; unfold TrM.stepT; rw [hn]
    rw [hn] at HNC
    clear hn
    go_enter Tryz.func72, Tryz.ntmps72
    go_wp2_with (go_at_call 49; refine Calls.mono HNC.out ?_; rintro e w1 ⟨rfl, hb1⟩; have HB1 : Hid (Below w.heap.size w w1) := hb1; have e1 := (hb1.cell (St.cell_block HEV.out)).trans HEV.out; dsimp only [Option.isSome]; clear hb1)
    go_ret
    unfold Called
    rw [HE.out]
    exact ⟨rfl, HB1.out⟩
  | some im =>
    obtain ⟨i, m⟩ := im
    obtain ⟨hi, hne, hm0, hm5, _⟩ := next_spec hn
    rw [hn] at HNC
    have HNX : Hid (nextT t = some (i, m)) := hn
    dsimp only [plI, plM, Option.isSome] at HNC
    by_cases h4 : 400 ≤ t.lk.length
    · have HE : Hid (TrM.stepT L t = none) := by show _ = _; unfold TrM.stepT; rw [hn]; dsimp only; rw [if_pos h4]
      clear hn hne hm0 hm5
      go_enter Tryz.func72, Tryz.ntmps72
      go_wp2_with (go_at_call 49; refine Calls.mono HNC.out ?_; rintro e w1 ⟨rfl, hb1⟩; have HB1 : Hid (Below w.heap.size w w1) := hb1; have e1 := (hb1.cell (St.cell_block HEV.out)).trans HEV.out; have HT1 : Hid _ := HT.out.below hb1; have c5 := HT1.out.c4; clear hb1)
      go_ret
      unfold Called
      rw [HE.out]
      exact ⟨rfl, HB1.out⟩
    · have hX : X.map hmX = t.hs := HT.out.hX
      have hiX : i < X.length := by rw [← hX, List.length_map] at hi; exact hi
      have hgx : t.hs[i]? = some (hmX X[i]) := by rw [← hX, List.getElem?_map, List.getElem?_eq_getElem hiX]; rfl
      have hge : t.hs[i] = hmX X[i] := by rw [List.getElem?_eq_getElem hi] at hgx; exact Option.some.inj hgx
      obtain ⟨GH, c, hv, _⟩ := HT.out.at_house (by omega)
      injection hv with e1 _ e3
      subst e1 e3
      rw [hge] at hne hm0
      have HXX : Hid (X[i]? = some X[i]) := List.getElem?_eq_getElem hiX
      have HGX : Hid (t.hs[i]? = some (hmX X[i])) := hgx
      have hk0 : HmOk t.name t.seen (hmX X[i]) := HOK.out.hh _ (List.mem_of_getElem? hgx)
      have HK : Hid (HmOk t.name t.seen (hmX X[i])) := hk0
      have hsm := (small_of HOK.out HFE.out).rules _ (List.mem_of_getElem? hgx)
      have HTL : Hid (X[i].h.todo.length ≤ 1000) := hsm.2.2
      have HNE : Hid (X[i].h.todo ≠ []) := hne
      have hnm : t.now ≤ m ∧ m ≤ 5000 := by
        have := HOK.out.nw
        omega
      have HNM : Hid (0 ≤ m ∧ m ≤ 5000 ∧ t.now ≤ m) := by
        have := HOK.out.nw
        show _ ∧ _ ∧ _
        omega
      have HL4 : Hid (t.lk.length < 400) := by show _ < _; omega
      have HE : Hid (TrM.stepT L t = some (if X[i].h.known then firstT L { t with now := m } i (hmX X[i]) else askT L { t with now := m } i (hmX X[i]))) := by
        show _ = _
        unfold TrM.stepT
        rw [hn]
        dsimp only
        rw [if_neg h4, hgx]; rfl
      clear hn hne hm0 hm5 hX hgx hge hk0 hsm hnm
      generalize X[i] = x at *
      go_enter Tryz.func72, Tryz.ntmps72
      go_wp2_with fail
      refine Calls.mono HNC.out ?_
      rintro e w1 ⟨rfl, hb1⟩
      have HB1 : Hid (Below w.heap.size w w1) := hb1
      have HT1 : Hid (TrOwn w1 B T0 1 X (.slice (some ⟨GH, 0, none⟩) X.length cH) vS (.slice aL t.lk.length cL) t) := HT.out.below hb1
      have HP1 : Hid (w1.cell? ⟨T0, 0, none⟩ = some (.map (some mb))) := (hb1.cell (St.cell_block HP.out)).trans HP.out
      have HMP1 : Hid (IsMap w1 mb (entsL L)) := HMP.out.below hb1
      have c1 : w1.cell? ⟨T0, 2, none⟩ = some (.int .i64 t.now) := HT1.out.c1
      have f1 : w1.frozen? ⟨T0, 2, none⟩ = false := HT1.out.fr 1 (by decide)
      have c4 : w1.cell? ⟨T0, 5, none⟩ = some (.slice aL t.lk.length cL) := HT1.out.c4
      have hl4 := HL4.out
      have HT2 : Hid (TrOwn (w1.setCell ⟨T0, 2, none⟩ (.int .i64 m)) B T0 1 X (.slice (some ⟨GH, 0, none⟩) X.length cH) vS (.slice aL t.lk.length cL) { t with now := m }) := HT1.out.now m
      have HP2 : Hid ((w1.setCell ⟨T0, 2, none⟩ (.int .i64 m)).cell? ⟨T0, 0, none⟩ = some (.map (some mb))) := set_other HP1.out (by decide)
      have HMP2 : Hid (IsMap (w1.setCell ⟨T0, 2, none⟩ (.int .i64 m)) mb (entsL L)) := HMP1.out.setCell (fun e => HMO.out (Or.inl (by first | exact e | exact e.symm))) _
      have HS2 : Hid (Sep w (w1.setCell ⟨T0, 2, none⟩ (.int .i64 m)) (Ow T0 X (.slice (some ⟨GH, 0, none⟩) X.length cH) vS (.slice aL t.lk.length cL)) (Ow T0 X (.slice (some ⟨GH, 0, none⟩) X.length cH) vS (.slice aL t.lk.length cL))) := (Sep.below hb1).trans sep_cell
      obtain ⟨w2, hw2⟩ : ∃ w2, w1.setCell ⟨T0, 2, none⟩ (.int .i64 m) = w2 := ⟨_, rfl⟩
      rw [hw2] at HT2 HP2 HMP2 HS2
      have HTW : Hid (Tw w2 (Ow T0 X (vHs GH X.length cH) vS (.slice aL t.lk.length cL)) (Rd X) B T0 GH cH i (.map (some mb)) X x vS (.slice aL t.lk.length cL) { t with now := m } w2) := ⟨HT2.out, HXX.out, Sep.refl, RdK.refl, HP2.out⟩
      have c2 : w2.cell? ⟨T0, 3, none⟩ = some (.slice (some ⟨GH, 0, none⟩) X.length cH) := HT2.out.c2
      have k2 : w2.cell? ⟨GH, i * 8 + 2, none⟩ = some (.bool x.h.known) := HTW.out.cell (j := 2) rfl (by decide)
      have HMx : Hid (Mx (w2.alloc (.cells #[.func (.func 105) #[] #[], .func (.func 106) #[] #[]] 154))) := Mx_low HM.out ((HS2.out.low HT.out.low HT.out.hB).alloc (Nat.le_trans HT.out.hB HS2.out.size) _) hMB
      have HMP3 : Hid (IsMap (w2.alloc (.cells #[.func (.func 105) #[] #[], .func (.func 106) #[] #[]] 154)) mb (entsL L)) := HMP2.out.alloc _
      have HTA : Hid (Tw w2 (Ow T0 X (vHs GH X.length cH) vS (.slice aL t.lk.length cL)) (Rd X) B T0 GH cH i (.map (some mb)) X x vS (.slice aL t.lk.length cL) { t with now := m } (w2.alloc (.cells #[.func (.func 105) #[] #[], .func (.func 106) #[] #[]] 154))) := HTW.out.below ((Below.refl _ w2).alloc (Nat.le_refl _) _)
      have HOUT : Hid (∀ t' w', TrIs w2 (Ow T0 X (vHs GH X.length cH) vS (.slice aL t.lk.length cL)) (Rd X) B T0 1 t' w' → TrIs w (Ow T0 X (.slice (some ⟨GH, 0, none⟩) X.length cH) vS (.slice aL t.lk.length cL)) (Rd X) B T0 1 t' w') := fun t' w' ⟨X', vH', vS', vL', q1, q2, q3⟩ => ⟨X', vH', vS', vL', q1, HS2.out.trans q2, fun k hk hr => q3 k (Nat.lt_of_lt_of_le hk HS2.out.size) hr⟩
      clear hb1 HNC
      cases hkn : x.h.known with
      | false =>
        rw [hkn] at HE k2
        have HASK : Hid (Calls Tryz.prog 105 #[.pointer (some ⟨T0, 0, none⟩), .pointer (some ⟨GH, i * 8, none⟩)] (w2.alloc (.cells #[.func (.func 105) #[] #[], .func (.func 106) #[] #[]] 154)) fun e w' => e = .returned (.tuple #[]) ∧ ∃ X' x' vL', Tw w2 (Ow T0 X (vHs GH X.length cH) vS (.slice aL t.lk.length cL)) (Rd X) B T0 GH cH i (.map (some mb)) X' x' vS vL' (askT L { t with now := m } i (hmX x)) w') := ask_any B T0 GH cH i mb X x vS (.slice aL t.lk.length cL) { t with now := m } L _ HMx.out hMB HTA.out HMP3.out (by dsimp only; omega) HMO.out ⟨HNM.out.1, HNM.out.2.1⟩ HK.out HTZ.out HTL.out
        clear hkn
        go_wp2_with fail
        refine Calls.mono HASK.out ?_
        rintro e w4 ⟨rfl, X4, x4, vL4, h4'⟩
        have HT4 : Hid _ := h4'
        clear h4' hw2
        go_wp2_with fail
        go_ret
        unfold Called
        rw [HE.out]
        exact ⟨rfl, HOUT.out _ _ ⟨_, _, _, _, HT4.out.own, HT4.out.sep, HT4.out.rd⟩, HT4.out.pc⟩
      | true =>
        rw [hkn] at HE k2
        obtain ⟨it, rest, htd⟩ := List.exists_cons_of_ne_nil HNE.out
        obtain ⟨⟨A0, hA0, _⟩, _⟩ := HK.out.td it (by show it ∈ x.h.todo; rw [htd]; exact List.mem_cons_self ..)
        have hfh := first_house (L := L) (t := t) (m := m) HK.out ⟨HNM.out.1, HNM.out.2.1⟩ htd
        have hco := call_ok (a := it.addr) (k := (kindF L it.addr it.tries).1) HOK.out HGX.out ⟨HNM.out.2.2, HNM.out.2.1⟩ HL4.out hfh.1 hfh.2 ⟨A0, hA0⟩ kind_in
        have HFST : Hid (Calls Tryz.prog 106 #[.pointer (some ⟨T0, 0, none⟩), .pointer (some ⟨GH, i * 8, none⟩)] (w2.alloc (.cells #[.func (.func 105) #[] #[], .func (.func 106) #[] #[]] 154)) fun e w' => e = .returned (.tuple #[]) ∧ TrIs w2 (Ow T0 X (vHs GH X.length cH) vS (.slice aL t.lk.length cL)) (Rd X) B T0 1 (firstT L { t with now := m } i (hmX x)) w' ∧ w'.cell? ⟨T0, 0, none⟩ = some (.map (some mb))) := first_any B T0 GH cH i mb X x vS (.slice aL t.lk.length cL) { t with now := m } L it rest _ HMx.out hMB HTA.out HMP3.out (by dsimp only; omega) HMO.out ⟨HNM.out.1, HNM.out.2.1⟩ HK.out htd HTL.out HZ.out HTX.out hco HFE.out
        clear hkn hfh hco hA0 htd
        go_wp2_with fail
        refine Calls.mono HFST.out ?_
        rintro e w4 ⟨rfl, h4', hp4⟩
        have HT4 : Hid _ := h4'
        have HP4 : Hid _ := hp4
        clear h4' hp4 hw2
        go_wp2_with fail
        go_ret
        unfold Called
        rw [HE.out]
        exact ⟨rfl, HOUT.out _ _ HT4.out, HP4.out⟩
end Go.Proofs.YtiennniclkbjlaaGreatDoor.Tn
/- Of the program: rows of structs, copied. -/
namespace Go.Proofs.YtiennniclkbjlaaGreatDoor.Tn
open Go.RowKit Go.Proofs.YtiennniclkbjlaaGreatDoor.EscM Go.Proofs.YtiennniclkbjlaaGreatDoor.AddrM Go.Proofs.YtiennniclkbjlaaGreatDoor.ReadM Go.Proofs.YtiennniclkbjlaaGreatDoor.Rd1 Go.Proofs.YtiennniclkbjlaaGreatDoor.Ad1 Go.Proofs.YtiennniclkbjlaaGreatDoor.RuleM Go.Proofs.YtiennniclkbjlaaGreatDoor.St Go.Proofs.YtiennniclkbjlaaGreatDoor.EscL Go.Proofs.YtiennniclkbjlaaGreatDoor.RR Go.Proofs.YtiennniclkbjlaaGreatDoor.LetM Go.Proofs.YtiennniclkbjlaaGreatDoor.GrM Go.Proofs.YtiennniclkbjlaaGreatDoor.RoIt Go.Proofs.YtiennniclkbjlaaGreatDoor.RoLk Go.Proofs.YtiennniclkbjlaaGreatDoor.RoQ Go.Proofs.YtiennniclkbjlaaGreatDoor.Mp Go.Proofs.YtiennniclkbjlaaGreatDoor.WdM Go.Proofs.YtiennniclkbjlaaGreatDoor.Wd Go.Proofs.YtiennniclkbjlaaGreatDoor.TpM Go.Proofs.YtiennniclkbjlaaGreatDoor.TrM Go.Proofs.YtiennniclkbjlaaGreatDoor.TrW Go.Proofs.YtiennniclkbjlaaGreatDoor.Tq Go.Proofs.YtiennniclkbjlaaGreatDoor.PgA Go.Proofs.YtiennniclkbjlaaGreatDoor.MkA Go.Proofs.YtiennniclkbjlaaGreatDoor.Im Go.Proofs.YtiennniclkbjlaaGreatDoor.Nm

theorem Tryz.infoRuC : (Tryz.prog.info? 135).map (fun i => (i.zero, i.size, i.bytes)) = some (some (.agg #[.bool false, .string ⟨#[]⟩]), 2, 24) := by kernel_rfl
theorem Tryz.infoLkC : (Tryz.prog.info? 57).map (fun i => (i.zero, i.size, i.bytes)) = some (some (.agg #[.int .i64 0, .string ⟨#[]⟩, .int .i64 0]), 3, 32) := by kernel_rfl


set_option maxRecDepth 100000 in
set_option maxHeartbeats 1600000 in
theorem clone_houses (a0 : Option Addr) (cap : Nat) (L : List Hs) (w : World) (hI : IsRows FHs w a0 cap L) (hl : L.length ≤ 4194304) :
    Calls Tryz.prog 102 #[.slice a0 L.length cap] w fun e w' => ∃ v, e = .returned v ∧ OwnsR FHs 38 w' w.heap.size v L ∧ Below w.heap.size w w' := by
  obtain ⟨i0, hi, hz0, hz1, hz2⟩ := info_parts Tryz.infoHs
  cases a0 with
  | none =>
    have h1 := hI.2.2.1 rfl
    have h2 : L.length = 0 := by have := hI.1; omega
    have h3 : L = [] := List.eq_nil_of_length_eq_zero h2
    subst h3
    subst h1
    clear hI h2
    have hnil : ∀ W : World, (binOp BinOp.eql 26 (.slice none 0 0) (.slice none 0 0)).run Tryz.prog W = .ok (.bool true) W := fun _ => by first | rfl | kernel_rfl
    go_enter Tryz.func102, Tryz.ntmps102
    go_wp2
    go_ret
    exact ⟨_, rfl, OwnsR.nil _ _ _ _, Below.refl _ _⟩
  | some ad =>
    have HI : Hid (IsRows FHs w (some ad) cap L) := hI
    have HO : Hid ((w.alloc (.cells #[] 38)).ownsRow w.heap.size 38 8 (.slice (some ⟨w.heap.size, 0, none⟩) 0 0) 0 []) := World.ownsRow_made (base := w.heap.size) (e := 38) (size := 8) w #[] 0 (Nat.le_refl _) (Nat.zero_le _) (by simp)
    clear hI
    have hnil : ∀ W : World, (binOp BinOp.eql 26 (.slice (some ad) L.length cap) (.slice none 0 0)).run Tryz.prog W = .ok (.bool false) W := fun _ => by first | rfl | kernel_rfl
    go_enter Tryz.func102, Tryz.ntmps102
    go_wp2_with (at_builtin; refine St.wpList_app rfl _ _ 26 rfl w.heap.size 38 i0 (.agg #[.string ⟨#[]⟩, .int .i64 0, .bool false, .slice none 0 0, .slice none 0 0, .int .i64 0, .int .i64 0, .slice none 0 0]) 8 120 Tryz.underlying26 hi hz0 hz1 hz2 rfl (by decide) (.slice (some ⟨w.heap.size, 0, none⟩) 0 0) 0 [] rfl HO.out (some ad) L.length cap (FHs.cells L) rfl (fun e => by cases e) (FHs.cells_len _) (HI.out.newsAny (alloc_keep _ _)) (FHs.cells_one _) (by unfold maxLen; omega) (by omega) (by simp) ?_)
    intro v6 w6 ho6 hg6
    have hO6 : OwnsR FHs 38 w6 w.heap.size v6 L := OwnsR.of_row (F := FHs) ho6 (by first | rfl | exact Nat.zero_add _) (by first | rfl | exact List.nil_append _)
    have HO6 : Hid _ := hO6
    have HB6 : Hid (Below w.heap.size w w6) := Below.grown ((Below.refl _ _).alloc (Nat.le_refl _) _) hg6 (by simp) (by intro k hk; simp [Value.ownBlock] at hk; omega)
    obtain ⟨a6, c6, hv6, _⟩ := hO6.rows
    subst hv6
    clear ho6 hg6 hO6
    go_wp2_with fail
    go_ret
    exact ⟨_, rfl, HO6.out, HB6.out⟩



set_option maxRecDepth 100000 in
set_option maxHeartbeats 1600000 in
theorem clone_looks (a0 : Option Addr) (cap : Nat) (L : List Lk) (w : World) (hI : IsRows FLk w a0 cap L) (hl : L.length ≤ 4194304) :
    Calls Tryz.prog 101 #[.slice a0 L.length cap] w fun e w' => ∃ v, e = .returned v ∧ OwnsR FLk 57 w' w.heap.size v L ∧ Below w.heap.size w w' := by
  obtain ⟨i0, hi, hz0, hz1, hz2⟩ := info_parts Tryz.infoLkC
  cases a0 with
  | none =>
    have h1 := hI.2.2.1 rfl
    have h2 : L.length = 0 := by have := hI.1; omega
    have h3 : L = [] := List.eq_nil_of_length_eq_zero h2
    subst h3
    subst h1
    clear hI h2
    have hnil : ∀ W : World, (binOp BinOp.eql 27 (.slice none 0 0) (.slice none 0 0)).run Tryz.prog W = .ok (.bool true) W := fun _ => by first | rfl | kernel_rfl
    go_enter Tryz.func101, Tryz.ntmps101
    go_wp2
    go_ret
    exact ⟨_, rfl, OwnsR.nil _ _ _ _, Below.refl _ _⟩
  | some ad =>
    have HI : Hid (IsRows FLk w (some ad) cap L) := hI
    have HO : Hid ((w.alloc (.cells #[] 57)).ownsRow w.heap.size 57 3 (.slice (some ⟨w.heap.size, 0, none⟩) 0 0) 0 []) := World.ownsRow_made (base := w.heap.size) (e := 57) (size := 3) w #[] 0 (Nat.le_refl _) (Nat.zero_le _) (by simp)
    clear hI
    have hnil : ∀ W : World, (binOp BinOp.eql 27 (.slice (some ad) L.length cap) (.slice none 0 0)).run Tryz.prog W = .ok (.bool false) W := fun _ => by first | rfl | kernel_rfl
    go_enter Tryz.func101, Tryz.ntmps101
    go_wp2_with (at_builtin; refine St.wpList_app rfl _ _ 27 rfl w.heap.size 57 i0 (.agg #[.int .i64 0, .string ⟨#[]⟩, .int .i64 0]) 3 32 Tryz.underlying27 hi hz0 hz1 hz2 rfl (by decide) (.slice (some ⟨w.heap.size, 0, none⟩) 0 0) 0 [] rfl HO.out (some ad) L.length cap (FLk.cells L) rfl (fun e => by cases e) (FLk.cells_len _) (HI.out.newsAny (alloc_keep _ _)) (FLk.cells_one _) (by unfold maxLen; omega) (by omega) (by simp) ?_)
    intro v6 w6 ho6 hg6
    have hO6 : OwnsR FLk 57 w6 w.heap.size v6 L := OwnsR.of_row (F := FLk) ho6 (by first | rfl | exact Nat.zero_add _) (by first | rfl | exact List.nil_append _)
    have HO6 : Hid _ := hO6
    have HB6 : Hid (Below w.heap.size w w6) := Below.grown ((Below.refl _ _).alloc (Nat.le_refl _) _) hg6 (by simp) (by intro k hk; simp [Value.ownBlock] at hk; omega)
    obtain ⟨a6, c6, hv6, _⟩ := hO6.rows
    subst hv6
    clear ho6 hg6 hO6
    go_wp2_with fail
    go_ret
    exact ⟨_, rfl, HO6.out, HB6.out⟩



set_option maxRecDepth 100000 in
set_option maxHeartbeats 1600000 in
theorem clone_rules (a0 : Option Addr) (cap : Nat) (L : List Ru) (w : World) (hI : IsRows FRu w a0 cap L) (hl : L.length ≤ 4194304) :
    Calls Tryz.prog 103 #[.slice a0 L.length cap] w fun e w' => ∃ v, e = .returned v ∧ OwnsR FRu 135 w' w.heap.size v L ∧ Below w.heap.size w w' := by
  obtain ⟨i0, hi, hz0, hz1, hz2⟩ := info_parts Tryz.infoRuC
  cases a0 with
  | none =>
    have h1 := hI.2.2.1 rfl
    have h2 : L.length = 0 := by have := hI.1; omega
    have h3 : L = [] := List.eq_nil_of_length_eq_zero h2
    subst h3
    subst h1
    clear hI h2
    have hnil : ∀ W : World, (binOp BinOp.eql 33 (.slice none 0 0) (.slice none 0 0)).run Tryz.prog W = .ok (.bool true) W := fun _ => by first | rfl | kernel_rfl
    go_enter Tryz.func103, Tryz.ntmps103
    go_wp2
    go_ret
    exact ⟨_, rfl, OwnsR.nil _ _ _ _, Below.refl _ _⟩
  | some ad =>
    have HI : Hid (IsRows FRu w (some ad) cap L) := hI
    have HO : Hid ((w.alloc (.cells #[] 135)).ownsRow w.heap.size 135 2 (.slice (some ⟨w.heap.size, 0, none⟩) 0 0) 0 []) := World.ownsRow_made (base := w.heap.size) (e := 135) (size := 2) w #[] 0 (Nat.le_refl _) (Nat.zero_le _) (by simp)
    clear hI
    have hnil : ∀ W : World, (binOp BinOp.eql 33 (.slice (some ad) L.length cap) (.slice none 0 0)).run Tryz.prog W = .ok (.bool false) W := fun _ => by first | rfl | kernel_rfl
    go_enter Tryz.func103, Tryz.ntmps103
    go_wp2_with (at_builtin; refine St.wpList_app rfl _ _ 33 rfl w.heap.size 135 i0 (.agg #[.bool false, .string ⟨#[]⟩]) 2 24 Tryz.underlying33 hi hz0 hz1 hz2 rfl (by decide) (.slice (some ⟨w.heap.size, 0, none⟩) 0 0) 0 [] rfl HO.out (some ad) L.length cap (FRu.cells L) rfl (fun e => by cases e) (FRu.cells_len _) (HI.out.newsAny (alloc_keep _ _)) (FRu.cells_one _) (by unfold maxLen; omega) (by omega) (by simp) ?_)
    intro v6 w6 ho6 hg6
    have hO6 : OwnsR FRu 135 w6 w.heap.size v6 L := OwnsR.of_row (F := FRu) ho6 (by first | rfl | exact Nat.zero_add _) (by first | rfl | exact List.nil_append _)
    have HO6 : Hid _ := hO6
    have HB6 : Hid (Below w.heap.size w w6) := Below.grown ((Below.refl _ _).alloc (Nat.le_refl _) _) hg6 (by simp) (by intro k hk; simp [Value.ownBlock] at hk; omega)
    obtain ⟨a6, c6, hv6, _⟩ := hO6.rows
    subst hv6
    clear ho6 hg6 hO6
    go_wp2_with fail
    go_ret
    exact ⟨_, rfl, HO6.out, HB6.out⟩



set_option maxRecDepth 100000 in
set_option maxHeartbeats 1600000 in
theorem clone_items (a0 : Option Addr) (cap : Nat) (L : List It) (w : World) (hI : IsRows FIt w a0 cap L) (hl : L.length ≤ 4194304) :
    Calls Tryz.prog 104 #[.slice a0 L.length cap] w fun e w' => ∃ v, e = .returned v ∧ OwnsR FIt 103 w' w.heap.size v L ∧ Below w.heap.size w w' := by
  obtain ⟨i0, hi, hz0, hz1, hz2⟩ := info_parts Tryz.infoItm
  cases a0 with
  | none =>
    have h1 := hI.2.2.1 rfl
    have h2 : L.length = 0 := by have := hI.1; omega
    have h3 : L = [] := List.eq_nil_of_length_eq_zero h2
    subst h3
    subst h1
    clear hI h2
    have hnil : ∀ W : World, (binOp BinOp.eql 36 (.slice none 0 0) (.slice none 0 0)).run Tryz.prog W = .ok (.bool true) W := fun _ => by first | rfl | kernel_rfl
    go_enter Tryz.func104, Tryz.ntmps104
    go_wp2
    go_ret
    exact ⟨_, rfl, OwnsR.nil _ _ _ _, Below.refl _ _⟩
  | some ad =>
    have HI : Hid (IsRows FIt w (some ad) cap L) := hI
    have HO : Hid ((w.alloc (.cells #[] 103)).ownsRow w.heap.size 103 2 (.slice (some ⟨w.heap.size, 0, none⟩) 0 0) 0 []) := World.ownsRow_made (base := w.heap.size) (e := 103) (size := 2) w #[] 0 (Nat.le_refl _) (Nat.zero_le _) (by simp)
    clear hI
    have hnil : ∀ W : World, (binOp BinOp.eql 36 (.slice (some ad) L.length cap) (.slice none 0 0)).run Tryz.prog W = .ok (.bool false) W := fun _ => by first | rfl | kernel_rfl
    go_enter Tryz.func104, Tryz.ntmps104
    go_wp2_with (at_builtin; refine St.wpList_app rfl _ _ 36 rfl w.heap.size 103 i0 (.agg #[.string ⟨#[]⟩, .int .i64 0]) 2 24 Tryz.underlying36 hi hz0 hz1 hz2 rfl (by decide) (.slice (some ⟨w.heap.size, 0, none⟩) 0 0) 0 [] rfl HO.out (some ad) L.length cap (FIt.cells L) rfl (fun e => by cases e) (FIt.cells_len _) (HI.out.newsAny (alloc_keep _ _)) (FIt.cells_one _) (by unfold maxLen; omega) (by omega) (by simp) ?_)
    intro v6 w6 ho6 hg6
    have hO6 : OwnsR FIt 103 w6 w.heap.size v6 L := OwnsR.of_row (F := FIt) ho6 (by first | rfl | exact Nat.zero_add _) (by first | rfl | exact List.nil_append _)
    have HO6 : Hid _ := hO6
    have HB6 : Hid (Below w.heap.size w w6) := Below.grown ((Below.refl _ _).alloc (Nat.le_refl _) _) hg6 (by simp) (by intro k hk; simp [Value.ownBlock] at hk; omega)
    obtain ⟨a6, c6, hv6, _⟩ := hO6.rows
    subst hv6
    clear ho6 hg6 hO6
    go_wp2_with fail
    go_ret
    exact ⟨_, rfl, HO6.out, HB6.out⟩

end Go.Proofs.YtiennniclkbjlaaGreatDoor.Tn
/- A trip is copied: what lies there so far. -/
namespace Go.Proofs.YtiennniclkbjlaaGreatDoor.TrW
open Go.RowKit Go.Proofs.YtiennniclkbjlaaGreatDoor.MkA Go.Proofs.YtiennniclkbjlaaGreatDoor.EscM Go.Proofs.YtiennniclkbjlaaGreatDoor.AddrM Go.Proofs.YtiennniclkbjlaaGreatDoor.ReadM Go.Proofs.YtiennniclkbjlaaGreatDoor.RuleM Go.Proofs.YtiennniclkbjlaaGreatDoor.St Go.Proofs.YtiennniclkbjlaaGreatDoor.RR Go.Proofs.YtiennniclkbjlaaGreatDoor.LetM Go.Proofs.YtiennniclkbjlaaGreatDoor.GrM Go.Proofs.YtiennniclkbjlaaGreatDoor.RoIt Go.Proofs.YtiennniclkbjlaaGreatDoor.RoLk Go.Proofs.YtiennniclkbjlaaGreatDoor.RoQ Go.Proofs.YtiennniclkbjlaaGreatDoor.TpM Go.Proofs.YtiennniclkbjlaaGreatDoor.TrM Go.Proofs.YtiennniclkbjlaaGreatDoor.Tq

/-- it lies from lo on, and below hi -/
def Wi (lo hi : Nat) (v : Option Nat) : Prop := ∀ k, v = some k → lo ≤ k ∧ k < hi
theorem Wi.ap {a b : Option Nat} {lo m m' hi : Nat} (h : Wi lo m a) (h2 : Wi m' hi b) (hm : m ≤ m') : Ap a b := fun k e1 e2 => by
  have q1 := (h k e1).2
  have q2 := (h2 k e2).1
  omega
theorem Wi.up {v : Option Nat} {lo hi hi' : Nat} (h : Wi lo hi v) (hh : hi ≤ hi') : Wi lo hi' v := fun k e => ⟨(h k e).1, Nat.lt_of_lt_of_le (h k e).2 hh⟩
theorem Wi.none {lo hi : Nat} : Wi lo hi none := fun k e => by cases e

/-- X are copied, R are not; all that X holds lies below s0 -/
structure CpI (w : World) (B T0 m1 m2 m3 m4 s0 : Nat) (X : List Hx) (R : List Hs) (vH vS vL : Value) (p : Tp) : Prop where
  c0 : w.cell? ⟨T0, 0, none⟩ = some (.string p.name)
  c1 : w.cell? ⟨T0, 1, none⟩ = some (.int .i64 p.now)
  c2 : w.cell? ⟨T0, 2, none⟩ = some vH
  c3 : w.cell? ⟨T0, 3, none⟩ = some vS
  c4 : w.cell? ⟨T0, 4, none⟩ = some vL
  fr : ∀ j, j < 5 → w.frozen? ⟨T0, 0 + j, none⟩ = false
  hT : B ≤ T0
  h1 : T0 < m1
  ord : m1 ≤ m2 ∧ m2 ≤ m3 ∧ m3 ≤ m4
  h4 : m4 ≤ s0
  h5 : s0 ≤ w.heap.size
  houses : OwnsR FHs 38 w B vH (X.map Hx.h ++ R)
  seen : Owns w B vS p.seen
  looks : OwnsR FLk 57 w B vL p.lk
  each : ∀ x ∈ X, HxAt w B x
  wS : Wi m1 m2 vS.ownBlock
  wL : Wi m2 m3 vL.ownBlock
  wH : Wi m3 m4 vH.ownBlock
  xs : ∀ x ∈ X, Wi m4 s0 x.row ∧ Wi m4 s0 (blk x.h.gr.na) ∧ Wi m4 s0 (blk x.h.gr.ra)
  self : ∀ x ∈ X, Ap x.row (blk x.h.gr.na) ∧ Ap x.row (blk x.h.gr.ra)
  pw : X.Pairwise fun x y => Ap x.row y.row ∧ Ap x.row (blk y.h.gr.na) ∧ Ap x.row (blk y.h.gr.ra) ∧ Ap y.row (blk x.h.gr.na) ∧ Ap y.row (blk x.h.gr.ra)
variable {w w' : World} {B T0 m1 m2 m3 m4 s0 : Nat} {X : List Hx} {R : List Hs} {vH vS vL : Value} {p : Tp} {g g' : Hs}
theorem CpI.T_wi (h : CpI w B T0 m1 m2 m3 m4 s0 X R vH vS vL p) : Wi T0 m1 (some T0) := fun k e => by
  have e' := Option.some.inj e
  subst e'
  exact ⟨Nat.le_refl _, h.h1⟩
theorem CpI.q (h : CpI w B T0 m1 m2 m3 m4 s0 X R vH vS vL p) {lo m : Nat} {v : Option Nat} (hv : Wi lo m v) (hm : m ≤ m4) : Qa v X := fun x hx => ⟨hv.ap (h.xs x hx).1 hm, hv.ap (h.xs x hx).2.1 hm, hv.ap (h.xs x hx).2.2 hm⟩
theorem CpI.T_lt (h : CpI w B T0 m1 m2 m3 m4 s0 X R vH vS vL p) : T0 < w.heap.size := cell_block h.c0
theorem CpI.below (h : CpI w B T0 m1 m2 m3 m4 s0 X R vH vS vL p) (hb : Below w.heap.size w w') : CpI w' B T0 m1 m2 m3 m4 s0 X R vH vS vL p := by
  have hg := grown_of hb
  exact ⟨cell_ap h.c0 hg none_ap.symm, cell_ap h.c1 hg none_ap.symm, cell_ap h.c2 hg none_ap.symm, cell_ap h.c3 hg none_ap.symm, cell_ap h.c4 hg none_ap.symm, fr_ap h.fr h.T_lt hg none_ap.symm, h.hT, h.h1, h.ord, h.h4, Nat.le_trans h.h5 hb.size, ownsR_ap h.houses hg none_ap.symm, owns_ap h.seen hg none_ap.symm, ownsR_ap h.looks hg none_ap.symm, each_grown h.each hg (fun x _ => ⟨none_ap, none_ap, none_ap⟩), h.wS, h.wL, h.wH, h.xs, h.self, h.pw⟩
/-- where the houses lie -/
theorem CpI.at_house (h : CpI w B T0 m1 m2 m3 m4 s0 X R vH vS vL p) (hne : 0 < X.length + R.length) : ∃ GH c, vH = .slice (some ⟨GH, 0, none⟩) (X.length + R.length) c ∧ B ≤ GH ∧ X.length + R.length ≤ c ∧ c ≤ maxLen := by
  obtain ⟨_, ⟨_, hn⟩ | ⟨b, cap, cur, hv, hb, _, h1, h2, _⟩⟩ := h.houses
  · rw [List.length_append, List.length_map] at hn; omega
  · rw [List.length_append, List.length_map] at hv h1
    exact ⟨b, cap, hv, hb, h1, h2⟩
theorem CpI.cell (h : CpI w B T0 m1 m2 m3 m4 s0 X (g :: R) vH vS vL p) {GH n c : Nat} (hv : vH = .slice (some ⟨GH, 0, none⟩) n c) {j : Nat} {u : Value} (hu : (FHs.enc g)[j]? = some u) (hj : j < 8) : w.cell? ⟨GH, X.length * 8 + j, none⟩ = some u := by
  have hlt : X.length < (X.map Hx.h ++ g :: R).length := by simp
  have := World.ownsRow.cells h.houses (g := GH) (by rw [hv]; rfl) (X.length * 8 + j) u (by
    have e := FHs.cells_at (X.map Hx.h ++ g :: R) X.length hlt j hj
    rw [show FHs.k = 8 from rfl] at e
    rw [e]
    have e2 : (X.map Hx.h ++ g :: R)[X.length] = g := by
      rw [List.getElem_append_right (by simp)]; simp
    rw [e2]; exact hu)
  rw [add_mk, Nat.zero_add] at this
  exact this
theorem CpI.free (h : CpI w B T0 m1 m2 m3 m4 s0 X R vH vS vL p) {GH n c : Nat} (hv : vH = .slice (some ⟨GH, 0, none⟩) n c) (j : Nat) : w.frozen? ⟨GH, j, none⟩ = false := by
  obtain ⟨_, ⟨h0, _⟩ | ⟨b, cap, cur, hv2, _, hh, _⟩⟩ := h.houses
  · rw [hv] at h0; cases h0
  · rw [hv] at hv2
    injection hv2 with e1
    injection e1 with e1
    injection e1 with e1
    subst e1
    simp [World.frozen?, hh]
/-- a cell of the one under way is written -/
theorem CpI.set (h : CpI w B T0 m1 m2 m3 m4 s0 X (g :: R) vH vS vL p) {GH n c : Nat} (hv : vH = .slice (some ⟨GH, 0, none⟩) n c) {j : Nat} (hj : j < 8) {y : Value} (he : FHs.enc g' = (FHs.enc g).set j y) : CpI (w.setCell ⟨GH, X.length * 8 + j, none⟩ y) B T0 m1 m2 m3 m4 s0 X (g' :: R) vH vS vL p := by
  have hg := grown_one (w := w) GH (X.length * 8 + j) y
  have hob : vH.ownBlock = some GH := by rw [hv]; rfl
  rw [← hob] at hg
  obtain ⟨o1, o2, o3⟩ := h.ord
  have aT : Ap (some T0) vH.ownBlock := h.T_wi.ap h.wH (by omega)
  have aS : Ap vS.ownBlock vH.ownBlock := h.wS.ap h.wH (by omega)
  have aL : Ap vL.ownBlock vH.ownBlock := h.wL.ap h.wH (by omega)
  refine ⟨cell_ap h.c0 hg aT, cell_ap h.c1 hg aT, cell_ap h.c2 hg aT, cell_ap h.c3 hg aT, cell_ap h.c4 hg aT, fr_ap h.fr h.T_lt hg aT, h.hT, h.h1, h.ord, h.h4, Nat.le_trans h.h5 hg.size, ?_, owns_ap h.seen hg aS, ownsR_ap h.looks hg aL, each_grown h.each hg (h.q h.wH (Nat.le_refl _)), h.wS, h.wL, h.wH, h.xs, h.self, h.pw⟩
  have h1 := h.houses
  have hlen : X.length < (X.map Hx.h ++ g :: R).length := by simp
  have hn : n = (X.map Hx.h ++ g :: R).length := by
    obtain ⟨_, ⟨h0, _⟩ | ⟨b, cap, cur, hv2, _⟩⟩ := h1
    · rw [hv] at h0; cases h0
    · rw [hv] at hv2
      injection hv2
  unfold OwnsR at h1 ⊢
  rw [hv, hn] at h1 ⊢
  have h2 := Dr.own_set (j := X.length * 8 + j) (y := y) h1
  have e := cells_set FHs (X.map Hx.h ++ g :: R) X.length hlen j y g' hj (by
    have e2 : (X.map Hx.h ++ g :: R)[X.length] = g := by
      rw [List.getElem_append_right (by simp)]; simp
    rw [e2]; exact he)
  have e3 : (X.map Hx.h ++ g :: R).set X.length g' = X.map Hx.h ++ g' :: R := by
    rw [List.set_append_right _ _ (by simp)]; simp
  rw [e3] at e
  rw [show FHs.k = 8 from rfl] at e
  rw [← e, show (X.map Hx.h ++ g' :: R).length = (X.map Hx.h ++ g :: R).length by simp]
  exact h2
/-- the one under way is copied -/
theorem CpI.push (h : CpI w B T0 m1 m2 m3 m4 s0 X (g :: R) vH vS vL p) {row : Option Nat} (hx : HxAt w B ⟨g, row⟩) (w1 : Wi s0 w.heap.size row) (w2 : Wi s0 w.heap.size (blk g.gr.na)) (w3 : Wi s0 w.heap.size (blk g.gr.ra)) (a1 : Ap row (blk g.gr.na)) (a2 : Ap row (blk g.gr.ra)) : CpI w B T0 m1 m2 m3 m4 w.heap.size (X ++ [⟨g, row⟩]) R vH vS vL p := by
  have hlo : ∀ {v : Option Nat}, Wi s0 w.heap.size v → Wi m4 w.heap.size v := fun hv k e => ⟨Nat.le_trans h.h4 (hv k e).1, (hv k e).2⟩
  refine ⟨h.c0, h.c1, h.c2, h.c3, h.c4, h.fr, h.hT, h.h1, h.ord, Nat.le_trans h.h4 h.h5, Nat.le_refl _, ?_, h.seen, h.looks, ?_, h.wS, h.wL, h.wH, ?_, ?_, ?_⟩
  · have e : (X ++ [(⟨g, row⟩ : Hx)]).map Hx.h ++ R = X.map Hx.h ++ g :: R := by simp
    rw [e]; exact h.houses
  · intro x hm
    rcases List.mem_append.1 hm with hm | hm
    · exact h.each x hm
    · have e : x = (⟨g, row⟩ : Hx) := by simpa using hm
      subst e; exact hx
  · intro x hm
    rcases List.mem_append.1 hm with hm | hm
    · obtain ⟨q1, q2, q3⟩ := h.xs x hm
      exact ⟨q1.up h.h5, q2.up h.h5, q3.up h.h5⟩
    · have e : x = (⟨g, row⟩ : Hx) := by simpa using hm
      subst e; exact ⟨hlo w1, hlo w2, hlo w3⟩
  · intro x hm
    rcases List.mem_append.1 hm with hm | hm
    · exact h.self x hm
    · have e : x = (⟨g, row⟩ : Hx) := by simpa using hm
      subst e; exact ⟨a1, a2⟩
  · refine List.pairwise_append.2 ⟨h.pw, by simp, fun x hm y hy => ?_⟩
    have e : y = (⟨g, row⟩ : Hx) := by simpa using hy
    subst e
    obtain ⟨q1, q2, q3⟩ := h.xs x hm
    exact ⟨q1.ap w1 (Nat.le_refl _), q1.ap w2 (Nat.le_refl _), q1.ap w3 (Nat.le_refl _), (q2.ap w1 (Nat.le_refl _)).symm, (q3.ap w1 (Nat.le_refl _)).symm⟩
/-- all are copied -/
theorem CpI.done (h : CpI w B T0 m1 m2 m3 m4 s0 X [] vH vS vL p) : TrOwn w B T0 0 X vH vS vL ⟨p.name, p.now, X.map hmX, p.seen, p.lk⟩ := by
  obtain ⟨o1, o2, o3⟩ := h.ord
  have hh := h.houses
  rw [List.append_nil] at hh
  refine ⟨rfl, h.c0, h.c1, h.c2, h.c3, h.c4, h.fr, h.hT, Nat.le_trans h.hT (Nat.le_of_lt h.T_lt), hh, h.seen, h.looks, h.each, h.T_wi.ap h.wH (by omega), h.T_wi.ap h.wS (by omega), h.T_wi.ap h.wL (by omega), (h.wS.ap h.wH (by omega)).symm, (h.wL.ap h.wH (by omega)).symm, h.wS.ap h.wL (by omega), h.q h.T_wi (by omega), h.q h.wH (by omega), h.q h.wS (by omega), h.q h.wL (by omega), h.pw.imp fun hp => hp.1, fun x hx y hy => ?_⟩
  obtain ⟨i, hi, rfl⟩ := List.getElem_of_mem hx
  obtain ⟨j, hj, rfl⟩ := List.getElem_of_mem hy
  rcases Nat.lt_trichotomy i j with hl | hl | hl
  · obtain ⟨_, q2, q3, _, _⟩ := (List.pairwise_iff_getElem.1 h.pw) i j hi hj hl
    exact ⟨q2, q3⟩
  · subst hl
    exact h.self _ hx
  · obtain ⟨_, _, _, q4, q5⟩ := (List.pairwise_iff_getElem.1 h.pw) j i hj hi hl
    exact ⟨q4, q5⟩
end Go.Proofs.YtiennniclkbjlaaGreatDoor.TrW
