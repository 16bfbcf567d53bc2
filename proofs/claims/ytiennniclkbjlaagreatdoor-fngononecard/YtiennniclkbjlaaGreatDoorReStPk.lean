/- Several texts in one: ReSt, ReI, ReL, Tq3, TrMem, TrMem2, Tn1, Tn2, TrSep, Tn3, Tn4, Tn5, Tn6, Tn7, Tn10, TrSep2, Tn12, Tn13, RoQ2, Tn15, TrSep3, TrSep4. -/
import Derived.Test.YtiennniclkbjlaaGreatDoorReQ
import Derived.Test.YtiennniclkbjlaaGreatDoorPgA1Pk
import Derived.Test.YtiennniclkbjlaaGreatDoorRead3Pk
import Derived.Test.YtiennniclkbjlaaGreatDoorReDr
import Derived.Test.YtiennniclkbjlaaGreatDoorRoQ
import Derived.Test.YtiennniclkbjlaaGreatDoorDraw14Pk
import Derived.Deep.RegionHeldLaw
import Derived.Deep.AppendLies
import Derived.Test.YtiennniclkbjlaaGreatDoorTrOncePk
import Derived.Test.YtiennniclkbjlaaGreatDoorJoin1Pk
import Derived.Test.YtiennniclkbjlaaGreatDoorBack1
import Derived.Lib.SliceRun
/- What stands in memory at a round of the program's WorldReach. -/
namespace Go.Proofs.YtiennniclkbjlaaGreatDoor.ReM
open Go.RowKit Go.Proofs.YtiennniclkbjlaaGreatDoor.AddrM Go.Proofs.YtiennniclkbjlaaGreatDoor.St Go.Proofs.YtiennniclkbjlaaGreatDoor.EscL Go.Proofs.YtiennniclkbjlaaGreatDoor.Mp Go.Proofs.YtiennniclkbjlaaGreatDoor.RoPg Go.Proofs.YtiennniclkbjlaaGreatDoor.WdM Go.Proofs.YtiennniclkbjlaaGreatDoor.Wd

structure QSt (w0 wr : World) (B b1 b2 : Nat) (L : List Pg) (M : List (ByteArray × Value)) (o : Value) (out : List ByteArray) (row : Option Nat) (q : Value) (qs : List ByteArray) : Prop where
  pages : IsMap wr b1 (entsL L)
  counts : IsMap wr b2 M
  own : Owns wr B o out
  que : IsQ wr B row q qs
  apart : ∀ k, o.ownBlock = some k → row = some k → False
  below : Below w0.heap.size w0 wr
  l1 : b1 < B
  l2 : b2 < B
  ne : b1 ≠ b2
  g2 : w0.heap.size ≤ b2
  g : w0.heap.size ≤ B
  size : B ≤ wr.heap.size
variable {w0 wr w' : World} {B b1 b2 : Nat} {L : List Pg} {M M' : List (ByteArray × Value)} {o o' : Value} {out out' : List ByteArray} {row row' : Option Nat} {q q' : Value} {qs qs' : List ByteArray}
theorem QSt.on (h : QSt w0 wr B b1 b2 L M o out row q qs) (hb : Below wr.heap.size wr w') : QSt w0 w' B b1 b2 L M o out row q qs :=
  ⟨h.pages.below hb, h.counts.below hb, Owns.below h.own hb, h.que.below hb, h.apart, h.below.trans (hb.mono h.below.size), h.l1, h.l2, h.ne, h.g2, h.g, Nat.le_trans h.size hb.size⟩
theorem QSt.alloc (h : QSt w0 wr B b1 b2 L M o out row q qs) (x : Obj) : QSt w0 (wr.alloc x) B b1 b2 L M o out row q qs := h.on ((Below.refl _ wr).alloc (Nat.le_refl _) x)
/-- a count was stored -/
theorem QSt.store (h : QSt w0 wr B b1 b2 L M o out row q qs) (hm : IsMap w' b2 M') (hg : wr.grownBy w' (some b2)) : QSt w0 w' B b1 b2 L M' o out row q qs := by
  have hl2 := h.l2
  refine ⟨h.pages.grown hg (fun e => h.ne (Option.some.inj e).symm), hm, owns_apart h.own hg (fun k hk e => ?_), h.que.grown hg (fun k hk e => ?_), h.apart, h.below.trans (Dr.grown_any _ hg h.below.size (fun k e => ?_)), h.l1, h.l2, h.ne, h.g2, h.g, Nat.le_trans h.size hg.size⟩
  · have := Owns.block h.own k hk
    have e2 : b2 = k := Option.some.inj e
    omega
  · have := (h.que.lt k hk).1
    have e2 : b2 = k := Option.some.inj e
    omega
  · have e2 : b2 = k := Option.some.inj e
    have := h.g2
    omega
/-- the head was let go by -/
theorem QSt.pop (h : QSt w0 wr B b1 b2 L M o out row q qs) (hq : IsQ wr B row' q' qs') (hr : ∀ k, row' = some k → row = some k) : QSt w0 wr B b1 b2 L M o out row' q' qs' :=
  ⟨h.pages, h.counts, h.own, hq, fun k hk e => h.apart k hk (hr k e), h.below, h.l1, h.l2, h.ne, h.g2, h.g, h.size⟩
/-- what one came to has grown -/
theorem QSt.came (h : QSt w0 wr B b1 b2 L M o out row q qs) (hg : wr.grownBy w' o.ownBlock) (hO : Owns w' B o' out') (hn : o'.ownBlock = o.ownBlock ∨ ∃ g, o'.ownBlock = some g ∧ wr.heap.size ≤ g) : QSt w0 w' B b1 b2 L M o' out' row q qs := by
  have hl1 := h.l1
  have hl2 := h.l2
  have hbk := Owns.block h.own
  refine ⟨h.pages.grown hg (fun e => ?_), h.counts.grown hg (fun e => ?_), hO, h.que.grown hg (fun k hk e => h.apart k e hk), fun k hk e => ?_, h.below.trans (Dr.grown_any _ hg h.below.size (fun k e => ?_)), h.l1, h.l2, h.ne, h.g2, h.g, Nat.le_trans h.size hg.size⟩
  · have := hbk _ e; omega
  · have := hbk _ e; omega
  · rcases hn with e1 | ⟨g, e1, hge⟩
    · rw [e1] at hk; exact h.apart k hk e
    · rw [e1] at hk
      have e2 : g = k := Option.some.inj hk
      have := (h.que.lt k e).2
      omega
  · have := hbk _ e
    have := h.g
    omega
/-- the queue has grown -/
theorem QSt.grow (h : QSt w0 wr B b1 b2 L M o out row q qs) (hg : wr.grownBy w' row) (hq : IsQ w' B row' q' qs') (hn : row' = row ∨ ∃ g, row' = some g ∧ wr.heap.size ≤ g) : QSt w0 w' B b1 b2 L M o out row' q' qs' := by
  have hl1 := h.l1
  have hl2 := h.l2
  have hbk := h.que.lt
  refine ⟨h.pages.grown hg (fun e => ?_), h.counts.grown hg (fun e => ?_), owns_apart h.own hg (fun k hk e => h.apart k hk e), hq, fun k hk e => ?_, h.below.trans (Dr.grown_any _ hg h.below.size (fun k e => ?_)), h.l1, h.l2, h.ne, h.g2, h.g, Nat.le_trans h.size hg.size⟩
  · have := (hbk _ e).1; omega
  · have := (hbk _ e).1; omega
  · rcases hn with e1 | ⟨g, e1, hge⟩
    · rw [e1] at e; exact h.apart k hk e
    · rw [e1] at e
      have e2 : g = k := Option.some.inj e
      have := owns_lt h.own k hk
      omega
  · have := (hbk _ e).1
    have := h.g
    omega
end Go.Proofs.YtiennniclkbjlaaGreatDoor.ReM
/- The program's WorldReach. -/
namespace Go.Proofs.YtiennniclkbjlaaGreatDoor.ReM
open Go.RowKit Go.Proofs.YtiennniclkbjlaaGreatDoor.Im Go.Proofs.YtiennniclkbjlaaGreatDoor.EscM Go.Proofs.YtiennniclkbjlaaGreatDoor.AddrM Go.Proofs.YtiennniclkbjlaaGreatDoor.ReadM Go.Proofs.YtiennniclkbjlaaGreatDoor.St Go.Proofs.YtiennniclkbjlaaGreatDoor.EscL Go.Proofs.YtiennniclkbjlaaGreatDoor.Ad1 Go.Proofs.YtiennniclkbjlaaGreatDoor.Rd1 Go.Proofs.YtiennniclkbjlaaGreatDoor.RuleM Go.Proofs.YtiennniclkbjlaaGreatDoor.RdA Go.Proofs.YtiennniclkbjlaaGreatDoor.MkA Go.Proofs.YtiennniclkbjlaaGreatDoor.Mp Go.Proofs.YtiennniclkbjlaaGreatDoor.WdM Go.Proofs.YtiennniclkbjlaaGreatDoor.Wd Go.Proofs.YtiennniclkbjlaaGreatDoor.WdN Go.Proofs.YtiennniclkbjlaaGreatDoor.RR Go.Proofs.YtiennniclkbjlaaGreatDoor.LetM Go.Proofs.YtiennniclkbjlaaGreatDoor.Nm Go.Proofs.YtiennniclkbjlaaGreatDoor.GrM Go.Proofs.YtiennniclkbjlaaGreatDoor.RoPg Go.Proofs.YtiennniclkbjlaaGreatDoor.PgM Go.Proofs.YtiennniclkbjlaaGreatDoor.PgA

theorem zeroInt (w : World) : (zeroValue 3).run Tryz.prog w = .ok (.int .i64 0) w :=
  (zero_of_info (show (Tryz.prog.info? 3).map (fun i => (i.zero, i.size)) = some (some (.int .i64 0), 1) by kernel_rfl)).1 w

end Go.Proofs.YtiennniclkbjlaaGreatDoor.ReM
/- What the laws of WorldReach share. -/
namespace Go.Proofs.YtiennniclkbjlaaGreatDoor.ReM
open Go.RowKit Go.Proofs.YtiennniclkbjlaaGreatDoor.EscM Go.Proofs.YtiennniclkbjlaaGreatDoor.AddrM Go.Proofs.YtiennniclkbjlaaGreatDoor.St Go.Proofs.YtiennniclkbjlaaGreatDoor.EscL Go.Proofs.YtiennniclkbjlaaGreatDoor.Ad1 Go.Proofs.YtiennniclkbjlaaGreatDoor.Rd1 Go.Proofs.YtiennniclkbjlaaGreatDoor.RuleM Go.Proofs.YtiennniclkbjlaaGreatDoor.RdA Go.Proofs.YtiennniclkbjlaaGreatDoor.MkA Go.Proofs.YtiennniclkbjlaaGreatDoor.Mp Go.Proofs.YtiennniclkbjlaaGreatDoor.WdM Go.Proofs.YtiennniclkbjlaaGreatDoor.Wd Go.Proofs.YtiennniclkbjlaaGreatDoor.WdN Go.Proofs.YtiennniclkbjlaaGreatDoor.RR Go.Proofs.YtiennniclkbjlaaGreatDoor.LetM Go.Proofs.YtiennniclkbjlaaGreatDoor.Nm Go.Proofs.YtiennniclkbjlaaGreatDoor.GrM Go.Proofs.YtiennniclkbjlaaGreatDoor.RoPg Go.Proofs.YtiennniclkbjlaaGreatDoor.PgM Go.Proofs.YtiennniclkbjlaaGreatDoor.PgA

variable {L : List Pg} {name : ByteArray} {S : List ByteArray}
theorem bd_sz (h : Dr.PgsBd L) : PgSz L := fun p hp => by obtain ⟨h1, h2, h3, _⟩ := h p hp; omega
theorem bd_rd (h : Dr.PgsBd L) : PgRd L := fun p hp => by obtain ⟨h1, h2, h3, _, _, h6⟩ := h p hp; exact ⟨by omega, h6⟩
theorem all_asc (L : List Pg) : PgAs L := fun _ _ => ⟨trivial, trivial⟩
theorem all_tx (L : List Pg) : PgTx L := fun _ _ => trivial
theorem nameB_size {s : ByteArray} (h : nameB s = true) : s.size ≤ 8 := by unfold nameB at h; simp at h; omega
theorem reach_uni {x : ByteArray} (h : x ∈ reachW L name S) : x ∈ uR L S := by
  obtain ⟨i, hi, rfl⟩ := List.getElem_of_mem h
  rcases reach_least hi with h | ⟨k, hk, _, h⟩
  · exact List.mem_append_left _ h
  · exact from_uni h
theorem reach_len (L : List Pg) (name : ByteArray) (S : List ByteArray) : (reachW L name S).length ≤ 4000 := by
  cases hr : reachW L name S with
  | nil => exact Nat.zero_le _
  | cons x r =>
    rw [← hr]
    obtain ⟨h1, _, h3, _⟩ := reach_each (L := L) (name := name) (S := S) (x := x) (by rw [hr]; exact List.mem_cons_self ..)
    exact Nat.le_trans (nodup_len (reach_nodup L name S) fun y hy => reach_uni hy) (uni_bd h1 h3)
theorem reach_small (hS : ∀ x ∈ S, x.size ≤ 1000) {x : ByteArray} (h : x ∈ reachW L name S) : x.size ≤ 1000 := by
  rcases List.mem_append.1 (reach_uni h) with h | h
  · exact hS x h
  · obtain ⟨p, _, hp⟩ := List.mem_flatMap.1 h
    obtain ⟨_, _, _, _, h60⟩ := from_each hp
    omega
theorem ok_parts3 {x : ByteArray} (h : okR L name x = true) : nR x = true ∧ ¬ (kindF L x 2).1 = 3 ∧ letsW L name x = true := by
  unfold okR at h
  simp only [Bool.and_eq_true, Bool.not_eq_true', decide_eq_false_iff_not] at h
  exact ⟨h.1.1, h.1.2, h.2⟩
theorem get_two {x : ByteArray} (h : wOk L = true) : getF L x 2 = kindF L x 2 := by unfold getF; rw [h]; rfl
/-- what one comes to is looked at: as the laws ask it -/
theorem reach_looked {x : ByteArray} (h : x ∈ reachW L name S) : nR x = true ∧ ¬ (getF L x 2).1 = 3 ∧ letsW L name x = true := by
  obtain ⟨h1, _, _, h4⟩ := reach_each h
  rw [get_two h1]
  exact ok_parts3 h4
theorem below_drew {b : Nat} {u w : World} (h : Below b u w) (n : Nat) : Below b u (w.drewN n) := h.trans ⟨rfl, rfl, rfl, Nat.le_refl _, fun _ _ => rfl⟩
theorem ok_three {x : ByteArray} (h1 : nR x = true) (h2 : ¬ (kindF L x 2).1 = 3) (h3 : letsW L name x = true) : okR L name x = true := by
  unfold okR
  rw [h1, h3, decide_eq_false h2]; rfl
/-- from what is come to one goes on: as the law asks it -/
theorem reach_goes {x y : ByteArray} (hx : x ∈ reachW L name S) (hy : y ∈ fromW L x) (h1 : letsW L name y = true) (h2 : ¬ (getF L y 2).1 = 3) : hasB y (reachW L name S) = true := by
  obtain ⟨hw, _⟩ := reach_each hx
  rw [get_two hw] at h2
  exact has_mem.2 (reach_on hx hy (ok_three (from_norm hy) h2 h1))
theorem from_small {x y : ByteArray} (h : y ∈ fromW L x) : y.size ≤ 1000 := by
  obtain ⟨_, _, _, _, h60⟩ := from_each h
  omega
/-- nothing is come to but from elsewhere: as the law asks it -/
theorem reach_whence {R : List ByteArray} (hR : reachW L name S = R) {i : Nat} (hi : i < R.length) (hs : hasB R[i] S = false) : ∃ k, ∃ hk : k < R.length, k < i ∧ hasB R[i] (fromW L R[k]) = true := by
  subst hR
  rcases reach_least hi with h | ⟨k, hk, h1, h2⟩
  · rw [has_mem.2 h] at hs; cases hs
  · exact ⟨k, hk, h1, has_mem.2 h2⟩
theorem IsQ.strs {w : World} {base : Nat} {row : Option Nat} {v : Value} {A : List ByteArray} (h : IsQ w base row v A) : ∃ a c, v = .slice a A.length c ∧ IsStrs w a c A := by
  obtain ⟨ao, off, cap, h1, h2, h3, ⟨hc, _⟩ | ⟨b, hc, _, ha, _, hl, _⟩⟩ := h
  · exact ⟨ao, cap, h1, h2, h3, fun _ => hc, fun hn => absurd (List.eq_nil_of_length_eq_zero (by omega)) hn⟩
  · exact ⟨ao, cap, h1, h2, h3, fun e => (by rw [ha] at e; cases e), fun _ => ⟨b, off, ha, hl⟩⟩
end Go.Proofs.YtiennniclkbjlaaGreatDoor.ReM
/- Of the program: that an ok trip is found ok. -/
namespace Go.Proofs.YtiennniclkbjlaaGreatDoor.Tq
open Go.RowKit Go.Proofs.YtiennniclkbjlaaGreatDoor.EscM Go.Proofs.YtiennniclkbjlaaGreatDoor.AddrM Go.Proofs.YtiennniclkbjlaaGreatDoor.ReadM Go.Proofs.YtiennniclkbjlaaGreatDoor.Rd1 Go.Proofs.YtiennniclkbjlaaGreatDoor.Ad1 Go.Proofs.YtiennniclkbjlaaGreatDoor.RuleM Go.Proofs.YtiennniclkbjlaaGreatDoor.St Go.Proofs.YtiennniclkbjlaaGreatDoor.EscL Go.Proofs.YtiennniclkbjlaaGreatDoor.RR Go.Proofs.YtiennniclkbjlaaGreatDoor.LetM Go.Proofs.YtiennniclkbjlaaGreatDoor.GrM Go.Proofs.YtiennniclkbjlaaGreatDoor.RoIt Go.Proofs.YtiennniclkbjlaaGreatDoor.RoLk Go.Proofs.YtiennniclkbjlaaGreatDoor.Mp Go.Proofs.YtiennniclkbjlaaGreatDoor.WdM Go.Proofs.YtiennniclkbjlaaGreatDoor.Wd Go.Proofs.YtiennniclkbjlaaGreatDoor.TpM Go.Proofs.YtiennniclkbjlaaGreatDoor.TrM Go.Proofs.YtiennniclkbjlaaGreatDoor.MkA Go.Proofs.YtiennniclkbjlaaGreatDoor.Im Go.Proofs.YtiennniclkbjlaaGreatDoor.ReM Go.Proofs.YtiennniclkbjlaaGreatDoor.Nm

def tmP (t : Tp) : Tm := ⟨t.name, t.now, t.hs.map hmS, t.seen, t.lk⟩
theorem seen_all {L : List ByteArray} (h1 : ∀ x ∈ L, ∃ A, normA x = some A) (h2 : L.Nodup) : ∀ k, k ≤ L.length → seenTo L k = true := by
  intro k
  induction k with
  | zero => intro _; rfl
  | succ k ih =>
    intro hk
    have hlt : k < L.length := by omega
    rw [seen_step hlt, ih (by omega)]
    obtain ⟨A, hA⟩ := h1 _ (List.getElem_mem hlt)
    have hn : normT L[k] = true := by rw [normT_eq, hA]; rfl
    have hb : hasB L[k] (L.take k) = false := by
      cases hq : hasB L[k] (L.take k) with
      | false => rfl
      | true =>
        exfalso
        obtain ⟨j, hj, e⟩ := List.getElem_of_mem (has_mem.1 hq)
        have hjk : j < k := by simp at hj; omega
        rw [List.getElem_take] at e
        exact (List.pairwise_iff_getElem.1 h2) j k (by omega) hlt hjk e
    rw [hn, hb]; rfl
theorem last_le {L : List Lk} {now : Int} (h : ∀ x ∈ L, 0 ≤ x.time ∧ x.time ≤ now) : ∀ k, k ≤ L.length → 0 ≤ lastT L k := by
  intro k hk
  cases k with
  | zero => exact Int.le_refl _
  | succ k =>
    rw [last_at (by omega)]
    exact (h _ (List.getElem_mem _)).1
theorem look_all {L : List Lk} {now : Int} (h : ∀ x ∈ L, 0 ≤ x.time ∧ x.time ≤ now ∧ (∃ A, normA x.addr = some A) ∧ 0 ≤ x.kind ∧ x.kind ≤ 3) (h2 : L.Pairwise (fun a b => a.time ≤ b.time)) : ∀ k, k ≤ L.length → lookTo now L k = true := by
  intro k
  induction k with
  | zero => intro _; rfl
  | succ k ih =>
    intro hk
    have hlt : k < L.length := by omega
    rw [look_step hlt (ih (by omega)) (last_le (fun x hx => ⟨(h x hx).1, (h x hx).2.1⟩) k (by omega))]
    obtain ⟨q1, q2, ⟨A, hA⟩, q3, q4⟩ := h _ (List.getElem_mem hlt)
    have hn : normT L[k].addr = true := by rw [normT_eq, hA]; rfl
    have hl : lastT L k ≤ L[k].time := by
      cases k with
      | zero => exact q1
      | succ j =>
        rw [last_at (by omega)]
        exact (List.pairwise_iff_getElem.1 h2) j (j + 1) (by omega) hlt (by omega)
    rw [decide_eq_true hl, decide_eq_true q2, hn, decide_eq_true ⟨q3, q4⟩]; rfl

set_option maxRecDepth 100000 in
set_option maxHeartbeats 6400000 in
theorem housesOk_true (T : Nat) (t : Tp) (w : World) (hM : Mx w) (hc0 : w.cell? ⟨T, 0, none⟩ = some (.string t.name)) (hc2 : w.cell? ⟨T, 2, none⟩ = some (.slice t.ha t.hs.length t.hc)) (hc3 : w.cell? ⟨T, 3, none⟩ = some (.slice t.sa t.seen.length t.sc)) (hA : TpAt w t) (hk : TmOk (tmP t)) (hl : t.hs.length ≤ 1000) (hl2 : ∀ h ∈ t.hs, h.todo.length ≤ 1000) :
    Calls Tryz.prog 41 #[.pointer (some ⟨T, 0, none⟩)] w fun e w' => e = .returned (.bool true) ∧ Below w.heap.size w w' := by
  have HM : Hid (Mx w) := hM
  have HA : Hid (TpAt w t) := hA
  have HC0 : Hid (w.cell? ⟨T, 0, none⟩ = some (.string t.name)) := hc0
  have HC2 : Hid (w.cell? ⟨T, 2, none⟩ = some (.slice t.ha t.hs.length t.hc)) := hc2
  have HC3 : Hid (w.cell? ⟨T, 3, none⟩ = some (.slice t.sa t.seen.length t.sc)) := hc3
  have HHS : Hid (∀ h ∈ t.hs, HmOk t.name t.seen (hmS h)) := fun h hh => hk.hh (hmS h) (List.mem_map_of_mem hh)
  have HHN : Hid ((t.hs.map Hs.name).Nodup) := by
    have := hk.hn
    show (t.hs.map Hs.name).Nodup
    have e : (tmP t).hs.map Hm.name = t.hs.map Hs.name := by show (t.hs.map hmS).map Hm.name = _; rw [List.map_map]; rfl
    rw [← e]; exact this
  have HL2 : Hid (∀ h ∈ t.hs, h.todo.length ≤ 1000) := hl2
  have hsl : t.seen.length ≤ 60 := hk.sl
  have hmm : ∀ (n : Int) (W : World), (Instr.makeMap 89 (some (.int .i64 n))).run Tryz.prog W = .ok (.map (some W.heap.size)) (W.alloc (.map #[] 0)) := fun n W => by
    simp [Instr.makeMap, run_underlying Tryz.underlying89, asInt, Result.andThen, newObj]; rfl
  have HB0 : Hid (Below w.heap.size w (w.alloc (.map #[] 0))) := (Below.refl _ w).alloc (Nat.le_refl _) _
  have HM0 : Hid (IsMap (w.alloc (.map #[] 0)) w.heap.size []) := IsMap.new w
  have HCN0 : Hid (Cn [] ((t.hs.take 0).map Hs.name) 0) := cn_new
  have n2 := (HB0.out.cell (St.cell_block HC2.out)).trans HC2.out
  clear hM hA hk hl2 hc3
  go_enter Tryz.func41, Tryz.ntmps41
  go_wp2
  go_loopw [17] (fun i wr => ∃ (k : Nat) (M : List (ByteArray × Value)), k ≤ t.hs.length ∧ i = .int .i64 (k : Int) ∧ Hid (IsMap wr w.heap.size M) ∧ Hid (Cn M ((t.hs.take k).map Hs.name) k) ∧ Hid (Below w.heap.size w wr)) (fun i _ => t.hs.length - (intOf i).toNat)
  case atStart => exact ⟨0, [], Nat.zero_le _, rfl, HM0, HCN0, HB0⟩
  case round =>
    clear n2
    obtain ⟨k, M, hkl, rfl, HIM, HCN, HB⟩ := hrel
    by_cases hlt : k < t.hs.length
    · obtain ⟨hb, ho, e1, _⟩ := hs_at (HA.out.1.below HB.out) hlt
      have hkh := HHS.out _ (List.getElem_mem hlt)
      have HKH : Hid (HmOk t.name t.seen (hmS t.hs[k])) := hkh
      have HHC : Hid (∀ W, Below w.heap.size w W → HsC W hb (ho + k * 8) t.hs[k]) := fun W hW => by
        obtain ⟨b', o', e', hc'⟩ := (HA.out.1.below hW).at hlt
        rw [e1] at e'
        injection e' with e'
        injection e' with q1 q2
        subst q1; subst q2
        intro j u hu
        have := hc' j u hu
        rw [Nat.add_assoc]; exact this
      have HHA : Hid (∀ W, Below w.heap.size w W → HsAt W t.hs[k]) := fun W hW => HA.out.2.1.below hW _ (List.getElem_mem hlt)
      have htl := HL2.out _ (List.getElem_mem hlt)
      have HNX : Hid (t.hs[k].name ∉ (t.hs.take k).map Hs.name) := fun hm => by
        obtain ⟨h', hh', e'⟩ := List.mem_map.1 hm
        obtain ⟨j, hj, rfl⟩ := List.getElem_of_mem hh'
        have hjk : j < k := by simp at hj; omega
        have := (List.pairwise_iff_getElem.1 HHN.out) j k (by simp; omega) (by simpa using hlt) hjk
        simp only [List.getElem_map] at this
        rw [List.getElem_take] at e'
        exact this e'
      have HTN : Hid ((t.hs.take (k + 1)).map Hs.name = PgA.putL ((t.hs.take k).map Hs.name) t.hs[k].name) := by
        show _ = _
        rw [put_out HNX.out, List.take_succ_eq_append_getElem hlt, List.map_append]; rfl
      have e2 := e1
      obtain ⟨n, hgn, hnN, hnew, _⟩ := cn_get HCN.out t.hs[k].name
      have hn0 := hnew HNX.out
      subst hn0
      have HGN : Hid ((getM M t.hs[k].name).getD (.int .i64 0) = .int .i64 0) := hgn
      have HCN1 : Hid (Cn (putM M t.hs[k].name (.int .i64 1)) ((t.hs.take (k + 1)).map Hs.name) (k + 1)) := by
        show Cn _ _ _
        rw [HTN.out]; exact cn_first HCN.out
      have q0 := (HB.out.cell (St.cell_block HC0.out)).trans HC0.out
      have q2 := (HB.out.cell (St.cell_block HC2.out)).trans HC2.out
      have k0 : wr.cell? ⟨hb, ho + k * 8, none⟩ = some (.string t.hs[k].name) := HHC.out wr HB.out 0 _ rfl
      rw [e1] at q2
      rw [e1]
      clear e1 e2 hgn hnN hnew hkh HCN HTN HNX
      generalize t.hs[k] = h at *
      go_wp2_with (first
        | (at_lookup; refine wp_look _ rfl _ _ 89 false rfl 9 3 Tryz.underlying89 Tryz.underlying9 (.int .i64 0) (zeroInt _) w.heap.size M rfl HIM.out h.name rfl (.int .i64 0) HGN.out ?_)
        | (at_mapUpdate
           refine wp_store _ rfl _ _ _ 89 rfl 9 3 Tryz.underlying89 Tryz.underlying9 w.heap.size M rfl HIM.out h.name rfl (.int .i64 1) rfl ?_
           intro w3 hm3 hg3
           have HB3 : Hid (Below w.heap.size w w3) := HB.out.trans (grown_low _ hg3 HB.out.size (fun j e => by cases e; exact Nat.le_refl _))
           have HM3 : Hid (IsMap w3 w.heap.size (putM M h.name (.int .i64 1))) := hm3
           have HG3 : Hid (getM (putM M h.name (.int .i64 1)) h.name = some (.int .i64 1)) := get_put_same _ _ _
           have k3 : w3.cell? ⟨hb, ho + k * 8, none⟩ = some (.string h.name) := HHC.out w3 HB3.out 0 _ rfl
           have r0 := (HB3.out.cell (St.cell_block HC0.out)).trans HC0.out
           clear hm3 hg3 HGN HIM HB k0 q0 q2
           generalize putM M h.name (.int .i64 1) = M1 at *)
        | (at_lookup; refine wp_look _ rfl _ _ 89 false rfl 9 3 Tryz.underlying89 Tryz.underlying9 (.int .i64 0) (zeroInt _) w.heap.size M1 rfl HM3.out h.name rfl (.int .i64 1) (by rw [HG3.out]; rfl) ?_)
        | (go_at_call 67
           refine (houseOk_true hb (ho + k * 8) h t.name t.seen _ (HHC.out _ HB3.out) (HHA.out _ HB3.out).1.1 (HHA.out _ HB3.out).1.2 HKH.out).mono ?_
           rintro e w4 ⟨rfl, hb4⟩
           have HB4 : Hid (Below w.heap.size w w4) := HB3.out.trans (hb4.mono HB3.out.size)
           have HM4 : Hid (IsMap w4 w.heap.size M1) := HM3.out.below hb4
           have s3 := (HB4.out.cell (St.cell_block HC3.out)).trans HC3.out
           clear hb4)
        | (go_at_call 68
           refine (todoOk_true hb (ho + k * 8) h t.sa t.sc t.name t.seen _ (HM.out.below HB4.out) (HHC.out _ HB4.out) (HHA.out _ HB4.out).2 (HA.out.2.2.1.below HB4.out) hsl htl HKH.out).mono ?_
           rintro e w5 ⟨rfl, hb5⟩
           have HB5 : Hid (Below w.heap.size w w5) := HB4.out.trans (hb5.mono HB4.out.size)
           have HM5 : Hid (IsMap w5 w.heap.size M1) := HM4.out.below hb5
           clear hb5))
      go_roundw
      case rel => exact ⟨k + 1, M1, by omega, by go_num, HM5, HCN1, HB5⟩
      case measure => simp [intOf]; omega
    · go_wp2
      go_ret
      exact ⟨rfl, HB.out⟩
set_option maxRecDepth 100000 in
set_option maxHeartbeats 6400000 in
theorem tripOk_true (t : Tp) (w : World) (hM : Mx w) (hA : TpAt w t) (hk : TmOk (tmP t)) (hl : t.hs.length ≤ 1000) (hl2 : ∀ h ∈ t.hs, h.todo.length ≤ 1000) :
    Calls Tryz.prog 13 #[tpV t] w fun e w' => e = .returned (.bool true) ∧ Below w.heap.size w w' := by
  have HM : Hid (Mx w) := hM
  have HA : Hid (TpAt w t) := hA
  have HK : Hid (TmOk (tmP t)) := hk
  have HL2 : Hid (∀ h ∈ t.hs, h.todo.length ≤ 1000) := hl2
  have hsl : t.seen.length ≤ 60 := hk.sl
  have hll : t.lk.length ≤ 400 := hk.ll
  have HSN : Hid ((decide (t.seen.length ≤ 60) && seenTo t.seen t.seen.length) = true) := by show _ = _; rw [decide_eq_true hsl, show seenTo t.seen t.seen.length = true from seen_all hk.sr hk.sn _ (Nat.le_refl _)]; rfl
  have HLK : Hid ((decide (t.lk.length ≤ 400) && lookTo t.now t.lk t.lk.length) = true) := by show _ = _; rw [decide_eq_true hll, show lookTo t.now t.lk t.lk.length = true from look_all hk.lt hk.ls _ (Nat.le_refl _)]; rfl
  have HNM : Hid (nameB t.name = true) := hk.nm
  have hnz : t.name.size ≤ maxLen := by
    have h1 : nameB t.name = true := hk.nm
    unfold nameB at h1; simp at h1; unfold maxLen; omega
  have hnw : 0 ≤ t.now ∧ t.now ≤ 5000 := hk.nw
  have d1 : decide (t.now < 0) = false := decide_eq_false (by omega)
  have d2 : decide ((5000 : Int) < t.now) = false := decide_eq_false (by omega)
  have HSZ : Hid (∀ s ∈ t.seen, s.size ≤ 4194304) := fun s hs => by
    obtain ⟨A, hA⟩ := hk.sr s hs
    have := norm_size hA
    omega
  have HLZ : Hid (∀ s ∈ t.lk, s.addr.size ≤ 4194304) := fun s hs => by
    obtain ⟨_, _, ⟨A, hA⟩, _⟩ := hk.lt s hs
    have := norm_size hA
    omega
  have HX0 : Hid (Bs 29 (w.alloc (.cells #[.string t.name, .int .i64 t.now, .slice t.ha t.hs.length t.hc, .slice t.sa t.seen.length t.sc, .slice t.la t.lk.length t.lc] 29)) w.heap.size #[.string t.name, .int .i64 t.now, .slice t.ha t.hs.length t.hc, .slice t.sa t.seen.length t.sc, .slice t.la t.lk.length t.lc]) := Bs.new _ _ _
  have HB0 : Hid (Below w.heap.size w (w.alloc (.cells #[.string t.name, .int .i64 t.now, .slice t.ha t.hs.length t.hc, .slice t.sa t.seen.length t.sc, .slice t.la t.lk.length t.lc] 29))) := (Below.refl _ w).alloc (Nat.le_refl _) _
  clear hM hA hk hl2
  unfold tpV
  go_enter Tryz.func13, Tryz.ntmps13
  go_wp2_with (first
    | (go_at_call 33; refine (implName_any t.name _ hnz).mono ?_; rintro e w1 ⟨rfl, e2⟩; have e3 := e2.symm; subst e3; rw [HNM.out])
    | (go_at_call 39
       refine (Tp.seenOk_any t.sa t.sc t.seen _ (HM.out.below HB0.out) (HA.out.2.2.1.below HB0.out) HSZ.out (fun _ _ => trivial)).mono ?_
       rintro e w2 ⟨rfl, hb2⟩
       rw [HSN.out]
       have HB2 : Hid (Below w.heap.size w w2) := HB0.out.trans (hb2.mono HB0.out.size)
       have HX2 : Hid (Bs 29 w2 w.heap.size #[.string t.name, .int .i64 t.now, .slice t.ha t.hs.length t.hc, .slice t.sa t.seen.length t.sc, .slice t.la t.lk.length t.lc]) := HX0.out.below hb2
       have c1 := HX2.out.cell 1 rfl
       have c4 := HX2.out.cell 4 rfl
       clear hb2)
    | (go_at_call 40
       refine (Tp.looksOk_any t.la t.lc t.lk t.now _ (HM.out.below HB2.out) (HA.out.2.2.2.below HB2.out) HLZ.out (fun _ _ => trivial)).mono ?_
       rintro e w3 ⟨rfl, hb3⟩
       rw [HLK.out]
       have HB3 : Hid (Below w.heap.size w w3) := HB2.out.trans (hb3.mono HB2.out.size)
       have HX3 : Hid (Bs 29 w3 w.heap.size #[.string t.name, .int .i64 t.now, .slice t.ha t.hs.length t.hc, .slice t.sa t.seen.length t.sc, .slice t.la t.lk.length t.lc]) := HX2.out.below hb3
       clear hb3)
    | (go_at_call 41
       refine (housesOk_true w.heap.size t _ (HM.out.below HB3.out) (HX3.out.cell 0 rfl) (HX3.out.cell 2 rfl) (HX3.out.cell 3 rfl) (HA.out.below HB3.out) HK.out hl HL2.out).mono ?_
       rintro e w4 ⟨rfl, hb4⟩
       have HB4 : Hid (Below w.heap.size w w4) := HB3.out.trans (hb4.mono HB3.out.size)
       clear hb4))
  go_ret
  exact ⟨rfl, HB4.out⟩
end Go.Proofs.YtiennniclkbjlaaGreatDoor.Tq
/- A trip of one's own: where it lies, and what writing into it leaves. -/
namespace Go.Proofs.YtiennniclkbjlaaGreatDoor.TrW
open Go.RowKit Go.Proofs.YtiennniclkbjlaaGreatDoor.EscM Go.Proofs.YtiennniclkbjlaaGreatDoor.AddrM Go.Proofs.YtiennniclkbjlaaGreatDoor.ReadM Go.Proofs.YtiennniclkbjlaaGreatDoor.RuleM Go.Proofs.YtiennniclkbjlaaGreatDoor.St Go.Proofs.YtiennniclkbjlaaGreatDoor.RR Go.Proofs.YtiennniclkbjlaaGreatDoor.LetM Go.Proofs.YtiennniclkbjlaaGreatDoor.GrM Go.Proofs.YtiennniclkbjlaaGreatDoor.RoIt Go.Proofs.YtiennniclkbjlaaGreatDoor.RoLk Go.Proofs.YtiennniclkbjlaaGreatDoor.RoQ Go.Proofs.YtiennniclkbjlaaGreatDoor.TpM Go.Proofs.YtiennniclkbjlaaGreatDoor.TrM Go.Proofs.YtiennniclkbjlaaGreatDoor.Tq

/-- not the same block -/
def Ap (a b : Option Nat) : Prop := ∀ k, a = some k → b = some k → False
theorem Ap.symm {a b : Option Nat} (h : Ap a b) : Ap b a := fun k h1 h2 => h k h2 h1
theorem ap_fresh {a : Option Nat} {n g : Nat} (h : ∀ k, a = some k → k < n) (hg : n ≤ g) : Ap (some g) a := fun k h1 h2 => by
  have := h k h2
  have e : g = k := Option.some.inj h1
  omega
/-- what has grown is apart from what it was apart from -/
theorem ap_new {a b b' : Option Nat} {n : Nat} (h : Ap b a) (ha : ∀ k, a = some k → k < n) (hn : b' = b ∨ ∃ g, b' = some g ∧ n ≤ g) : Ap b' a := by
  rcases hn with rfl | ⟨g, rfl, hg⟩
  · exact h
  · exact ap_fresh ha hg
/-- the block of an address -/
def blk : Option Addr → Option Nat
  | some a => some a.block
  | none => none
theorem own_blk (a : Option Addr) (n c : Nat) : (Value.slice a n c).ownBlock = blk a := by cases a <;> rfl
/-- a house, and the block of what is left there -/
structure Hx where
  h : Hs
  row : Option Nat
def hmX (x : Hx) : Hm := hmS x.h
/-- a house's lists lie there; none of them is written into but what is left -/
structure HxAt (w : World) (B : Nat) (x : Hx) : Prop where
  names : IsStrs w x.h.gr.na x.h.gr.nc x.h.gr.nm
  rules : IsRows FRu w x.h.gr.ra x.h.gr.rc x.h.gr.ru
  todo : IsQF FIt w B x.row (.slice x.h.ta x.h.todo.length x.h.tc) x.h.todo
  nlt : ∀ k, blk x.h.gr.na = some k → k < w.heap.size
  rlt : ∀ k, blk x.h.gr.ra = some k → k < w.heap.size
/-- apart from all lists of houses -/
def Qa (r : Option Nat) (X : List Hx) : Prop := ∀ x ∈ X, Ap r x.row ∧ Ap r (blk x.h.gr.na) ∧ Ap r (blk x.h.gr.ra)
variable {w w' w1 : World} {B T0 o : Nat} {X : List Hx} {vH vS vL : Value} {t : Tm} {r : Option Nat}
theorem HxAt.grown {x : Hx} (h : HxAt w B x) (hg : w.grownBy w' r) (h1 : Ap r x.row) (h2 : Ap r (blk x.h.gr.na)) (h3 : Ap r (blk x.h.gr.ra)) : HxAt w' B x := by
  refine ⟨?_, ?_, h.todo.grown hg (fun k a b => h1 k b a), fun k hk => Nat.lt_of_lt_of_le (h.nlt k hk) hg.size, fun k hk => Nat.lt_of_lt_of_le (h.rlt k hk) hg.size⟩
  · obtain ⟨q1, q2, q3, q4⟩ := h.names
    refine ⟨q1, q2, q3, fun hn => ?_⟩
    obtain ⟨b, off, e, hc⟩ := q4 hn
    refine ⟨b, off, e, fun i hi => ?_⟩
    rw [World.cell?_of_block (w := w) (hg.block _ (cell_block (hc i hi)) (fun e' => h2 b e'.symm (by rw [e]; rfl)))]; exact hc i hi
  · obtain ⟨q1, q2, q3, q4⟩ := h.rules
    refine ⟨q1, q2, q3, fun hn => ?_⟩
    obtain ⟨b, off, e, hc⟩ := q4 hn
    refine ⟨b, off, e, fun j u hu => ?_⟩
    rw [World.cell?_of_block (w := w) (hg.block _ (cell_block (hc j u hu)) (fun e' => h3 b e'.symm (by rw [e]; rfl)))]; exact hc j u hu
theorem none_ap {a : Option Nat} : Ap none a := fun _ e => by cases e
theorem grown_of (hb : Below w.heap.size w w') : w.grownBy w' none := ⟨hb.os, hb.tape, hb.output, hb.size, fun k hk _ => hb.block k hk⟩
theorem each_grown (h : ∀ x ∈ X, HxAt w B x) (hg : w.grownBy w' r) (hq : Qa r X) : ∀ x ∈ X, HxAt w' B x := fun x hx => (h x hx).grown hg (hq x hx).1 (hq x hx).2.1 (hq x hx).2.2
theorem qa_new {b b' : Option Nat} (h : Qa b X) (he : ∀ x ∈ X, HxAt w B x) (hn : b' = b ∨ ∃ g, b' = some g ∧ w.heap.size ≤ g) : Qa b' X := fun x hx =>
  ⟨ap_new (h x hx).1 (fun k hk => ((he x hx).todo.lt k hk).2) hn, ap_new (h x hx).2.1 (he x hx).nlt hn, ap_new (h x hx).2.2 (he x hx).rlt hn⟩

/-- a trip of one's own: its five cells from o on in block T0, its houses, and its lists, each in its own block -/
structure TrOwn (w : World) (B T0 o : Nat) (X : List Hx) (vH vS vL : Value) (t : Tm) : Prop where
  hX : X.map hmX = t.hs
  c0 : w.cell? ⟨T0, o, none⟩ = some (.string t.name)
  c1 : w.cell? ⟨T0, o + 1, none⟩ = some (.int .i64 t.now)
  c2 : w.cell? ⟨T0, o + 2, none⟩ = some vH
  c3 : w.cell? ⟨T0, o + 3, none⟩ = some vS
  c4 : w.cell? ⟨T0, o + 4, none⟩ = some vL
  fr : ∀ j, j < 5 → w.frozen? ⟨T0, o + j, none⟩ = false
  hT : B ≤ T0
  hB : B ≤ w.heap.size
  houses : OwnsR FHs 38 w B vH (X.map Hx.h)
  seen : Owns w B vS t.seen
  looks : OwnsR FLk 57 w B vL t.lk
  each : ∀ x ∈ X, HxAt w B x
  a1 : Ap (some T0) vH.ownBlock
  a2 : Ap (some T0) vS.ownBlock
  a3 : Ap (some T0) vL.ownBlock
  a4 : Ap vH.ownBlock vS.ownBlock
  a5 : Ap vH.ownBlock vL.ownBlock
  a6 : Ap vS.ownBlock vL.ownBlock
  qT : Qa (some T0) X
  qH : Qa vH.ownBlock X
  qS : Qa vS.ownBlock X
  qL : Qa vL.ownBlock X
  pw : X.Pairwise fun x y => Ap x.row y.row
  sx : ∀ x ∈ X, ∀ y ∈ X, Ap x.row (blk y.h.gr.na) ∧ Ap x.row (blk y.h.gr.ra)
theorem cell_ap {T j : Nat} {v : Value} (h : w.cell? ⟨T, j, none⟩ = some v) (hg : w.grownBy w' r) (ha : Ap (some T) r) : w'.cell? ⟨T, j, none⟩ = some v := hg.cell h (fun e => ha T rfl e.symm)
theorem owns_ap {v : Value} {L : List ByteArray} (h : Owns w B v L) (hg : w.grownBy w' r) (ha : Ap v.ownBlock r) : Owns w' B v L := by
  refine World.ownsRow.kept h hg ?_
  cases hv : v.ownBlock with
  | none => exact Or.inl rfl
  | some k => exact Or.inr fun e => ha k hv e.symm
theorem ownsR_ap {α : Type} {F : Frm α} {ty : TypeId} {v : Value} {L : List α} (h : OwnsR F ty w B v L) (hg : w.grownBy w' r) (ha : Ap v.ownBlock r) : OwnsR F ty w' B v L := by
  refine World.ownsRow.kept h hg ?_
  cases hv : v.ownBlock with
  | none => exact Or.inl rfl
  | some k => exact Or.inr fun e => ha k hv e.symm
theorem row_lt {ty : TypeId} {k n : Nat} {v : Value} {xs : List Value} (h : w.ownsRow B ty k v n xs) : ∀ b, v.ownBlock = some b → b < w.heap.size := fun b hb => (h.lt b hb).2
theorem TrOwn.T_lt (h : TrOwn w B T0 o X vH vS vL t) : T0 < w.heap.size := cell_block h.c0
theorem fr_ap (h : ∀ j, j < 5 → w.frozen? ⟨T0, o + j, none⟩ = false) (hl : T0 < w.heap.size) (hg : w.grownBy w' r) (ha : Ap (some T0) r) : ∀ j, j < 5 → w'.frozen? ⟨T0, o + j, none⟩ = false := fun j hj => by
  rw [World.frozen?_of_block (w := w) (a := ⟨T0, o + j, none⟩) (hg.block T0 hl (fun e => ha T0 rfl e.symm))]; exact h j hj
/-- what writes into none of it leaves it -/
theorem TrOwn.below (h : TrOwn w B T0 o X vH vS vL t) (hb : Below w.heap.size w w') : TrOwn w' B T0 o X vH vS vL t := by
  have hg := grown_of hb
  exact ⟨h.hX, cell_ap h.c0 hg none_ap.symm, cell_ap h.c1 hg none_ap.symm, cell_ap h.c2 hg none_ap.symm, cell_ap h.c3 hg none_ap.symm, cell_ap h.c4 hg none_ap.symm, fr_ap h.fr h.T_lt hg none_ap.symm, h.hT, Nat.le_trans h.hB hb.size, ownsR_ap h.houses hg none_ap.symm, owns_ap h.seen hg none_ap.symm, ownsR_ap h.looks hg none_ap.symm, each_grown h.each hg (fun x _ => ⟨none_ap, none_ap, none_ap⟩), h.a1, h.a2, h.a3, h.a4, h.a5, h.a6, h.qT, h.qH, h.qS, h.qL, h.pw, h.sx⟩
theorem TrOwn.alloc (h : TrOwn w B T0 o X vH vS vL t) (x : Obj) : TrOwn (w.alloc x) B T0 o X vH vS vL t := h.below ((Below.refl _ w).alloc (Nat.le_refl _) x)
theorem set_same {T j : Nat} {v u : Value} (h : w.cell? ⟨T, j, none⟩ = some u) : (w.setCell ⟨T, j, none⟩ v).cell? ⟨T, j, none⟩ = some v := World.cell?_setCell_same _ _ _ h
theorem set_other {T j i : Nat} {v u : Value} (h : w.cell? ⟨T, i, none⟩ = some u) (hij : i ≠ j) : (w.setCell ⟨T, j, none⟩ v).cell? ⟨T, i, none⟩ = some u := by
  rw [World.cell?_setCell_other _ _ _ _ (by first | (simp; done) | (simp; omega))]; exact h
theorem frozen_set {a b : Addr} {v : Value} : (w.setCell a v).frozen? b = w.frozen? b := World.frozen?_setCell ..
theorem grown_one (T j : Nat) (v : Value) : w.grownBy (w.setCell ⟨T, j, none⟩ v) (some T) := ⟨rfl, rfl, rfl, by simp [World.setCell], fun k _ hr => Below.heap_setCell _ _ _ _ (fun e => hr (by rw [e]))⟩
theorem below_grown (hg : w.grownBy w' r) (hr : ∀ k, r = some k → B ≤ k) (hB : B ≤ w.heap.size) : Below B w w' := ⟨hg.os, hg.tape, hg.output, hg.size, fun k hk => hg.block k (by omega) (fun e => by have := hr k e.symm; omega)⟩
/-- the time is told -/
theorem TrOwn.now (h : TrOwn w B T0 o X vH vS vL t) (m : Int) : TrOwn (w.setCell ⟨T0, o + 1, none⟩ (.int .i64 m)) B T0 o X vH vS vL { t with now := m } := by
  have hg := grown_one (w := w) T0 (o + 1) (.int .i64 m)
  exact ⟨h.hX, set_other h.c0 (by omega), set_same h.c1, set_other h.c2 (by omega), set_other h.c3 (by omega), set_other h.c4 (by omega), fun j hj => by rw [frozen_set]; exact h.fr j hj, h.hT, Nat.le_trans h.hB hg.size, ownsR_ap h.houses hg h.a1.symm, owns_ap h.seen hg h.a2.symm, ownsR_ap h.looks hg h.a3.symm, each_grown h.each hg h.qT, h.a1, h.a2, h.a3, h.a4, h.a5, h.a6, h.qT, h.qH, h.qS, h.qL, h.pw, h.sx⟩
/-- one more was heard of -/
theorem TrOwn.hear (h : TrOwn w B T0 o X vH vS vL t) {vS' : Value} {L : List ByteArray} (hg : w.grownBy w1 vS.ownBlock) (hO : Owns w1 B vS' L) (hn : vS'.ownBlock = vS.ownBlock ∨ ∃ g, vS'.ownBlock = some g ∧ w.heap.size ≤ g) : TrOwn (w1.setCell ⟨T0, o + 3, none⟩ vS') B T0 o X vH vS' vL { t with seen := L } := by
  have hg2 := grown_one (w := w1) T0 (o + 3) vS'
  have b2 : Ap vS'.ownBlock (some T0) := ap_new h.a2.symm (fun k e => by have := h.T_lt; have := Option.some.inj e; omega) hn
  have b4 : Ap vS'.ownBlock vH.ownBlock := ap_new h.a4.symm (row_lt h.houses) hn
  have b6 : Ap vS'.ownBlock vL.ownBlock := ap_new h.a6 (row_lt h.looks) hn
  exact ⟨h.hX, set_other (cell_ap h.c0 hg h.a2) (by omega), set_other (cell_ap h.c1 hg h.a2) (by omega), set_other (cell_ap h.c2 hg h.a2) (by omega), set_same (cell_ap h.c3 hg h.a2), set_other (cell_ap h.c4 hg h.a2) (by omega), fun j hj => by rw [frozen_set]; exact fr_ap h.fr h.T_lt hg h.a2 j hj, h.hT, Nat.le_trans h.hB (Nat.le_trans hg.size hg2.size),
    ownsR_ap (ownsR_ap h.houses hg h.a4) hg2 h.a1.symm, owns_ap hO hg2 b2, ownsR_ap (ownsR_ap h.looks hg h.a6.symm) hg2 h.a3.symm, each_grown (each_grown h.each hg h.qS) hg2 h.qT, h.a1, b2.symm, h.a3, b4.symm, h.a5, b6, h.qT, h.qH, qa_new h.qS h.each hn, h.qL, h.pw, h.sx⟩
/-- one more call was made -/
theorem TrOwn.look (h : TrOwn w B T0 o X vH vS vL t) {vL' : Value} {L : List Lk} (hg : w.grownBy w1 vL.ownBlock) (hO : OwnsR FLk 57 w1 B vL' L) (hn : vL'.ownBlock = vL.ownBlock ∨ ∃ g, vL'.ownBlock = some g ∧ w.heap.size ≤ g) : TrOwn (w1.setCell ⟨T0, o + 4, none⟩ vL') B T0 o X vH vS vL' { t with lk := L } := by
  have hg2 := grown_one (w := w1) T0 (o + 4) vL'
  have b3 : Ap vL'.ownBlock (some T0) := ap_new h.a3.symm (fun k e => by have := h.T_lt; have := Option.some.inj e; omega) hn
  have b5 : Ap vL'.ownBlock vH.ownBlock := ap_new h.a5.symm (row_lt h.houses) hn
  have b6 : Ap vL'.ownBlock vS.ownBlock := ap_new h.a6.symm (row_lt h.seen) hn
  exact ⟨h.hX, set_other (cell_ap h.c0 hg h.a3) (by omega), set_other (cell_ap h.c1 hg h.a3) (by omega), set_other (cell_ap h.c2 hg h.a3) (by omega), set_other (cell_ap h.c3 hg h.a3) (by omega), set_same (cell_ap h.c4 hg h.a3), fun j hj => by rw [frozen_set]; exact fr_ap h.fr h.T_lt hg h.a3 j hj, h.hT, Nat.le_trans h.hB (Nat.le_trans hg.size hg2.size),
    ownsR_ap (ownsR_ap h.houses hg h.a5) hg2 h.a1.symm, owns_ap (owns_ap h.seen hg h.a6) hg2 h.a2.symm, ownsR_ap hO hg2 b3, each_grown (each_grown h.each hg h.qL) hg2 h.qT, h.a1, h.a2, b3.symm, h.a4, b5.symm, b6.symm, h.qT, h.qH, h.qS, qa_new h.qL h.each hn, h.pw, h.sx⟩
/-- a house more -/
theorem TrOwn.house (h : TrOwn w B T0 o X vH vS vL t) {vH' : Value} {x : Hx} (hg : w.grownBy w1 vH.ownBlock) (hO : OwnsR FHs 38 w1 B vH' ((X ++ [x]).map Hx.h)) (hn : vH'.ownBlock = vH.ownBlock ∨ ∃ g, vH'.ownBlock = some g ∧ w.heap.size ≤ g)
    (hx : HxAt w B x) (hrow : x.row = none) (hxa : ∀ b, (b = some T0 ∨ b = vH.ownBlock ∨ b = vS.ownBlock ∨ b = vL.ownBlock ∨ ∃ y ∈ X, b = y.row) → Ap b (blk x.h.gr.na) ∧ Ap b (blk x.h.gr.ra)) : TrOwn (w1.setCell ⟨T0, o + 2, none⟩ vH') B T0 o (X ++ [x]) vH' vS vL { t with hs := t.hs ++ [hmX x] } := by
  have hg2 := grown_one (w := w1) T0 (o + 2) vH'
  have b1 : Ap vH'.ownBlock (some T0) := ap_new h.a1.symm (fun k e => by have := h.T_lt; have := Option.some.inj e; omega) hn
  have b4 : Ap vH'.ownBlock vS.ownBlock := ap_new h.a4 (row_lt h.seen) hn
  have b5 : Ap vH'.ownBlock vL.ownBlock := ap_new h.a5 (row_lt h.looks) hn
  have hx1 : ∀ b, (b = some T0 ∨ b = vH.ownBlock ∨ b = vS.ownBlock ∨ b = vL.ownBlock ∨ ∃ y ∈ X, b = y.row) → Ap b x.row ∧ Ap b (blk x.h.gr.na) ∧ Ap b (blk x.h.gr.ra) := fun b hb => ⟨by rw [hrow]; exact none_ap.symm, hxa b hb⟩
  have qadd : ∀ {b : Option Nat}, Qa b X → (Ap b x.row ∧ Ap b (blk x.h.gr.na) ∧ Ap b (blk x.h.gr.ra)) → Qa b (X ++ [x]) := fun hq hb y hy => by
    rcases List.mem_append.1 hy with hy | hy
    · exact hq y hy
    · have e : y = x := by simpa using hy
      subst e; exact hb
  have heach : ∀ y ∈ X ++ [x], HxAt w B y := fun y hy => by
    rcases List.mem_append.1 hy with hy | hy
    · exact h.each y hy
    · have e : y = x := by simpa using hy
      subst e; exact hx
  have qH0 : Qa vH.ownBlock (X ++ [x]) := qadd h.qH (hx1 _ (Or.inr (Or.inl rfl)))
  have qT0 : Qa (some T0) (X ++ [x]) := qadd h.qT (hx1 _ (Or.inl rfl))
  refine ⟨by rw [List.map_append, h.hX]; rfl, set_other (cell_ap h.c0 hg h.a1) (by omega), set_other (cell_ap h.c1 hg h.a1) (by omega), set_same (cell_ap h.c2 hg h.a1), set_other (cell_ap h.c3 hg h.a1) (by omega), set_other (cell_ap h.c4 hg h.a1) (by omega), fun j hj => by rw [frozen_set]; exact fr_ap h.fr h.T_lt hg h.a1 j hj, h.hT, Nat.le_trans h.hB (Nat.le_trans hg.size hg2.size),
    ownsR_ap hO hg2 b1, owns_ap (owns_ap h.seen hg h.a4.symm) hg2 h.a2.symm, ownsR_ap (ownsR_ap h.looks hg h.a5.symm) hg2 h.a3.symm, each_grown (each_grown heach hg qH0) hg2 qT0, b1.symm, h.a2, h.a3, b4, b5, h.a6, qT0, qa_new qH0 heach hn, qadd h.qS (hx1 _ (Or.inr (Or.inr (Or.inl rfl)))), qadd h.qL (hx1 _ (Or.inr (Or.inr (Or.inr (Or.inl rfl))))), ?_, fun y hy z hz => ?_⟩
  · refine List.pairwise_append.2 ⟨h.pw, by simp, fun y _ z hz => ?_⟩
    have e : z = x := by simpa using hz
    subst e
    rw [hrow]; exact none_ap.symm
  · rcases List.mem_append.1 hy with hy1 | hy1
    · rcases List.mem_append.1 hz with hz1 | hz1
      · exact h.sx y hy1 z hz1
      · have e : z = x := by simpa using hz1
        rw [e]
        exact hxa _ (Or.inr (Or.inr (Or.inr (Or.inr ⟨y, hy1, rfl⟩))))
    · have e : y = x := by simpa using hy1
      rw [e, hrow]; exact ⟨none_ap, none_ap⟩
end Go.Proofs.YtiennniclkbjlaaGreatDoor.TrW
/- A trip of one's own: writing into one of its houses. -/
namespace Go.Proofs.YtiennniclkbjlaaGreatDoor.TrW
open Go.RowKit Go.Proofs.YtiennniclkbjlaaGreatDoor.EscM Go.Proofs.YtiennniclkbjlaaGreatDoor.AddrM Go.Proofs.YtiennniclkbjlaaGreatDoor.ReadM Go.Proofs.YtiennniclkbjlaaGreatDoor.RuleM Go.Proofs.YtiennniclkbjlaaGreatDoor.St Go.Proofs.YtiennniclkbjlaaGreatDoor.RR Go.Proofs.YtiennniclkbjlaaGreatDoor.LetM Go.Proofs.YtiennniclkbjlaaGreatDoor.GrM Go.Proofs.YtiennniclkbjlaaGreatDoor.RoIt Go.Proofs.YtiennniclkbjlaaGreatDoor.RoLk Go.Proofs.YtiennniclkbjlaaGreatDoor.RoQ Go.Proofs.YtiennniclkbjlaaGreatDoor.TpM Go.Proofs.YtiennniclkbjlaaGreatDoor.TrM Go.Proofs.YtiennniclkbjlaaGreatDoor.Tq

variable {w w' w1 : World} {B T0 o : Nat} {X : List Hx} {vH vS vL : Value} {t : Tm} {r : Option Nat}
theorem cells_set {α : Type} (F : Frm α) : ∀ (L : List α) (i : Nat) (hi : i < L.length) (j : Nat) (y : Value) (a' : α), j < F.k → F.enc a' = (F.enc L[i]).set j y → (F.cells L).set (i * F.k + j) y = F.cells (L.set i a') := by
  intro L
  induction L with
  | nil => intro i hi; exact absurd hi (Nat.not_lt_zero _)
  | cons x r ih =>
    intro i hi j y a' hj he
    have e0 : F.cells (x :: r) = F.enc x ++ F.cells r := rfl
    cases i with
    | zero =>
      rw [Nat.zero_mul, Nat.zero_add, e0, List.set_append_left _ _ (by rw [F.len]; exact hj), List.set_cons_zero]
      show _ = F.enc a' ++ F.cells r
      rw [he]; rfl
    | succ i =>
      rw [e0, List.set_append_right _ _ (by rw [F.len, Nat.succ_mul]; omega), List.set_cons_succ]
      show _ = F.enc x ++ F.cells (r.set i a')
      rw [F.len, show (i + 1) * F.k + j - F.k = i * F.k + j by rw [Nat.succ_mul]; omega]
      rw [ih i (by simpa using hi) j y a' hj he]
/-- where the houses lie, if there are any -/
theorem TrOwn.at_house (h : TrOwn w B T0 o X vH vS vL t) (hne : 0 < X.length) : ∃ GH c, vH = .slice (some ⟨GH, 0, none⟩) X.length c ∧ X.length ≤ c ∧ c ≤ maxLen ∧ vH.ownBlock = some GH ∧ B ≤ GH := by
  obtain ⟨_, ⟨_, hn⟩ | ⟨g, cap, cur, hv, hb, _, h1, h2, _⟩⟩ := h.houses
  · rw [List.length_map] at hn; omega
  · rw [List.length_map] at hv h1
    exact ⟨g, cap, hv, h1, h2, by rw [hv]; rfl, hb⟩
theorem TrOwn.cell (h : TrOwn w B T0 o X vH vS vL t) {GH c : Nat} (hv : vH = .slice (some ⟨GH, 0, none⟩) X.length c) {i : Nat} (hi : i < X.length) {j : Nat} {u : Value} (hu : (FHs.enc X[i].h)[j]? = some u) (hj : j < 8) : w.cell? ⟨GH, i * 8 + j, none⟩ = some u := by
  have := World.ownsRow.cells h.houses (g := GH) (by rw [hv]; rfl) (i * 8 + j) u (by
    have e := FHs.cells_at (X.map Hx.h) i (by simpa using hi) j hj
    rw [show FHs.k = 8 from rfl] at e
    rw [e]
    simpa using hu)
  rw [add_mk, Nat.zero_add] at this
  exact this
theorem TrOwn.free (h : TrOwn w B T0 o X vH vS vL t) {GH c : Nat} (hv : vH = .slice (some ⟨GH, 0, none⟩) X.length c) (j : Nat) : w.frozen? ⟨GH, j, none⟩ = false := by
  obtain ⟨_, ⟨h0, _⟩ | ⟨g, cap, cur, hv2, _, hh, _⟩⟩ := h.houses
  · rw [hv] at h0; cases h0
  · rw [hv] at hv2
    injection hv2 with e1
    injection e1 with e1
    injection e1 with e1
    subst e1
    simp [World.frozen?, hh]
theorem qa_set {b : Option Nat} {i : Nat} {x' : Hx} (h : Qa b X) (hx : Ap b x'.row ∧ Ap b (blk x'.h.gr.na) ∧ Ap b (blk x'.h.gr.ra)) : Qa b (X.set i x') := fun y hy => by
  rcases List.mem_or_eq_of_mem_set hy with hy | hy
  · exact h y hy
  · rw [hy]; exact hx
theorem rows_other (h : TrOwn w B T0 o X vH vS vL t) {i j : Nat} (hi : i < X.length) (hj : j < X.length) (hij : i ≠ j) : Ap X[i].row X[j].row := by
  rcases Nat.lt_or_gt_of_ne hij with hlt | hlt
  · exact (List.pairwise_iff_getElem.1 h.pw) i j hi hj hlt
  · exact ((List.pairwise_iff_getElem.1 h.pw) j i hj hi hlt).symm
/-- a cell of a house is written; its lists stay where they are -/
theorem TrOwn.setH (h : TrOwn w B T0 o X vH vS vL t) {GH c : Nat} (hv : vH = .slice (some ⟨GH, 0, none⟩) X.length c) {i : Nat} (hi : i < X.length) {j : Nat} (hj : j < 8) {y : Value} {x' : Hx} (he : FHs.enc x'.h = (FHs.enc X[i].h).set j y)
    (hx : HxAt w B x') (hr : ∀ k, x'.row = some k → X[i].row = some k) (hna : blk x'.h.gr.na = blk X[i].h.gr.na) (hra : blk x'.h.gr.ra = blk X[i].h.gr.ra) :
    TrOwn (w.setCell ⟨GH, i * 8 + j, none⟩ y) B T0 o (X.set i x') vH vS vL { t with hs := t.hs.set i (hmX x') } := by
  have hg := grown_one (w := w) GH (i * 8 + j) y
  have hob : vH.ownBlock = some GH := by rw [hv]; rfl
  rw [← hob] at hg
  have hxi := List.getElem_mem hi
  have hlow : ∀ {b : Option Nat}, Ap b X[i].row → Ap b x'.row := fun hb k h1 h2 => hb k h1 (hr k h2)
  have hq : ∀ {b : Option Nat}, Qa b X → Qa b (X.set i x') := fun hb => qa_set hb ⟨hlow (hb _ hxi).1, by rw [hna]; exact (hb _ hxi).2.1, by rw [hra]; exact (hb _ hxi).2.2⟩
  have heach : ∀ z ∈ X.set i x', HxAt w B z := fun z hz => by
    rcases List.mem_or_eq_of_mem_set hz with hz | hz
    · exact h.each z hz
    · rw [hz]; exact hx
  refine ⟨by rw [List.map_set, h.hX], cell_ap h.c0 hg h.a1, cell_ap h.c1 hg h.a1, cell_ap h.c2 hg h.a1, cell_ap h.c3 hg h.a1, cell_ap h.c4 hg h.a1, fr_ap h.fr h.T_lt hg h.a1, h.hT, Nat.le_trans h.hB hg.size, ?_, owns_ap h.seen hg h.a4.symm, ownsR_ap h.looks hg h.a5.symm, each_grown heach hg (hq h.qH), h.a1, h.a2, h.a3, h.a4, h.a5, h.a6, hq h.qT, hq h.qH, hq h.qS, hq h.qL, ?_, ?_⟩
  · have h1 := h.houses
    unfold OwnsR at h1 ⊢
    rw [List.length_map] at h1
    rw [hv] at h1 ⊢
    have h2 := Dr.own_set (j := i * 8 + j) (y := y) h1
    rw [List.length_map, List.length_set]
    have e := cells_set FHs (X.map Hx.h) i (by simpa using hi) j y x'.h hj (by simpa using he)
    rw [show FHs.k = 8 from rfl] at e
    rw [List.map_set, ← e]; exact h2
  · refine List.pairwise_iff_getElem.2 fun a b ha hb hab => ?_
    rw [List.length_set] at ha hb
    by_cases e1 : i = a
    · subst e1
      have e2 : ¬ i = b := by omega
      rw [List.getElem_set_self, List.getElem_set_ne e2]
      exact (hlow (rows_other h hb hi (fun e => e2 e.symm))).symm
    · rw [List.getElem_set_ne e1]
      by_cases e2 : i = b
      · subst e2
        rw [List.getElem_set_self]
        exact hlow (rows_other h ha hi (fun e => e1 e.symm))
      · rw [List.getElem_set_ne e2]
        exact rows_other h ha hb (by omega)
  · intro y hy z hz
    have hz2 : ∃ z' ∈ X, blk z.h.gr.na = blk z'.h.gr.na ∧ blk z.h.gr.ra = blk z'.h.gr.ra := by
      rcases List.mem_or_eq_of_mem_set hz with hz | hz
      · exact ⟨z, hz, rfl, rfl⟩
      · rw [hz]; exact ⟨_, hxi, hna, hra⟩
    obtain ⟨z', hz', q1, q2⟩ := hz2
    rw [q1, q2]
    rcases List.mem_or_eq_of_mem_set hy with hy | hy
    · exact h.sx y hy z' hz'
    · rw [hy]
      obtain ⟨q3, q4⟩ := h.sx _ hxi z' hz'
      exact ⟨fun k h1 h2 => q3 k (hr k h1) h2, fun k h1 h2 => q4 k (hr k h1) h2⟩
/-- what is left at a house has grown, and is written -/
theorem TrOwn.todo (h : TrOwn w B T0 o X vH vS vL t) {GH c : Nat} (hv : vH = .slice (some ⟨GH, 0, none⟩) X.length c) {i : Nat} (hi : i < X.length) {a' : Option Addr} {c' : Nat} {L' : List It} {row' : Option Nat} (hg : w.grownBy w1 X[i].row) (hq : IsQF FIt w1 B row' (.slice a' L'.length c') L') (hn : row' = X[i].row ∨ ∃ g, row' = some g ∧ w.heap.size ≤ g) :
    TrOwn (w1.setCell ⟨GH, i * 8 + 7, none⟩ (.slice a' L'.length c')) B T0 o (X.set i ⟨{ X[i].h with todo := L', ta := a', tc := c' }, row'⟩) vH vS vL { t with hs := t.hs.set i { hmX X[i] with todo := L' } } := by
  have hxi := List.getElem_mem hi
  have hob : vH.ownBlock = some GH := by rw [hv]; rfl
  have hlt : ∀ (z : Hx), z ∈ X → (∀ k, z.row = some k → k < w.heap.size) := fun z hz k hk => ((h.each z hz).todo.lt k hk).2
  -- the row grows: all else stays
  have k1 : Ap (some T0) X[i].row := (h.qT _ hxi).1
  have kH : Ap vH.ownBlock X[i].row := (h.qH _ hxi).1
  have kS : Ap vS.ownBlock X[i].row := (h.qS _ hxi).1
  have kL : Ap vL.ownBlock X[i].row := (h.qL _ hxi).1
  have hnew : ∀ {b : Option Nat}, (∀ k, b = some k → k < w.heap.size) → Ap b X[i].row → Ap b row' := fun hb ha => (ap_new ha.symm hb hn).symm
  have nT : Ap (some T0) row' := hnew (fun k e => by have := h.T_lt; have := Option.some.inj e; omega) k1
  have nH : Ap vH.ownBlock row' := hnew (row_lt h.houses) kH
  have nS : Ap vS.ownBlock row' := hnew (row_lt h.seen) kS
  have nL : Ap vL.ownBlock row' := hnew (row_lt h.looks) kL
  have hx1 : HxAt w1 B ⟨{ X[i].h with todo := L', ta := a', tc := c' }, row'⟩ := by
    have hz := h.each _ hxi
    obtain ⟨q1, q2⟩ := h.sx _ hxi _ hxi
    refine ⟨?_, ?_, hq, fun k hk => Nat.lt_of_lt_of_le (hz.nlt k hk) hg.size, fun k hk => Nat.lt_of_lt_of_le (hz.rlt k hk) hg.size⟩
    · obtain ⟨p1, p2, p3, p4⟩ := hz.names
      refine ⟨p1, p2, p3, fun hne => ?_⟩
      obtain ⟨b, off, e, hc⟩ := p4 hne
      refine ⟨b, off, e, fun i hi => ?_⟩
      rw [World.cell?_of_block (w := w) (hg.block _ (cell_block (hc i hi)) (fun e' => q1 b e'.symm (by rw [e]; rfl)))]; exact hc i hi
    · obtain ⟨p1, p2, p3, p4⟩ := hz.rules
      refine ⟨p1, p2, p3, fun hne => ?_⟩
      obtain ⟨b, off, e, hc⟩ := p4 hne
      refine ⟨b, off, e, fun j u hu => ?_⟩
      rw [World.cell?_of_block (w := w) (hg.block _ (cell_block (hc j u hu)) (fun e' => q2 b e'.symm (by rw [e]; rfl)))]; exact hc j u hu
  have hg2 := grown_one (w := w1) GH (i * 8 + 7) (.slice a' L'.length c')
  rw [← hob] at hg2
  have heach : ∀ z ∈ X.set i ⟨{ X[i].h with todo := L', ta := a', tc := c' }, row'⟩, HxAt w1 B z := fun z hz => by
    obtain ⟨j, hj, rfl⟩ := List.getElem_of_mem hz
    rw [List.length_set] at hj
    by_cases e : i = j
    · subst e
      rw [List.getElem_set_self]; exact hx1
    · rw [List.getElem_set_ne e]
      have hzj := List.getElem_mem hj
      exact (h.each _ hzj).grown hg (rows_other h hi hj e) (h.sx _ hxi _ hzj).1 (h.sx _ hxi _ hzj).2
  have hq2 : ∀ {b : Option Nat}, Qa b X → Ap b row' → Qa b (X.set i ⟨{ X[i].h with todo := L', ta := a', tc := c' }, row'⟩) := fun hb ha => qa_set hb ⟨ha, (hb _ hxi).2.1, (hb _ hxi).2.2⟩
  refine ⟨by rw [List.map_set, h.hX]; rfl, cell_ap (cell_ap h.c0 hg k1) hg2 h.a1, cell_ap (cell_ap h.c1 hg k1) hg2 h.a1, cell_ap (cell_ap h.c2 hg k1) hg2 h.a1, cell_ap (cell_ap h.c3 hg k1) hg2 h.a1, cell_ap (cell_ap h.c4 hg k1) hg2 h.a1, fr_ap (fr_ap h.fr h.T_lt hg k1) (Nat.lt_of_lt_of_le h.T_lt hg.size) hg2 h.a1, h.hT, Nat.le_trans h.hB (Nat.le_trans hg.size hg2.size), ?_, owns_ap (owns_ap h.seen hg kS) hg2 h.a4.symm, ownsR_ap (ownsR_ap h.looks hg kL) hg2 h.a5.symm, each_grown heach hg2 (hq2 h.qH nH), h.a1, h.a2, h.a3, h.a4, h.a5, h.a6, hq2 h.qT nT, hq2 h.qH nH, hq2 h.qS nS, hq2 h.qL nL, ?_, ?_⟩
  · have h1 := ownsR_ap h.houses hg kH
    unfold OwnsR at h1 ⊢
    rw [List.length_map] at h1
    rw [hv] at h1 ⊢
    have h2 := Dr.own_set (j := i * 8 + 7) (y := .slice a' L'.length c') h1
    rw [List.length_map, List.length_set]
    have e := cells_set FHs (X.map Hx.h) i (by simpa using hi) 7 (.slice a' L'.length c') { X[i].h with todo := L', ta := a', tc := c' } (by decide) (by simp [FHs])
    rw [show FHs.k = 8 from rfl] at e
    rw [List.map_set, ← e]; exact h2
  · refine List.pairwise_iff_getElem.2 fun a b ha hb hab => ?_
    rw [List.length_set] at ha hb
    by_cases e1 : i = a
    · subst e1
      have e2 : ¬ i = b := by omega
      rw [List.getElem_set_self, List.getElem_set_ne e2]
      exact (hnew (hlt _ (List.getElem_mem hb)) (rows_other h hb hi (fun e => e2 e.symm))).symm
    · rw [List.getElem_set_ne e1]
      by_cases e2 : i = b
      · subst e2
        rw [List.getElem_set_self]
        exact hnew (hlt _ (List.getElem_mem ha)) (rows_other h ha hi (fun e => e1 e.symm))
      · rw [List.getElem_set_ne e2]
        exact rows_other h ha hb (by omega)
  · intro y hy z hz
    have hz2 : ∃ z' ∈ X, blk z.h.gr.na = blk z'.h.gr.na ∧ blk z.h.gr.ra = blk z'.h.gr.ra := by
      rcases List.mem_or_eq_of_mem_set hz with hz | hz
      · exact ⟨z, hz, rfl, rfl⟩
      · rw [hz]; exact ⟨_, hxi, rfl, rfl⟩
    obtain ⟨z', hz', q1, q2⟩ := hz2
    rw [q1, q2]
    rcases List.mem_or_eq_of_mem_set hy with hy | hy
    · exact h.sx y hy z' hz'
    · rw [hy]
      obtain ⟨q3, q4⟩ := h.sx _ hxi z' hz'
      exact ⟨(hnew (h.each _ hz').nlt q3.symm).symm, (hnew (h.each _ hz').rlt q4.symm).symm⟩
end Go.Proofs.YtiennniclkbjlaaGreatDoor.TrW
/- Of the program: a house lets an address; a trip's house of a name. -/
namespace Go.Proofs.YtiennniclkbjlaaGreatDoor.Tn
open Go.RowKit Go.Proofs.YtiennniclkbjlaaGreatDoor.EscM Go.Proofs.YtiennniclkbjlaaGreatDoor.AddrM Go.Proofs.YtiennniclkbjlaaGreatDoor.ReadM Go.Proofs.YtiennniclkbjlaaGreatDoor.Rd1 Go.Proofs.YtiennniclkbjlaaGreatDoor.Ad1 Go.Proofs.YtiennniclkbjlaaGreatDoor.RuleM Go.Proofs.YtiennniclkbjlaaGreatDoor.St Go.Proofs.YtiennniclkbjlaaGreatDoor.EscL Go.Proofs.YtiennniclkbjlaaGreatDoor.RR Go.Proofs.YtiennniclkbjlaaGreatDoor.LetM Go.Proofs.YtiennniclkbjlaaGreatDoor.GrM Go.Proofs.YtiennniclkbjlaaGreatDoor.RoIt Go.Proofs.YtiennniclkbjlaaGreatDoor.RoLk Go.Proofs.YtiennniclkbjlaaGreatDoor.RoQ Go.Proofs.YtiennniclkbjlaaGreatDoor.Mp Go.Proofs.YtiennniclkbjlaaGreatDoor.WdM Go.Proofs.YtiennniclkbjlaaGreatDoor.Wd Go.Proofs.YtiennniclkbjlaaGreatDoor.TpM Go.Proofs.YtiennniclkbjlaaGreatDoor.TrM Go.Proofs.YtiennniclkbjlaaGreatDoor.TrW Go.Proofs.YtiennniclkbjlaaGreatDoor.Tq Go.Proofs.YtiennniclkbjlaaGreatDoor.PgA Go.Proofs.YtiennniclkbjlaaGreatDoor.MkA Go.Proofs.YtiennniclkbjlaaGreatDoor.Im Go.Proofs.YtiennniclkbjlaaGreatDoor.Nm

set_option maxRecDepth 100000 in
set_option maxHeartbeats 3200000 in
theorem houseLets_any (b o : Nat) (h : Hs) (A : Ad) (a1 : Option Addr) (c1 : Nat) (w : World) (hM : Mx w) (hc : HsC w b o h) (hr : IsRows FRu w h.gr.ra h.gr.rc h.gr.ru) (hl : h.gr.ru.length ≤ 4194304) (hz : ∀ r ∈ h.gr.ru, r.path.size ≤ 4194304) (hS : IsStrs w a1 c1 A.parts) (hB : bulkA A ≤ 1000) :
    Calls Tryz.prog 64 #[.pointer (some ⟨b, o, none⟩), .agg #[.string A.house, .slice a1 A.parts.length c1, .bool A.asks, .string A.ask]] w fun e w' => e = .returned (.bool (letsL h.gr.ru (pathF A).data.toList)) ∧ Below w.heap.size w w' := by
  have HM : Hid (Mx w) := hM
  have HR : Hid (IsRows FRu w h.gr.ra h.gr.rc h.gr.ru) := hr
  have HZ : Hid (∀ r ∈ h.gr.ru, r.path.size ≤ 4194304) := hz
  have HS : Hid (IsStrs w a1 c1 A.parts) := hS
  have hp := WdN.pathF_60 A
  have k4 := hc 4 _ rfl
  have HK4 : Hid (w.cell? ⟨b, o + 4, none⟩ = some (.slice h.gr.ra h.gr.ru.length h.gr.rc)) := k4
  have HB1 : Hid (Below w.heap.size w (w.alloc (.cells #[.string A.house, .slice a1 A.parts.length c1, .bool A.asks, .string A.ask] 97))) := (Below.refl _ w).alloc (Nat.le_refl _) _
  have HX1 : Hid (Bs 97 (w.alloc (.cells #[.string A.house, .slice a1 A.parts.length c1, .bool A.asks, .string A.ask] 97)) w.heap.size #[.string A.house, .slice a1 A.parts.length c1, .bool A.asks, .string A.ask]) := Bs.new _ _ _
  obtain ⟨G, hG⟩ : ∃ G, w.heap.size = G := ⟨_, rfl⟩
  have HG : Hid (w.heap.size = G) := hG
  obtain ⟨w1, hw1⟩ : ∃ w1, w.alloc (.cells #[.string A.house, .slice a1 A.parts.length c1, .bool A.asks, .string A.ask] 97) = w1 := ⟨_, rfl⟩
  have HW1 : Hid (w.alloc (.cells #[.string A.house, .slice a1 A.parts.length c1, .bool A.asks, .string A.ask] 97) = w1) := hw1
  rw [hw1] at HB1 HX1
  rw [hG] at HX1
  have HPA : Hid (∀ W, IsStrs W a1 c1 A.parts → Calls Tryz.prog 89 #[.agg #[.string A.house, .slice a1 A.parts.length c1, .bool A.asks, .string A.ask]] W fun e w' => e = .returned (.string (pathF A)) ∧ Below W.heap.size W w') := fun W hW => implAddrPath_any A a1 c1 W hW (Nat.le_trans hB (by decide))
  clear hM hc hr hz hS hw1 hG k4
  go_enter Tryz.func64, Tryz.ntmps64
  go_wp2_with fail
  rw [HG.out, HW1.out]
  have y0 := HX1.out.cell 0 rfl
  have y1 := HX1.out.cell 1 rfl
  have y2 := HX1.out.cell 2 rfl
  have y3 := HX1.out.cell 3 rfl
  have k1 := (HB1.out.cell (St.cell_block HK4.out)).trans HK4.out
  go_region_held_law (fun w' => w'.cell? ⟨G, 0, none⟩ = some (.string A.house) ∧ w'.cell? ⟨G, 1, none⟩ = some (.slice a1 A.parts.length c1) ∧ w'.cell? ⟨G, 2, none⟩ = some (.bool A.asks) ∧ w'.cell? ⟨G, 3, none⟩ = some (.string A.ask) ∧ w'.cell? ⟨b, o + 4, none⟩ = some (.slice h.gr.ra h.gr.ru.length h.gr.rc)) (first | go_keep | exact hS2 | exact hS3)
    ((first
    | (go_at_call 89
       refine (HPA.out w1.drew ((HS.out.below HB1.out).keep fun _ _ => rfl)).mono ?_
       rintro e w2 ⟨rfl, hb0⟩
       have hb2 : Below w1.heap.size w1 w2 := ((Below.refl _ w1).drew).trans hb0
       have HB2 : Hid (Below w.heap.size w w2) := HB1.out.trans (hb2.mono HB1.out.size)
       have HX2 : Hid (Bs 97 w2 G #[.string A.house, .slice a1 A.parts.length c1, .bool A.asks, .string A.ask]) := HX1.out.below hb2
       have hS2 : w2.cell? ⟨G, 0, none⟩ = some (.string A.house) ∧ w2.cell? ⟨G, 1, none⟩ = some (.slice a1 A.parts.length c1) ∧ w2.cell? ⟨G, 2, none⟩ = some (.bool A.asks) ∧ w2.cell? ⟨G, 3, none⟩ = some (.string A.ask) ∧ w2.cell? ⟨b, o + 4, none⟩ = some (.slice h.gr.ra h.gr.ru.length h.gr.rc) := ⟨HX2.out.cell 0 rfl, HX2.out.cell 1 rfl, HX2.out.cell 2 rfl, HX2.out.cell 3 rfl, (HB2.out.cell (St.cell_block HK4.out)).trans HK4.out⟩
       clear hb0 hb2)
    | (go_at_call 88
       refine (Le.implLets_any h.gr.ra h.gr.rc h.gr.ru (pathF A) w2 (HM.out.below HB2.out) (HR.out.below HB2.out) hl (fun r hr => Nat.le_trans (HZ.out r hr) (by decide)) (by unfold maxLen; omega)).mono ?_
       rintro e w3 ⟨rfl, hb3⟩
       have HB3 : Hid (Below w.heap.size w w3) := HB2.out.trans (hb3.mono HB2.out.size)
       have hS3 : w3.cell? ⟨G, 0, none⟩ = some (.string A.house) ∧ w3.cell? ⟨G, 1, none⟩ = some (.slice a1 A.parts.length c1) ∧ w3.cell? ⟨G, 2, none⟩ = some (.bool A.asks) ∧ w3.cell? ⟨G, 3, none⟩ = some (.string A.ask) ∧ w3.cell? ⟨b, o + 4, none⟩ = some (.slice h.gr.ra h.gr.ru.length h.gr.rc) := ⟨(HX2.out.below hb3).cell 0 rfl, (HX2.out.below hb3).cell 1 rfl, (HX2.out.below hb3).cell 2 rfl, (HX2.out.below hb3).cell 3 rfl, (HB3.out.cell (St.cell_block HK4.out)).trans HK4.out⟩
       clear hb3)
    | fail))
  all_goals
    go_wp2
    go_ret
    exact ⟨rfl, HB3.out⟩
theorem houseC_any (h : Hs) (P : Nat) (x : ByteArray) (w : World) (hx : w.cell? ⟨P, 0, none⟩ = some (.string x)) :
    Calls Tryz.prog 87 #[hsV h, .pointer (some ⟨P, 0, none⟩)] w fun e w' => e = .returned (.bool (h.name.toList == x.toList)) ∧ Below w.heap.size w w' := by
  have hb : Below w.heap.size w (w.alloc (.cells #[.string h.name, .int .i64 h.ready, .bool h.known, .slice h.gr.na h.gr.nm.length h.gr.nc, .slice h.gr.ra h.gr.ru.length h.gr.rc, .int .i64 h.gr.wait, .int .i64 h.tries, .slice h.ta h.todo.length h.tc] 38)) := (Below.refl _ w).alloc (Nat.le_refl _) _
  have hx2 := (hb.cell (St.cell_block hx)).trans hx
  have HB : Hid _ := hb
  clear hb
  unfold hsV
  go_enter Tryz.func87, Tryz.ntmps87
  go_wp2
  go_ret
  exact ⟨rfl, HB.out⟩
set_option maxRecDepth 100000 in
set_option maxHeartbeats 3200000 in
theorem idxH_any (a0 : Option Addr) (cap : Nat) (L : List Hs) (P : Nat) (x : ByteArray) (w : World) (hI : IsRows FHs w a0 cap L) (hx : w.cell? ⟨P, 0, none⟩ = some (.string x)) (hl : L.length ≤ 4194304) :
    Calls Tryz.prog 75 #[.slice a0 L.length cap, .func (.func 87) #[] #[.pointer (some ⟨P, 0, none⟩)]] w fun e w' => (∃ z : Int, e = .returned (.int .i64 z) ∧ ((z = -1 ∧ ∀ h ∈ L, h.name ≠ x) ∨ ∃ k, ∃ hk : k < L.length, z = (k : Int) ∧ L[k].name = x ∧ ∀ h ∈ L.take k, h.name ≠ x)) ∧ Below w.heap.size w w' := by
  have HI : Hid (IsRows FHs w a0 cap L) := hI
  have HX : Hid (w.cell? ⟨P, 0, none⟩ = some (.string x)) := hx
  clear hI hx
  go_enter Tryz.func75, Tryz.ntmps75
  go_wp2
  go_loopw [8] (fun i wr => ∃ k : Nat, k ≤ L.length ∧ i = .int .i64 (k : Int) ∧ Hid (∀ h ∈ L.take k, h.name ≠ x) ∧ Hid (Below w.heap.size w wr)) (fun i _ => L.length - (intOf i).toNat)
  case atStart => exact ⟨0, Nat.zero_le _, rfl, (fun h hh => by cases hh), Below.refl _ _⟩
  case round =>
    obtain ⟨k, hk, rfl, HN, HB⟩ := hrel
    by_cases hlt : k < L.length
    · obtain ⟨b, off, e1, c0, c1, c2, c3, c4, c5, c6, c7⟩ := hs_at (HI.out.below HB.out) hlt
      subst e1
      have hx2 : wr.cell? ⟨P, 0, none⟩ = some (.string x) := (HB.out.cell (St.cell_block HX.out)).trans HX.out
      have HX2 : Hid (wr.cell? ⟨P, 0, none⟩ = some (.string x)) := hx2
      have HCC : Hid (∀ W, W.cell? ⟨P, 0, none⟩ = some (.string x) → Calls Tryz.prog 87 #[.agg #[.string L[k].name, .int .i64 L[k].ready, .bool L[k].known, .slice L[k].gr.na L[k].gr.nm.length L[k].gr.nc, .slice L[k].gr.ra L[k].gr.ru.length L[k].gr.rc, .int .i64 L[k].gr.wait, .int .i64 L[k].tries, .slice L[k].ta L[k].todo.length L[k].tc], .pointer (some ⟨P, 0, none⟩)] W fun e w' => e = .returned (.bool (L[k].name.toList == x.toList)) ∧ Below W.heap.size W w') := fun W hW => houseC_any L[k] P x W hW
      have HNM : Hid ((L[k].name.toList == x.toList) = decide (L[k].name = x)) := str_eq_iff _ _
      clear hx2
      by_cases he : L[k].name = x
      · have HE : Hid (∃ hk : k < L.length, L[k].name = x) := ⟨hlt, he⟩
        have hq : (L[k].name.toList == x.toList) = true := by rw [HNM.out]; exact decide_eq_true he
        rw [hq] at HCC
        clear he hq HNM
        generalize L[k] = y at c0 c1 c2 c3 c4 c5 c6 c7 HCC
        go_wp2_with (go_at_call 87; refine (HCC.out _ HX2.out).mono ?_; rintro e w2 ⟨rfl, hb2⟩; have HB2 : Hid (Below w.heap.size w w2) := HB.out.trans (hb2.mono HB.out.size))
        go_ret
        obtain ⟨q1, q2⟩ := HE.out
        exact ⟨⟨(k : Int), rfl, Or.inr ⟨k, q1, rfl, q2, HN.out⟩⟩, HB2.out⟩
      · have HN2 : Hid (∀ h ∈ L.take (k + 1), h.name ≠ x) := fun h hh => by
          rw [List.take_succ_eq_append_getElem hlt] at hh
          rcases List.mem_append.1 hh with hh | hh
          · exact HN.out h hh
          · have e : h = L[k] := by simpa using hh
            rw [e]; exact he
        have hq : (L[k].name.toList == x.toList) = false := by rw [HNM.out]; exact decide_eq_false he
        rw [hq] at HCC
        clear he hq HNM
        generalize L[k] = y at c0 c1 c2 c3 c4 c5 c6 c7 HCC
        go_wp2_with (go_at_call 87; refine (HCC.out _ HX2.out).mono ?_; rintro e w2 ⟨rfl, hb2⟩; have HB2 : Hid (Below w.heap.size w w2) := HB.out.trans (hb2.mono HB.out.size))
        go_roundw
        case rel => exact ⟨k + 1, by omega, by go_num, HN2, HB2⟩
        case measure => simp [intOf]; omega
    · have HF : Hid (∀ h ∈ L, h.name ≠ x) := by
        have e1 : L.take k = L := List.take_of_length_le (by omega)
        have := HN.out
        rw [e1] at this; exact this
      go_wp2
      go_ret
      exact ⟨⟨-1, rfl, Or.inl ⟨rfl, HF.out⟩⟩, HB.out⟩
end Go.Proofs.YtiennniclkbjlaaGreatDoor.Tn
/- Of the program: a trip's house of a name, put behind all others, if it is new. -/
namespace Go.Proofs.YtiennniclkbjlaaGreatDoor.Tn
open Go.RowKit Go.Proofs.YtiennniclkbjlaaGreatDoor.EscM Go.Proofs.YtiennniclkbjlaaGreatDoor.AddrM Go.Proofs.YtiennniclkbjlaaGreatDoor.ReadM Go.Proofs.YtiennniclkbjlaaGreatDoor.Rd1 Go.Proofs.YtiennniclkbjlaaGreatDoor.Ad1 Go.Proofs.YtiennniclkbjlaaGreatDoor.RuleM Go.Proofs.YtiennniclkbjlaaGreatDoor.St Go.Proofs.YtiennniclkbjlaaGreatDoor.EscL Go.Proofs.YtiennniclkbjlaaGreatDoor.RR Go.Proofs.YtiennniclkbjlaaGreatDoor.LetM Go.Proofs.YtiennniclkbjlaaGreatDoor.GrM Go.Proofs.YtiennniclkbjlaaGreatDoor.RoIt Go.Proofs.YtiennniclkbjlaaGreatDoor.RoLk Go.Proofs.YtiennniclkbjlaaGreatDoor.RoQ Go.Proofs.YtiennniclkbjlaaGreatDoor.Mp Go.Proofs.YtiennniclkbjlaaGreatDoor.WdM Go.Proofs.YtiennniclkbjlaaGreatDoor.Wd Go.Proofs.YtiennniclkbjlaaGreatDoor.TpM Go.Proofs.YtiennniclkbjlaaGreatDoor.TrM Go.Proofs.YtiennniclkbjlaaGreatDoor.TrW Go.Proofs.YtiennniclkbjlaaGreatDoor.Tq Go.Proofs.YtiennniclkbjlaaGreatDoor.PgA Go.Proofs.YtiennniclkbjlaaGreatDoor.MkA Go.Proofs.YtiennniclkbjlaaGreatDoor.Im Go.Proofs.YtiennniclkbjlaaGreatDoor.Nm

theorem Tryz.infoHs : (Tryz.prog.info? 38).map (fun i => (i.zero, i.size, i.bytes)) = some (some (.agg #[.string ⟨#[]⟩, .int .i64 0, .bool false, .slice none 0 0, .slice none 0 0, .int .i64 0, .int .i64 0, .slice none 0 0]), 8, 120) := by kernel_rfl
theorem info_house : ∃ i, Tryz.prog.info? 38 = some i ∧ i.zero = some (.agg #[.string ⟨#[]⟩, .int .i64 0, .bool false, .slice none 0 0, .slice none 0 0, .int .i64 0, .int .i64 0, .slice none 0 0]) ∧ i.size = 8 ∧ i.bytes = 120 := by
  have h := Tryz.infoHs
  cases hi : Tryz.prog.info? 38 with
  | none => rw [hi] at h; cases h
  | some i =>
    rw [hi] at h
    have := Option.some.inj h
    simp only [Prod.mk.injEq] at this
    exact ⟨i, rfl, this.1, this.2.1, this.2.2⟩
theorem Tryz.infoItm : (Tryz.prog.info? 103).map (fun i => (i.zero, i.size, i.bytes)) = some (some (.agg #[.string ⟨#[]⟩, .int .i64 0]), 2, 24) := by kernel_rfl
theorem info_item : ∃ i, Tryz.prog.info? 103 = some i ∧ i.zero = some (.agg #[.string ⟨#[]⟩, .int .i64 0]) ∧ i.size = 2 ∧ i.bytes = 24 := by
  have h := Tryz.infoItm
  cases hi : Tryz.prog.info? 103 with
  | none => rw [hi] at h; cases h
  | some i =>
    rw [hi] at h
    have := Option.some.inj h
    simp only [Prod.mk.injEq] at this
    exact ⟨i, rfl, this.1, this.2.1, this.2.2⟩
end Go.Proofs.YtiennniclkbjlaaGreatDoor.Tn
/- A trip of one's own: what does not belong to it stays. -/
namespace Go.Proofs.YtiennniclkbjlaaGreatDoor.TrW
open Go.RowKit Go.Proofs.YtiennniclkbjlaaGreatDoor.EscM Go.Proofs.YtiennniclkbjlaaGreatDoor.AddrM Go.Proofs.YtiennniclkbjlaaGreatDoor.ReadM Go.Proofs.YtiennniclkbjlaaGreatDoor.RuleM Go.Proofs.YtiennniclkbjlaaGreatDoor.St Go.Proofs.YtiennniclkbjlaaGreatDoor.RR Go.Proofs.YtiennniclkbjlaaGreatDoor.LetM Go.Proofs.YtiennniclkbjlaaGreatDoor.GrM Go.Proofs.YtiennniclkbjlaaGreatDoor.RoIt Go.Proofs.YtiennniclkbjlaaGreatDoor.RoLk Go.Proofs.YtiennniclkbjlaaGreatDoor.RoQ Go.Proofs.YtiennniclkbjlaaGreatDoor.TpM Go.Proofs.YtiennniclkbjlaaGreatDoor.TrM Go.Proofs.YtiennniclkbjlaaGreatDoor.Tq

/-- the blocks that a trip of one's own may be written in -/
def Ow (T0 : Nat) (X : List Hx) (vH vS vL : Value) (k : Nat) : Prop := k = T0 ∨ vH.ownBlock = some k ∨ vS.ownBlock = some k ∨ vL.ownBlock = some k ∨ ∃ x ∈ X, x.row = some k
/-- what was not of it is as it was, and is not of it behind -/
structure Sep (w w' : World) (O O' : Nat → Prop) : Prop where
  os : w'.os = w.os
  tape : w'.tape = w.tape
  output : w'.output = w.output
  size : w.heap.size ≤ w'.heap.size
  keep : ∀ k, k < w.heap.size → ¬ O k → ¬ O' k ∧ w'.heap[k]? = w.heap[k]?
variable {w w' w1 w2 : World} {B T0 o : Nat} {X : List Hx} {vH vS vL : Value} {t : Tm} {r : Option Nat} {O O' O'' : Nat → Prop}
theorem Sep.refl : Sep w w O O := ⟨rfl, rfl, rfl, Nat.le_refl _, fun _ _ h => ⟨h, rfl⟩⟩
theorem Sep.trans (h : Sep w w1 O O') (h2 : Sep w1 w2 O' O'') : Sep w w2 O O'' := ⟨h2.os.trans h.os, h2.tape.trans h.tape, h2.output.trans h.output, Nat.le_trans h.size h2.size, fun k hk ho => by
  obtain ⟨q1, q2⟩ := h.keep k hk ho
  obtain ⟨q3, q4⟩ := h2.keep k (Nat.lt_of_lt_of_le hk h.size) q1
  exact ⟨q3, q4.trans q2⟩⟩
theorem Sep.below (h : Below w.heap.size w w') : Sep w w' O O := ⟨h.os, h.tape, h.output, h.size, fun k hk ho => ⟨ho, h.block k hk⟩⟩
theorem Sep.low (h : Sep w w' O O') (ho : ∀ k, O k → B ≤ k) (hB : B ≤ w.heap.size) : Below B w w' := ⟨h.os, h.tape, h.output, h.size, fun k hk => (h.keep k (by omega) (fun e => by have := ho k e; omega)).2⟩
theorem Sep.far {P j : Nat} {v : Value} (h : Sep w w' O O') (hP : w.heap.size ≤ P) : Sep w (w'.setCell ⟨P, j, none⟩ v) O O' := ⟨h.os, h.tape, h.output, by have := h.size; simpa [World.setCell] using this, fun k hk ho => ⟨(h.keep k hk ho).1, by
  rw [Below.heap_setCell _ _ _ _ (fun e => by dsimp only at e; omega)]
  exact (h.keep k hk ho).2⟩⟩
theorem Sep.cell {a : Addr} {v : Value} (h : Sep w w' O O') (hc : w.cell? a = some v) (ho : ¬ O a.block) : w'.cell? a = some v :=
  (World.cell?_of_block (h.keep a.block (St.cell_block hc) ho).2).trans hc
theorem Sep.of {a : Addr} {v : Value} (hg : w.grownBy w1 r) (hr : ∀ k, r = some k → O k) (ha : O a.block) (hO : ∀ k, O' k → O k ∨ w.heap.size ≤ k) : Sep w (w1.setCell a v) O O' := by
  refine ⟨hg.os, hg.tape, hg.output, ?_, fun k hk ho => ⟨fun h => ?_, ?_⟩⟩
  · have := hg.size
    simpa [World.setCell] using this
  · rcases hO k h with h | h
    · exact ho h
    · omega
  · rw [Below.heap_setCell _ _ _ _ (fun e => ho (by first | (rw [e]; exact ha) | (rw [← e]; exact ha)))]
    exact hg.block k hk (fun e => ho (hr k e.symm))
theorem TrOwn.low (h : TrOwn w B T0 o X vH vS vL t) : ∀ k, Ow T0 X vH vS vL k → B ≤ k := fun k hk => by
  rcases hk with rfl | hk | hk | hk | ⟨x, hx, hk⟩
  · exact h.hT
  · exact (h.houses.lt k hk).1
  · exact (World.ownsRow.lt h.seen k hk).1
  · exact (h.looks.lt k hk).1
  · exact ((h.each x hx).todo.lt k hk).1
theorem TrOwn.lt (h : TrOwn w B T0 o X vH vS vL t) : ∀ k, Ow T0 X vH vS vL k → k < w.heap.size := fun k hk => by
  rcases hk with rfl | hk | hk | hk | ⟨x, hx, hk⟩
  · exact h.T_lt
  · exact (h.houses.lt k hk).2
  · exact (World.ownsRow.lt h.seen k hk).2
  · exact (h.looks.lt k hk).2
  · exact ((h.each x hx).todo.lt k hk).2
/-- one more was heard of -/
theorem sep_hear {vS' v : Value} (hg : w.grownBy w1 vS.ownBlock) (hn : vS'.ownBlock = vS.ownBlock ∨ ∃ g, vS'.ownBlock = some g ∧ w.heap.size ≤ g) : Sep w (w1.setCell ⟨T0, o + 3, none⟩ v) (Ow T0 X vH vS vL) (Ow T0 X vH vS' vL) := by
  refine Sep.of hg (fun k hk => Or.inr (Or.inr (Or.inl hk))) (Or.inl rfl) fun k hk => ?_
  rcases hk with rfl | hk | hk | hk | hk
  · exact Or.inl (Or.inl rfl)
  · exact Or.inl (Or.inr (Or.inl hk))
  · rcases hn with e | ⟨g, e, hge⟩
    · exact Or.inl (Or.inr (Or.inr (Or.inl (e ▸ hk))))
    · rw [e] at hk
      exact Or.inr ((Option.some.inj hk) ▸ hge)
  · exact Or.inl (Or.inr (Or.inr (Or.inr (Or.inl hk))))
  · exact Or.inl (Or.inr (Or.inr (Or.inr (Or.inr hk))))
/-- one more call was made -/
theorem sep_look {vL' v : Value} (hg : w.grownBy w1 vL.ownBlock) (hn : vL'.ownBlock = vL.ownBlock ∨ ∃ g, vL'.ownBlock = some g ∧ w.heap.size ≤ g) : Sep w (w1.setCell ⟨T0, o + 4, none⟩ v) (Ow T0 X vH vS vL) (Ow T0 X vH vS vL') := by
  refine Sep.of hg (fun k hk => Or.inr (Or.inr (Or.inr (Or.inl hk)))) (Or.inl rfl) fun k hk => ?_
  rcases hk with rfl | hk | hk | hk | hk
  · exact Or.inl (Or.inl rfl)
  · exact Or.inl (Or.inr (Or.inl hk))
  · exact Or.inl (Or.inr (Or.inr (Or.inl hk)))
  · rcases hn with e | ⟨g, e, hge⟩
    · exact Or.inl (Or.inr (Or.inr (Or.inr (Or.inl (e ▸ hk)))))
    · rw [e] at hk
      exact Or.inr ((Option.some.inj hk) ▸ hge)
  · exact Or.inl (Or.inr (Or.inr (Or.inr (Or.inr hk))))
/-- a house more -/
theorem sep_house {vH' v : Value} {x : Hx} (hg : w.grownBy w1 vH.ownBlock) (hn : vH'.ownBlock = vH.ownBlock ∨ ∃ g, vH'.ownBlock = some g ∧ w.heap.size ≤ g) (hrow : x.row = none) : Sep w (w1.setCell ⟨T0, o + 2, none⟩ v) (Ow T0 X vH vS vL) (Ow T0 (X ++ [x]) vH' vS vL) := by
  refine Sep.of hg (fun k hk => Or.inr (Or.inl hk)) (Or.inl rfl) fun k hk => ?_
  rcases hk with rfl | hk | hk | hk | ⟨y, hy, hk⟩
  · exact Or.inl (Or.inl rfl)
  · rcases hn with e | ⟨g, e, hge⟩
    · exact Or.inl (Or.inr (Or.inl (e ▸ hk)))
    · rw [e] at hk
      exact Or.inr ((Option.some.inj hk) ▸ hge)
  · exact Or.inl (Or.inr (Or.inr (Or.inl hk)))
  · exact Or.inl (Or.inr (Or.inr (Or.inr (Or.inl hk))))
  · rcases List.mem_append.1 hy with hy | hy
    · exact Or.inl (Or.inr (Or.inr (Or.inr (Or.inr ⟨y, hy, hk⟩))))
    · have e : y = x := by simpa using hy
      rw [e, hrow] at hk; cases hk
/-- a cell of one's own is written -/
theorem sep_cell {j : Nat} {v : Value} : Sep w (w.setCell ⟨T0, j, none⟩ v) (Ow T0 X vH vS vL) (Ow T0 X vH vS vL) :=
  Sep.of (r := none) ⟨rfl, rfl, rfl, Nat.le_refl _, fun _ _ _ => rfl⟩ (fun k hk => by cases hk) (Or.inl rfl) fun k hk => Or.inl hk
/-- a cell of a house is written, what is left there has grown -/
theorem sep_row {i GH j : Nat} {v : Value} {x' : Hx} (hi : i < X.length) (hv : vH.ownBlock = some GH) (hg : w.grownBy w1 X[i].row) (hn : x'.row = X[i].row ∨ ∃ g, x'.row = some g ∧ w.heap.size ≤ g) : Sep w (w1.setCell ⟨GH, j, none⟩ v) (Ow T0 X vH vS vL) (Ow T0 (X.set i x') vH vS vL) := by
  refine Sep.of hg (fun k hk => Or.inr (Or.inr (Or.inr (Or.inr ⟨_, List.getElem_mem hi, hk⟩)))) (Or.inr (Or.inl hv)) fun k hk => ?_
  rcases hk with rfl | hk | hk | hk | ⟨y, hy, hk⟩
  · exact Or.inl (Or.inl rfl)
  · exact Or.inl (Or.inr (Or.inl hk))
  · exact Or.inl (Or.inr (Or.inr (Or.inl hk)))
  · exact Or.inl (Or.inr (Or.inr (Or.inr (Or.inl hk))))
  · rcases List.mem_or_eq_of_mem_set hy with hy | hy
    · exact Or.inl (Or.inr (Or.inr (Or.inr (Or.inr ⟨y, hy, hk⟩))))
    · rw [hy] at hk
      rcases hn with e | ⟨g, e, hge⟩
      · exact Or.inl (Or.inr (Or.inr (Or.inr (Or.inr ⟨_, List.getElem_mem hi, e ▸ hk⟩))))
      · rw [e] at hk
        exact Or.inr ((Option.some.inj hk) ▸ hge)
/-- the blocks of the names and the rules of its houses: they are read, never written -/
def Rd (X : List Hx) (k : Nat) : Prop := ∃ x ∈ X, blk x.h.gr.na = some k ∨ blk x.h.gr.ra = some k
/-- what is no such block stays none -/
def RdK (w0 : World) (R R' : Nat → Prop) : Prop := ∀ k, k < w0.heap.size → ¬ R k → ¬ R' k
theorem RdK.refl {R : Nat → Prop} : RdK w R R := fun _ _ h => h
theorem RdK.trans {R R' R'' : Nat → Prop} (h : RdK w R R') (h2 : RdK w1 R' R'') (hs : w.heap.size ≤ w1.heap.size) : RdK w R R'' := fun k hk hr => h2 k (Nat.lt_of_lt_of_le hk hs) (h k hk hr)
theorem RdK.sub {R R' : Nat → Prop} (h : ∀ k, R' k → R k ∨ w.heap.size ≤ k) : RdK w R R' := fun k hk hr h' => by
  rcases h k h' with h | h
  · exact hr h
  · omega
/-- what writes elsewhere leaves it -/
theorem TrOwn.apart {P : Nat} (h : TrOwn w B T0 o X vH vS vL t) (hg : w.grownBy w' (some P)) (ho : ¬ Ow T0 X vH vS vL P) (hr : ¬ Rd X P) : TrOwn w' B T0 o X vH vS vL t := by
  have p1 : Ap (some T0) (some P) := fun k h1 h2 => ho (Or.inl ((Option.some.inj h2).trans (Option.some.inj h1).symm))
  have pH : Ap vH.ownBlock (some P) := fun k h1 h2 => ho (Or.inr (Or.inl (h1.trans h2.symm)))
  have pS : Ap vS.ownBlock (some P) := fun k h1 h2 => ho (Or.inr (Or.inr (Or.inl (h1.trans h2.symm))))
  have pL : Ap vL.ownBlock (some P) := fun k h1 h2 => ho (Or.inr (Or.inr (Or.inr (Or.inl (h1.trans h2.symm)))))
  have pq : Qa (some P) X := fun x hx => ⟨fun k h1 h2 => ho (Or.inr (Or.inr (Or.inr (Or.inr ⟨x, hx, h2.trans h1.symm⟩)))), fun k h1 h2 => hr ⟨x, hx, Or.inl (h2.trans h1.symm)⟩, fun k h1 h2 => hr ⟨x, hx, Or.inr (h2.trans h1.symm)⟩⟩
  exact ⟨h.hX, cell_ap h.c0 hg p1, cell_ap h.c1 hg p1, cell_ap h.c2 hg p1, cell_ap h.c3 hg p1, cell_ap h.c4 hg p1, fr_ap h.fr h.T_lt hg p1, h.hT, Nat.le_trans h.hB hg.size, ownsR_ap h.houses hg pH, owns_ap h.seen hg pS, ownsR_ap h.looks hg pL, each_grown h.each hg pq, h.a1, h.a2, h.a3, h.a4, h.a5, h.a6, h.qT, h.qH, h.qS, h.qL, h.pw, h.sx⟩
theorem rd_house {x : Hx} {g : Nat} (hn : ∀ k, blk x.h.gr.na = some k → g ≤ k) (hr : ∀ k, blk x.h.gr.ra = some k → g ≤ k) (hg : w.heap.size ≤ g) : RdK w (Rd X) (Rd (X ++ [x])) := RdK.sub fun k hk => by
  obtain ⟨y, hy, hk⟩ := hk
  rcases List.mem_append.1 hy with hy | hy
  · exact Or.inl ⟨y, hy, hk⟩
  · have e : y = x := by simpa using hy
    subst e
    rcases hk with hk | hk
    · exact Or.inr (Nat.le_trans hg (hn k hk))
    · exact Or.inr (Nat.le_trans hg (hr k hk))
theorem rd_set {i : Nat} {x' : Hx} (hi : i < X.length) (hn : blk x'.h.gr.na = blk X[i].h.gr.na) (hr : blk x'.h.gr.ra = blk X[i].h.gr.ra) : RdK w (Rd X) (Rd (X.set i x')) := RdK.sub fun k hk => by
  obtain ⟨y, hy, hk⟩ := hk
  rcases List.mem_or_eq_of_mem_set hy with hy | hy
  · exact Or.inl ⟨y, hy, hk⟩
  · subst hy
    rw [hn, hr] at hk
    exact Or.inl ⟨_, List.getElem_mem hi, hk⟩
/-- what lies ahead of a trip in its own block stays -/
def Lo (T0 o : Nat) (w w' : World) : Prop := ∀ j, j < o → w'.cell? ⟨T0, j, none⟩ = w.cell? ⟨T0, j, none⟩
theorem Lo.trans (h : Lo T0 o w w1) (h2 : Lo T0 o w1 w2) : Lo T0 o w w2 := fun j hj => (h2 j hj).trans (h j hj)
theorem Lo.below (hb : Below w.heap.size w w') (ht : T0 < w.heap.size) : Lo T0 o w w' := fun j _ => World.cell?_of_block (a := ⟨T0, j, none⟩) (hb.block T0 ht)
theorem Lo.grown (hg : w.grownBy w1 r) (ha : Ap (some T0) r) (ht : T0 < w.heap.size) : Lo T0 o w w1 := fun j _ => World.cell?_of_block (a := ⟨T0, j, none⟩) (hg.block T0 ht (fun e => ha T0 rfl e.symm))
theorem Lo.set {k : Nat} {v : Value} : Lo T0 o w (w.setCell ⟨T0, o + k, none⟩ v) := fun j hj => World.cell?_setCell_other _ _ _ _ (by first | (simp; done) | (simp; omega))
theorem Lo.other {G k : Nat} {v : Value} (hG : G ≠ T0) : Lo T0 o w (w.setCell ⟨G, k, none⟩ v) := fun j hj => World.cell?_of_block (a := ⟨T0, j, none⟩) (Below.heap_setCell _ _ _ _ (fun e => hG (by first | exact e | exact e.symm)))
/-- such a trip lies there, of one's own; what was not of it stays -/
def TrIs (w0 : World) (O R : Nat → Prop) (B T0 o : Nat) (t : Tm) (w : World) : Prop := ∃ X vH vS vL, TrOwn w B T0 o X vH vS vL t ∧ Sep w0 w O (Ow T0 X vH vS vL) ∧ RdK w0 R (Rd X)
end Go.Proofs.YtiennniclkbjlaaGreatDoor.TrW
/- Of the program: a trip's house of a name, put behind all others, if it is new. -/
namespace Go.Proofs.YtiennniclkbjlaaGreatDoor.Tn
open Go.RowKit Go.Proofs.YtiennniclkbjlaaGreatDoor.EscM Go.Proofs.YtiennniclkbjlaaGreatDoor.AddrM Go.Proofs.YtiennniclkbjlaaGreatDoor.ReadM Go.Proofs.YtiennniclkbjlaaGreatDoor.Rd1 Go.Proofs.YtiennniclkbjlaaGreatDoor.Ad1 Go.Proofs.YtiennniclkbjlaaGreatDoor.RuleM Go.Proofs.YtiennniclkbjlaaGreatDoor.St Go.Proofs.YtiennniclkbjlaaGreatDoor.EscL Go.Proofs.YtiennniclkbjlaaGreatDoor.RR Go.Proofs.YtiennniclkbjlaaGreatDoor.LetM Go.Proofs.YtiennniclkbjlaaGreatDoor.GrM Go.Proofs.YtiennniclkbjlaaGreatDoor.RoIt Go.Proofs.YtiennniclkbjlaaGreatDoor.RoLk Go.Proofs.YtiennniclkbjlaaGreatDoor.RoQ Go.Proofs.YtiennniclkbjlaaGreatDoor.Mp Go.Proofs.YtiennniclkbjlaaGreatDoor.WdM Go.Proofs.YtiennniclkbjlaaGreatDoor.Wd Go.Proofs.YtiennniclkbjlaaGreatDoor.TpM Go.Proofs.YtiennniclkbjlaaGreatDoor.TrM Go.Proofs.YtiennniclkbjlaaGreatDoor.TrW Go.Proofs.YtiennniclkbjlaaGreatDoor.Tq Go.Proofs.YtiennniclkbjlaaGreatDoor.PgA Go.Proofs.YtiennniclkbjlaaGreatDoor.MkA Go.Proofs.YtiennniclkbjlaaGreatDoor.Im Go.Proofs.YtiennniclkbjlaaGreatDoor.Nm

/-- the trip behind it, and where its house of the name is -/
def HouseOf (w : World) (B T0 o : Nat) (X : List Hx) (vH vS vL : Value) (t : Tm) (x : ByteArray) (e : Ending) (w' : World) : Prop :=
  ∃ (X' : List Hx) (GH c i : Nat), e = .returned (.pointer (some ⟨GH, i * 8, none⟩)) ∧ i < X'.length ∧ TrOwn w' B T0 o X' (.slice (some ⟨GH, 0, none⟩) X'.length c) vS vL { t with hs := X'.map hmX } ∧ Sep w w' (Ow T0 X vH vS vL) (Ow T0 X' (.slice (some ⟨GH, 0, none⟩) X'.length c) vS vL) ∧ RdK w (Rd X) (Rd X') ∧ Lo T0 o w w' ∧
    ((X' = X ∧ ∃ hi : i < X.length, X[i].h.name = x ∧ ∀ y ∈ X.take i, y.h.name ≠ x) ∨ ((∀ y ∈ X, y.h.name ≠ x) ∧ i = X.length ∧ ∃ nx, X' = X ++ [nx] ∧ hmX nx = newH t.name x))
set_option maxRecDepth 100000 in
set_option maxHeartbeats 6400000 in
theorem houseOf_any (B T0 o : Nat) (X : List Hx) (vH vS vL : Value) (t : Tm) (x : ByteArray) (w : World) (h : TrOwn w B T0 o X vH vS vL t) (hl : X.length ≤ 1000) :
    Calls Tryz.prog 63 #[.pointer (some ⟨T0, o, none⟩), .string x] w fun e w' => HouseOf w B T0 o X vH vS vL t x e w' := by
  obtain ⟨i0, hi, hz0, hz1, hz2⟩ := info_house
  obtain ⟨aH, cH, hv, hI⟩ := h.houses.rows
  obtain ⟨L, hL⟩ : ∃ L, X.map Hx.h = L := ⟨_, rfl⟩
  have HLX : Hid (X.map Hx.h = L) := hL
  have hlen : L.length = X.length := by rw [← hL, List.length_map]
  rw [hL] at hv hI
  subst hv
  have HLN : Hid (L.length = X.length) := hlen
  have hll : L.length ≤ 1000 := by omega
  have hmf : ∀ (fn : Fn) (first cap : Array Value) (w : World), (Instr.makeFunc fn first cap).run Tryz.prog w = .ok (.func fn first cap) w := fun _ _ _ _ => rfl
  have HT : Hid (TrOwn w B T0 o X (.slice aH L.length cH) vS vL t) := h
  have HT1 : Hid (TrOwn (w.alloc (.cells #[.string x] 9)) B T0 o X (.slice aH L.length cH) vS vL t) := h.alloc _
  have HI1 : Hid (IsRows FHs (w.alloc (.cells #[.string x] 9)) aH cH L) := hI.keep (alloc_keep _ _)
  have HP1 : Hid ((w.alloc (.cells #[.string x] 9)).cell? ⟨w.heap.size, 0, none⟩ = some (.string x)) := by
    have := cell_one_new w (.string x) 9 0 _ rfl
    rw [add_mk] at this; exact this
  have HB1 : Hid (Below w.heap.size w (w.alloc (.cells #[.string x] 9))) := (Below.refl _ w).alloc (Nat.le_refl _) _
  obtain ⟨P, hP⟩ : ∃ P, w.heap.size = P := ⟨_, rfl⟩
  have HPA : Hid (∀ k, (Value.slice aH L.length cH).ownBlock = some k → P = k → False) := fun k hk e => by
    have := row_lt h.houses k hk
    omega
  have HPE : Hid (w.heap.size = P) := hP
  rw [hP] at HP1
  clear h hI hL hlen hP
  go_enter Tryz.func63, Tryz.ntmps63
  have c2 := HT1.out.c2
  go_wp2_with fail
  rw [HPE.out]
  refine (idxH_any aH cH L P x _ HI1.out HP1.out (by omega)).mono ?_
  rintro e w2 ⟨⟨z, rfl, hz⟩, hb2⟩
  have HT2 : Hid (TrOwn w2 B T0 o X (.slice aH L.length cH) vS vL t) := HT1.out.below hb2
  have HP2 : Hid (w2.cell? ⟨P, 0, none⟩ = some (.string x)) := (hb2.cell (St.cell_block HP1.out)).trans HP1.out
  have HB2 : Hid (Below w.heap.size w w2) := HB1.out.trans (hb2.mono HB1.out.size)
  clear hb2 HI1 HT1 HB1 c2
  rcases hz with ⟨rfl, hno⟩ | ⟨k, hk, rfl, hkn, hkb⟩
  · -- it is new
    have HNO : Hid (∀ h ∈ L, h.name ≠ x) := hno
    clear hno
    obtain ⟨nx, hnx⟩ : ∃ nx : Hs, nx = ⟨x, 0, false, ⟨[t.name], some ⟨w2.heap.size, 0, none⟩, 1, [], none, 0, 0⟩, 0, [], none, 0⟩ := ⟨_, rfl⟩
    have HT3 : Hid (TrOwn (w2.drew.alloc (.cells #[.string t.name] 9)) B T0 o X (.slice aH L.length cH) vS vL t) := (HT2.out.below ((Below.refl _ w2).drew)).alloc _
    have HT4 : Hid (TrOwn ((w2.drew.alloc (.cells #[.string t.name] 9)).alloc (.cells #[.string x, .int .i64 0, .bool false, .slice (some ⟨w2.heap.size, 0, none⟩) 1 1, .slice none 0 0, .int .i64 0, .int .i64 0, .slice none 0 0] 38)) B T0 o X (.slice aH L.length cH) vS vL t) := HT3.out.alloc _
    have hb3 : Below w2.heap.size w2 (w2.drew.alloc (.cells #[.string t.name] 9)) := ((Below.refl _ w2).drew).alloc (Nat.le_refl _) _
    have hb4 : Below w2.heap.size w2 ((w2.drew.alloc (.cells #[.string t.name] 9)).alloc (.cells #[.string x, .int .i64 0, .bool false, .slice (some ⟨w2.heap.size, 0, none⟩) 1 1, .slice none 0 0, .int .i64 0, .int .i64 0, .slice none 0 0] 38)) := hb3.alloc hb3.size _
    have HP3 : Hid ((w2.drew.alloc (.cells #[.string t.name] 9)).cell? ⟨P, 0, none⟩ = some (.string x)) := (hb3.cell (St.cell_block HP2.out)).trans HP2.out
    have HP4 : Hid (((w2.drew.alloc (.cells #[.string t.name] 9)).alloc (.cells #[.string x, .int .i64 0, .bool false, .slice (some ⟨w2.heap.size, 0, none⟩) 1 1, .slice none 0 0, .int .i64 0, .int .i64 0, .slice none 0 0] 38)).cell? ⟨P, 0, none⟩ = some (.string x)) := (hb4.cell (St.cell_block HP2.out)).trans HP2.out
    have HB4 : Hid (Below w.heap.size w ((w2.drew.alloc (.cells #[.string t.name] 9)).alloc (.cells #[.string x, .int .i64 0, .bool false, .slice (some ⟨w2.heap.size, 0, none⟩) 1 1, .slice none 0 0, .int .i64 0, .int .i64 0, .slice none 0 0] 38))) := HB2.out.trans (hb4.mono HB2.out.size)
    have HOW : Hid (((w2.drew.alloc (.cells #[.string t.name] 9)).alloc (.cells #[.string x, .int .i64 0, .bool false, .slice (some ⟨w2.heap.size, 0, none⟩) 1 1, .slice none 0 0, .int .i64 0, .int .i64 0, .slice none 0 0] 38)).ownsRow B 38 8 (.slice aH L.length cH) L.length (FHs.cells L)) := by
      have := HT4.out.houses
      unfold OwnsR at this
      rw [HLX.out] at this; exact this
    have HNW : Hid (∀ j u, [Value.string x, .int .i64 0, .bool false, .slice (some ⟨w2.heap.size, 0, none⟩) 1 1, .slice none 0 0, .int .i64 0, .int .i64 0, .slice none 0 0][j]? = some u → ((w2.drew.alloc (.cells #[.string t.name] 9)).alloc (.cells #[.string x, .int .i64 0, .bool false, .slice (some ⟨w2.heap.size, 0, none⟩) 1 1, .slice none 0 0, .int .i64 0, .int .i64 0, .slice none 0 0] 38)).cell? ((⟨w2.heap.size + 1, 0, none⟩ : Addr).add j) = some u) := fun j u hu => by
      have hbk : ((w2.drew.alloc (.cells #[.string t.name] 9)).alloc (.cells #[.string x, .int .i64 0, .bool false, .slice (some ⟨w2.heap.size, 0, none⟩) 1 1, .slice none 0 0, .int .i64 0, .int .i64 0, .slice none 0 0] 38)).heap[w2.heap.size + 1]? = some (.cells #[.string x, .int .i64 0, .bool false, .slice (some ⟨w2.heap.size, 0, none⟩) 1 1, .slice none 0 0, .int .i64 0, .int .i64 0, .slice none 0 0] 38 (0, 0)) := by
        have := heap_alloc_new (w2.drew.alloc (.cells #[.string t.name] 9)) (.cells #[.string x, .int .i64 0, .bool false, .slice (some ⟨w2.heap.size, 0, none⟩) 1 1, .slice none 0 0, .int .i64 0, .int .i64 0, .slice none 0 0] 38)
        rw [show (w2.drew.alloc (.cells #[.string t.name] 9)).heap.size = w2.heap.size + 1 by simp] at this
        exact this
      rw [add_mk, Nat.zero_add, cell_of_row _ _ j _ _ (0, 0) hbk]
      simpa using hu
    clear hb3 hb4
    have c2 := HT2.out.c2
    go_wp2_with fail
    clear c2
    refine wp_region_held_drew (S := (fun w' => w'.cell? ⟨T0, o, none⟩ = some (.string t.name) ∧ w'.cell? ⟨P, 0, none⟩ = some (.string x))) (by kernel_rfl) ⟨HT2.out.c0, HP2.out⟩ (fun hHeld => ?_)
    refine wpAnyH_take (i := 0) (oi := ({ dst := some 19, op := Go.Op.move (Go.Operand.tmp 0), type := 67, pos := "l12_trip.go:104", after := #[], guard := none } : Oper)) (v := ?_) rfl (by kernel_rfl) (by kernel_rfl) (by kernel_rfl) (fun _ _ _ h => h) (Or.inl ⟨by rfl, ?_⟩) hHeld ?_
    rotate_left
    · (intro w hSw; (try dsimp only at hSw); go_simp; try with_reducible rfl)
    try simp only [Act.put, List.setIfInBounds_toArray, List.set_cons_zero, List.set_cons_succ]
    refine wpAnyH_take (i := 1) (oi := ({ dst := some 20, op := Go.Op.move (Go.Operand.tmp 0), type := 67, pos := "l12_trip.go:104", after := #[], guard := none } : Oper)) (v := ?_) rfl (by kernel_rfl) (by kernel_rfl) (by kernel_rfl) (fun _ _ _ h => h) (Or.inl ⟨by rfl, ?_⟩) hHeld ?_
    rotate_left
    · (intro w hSw; (try dsimp only at hSw); go_simp; try with_reducible rfl)
    try simp only [Act.put, List.setIfInBounds_toArray, List.set_cons_zero, List.set_cons_succ]
    refine wpAnyH_take (i := 2) (oi := ({ dst := some 21, op := Go.Op.nilCheck (Go.Operand.tmp 20), type := 0, pos := "l12_trip.go:104", after := #[{ on := 1, ground := Go.Ground.data }], guard := none } : Oper)) (v := ?_) rfl (by kernel_rfl) (by kernel_rfl) (by kernel_rfl) (fun _ _ _ h => h) (Or.inl ⟨by rfl, ?_⟩) hHeld ?_
    rotate_left
    · (intro w hSw; (try dsimp only at hSw); go_simp; try with_reducible rfl)
    try simp only [Act.put, List.setIfInBounds_toArray, List.set_cons_zero, List.set_cons_succ]
    refine wpAnyH_take (i := 3) (oi := ({ dst := some 22, op := Go.Op.fieldAddr 29 (Go.Operand.tmp 21) 2, type := 0, pos := "l12_trip.go:104", after := #[{ on := 2, ground := Go.Ground.data }], guard := none } : Oper)) (v := ?_) rfl (by kernel_rfl) (by kernel_rfl) (by kernel_rfl) (fun _ _ _ h => h) (Or.inl ⟨by rfl, ?_⟩) hHeld ?_
    rotate_left
    · (intro w hSw; (try dsimp only at hSw); go_simp; try with_reducible rfl)
    try simp only [Act.put, List.setIfInBounds_toArray, List.set_cons_zero, List.set_cons_succ]
    refine wpAnyH_take (i := 5) (oi := ({ dst := some 24, op := Go.Op.load 9 (Go.Operand.tmp 3), type := 9, pos := "l12_trip.go:104", after := #[], guard := none } : Oper)) (v := ?_) rfl (by kernel_rfl) (by kernel_rfl) (by kernel_rfl) (fun _ _ _ h => h) (Or.inl ⟨by rfl, ?_⟩) hHeld ?_
    rotate_left
    · (intro w hSw; (try dsimp only at hSw); go_simp; try with_reducible rfl)
    try simp only [Act.put, List.setIfInBounds_toArray, List.set_cons_zero, List.set_cons_succ]
    refine wpAnyH_take (i := 6) (oi := ({ dst := some 25, op := Go.Op.move (Go.Operand.tmp 0), type := 67, pos := "l12_trip.go:104", after := #[], guard := none } : Oper)) (v := ?_) rfl (by kernel_rfl) (by kernel_rfl) (by kernel_rfl) (fun _ _ _ h => h) (Or.inl ⟨by rfl, ?_⟩) hHeld ?_
    rotate_left
    · (intro w hSw; (try dsimp only at hSw); go_simp; try with_reducible rfl)
    try simp only [Act.put, List.setIfInBounds_toArray, List.set_cons_zero, List.set_cons_succ]
    refine wpAnyH_take (i := 7) (oi := ({ dst := some 26, op := Go.Op.nilCheck (Go.Operand.tmp 25), type := 0, pos := "l12_trip.go:104", after := #[{ on := 6, ground := Go.Ground.data }], guard := none } : Oper)) (v := ?_) rfl (by kernel_rfl) (by kernel_rfl) (by kernel_rfl) (fun _ _ _ h => h) (Or.inl ⟨by rfl, ?_⟩) hHeld ?_
    rotate_left
    · (intro w hSw; (try dsimp only at hSw); go_simp; try with_reducible rfl)
    try simp only [Act.put, List.setIfInBounds_toArray, List.set_cons_zero, List.set_cons_succ]
    refine wpAnyH_take (i := 8) (oi := ({ dst := some 27, op := Go.Op.fieldAddr 29 (Go.Operand.tmp 26) 0, type := 0, pos := "l12_trip.go:104", after := #[{ on := 7, ground := Go.Ground.data }], guard := none } : Oper)) (v := ?_) rfl (by kernel_rfl) (by kernel_rfl) (by kernel_rfl) (fun _ _ _ h => h) (Or.inl ⟨by rfl, ?_⟩) hHeld ?_
    rotate_left
    · (intro w hSw; (try dsimp only at hSw); go_simp; try with_reducible rfl)
    try simp only [Act.put, List.setIfInBounds_toArray, List.set_cons_zero, List.set_cons_succ]
    refine wpAnyH_take (i := 9) (oi := ({ dst := some 28, op := Go.Op.load 9 (Go.Operand.tmp 27), type := 9, pos := "l12_trip.go:104", after := #[{ on := 8, ground := Go.Ground.data }], guard := none } : Oper)) (v := ?_) rfl (by kernel_rfl) (by kernel_rfl) (by kernel_rfl) (fun _ _ _ h => h) (Or.inl ⟨by rfl, ?_⟩) hHeld ?_
    rotate_left
    · (intro w hSw; (try dsimp only at hSw); go_simp; try with_reducible rfl)
    try simp only [Act.put, List.setIfInBounds_toArray, List.set_cons_zero, List.set_cons_succ]
    refine (fun (REST : ?G) => ?path) ?rest
    rotate_right
    case path =>
      refine wpAnyH_ready (rs := [4, 10]) (by kernel_rfl) (by simp) ?_
      refine AllReadyH.cons rfl (fun K hK => ?_) (AllReadyH.cons rfl (fun K hK => ?_) AllReadyH.nil)
      · have k2 : w2.cell? ⟨T0, o + 2, none⟩ = some (.slice aH L.length cH) := HT2.out.c2
        go_simp
        refine hK.out _ _ ⟨HT2.out.c0, HP2.out⟩ (fun hHeld => ?_)
        clear hK K
        clear k2
        refine wpAnyH_ready (rs := [10]) (by kernel_rfl) (by simp) ?_
        refine AllReadyH.cons rfl (fun K hK => ?_) AllReadyH.nil
        go_simp
        refine hK.out _ _ ⟨HT3.out.c0, HP3.out⟩ (fun hHeld => ?_)
        clear hK K
        refine wpAnyH_take (i := 11) (oi := ({ dst := some 30, op := Go.Op.build 35 #[(0, Go.Operand.tmp 29)], type := 35, pos := "l12_trip.go:104", after := #[{ on := 10, ground := Go.Ground.data }], guard := none } : Oper)) (v := ?_) rfl (by kernel_rfl) (by kernel_rfl) (by kernel_rfl) (fun _ _ _ h => h) (Or.inl ⟨by rfl, ?_⟩) hHeld ?_
        rotate_left
        · (intro w hSw; (try dsimp only at hSw); go_simp; try with_reducible rfl)
        try simp only [Act.put, List.setIfInBounds_toArray, List.set_cons_zero, List.set_cons_succ]
        refine wpAnyH_take (i := 12) (oi := ({ dst := some 31, op := Go.Op.build 38 #[(0, Go.Operand.tmp 24), (3, Go.Operand.tmp 30)], type := 38, pos := "l12_trip.go:104", after := #[{ on := 5, ground := Go.Ground.data }, { on := 11, ground := Go.Ground.data }], guard := none } : Oper)) (v := ?_) rfl (by kernel_rfl) (by kernel_rfl) (by kernel_rfl) (fun _ _ _ h => h) (Or.inl ⟨by rfl, ?_⟩) hHeld ?_
        rotate_left
        · (intro w hSw; (try dsimp only at hSw); go_simp; try with_reducible rfl)
        try simp only [Act.put, List.setIfInBounds_toArray, List.set_cons_zero, List.set_cons_succ]
        refine wpAnyH_ready (rs := [13]) (by kernel_rfl) (by simp) ?_
        refine AllReadyH.cons rfl (fun K hK => ?_) AllReadyH.nil
        go_simp
        refine hK.out _ _ ⟨HT4.out.c0, HP4.out⟩ (fun hHeld => ?_)
        clear hK K
        exact REST
      · go_simp
        refine hK.out _ _ ⟨HT3.out.c0, HP3.out⟩ (fun hHeld => ?_)
        clear hK K
        refine wpAnyH_take (i := 11) (oi := ({ dst := some 30, op := Go.Op.build 35 #[(0, Go.Operand.tmp 29)], type := 35, pos := "l12_trip.go:104", after := #[{ on := 10, ground := Go.Ground.data }], guard := none } : Oper)) (v := ?_) rfl (by kernel_rfl) (by kernel_rfl) (by kernel_rfl) (fun _ _ _ h => h) (Or.inl ⟨by rfl, ?_⟩) hHeld ?_
        rotate_left
        · (intro w hSw; (try dsimp only at hSw); go_simp; try with_reducible rfl)
        try simp only [Act.put, List.setIfInBounds_toArray, List.set_cons_zero, List.set_cons_succ]
        refine wpAnyH_take (i := 12) (oi := ({ dst := some 31, op := Go.Op.build 38 #[(0, Go.Operand.tmp 24), (3, Go.Operand.tmp 30)], type := 38, pos := "l12_trip.go:104", after := #[{ on := 5, ground := Go.Ground.data }, { on := 11, ground := Go.Ground.data }], guard := none } : Oper)) (v := ?_) rfl (by kernel_rfl) (by kernel_rfl) (by kernel_rfl) (fun _ _ _ h => h) (Or.inl ⟨by rfl, ?_⟩) hHeld ?_
        rotate_left
        · (intro w hSw; (try dsimp only at hSw); go_simp; try with_reducible rfl)
        try simp only [Act.put, List.setIfInBounds_toArray, List.set_cons_zero, List.set_cons_succ]
        refine wpAnyH_ready (rs := [4, 13]) (by kernel_rfl) (by simp) ?_
        refine AllReadyH.cons rfl (fun K hK => ?_) (AllReadyH.cons rfl (fun K hK => ?_) AllReadyH.nil)
        · have k2 : (w2.alloc (.cells #[.string t.name] 9)).cell? ⟨T0, o + 2, none⟩ = some (.slice aH L.length cH) := HT3.out.c2
          go_simp
          refine hK.out _ _ ⟨HT3.out.c0, HP3.out⟩ (fun hHeld => ?_)
          clear hK K
          clear k2
          refine wpAnyH_ready (rs := [13]) (by kernel_rfl) (by simp) ?_
          refine AllReadyH.cons rfl (fun K hK => ?_) AllReadyH.nil
          go_simp
          refine hK.out _ _ ⟨HT4.out.c0, HP4.out⟩ (fun hHeld => ?_)
          clear hK K
          exact REST
        · go_simp
          refine hK.out _ _ ⟨HT4.out.c0, HP4.out⟩ (fun hHeld => ?_)
          clear hK K
          refine wpAnyH_ready (rs := [4]) (by kernel_rfl) (by simp) ?_
          refine AllReadyH.cons rfl (fun K hK => ?_) AllReadyH.nil
          have k2 : ((w2.alloc (.cells #[.string t.name] 9)).alloc (.cells #[.string x, .int .i64 0, .bool false, .slice (some ⟨w2.heap.size, 0, none⟩) 1 1, .slice none 0 0, .int .i64 0, .int .i64 0, .slice none 0 0] 38)).cell? ⟨T0, o + 2, none⟩ = some (.slice aH L.length cH) := HT4.out.c2
          go_simp
          refine hK.out _ _ ⟨HT4.out.c0, HP4.out⟩ (fun hHeld => ?_)
          clear hK K
          clear k2
          exact REST
    case rest =>
      refine wpAnyH_ready (rs := [14]) (by kernel_rfl) (by simp) ?_
      refine AllReadyH.cons rfl (fun K hK => ?_) AllReadyH.nil
      refine step_append_lies _ rfl _ _ 26 rfl B 38 i0 (.agg #[.string ⟨#[]⟩, .int .i64 0, .bool false, .slice none 0 0, .slice none 0 0, .int .i64 0, .int .i64 0, .slice none 0 0]) 8 120 Tryz.underlying26 hi hz0 hz1 hz2 rfl (by decide) _ L.length (FHs.cells L) rfl HOW.out ⟨w2.heap.size + 1, 0, none⟩ 1 1 [.string x, .int .i64 0, .bool false, .slice (some ⟨w2.heap.size, 0, none⟩) 1 1, .slice none 0 0, .int .i64 0, .int .i64 0, .slice none 0 0] rfl rfl HNW.out (by intro u hu; simp only [List.mem_cons, List.not_mem_nil, or_false] at hu; rcases hu with rfl | rfl | rfl | rfl | rfl | rfl | rfl | rfl <;> rfl) (by omega) (by unfold maxLen; omega) (by omega) HT4.out.hB _ rfl ?_
      intro g cg w5 ho5 hg5 hat5 _
      have hO5 : OwnsR FHs 38 w5 B (.slice (some ⟨g, 0, none⟩) (L.length + 1) cg) (L ++ [nx]) := by rw [hnx]; exact OwnsR.append (F := FHs) (x := ⟨x, 0, false, ⟨[t.name], some ⟨w2.heap.size, 0, none⟩, 1, [], none, 0, 0⟩, 0, [], none, 0⟩) ho5
      have HO5 : Hid (OwnsR FHs 38 w5 B (.slice (some ⟨g, 0, none⟩) (L.length + 1) cg) ((X ++ [(⟨nx, none⟩ : Hx)]).map Hx.h)) := by show OwnsR _ _ _ _ _ _; rw [List.map_append, HLX.out]; exact hO5
      have HAT : Hid ((Value.slice (some ⟨g, 0, none⟩) (L.length + 1) cg).ownBlock = (Value.slice aH L.length cH).ownBlock ∨ ∃ g', (Value.slice (some ⟨g, 0, none⟩) (L.length + 1) cg).ownBlock = some g' ∧ ((w2.drew.alloc (.cells #[.string t.name] 9)).alloc (.cells #[.string x, .int .i64 0, .bool false, .slice (some ⟨w2.heap.size, 0, none⟩) 1 1, .slice none 0 0, .int .i64 0, .int .i64 0, .slice none 0 0] 38)).heap.size ≤ g') := by
        rcases hat5 with h | h
        · exact Or.inl h.symm
        · exact Or.inr ⟨g, rfl, by rw [h]; exact Nat.le_refl _⟩
      have HG5 : Hid _ := hg5
      have q0 : w5.cell? ⟨T0, o, none⟩ = some (.string t.name) := cell_ap HT4.out.c0 hg5 HT4.out.a1
      have q2 : w5.cell? ⟨T0, o + 2, none⟩ = some (.slice aH L.length cH) := cell_ap HT4.out.c2 hg5 HT4.out.a1
      have q9 : w5.cell? ⟨P, 0, none⟩ = some (.string x) := by
        have hpb : Ap (some P) (Value.slice aH L.length cH).ownBlock := fun k h1 h2 => by
          have e := Option.some.inj h1
          exact HPA.out k h2 e
        exact cell_ap HP4.out hg5 hpb
      have f2 : w5.frozen? ⟨T0, o + 2, none⟩ = false := fr_ap HT4.out.fr HT4.out.T_lt hg5 HT4.out.a1 2 (by decide)
      clear ho5 hg5 hat5 hO5
      refine hK.out _ _ ⟨q0, q9⟩ (fun hHeld => ?_)
      clear hK K
      refine wpAnyH_take (i := 15) (oi := ({ dst := some 34, op := Go.Op.nilCheck (Go.Operand.tmp 19), type := 0, pos := "l12_trip.go:104", after := #[{ on := 0, ground := Go.Ground.data }, { on := 0, ground := Go.Ground.phase }, { on := 1, ground := Go.Ground.phase }, { on := 2, ground := Go.Ground.phase }, { on := 3, ground := Go.Ground.phase }, { on := 4, ground := Go.Ground.phase }, { on := 5, ground := Go.Ground.phase }, { on := 6, ground := Go.Ground.phase }, { on := 7, ground := Go.Ground.phase }, { on := 8, ground := Go.Ground.phase }, { on := 9, ground := Go.Ground.phase }, { on := 10, ground := Go.Ground.phase }, { on := 11, ground := Go.Ground.phase }, { on := 12, ground := Go.Ground.phase }, { on := 13, ground := Go.Ground.phase }, { on := 14, ground := Go.Ground.phase }], guard := none } : Oper)) (v := ?_) rfl (by kernel_rfl) (by kernel_rfl) (by kernel_rfl) (fun _ _ _ h => h) (Or.inl ⟨by rfl, ?_⟩) hHeld ?_
      rotate_left
      · (intro w hSw; (try dsimp only at hSw); go_simp; try with_reducible rfl)
      simp only [Act.put, List.setIfInBounds_toArray]
      refine wpAnyH_take (i := 16) (oi := ({ dst := some 35, op := Go.Op.fieldAddr 29 (Go.Operand.tmp 34) 2, type := 0, pos := "l12_trip.go:104", after := #[{ on := 15, ground := Go.Ground.data }, { on := 0, ground := Go.Ground.phase }, { on := 1, ground := Go.Ground.phase }, { on := 2, ground := Go.Ground.phase }, { on := 3, ground := Go.Ground.phase }, { on := 4, ground := Go.Ground.phase }, { on := 5, ground := Go.Ground.phase }, { on := 6, ground := Go.Ground.phase }, { on := 7, ground := Go.Ground.phase }, { on := 8, ground := Go.Ground.phase }, { on := 9, ground := Go.Ground.phase }, { on := 10, ground := Go.Ground.phase }, { on := 11, ground := Go.Ground.phase }, { on := 12, ground := Go.Ground.phase }, { on := 13, ground := Go.Ground.phase }, { on := 14, ground := Go.Ground.phase }], guard := none } : Oper)) (v := ?_) rfl (by kernel_rfl) (by kernel_rfl) (by kernel_rfl) (fun _ _ _ h => h) (Or.inl ⟨by rfl, ?_⟩) hHeld ?_
      rotate_left
      · (intro w hSw; (try dsimp only at hSw); go_simp; try with_reducible rfl)
      simp only [Act.put]
      refine wpAnyH_ready (rs := [17]) (by kernel_rfl) (by simp) ?_
      refine AllReadyH.cons rfl (fun K hK => ?_) AllReadyH.nil
      go_simp
      refine hK.out _ _ ⟨set_other q0 (by omega), ?_⟩ (fun hHeld => ?_)
      · refine cell_ap q9 (grown_one T0 (o + 2) _) (fun k h1 h2 => ?_)
        have e1 := Option.some.inj h1
        have e2 := Option.some.inj h2
        have e3 := HT.out.T_lt
        have e4 := HPE.out
        omega
      clear hK K
      refine wpAnyH_done (by kernel_rfl) ?_ _
      clear hHeld q0 q2 q9 f2
      have HX : Hid (HxAt ((w2.drew.alloc (.cells #[.string t.name] 9)).alloc (.cells #[.string x, .int .i64 0, .bool false, .slice (some ⟨w2.heap.size, 0, none⟩) 1 1, .slice none 0 0, .int .i64 0, .int .i64 0, .slice none 0 0] 38)) B (⟨nx, none⟩ : Hx)) := by
        have hc1 : (w2.drew.alloc (.cells #[.string t.name] 9)).cell? ⟨w2.heap.size, 0, none⟩ = some (.string t.name) := by
          have := cell_one_new w2.drew (.string t.name) 9 0 _ rfl
          rw [add_mk] at this; exact this
        have hc2 := ((Below.refl _ (w2.drew.alloc (.cells #[.string t.name] 9))).alloc (Nat.le_refl _) (.cells #[.string x, .int .i64 0, .bool false, .slice (some ⟨w2.heap.size, 0, none⟩) 1 1, .slice none 0 0, .int .i64 0, .int .i64 0, .slice none 0 0] 38)).cell (St.cell_block hc1)
        have hc3 := hc2.trans hc1
        rw [hnx]
        refine ⟨⟨Nat.le_refl _, (show 1 ≤ maxLen by decide), (fun e => by cases e), fun _ => ⟨_, 0, rfl, fun i hi => ?_⟩⟩, ⟨Nat.le_refl _, (show 0 ≤ maxLen by decide), fun _ => rfl, fun e => absurd rfl e⟩, IsQF.nil _ _ _, fun k hk => ?_, fun k hk => by cases hk⟩
        · have e : i = 0 := by simpa using hi
          subst e; exact hc3
        · have e : w2.heap.size = k := Option.some.inj hk
          have := St.cell_block hc3
          rw [← e]; exact this
      have HXA : Hid (∀ b, (b = some T0 ∨ b = (Value.slice aH L.length cH).ownBlock ∨ b = vS.ownBlock ∨ b = vL.ownBlock ∨ ∃ y ∈ X, b = y.row) → Ap b (blk (⟨nx, none⟩ : Hx).h.gr.na) ∧ Ap b (blk (⟨nx, none⟩ : Hx).h.gr.ra)) := by
        intro b hb
        rw [hnx]
        refine ⟨Ap.symm (ap_fresh (n := w2.heap.size) (fun k hk => ?_) (Nat.le_refl _)), none_ap.symm⟩
        rcases hb with rfl | rfl | rfl | rfl | ⟨y, hy, rfl⟩
        · have := HT2.out.T_lt
          have e := Option.some.inj hk
          omega
        · exact row_lt HT2.out.houses k hk
        · exact row_lt HT2.out.seen k hk
        · exact row_lt HT2.out.looks k hk
        · exact ((HT2.out.each y hy).todo.lt k hk).2
      have HT6 : Hid (TrOwn (w5.setCell ⟨T0, o + 2, none⟩ (.slice (some ⟨g, 0, none⟩) (L.length + 1) cg)) B T0 o (X ++ [(⟨nx, none⟩ : Hx)]) (.slice (some ⟨g, 0, none⟩) (L.length + 1) cg) vS vL { t with hs := t.hs ++ [hmX (⟨nx, none⟩ : Hx)] }) := HT4.out.house HG5.out HO5.out HAT.out HX.out rfl HXA.out
      have HB6 : Hid (Sep w (w5.setCell ⟨T0, o + 2, none⟩ (.slice (some ⟨g, 0, none⟩) (L.length + 1) cg)) (Ow T0 X (.slice aH L.length cH) vS vL) (Ow T0 (X ++ [(⟨nx, none⟩ : Hx)]) (.slice (some ⟨g, 0, none⟩) (L.length + 1) cg) vS vL)) := (Sep.below HB4.out).trans (sep_house HG5.out HAT.out rfl)
      have HL6 : Hid (Lo T0 o w (w5.setCell ⟨T0, o + 2, none⟩ (.slice (some ⟨g, 0, none⟩) (L.length + 1) cg))) := (Lo.below HB4.out HT.out.T_lt).trans ((Lo.grown HG5.out HT4.out.a1 HT4.out.T_lt).trans Lo.set)
      obtain ⟨w6, hw6⟩ : ∃ w6, w5.setCell ⟨T0, o + 2, none⟩ (.slice (some ⟨g, 0, none⟩) (L.length + 1) cg) = w6 := ⟨_, rfl⟩
      rw [hw6] at HT6 HB6 HL6 ⊢
      have c2' := HT6.out.c2
      clear HX HXA HAT HG5 HO5
      go_wp2_with fail
      go_ret
      refine ⟨X ++ [(⟨nx, none⟩ : Hx)], g, cg, L.length, rfl, ?_, ?_, ?_, ?_, HL6.out, Or.inr ⟨fun y hy => ?_, HLN.out, ⟨nx, none⟩, rfl, ?_⟩⟩
      · have := HLN.out
        simp only [List.length_append, List.length_singleton]
        omega
      · have e1 : (X ++ [(⟨nx, none⟩ : Hx)]).length = L.length + 1 := by simp only [List.length_append, List.length_singleton]; rw [HLN.out]
        have e2 := HT6.out.hX
        rw [e1, e2]; exact HT6.out
      · have e1 : (X ++ [(⟨nx, none⟩ : Hx)]).length = L.length + 1 := by simp only [List.length_append, List.length_singleton]; rw [HLN.out]
        rw [e1]; exact HB6.out
      · refine rd_house (g := w2.heap.size) (fun k hk => ?_) (fun k hk => by rw [hnx] at hk; cases hk) HB2.out.size
        rw [hnx] at hk
        have e : w2.heap.size = k := Option.some.inj hk
        omega
      · refine HNO.out y.h ?_
        rw [← HLX.out]; exact List.mem_map_of_mem hy
      · rw [hnx]; rfl
  · have HKN : Hid (L[k].name = x) := hkn
    have HKB : Hid (∀ h ∈ L.take k, h.name ≠ x) := hkb
    have hkX : k < X.length := by have := HLN.out; omega
    obtain ⟨GH, c, hv, _, _, _, _⟩ := HT2.out.at_house (by omega)
    injection hv with e1 e2 e3
    subst e1 e3
    clear hkn hkb e2
    have c2 := HT2.out.c2
    go_wp2_with fail
    go_ret
    refine ⟨X, GH, cH, k, rfl, hkX, ?_, ?_, RdK.refl, Lo.below HB2.out HT.out.T_lt, Or.inl ⟨rfl, hkX, ?_, fun y hy => ?_⟩⟩
    · have e1 := HT2.out.hX
      rw [e1, ← HLN.out]; exact HT2.out
    · rw [← HLN.out]; exact Sep.below HB2.out
    · have e2 : L[k]? = some X[k].h := by rw [← HLX.out, List.getElem?_map, List.getElem?_eq_getElem hkX]; rfl
      rw [List.getElem?_eq_getElem hk] at e2
      rw [← Option.some.inj e2]; exact HKN.out
    · refine HKB.out y.h ?_
      rw [← HLX.out, ← List.map_take]; exact List.mem_map_of_mem hy
end Go.Proofs.YtiennniclkbjlaaGreatDoor.Tn
/- Of the program: a trip hears of a text. -/
namespace Go.Proofs.YtiennniclkbjlaaGreatDoor.Tn
open Go.RowKit Go.Proofs.YtiennniclkbjlaaGreatDoor.EscM Go.Proofs.YtiennniclkbjlaaGreatDoor.AddrM Go.Proofs.YtiennniclkbjlaaGreatDoor.ReadM Go.Proofs.YtiennniclkbjlaaGreatDoor.Rd1 Go.Proofs.YtiennniclkbjlaaGreatDoor.Ad1 Go.Proofs.YtiennniclkbjlaaGreatDoor.RuleM Go.Proofs.YtiennniclkbjlaaGreatDoor.St Go.Proofs.YtiennniclkbjlaaGreatDoor.EscL Go.Proofs.YtiennniclkbjlaaGreatDoor.RR Go.Proofs.YtiennniclkbjlaaGreatDoor.LetM Go.Proofs.YtiennniclkbjlaaGreatDoor.GrM Go.Proofs.YtiennniclkbjlaaGreatDoor.RoIt Go.Proofs.YtiennniclkbjlaaGreatDoor.RoLk Go.Proofs.YtiennniclkbjlaaGreatDoor.RoQ Go.Proofs.YtiennniclkbjlaaGreatDoor.Mp Go.Proofs.YtiennniclkbjlaaGreatDoor.WdM Go.Proofs.YtiennniclkbjlaaGreatDoor.Wd Go.Proofs.YtiennniclkbjlaaGreatDoor.TpM Go.Proofs.YtiennniclkbjlaaGreatDoor.TrM Go.Proofs.YtiennniclkbjlaaGreatDoor.TrW Go.Proofs.YtiennniclkbjlaaGreatDoor.Tq Go.Proofs.YtiennniclkbjlaaGreatDoor.PgA Go.Proofs.YtiennniclkbjlaaGreatDoor.MkA Go.Proofs.YtiennniclkbjlaaGreatDoor.Im Go.Proofs.YtiennniclkbjlaaGreatDoor.Nm

/-- how much may lie in a trip, that it be heard of more -/
structure Small (t : Tm) : Prop where
  hs : t.hs.length ≤ 900
  seen : t.seen.length ≤ 60
  rules : ∀ h ∈ t.hs, h.gp.2.1.length ≤ 1000 ∧ (∀ r ∈ h.gp.2.1, r.path.size ≤ 4194304) ∧ h.todo.length ≤ 1000
theorem Mx_low {w w' : World} {B : Nat} (h : Mx w) (hb : Below B w w') (hB : 2 < B) : Mx w' := by
  obtain ⟨m, hm⟩ := h
  exact ⟨m, (World.cell?_of_block (a := ⟨2, 0, none⟩) (hb.block _ hB)).trans hm⟩
set_option maxRecDepth 100000 in
set_option maxHeartbeats 6400000 in
theorem hear_lo (B T0 o : Nat) (X : List Hx) (vH vS vL : Value) (t : Tm) (x : ByteArray) (w : World) (hM : Mx w) (hMB : 2 < B) (h : TrOwn w B T0 o X vH vS vL t) (hm : Small t) (hx : x.size ≤ 4194304) (ha : ascii x) :
    Calls Tryz.prog 34 #[.pointer (some ⟨T0, o, none⟩), .string x] w fun e w' => e = .returned (.tuple #[]) ∧ TrIs w (Ow T0 X vH vS vL) (Rd X) B T0 o (hearT t x) w' ∧ Lo T0 o w w' := by
  have HM : Hid (Mx w) := hM
  obtain ⟨aS, cS, hv, hI⟩ := h.seen.strs
  subst hv
  obtain ⟨i0, hi, hz0, hz1, hz2⟩ := info_parts Tryz.infoS
  have HT : Hid (TrOwn w B T0 o X vH (.slice aS t.seen.length cS) vL t) := h
  have HSM : Hid (Small t) := hm
  have HRD : Hid _ := fun W hW => readAddress_any x W hW hx ha
  have HXS : Hid (x.size ≤ 4194304) := hx
  have hsl := hm.seen
  clear h hI hM hm ha hx
  go_enter Tryz.func34, Tryz.ntmps34
  go_wp2_with fail
  refine (HRD.out w HM.out).mono ?_
  rintro e w1 ⟨A, ok, a1, c1, rfl, hans, hO1, hb1⟩
  have HT1 : Hid (TrOwn w1 B T0 o X vH (.slice aS t.seen.length cS) vL t) := HT.out.below hb1
  have HB1 : Hid (Below w.heap.size w w1) := hb1
  have HM1 : Hid (Mx w1) := HM.out.below hb1
  have HOP : Hid (Owns w1 w.heap.size (.slice a1 A.parts.length c1) A.parts) := hO1
  have HANS : Hid _ := hans
  clear hans hO1 hb1 HRD
  have HT2 : Hid (TrOwn (w1.alloc (.cells #[.string A.house, .slice a1 A.parts.length c1, .bool A.asks, .string A.ask] 97)) B T0 o X vH (.slice aS t.seen.length cS) vL t) := HT1.out.alloc _
  have HB2 : Hid (Below w.heap.size w (w1.alloc (.cells #[.string A.house, .slice a1 A.parts.length c1, .bool A.asks, .string A.ask] 97))) := HB1.out.alloc HB1.out.size _
  cases ok with
  | false =>
    have HE : Hid (hearT t x = t) := by
      rcases HANS.out with ⟨h, _⟩ | ⟨_, h, _⟩
      · cases h
      · exact hear1_bad h
    go_wp2_with fail
    refine bodyPost_ret (results_none rfl _ _ _) rfl ?_
    rw [HE.out]
    exact ⟨rfl, ⟨X, _, _, _, HT2.out, Sep.below HB2.out, RdK.refl⟩, Lo.below HB2.out HT.out.T_lt⟩
  | true =>
    have HNA : Hid (normA x = some A) := by
      rcases HANS.out with ⟨_, h⟩ | ⟨h, _⟩
      · exact h
      · cases h
    have HM2 : Hid (Mx (w1.alloc (.cells #[.string A.house, .slice a1 A.parts.length c1, .bool A.asks, .string A.ask] 97))) := HM1.out.alloc _
    have HX2 : Hid (Bs 97 (w1.alloc (.cells #[.string A.house, .slice a1 A.parts.length c1, .bool A.asks, .string A.ask] 97)) w1.heap.size #[.string A.house, .slice a1 A.parts.length c1, .bool A.asks, .string A.ask]) := Bs.new _ _ _
    have HR2 : Hid (Below w1.heap.size w1 (w1.alloc (.cells #[.string A.house, .slice a1 A.parts.length c1, .bool A.asks, .string A.ask] 97))) := (Below.refl _ w1).alloc (Nat.le_refl _) _
    have HGO : Hid (¬ Ow T0 X vH (.slice aS t.seen.length cS) vL w1.heap.size) := fun h => by
      have := HT1.out.lt _ h
      omega
    obtain ⟨w2, hw2⟩ : ∃ w2, w1.alloc (.cells #[.string A.house, .slice a1 A.parts.length c1, .bool A.asks, .string A.ask] 97) = w2 := ⟨_, rfl⟩
    have HW2 : Hid (w1.alloc (.cells #[.string A.house, .slice a1 A.parts.length c1, .bool A.asks, .string A.ask] 97) = w2) := hw2
    obtain ⟨G, hG⟩ : ∃ G, w1.heap.size = G := ⟨_, rfl⟩
    have HG : Hid (w1.heap.size = G) := hG
    have c3 : (w1.alloc (.cells #[.string A.house, .slice a1 A.parts.length c1, .bool A.asks, .string A.ask] 97)).cell? ⟨T0, o + 3, none⟩ = some (.slice aS t.seen.length cS) := (HT1.out.alloc _).c3
    by_cases h60 : 60 ≤ t.seen.length
    · have HE : Hid (hearT t x = t) := hear1_full h60
      clear hw2 hG
      go_wp2_with fail
      refine bodyPost_ret (results_none rfl _ _ _) rfl ?_
      rw [HE.out]
      exact ⟨rfl, ⟨X, _, _, _, HT2.out, Sep.below HB2.out, RdK.refl⟩, Lo.below HB2.out HT.out.T_lt⟩
    · have HF : Hid (t.seen.length < 60) := by show _ < _; omega
      have hdc : decide ((60 : Int) ≤ (t.seen.length : Int)) = false := decide_eq_false (by omega)
      rw [hw2] at HT2 HB2 HM2 HX2 HR2
      rw [hG] at HX2 HGO
      clear hw2 hG HANS
      go_wp2_with fail
      rw [HG.out, HW2.out]
      refine (contains_any aS cS t.seen x w2 HT2.out.seen.strsOf (by omega)).mono ?_
      rintro e w3 ⟨rfl, n3, hw3⟩
      have hb3 : Below w2.heap.size w2 w3 := by rw [hw3]; exact ⟨rfl, rfl, rfl, Nat.le_refl _, fun _ _ => rfl⟩
      have HT3 : Hid (TrOwn w3 B T0 o X vH (.slice aS t.seen.length cS) vL t) := HT2.out.below hb3
      have HB3 : Hid (Below w.heap.size w w3) := HB2.out.trans (hb3.mono HB2.out.size)
      have HM3 : Hid (Mx w3) := HM2.out.below hb3
      have HX3 : Hid (Bs 97 w3 G #[.string A.house, .slice a1 A.parts.length c1, .bool A.asks, .string A.ask]) := HX2.out.below hb3
      have HR3 : Hid (Below w1.heap.size w1 (w3.alloc (.cells #[.string x] 9))) := (HR2.out.trans (hb3.mono HR2.out.size)).alloc (Nat.le_trans HR2.out.size hb3.size) _
      clear hb3 hw3 HT1 HB1 HM1 HT2 HB2 HM2 HX2 c3
      cases hhb : hasB x t.seen with
      | true =>
        have HE : Hid (hearT t x = t) := hear1_had hhb
        go_wp2_with fail
        refine bodyPost_ret (results_none rfl _ _ _) rfl ?_
        rw [HE.out]
        exact ⟨rfl, ⟨X, _, _, _, HT3.out, Sep.below HB3.out, RdK.refl⟩, Lo.below HB3.out HT.out.T_lt⟩
      | false =>
        have HHB : Hid (hasB x t.seen = false) := hhb
        have c3 := HT3.out.c3
        have HT3a : Hid (TrOwn (w3.alloc (.cells #[.string x] 9)) B T0 o X vH (.slice aS t.seen.length cS) vL t) := HT3.out.alloc _
        have HX3a : Hid (Bs 97 (w3.alloc (.cells #[.string x] 9)) G #[.string A.house, .slice a1 A.parts.length c1, .bool A.asks, .string A.ask]) := HX3.out.alloc _
        go_wp2_with (at_builtin; refine wpList_append_lies _ rfl _ _ 23 rfl B 9 i0 (.string ⟨#[]⟩) 1 16 Tryz.underlying23 hi hz0 hz1 hz2 rfl (by decide) _ _ _ rfl HT3a.out.seen ⟨w3.heap.size, 0, none⟩ 1 1 [.string x] rfl rfl (cell_one_new _ _ _) ?c2 (by omega) ?c3 ?c4 ?c5 (w3.heap.size + 1) ?c6 ?_)
        case c2 => first | rfl | (intro u hu; simp at hu; subst hu; rfl)
        case c3 => unfold maxLen; omega
        case c4 => omega
        case c5 => exact HT3a.out.hB
        case c6 => simp
        intro g cg w4 hown hg0 hat _
        have hOn := Owns.append (X := t.seen) (p := x) hown
        have hn4 : (Value.slice (some ⟨g, 0, none⟩) (t.seen.length + 1) cg).ownBlock = (Value.slice aS t.seen.length cS).ownBlock ∨ ∃ g', (Value.slice (some ⟨g, 0, none⟩) (t.seen.length + 1) cg).ownBlock = some g' ∧ (w3.alloc (.cells #[.string x] 9)).heap.size ≤ g' := by
          rcases hat with h | h
          · exact Or.inl h.symm
          · exact Or.inr ⟨g, rfl, by rw [h]; simp⟩
        have HT5 : Hid (TrOwn (w4.setCell ⟨T0, o + 3, none⟩ (.slice (some ⟨g, 0, none⟩) (t.seen.length + 1) cg)) B T0 o X vH (.slice (some ⟨g, 0, none⟩) (t.seen.length + 1) cg) vL { t with seen := t.seen ++ [x] }) := HT3a.out.hear hg0 hOn hn4
        have hs5 : Sep (w3.alloc (.cells #[.string x] 9)) (w4.setCell ⟨T0, o + 3, none⟩ (.slice (some ⟨g, 0, none⟩) (t.seen.length + 1) cg)) (Ow T0 X vH (.slice aS t.seen.length cS) vL) (Ow T0 X vH (.slice (some ⟨g, 0, none⟩) (t.seen.length + 1) cg) vL) := sep_hear hg0 hn4
        have HS5 : Hid (Sep w (w4.setCell ⟨T0, o + 3, none⟩ (.slice (some ⟨g, 0, none⟩) (t.seen.length + 1) cg)) (Ow T0 X vH (.slice aS t.seen.length cS) vL) (Ow T0 X vH (.slice (some ⟨g, 0, none⟩) (t.seen.length + 1) cg) vL)) := (Sep.below (HB3.out.alloc HB3.out.size _)).trans hs5
        have HLO5 : Hid (Lo T0 o w (w4.setCell ⟨T0, o + 3, none⟩ (.slice (some ⟨g, 0, none⟩) (t.seen.length + 1) cg))) := (Lo.below (HB3.out.alloc HB3.out.size _) HT.out.T_lt).trans ((Lo.grown hg0 HT3a.out.a2 HT3a.out.T_lt).trans Lo.set)
        have HK5 : Hid (∀ k, k < (w3.alloc (.cells #[.string x] 9)).heap.size → ¬ Ow T0 X vH (.slice aS t.seen.length cS) vL k → ¬ Ow T0 X vH (.slice (some ⟨g, 0, none⟩) (t.seen.length + 1) cg) vL k ∧ (w4.setCell ⟨T0, o + 3, none⟩ (.slice (some ⟨g, 0, none⟩) (t.seen.length + 1) cg)).heap[k]? = (w3.alloc (.cells #[.string x] 9)).heap[k]?) := hs5.keep
        have q3 : w4.cell? ⟨T0, o + 3, none⟩ = some (.slice aS t.seen.length cS) := cell_ap HT3a.out.c3 hg0 HT3a.out.a2
        have f3 : w4.frozen? ⟨T0, o + 3, none⟩ = false := fr_ap HT3a.out.fr HT3a.out.T_lt hg0 HT3a.out.a2 3 (by decide)
        have HX5 : Hid (Bs 97 (w4.setCell ⟨T0, o + 3, none⟩ (.slice (some ⟨g, 0, none⟩) (t.seen.length + 1) cg)) G #[.string A.house, .slice a1 A.parts.length c1, .bool A.asks, .string A.ask]) := by
          have := (hs5.keep G HX3a.out.lt HGO.out).2
          exact this.trans HX3a.out
        have y0 := HX5.out.cell 0 rfl
        have HSZ5 : Hid ((w3.alloc (.cells #[.string x] 9)).heap.size ≤ (w4.setCell ⟨T0, o + 3, none⟩ (.slice (some ⟨g, 0, none⟩) (t.seen.length + 1) cg)).heap.size) := hs5.size
        clear c3 hown hg0 hat hOn hn4 hs5
        obtain ⟨w5, hw5⟩ : ∃ w5, w4.setCell ⟨T0, o + 3, none⟩ (.slice (some ⟨g, 0, none⟩) (t.seen.length + 1) cg) = w5 := ⟨_, rfl⟩
        have HW5 : Hid (w4.setCell ⟨T0, o + 3, none⟩ (.slice (some ⟨g, 0, none⟩) (t.seen.length + 1) cg) = w5) := hw5
        rw [hw5] at HT5 HS5 HK5 HX5 HSZ5 HLO5
        clear hw5
        go_wp2_with fail
        have hXl : X.length ≤ 1000 := by
          have e1 := HT5.out.hX
          have e2 := HSM.out.hs
          have e3 : t.hs.length = X.length := by rw [← e1, List.length_map]
          omega
        rw [HW5.out]
        refine (houseOf_any B T0 o X vH _ vL _ A.house w5 HT5.out hXl).mono ?_
        rintro e w6 ⟨X', GH, c, i, rfl, hi', hT6, hs6, hrd6, hlo6, hcase⟩
        have HLO6 : Hid (Lo T0 o w w6) := HLO5.out.trans hlo6
        have HRD6 : Hid (RdK w (Rd X) (Rd X')) := RdK.trans RdK.refl hrd6 HS5.out.size
        have HT6 : Hid _ := hT6
        have HS6 : Hid _ := hs6
        have HC6 : Hid _ := hcase
        clear hT6 hs6 hrd6 hlo6 hcase y0 q3 f3
        have hG5 := HK5.out G HX3a.out.lt HGO.out
        have hG6 := HS6.out.keep G HX5.out.lt hG5.1
        have HX6 : Hid (Bs 97 w6 G #[.string A.house, .slice a1 A.parts.length c1, .bool A.asks, .string A.ask]) := hG6.2.trans HX5.out
        have y0 := HX6.out.cell 0 rfl
        have y1 := HX6.out.cell 1 rfl
        have y2 := HX6.out.cell 2 rfl
        have y3 := HX6.out.cell 3 rfl
        clear hG5 hG6
        go_wp2_with fail
        have hXi : Hid (HsC w6 GH (i * 8) X'[i].h) := fun j u hu => by
          have hj : j < 8 := by
            have := (List.getElem?_eq_some_iff.1 hu).1
            rw [FHs.len] at this; exact this
          exact HT6.out.cell rfl hi' hu hj
        have hXa := HT6.out.each _ (List.getElem_mem hi')
        have hmem : hmX X'[i] ∈ X'.map hmX := List.mem_map_of_mem (List.getElem_mem hi')
        have hsm : (hmX X'[i]).gp.2.1.length ≤ 1000 ∧ (∀ r ∈ (hmX X'[i]).gp.2.1, r.path.size ≤ 4194304) ∧ (hmX X'[i]).todo.length ≤ 1000 := by
          rcases HC6.out with ⟨e, _⟩ | ⟨_, e2, nx, e3, e4⟩
          · refine HSM.out.rules _ ?_
            have e5 := HT5.out.hX
            have e6 : X.map hmX = t.hs := e5
            rw [← e6, ← e]; exact hmem
          · have e7 : X'[i] = nx := by
              subst e3
              subst e2
              simp
            rw [e7, e4]
            exact ⟨Nat.zero_le _, (fun r hr => by cases hr), Nat.zero_le _⟩
        have HSZ : Hid (X'[i].h.todo.length ≤ 1000) := hsm.2.2
        have HRA : Hid (IsStrs w6 a1 c1 A.parts) := by
          obtain ⟨q1, q2, q3, q4⟩ := HOP.out.strsOf
          refine ⟨q1, q2, q3, fun hn => ?_⟩
          obtain ⟨b, off, e, hc⟩ := q4 hn
          refine ⟨b, off, e, fun i hi => ?_⟩
          have hb := HOP.out.lt b (by rw [e]; rfl)
          have hno : ¬ Ow T0 X vH (.slice aS t.seen.length cS) vL b := fun h => by
            have := HT.out.lt _ h
            omega
          have hl3 : b < (w3.alloc (.cells #[.string x] 9)).heap.size := Nat.lt_of_lt_of_le hb.2 HR3.out.size
          have h5 := HK5.out b hl3 hno
          have h6 := HS6.out.keep b (Nat.lt_of_lt_of_le hl3 HSZ5.out) h5.1
          rw [World.cell?_of_block (w := w1) (a := ⟨b, off + i, none⟩) (h6.2.trans (h5.2.trans (HR3.out.block b hb.2)))]
          exact hc i hi
        have hbulk : bulkA A ≤ 1000 := by
          obtain ⟨h1, _⟩ := norm_some HNA.out
          have := OB.reads_bulk (Or.inl ⟨(rfl : true = true), h1⟩)
          omega
        have HM6 : Hid (Mx w6) := Mx_low HM.out ((HS5.out.trans HS6.out).low HT.out.low HT.out.hB) hMB
        refine (houseLets_any GH (i * 8) X'[i].h A a1 c1 w6 HM6.out hXi hXa.rules (by have := hsm.1; exact Nat.le_trans this (by decide)) hsm.2.1 HRA.out hbulk).mono ?_
        rintro e w7 ⟨rfl, hb7⟩
        have HT7 : Hid (TrOwn w7 B T0 o X' (.slice (some ⟨GH, 0, none⟩) X'.length c) (.slice (some ⟨g, 0, none⟩) (t.seen.length + 1) cg) vL { t with seen := t.seen ++ [x], hs := X'.map hmX }) := HT6.out.below hb7
        have HS7 : Hid (Sep w w7 (Ow T0 X vH (.slice aS t.seen.length cS) vL) (Ow T0 X' (.slice (some ⟨GH, 0, none⟩) X'.length c) (.slice (some ⟨g, 0, none⟩) (t.seen.length + 1) cg) vL)) := (HS5.out.trans HS6.out).trans (Sep.below hb7)
        have HLO7 : Hid (Lo T0 o w w7) := HLO6.out.trans (Lo.below hb7 HT6.out.T_lt)
        have hput : putH t.name A x t.hs = (X'.map hmX).set i (addIt A x (hmX X'[i])) := by
          have e5 : X.map hmX = t.hs := HT5.out.hX
          rcases HC6.out with ⟨e, hiX, hnm, hbe⟩ | ⟨hno, e2, nx, e3, e4⟩
          · subst e
            rw [← e5]
            have hl2 : i < (X'.map hmX).length := by rw [List.length_map]; exact hiX
            have := putAt_old (nm := t.name) (x := x) (A := A) hl2 (by rw [List.getElem_map]; exact hnm) (fun y hy => by
              rw [← List.map_take] at hy
              obtain ⟨z, hz, rfl⟩ := List.mem_map.1 hy
              exact hbe z hz)
            rw [this, List.getElem_map]
          · rw [← e5]
            have := putAt_new (nm := t.name) (x := x) (A := A) (hs := X.map hmX) (fun y hy => by
              obtain ⟨z, hz, rfl⟩ := List.mem_map.1 hy
              exact hno z hz)
            rw [this]
            have e7 : X'[i] = nx := by
              subst e3
              subst e2
              simp
            have e8 : X'.map hmX = X.map hmX ++ [newH t.name A.house] := by rw [e3, List.map_append, ← e4]; rfl
            rw [e7, e4, e8, e2, List.length_map]
        have HE : Hid (hearT t x = { t with seen := t.seen ++ [x], hs := (X'.map hmX).set i (addIt A x (hmX X'[i])) }) := by
          have := hear1_yes HNA.out HF.out HHB.out
          rw [hput] at this; exact this
        clear hb7 hput hbulk hsm hmem hXa hXi y0 y1 y2 y3 HK5 HSZ5 HR3 HS5 HS6 HT5 HX5 HX6 HT3a HX3a
        cases hlt : letsL X'[i].h.gr.ru (pathF A).data.toList with
        | false =>
          have HE2 : Hid (hearT t x = { t with seen := t.seen ++ [x], hs := X'.map hmX }) := by
            have e1 : addIt A x (hmX X'[i]) = hmX X'[i] := add1_no hlt
            have e2 := HE.out
            rw [e1] at e2
            have e3 : (X'.map hmX).set i (hmX X'[i]) = X'.map hmX := by
              have hl2 : i < (X'.map hmX).length := by rw [List.length_map]; exact hi'
              rw [show hmX X'[i] = (X'.map hmX)[i] by rw [List.getElem_map]]
              exact List.set_getElem_self hl2
            rw [e3] at e2; exact e2
          go_wp2_with fail
          refine bodyPost_end (results_none rfl _ _ _) rfl ?_
          rw [HE2.out]
          exact ⟨rfl, ⟨X', _, _, _, HT7.out, HS7.out, HRD6.out⟩, HLO7.out⟩
        | true =>
          have HAD : Hid (addIt A x (hmX X'[i]) = { hmX X'[i] with todo := (hmX X'[i]).todo ++ [⟨x, 0⟩] }) := add1_yes hlt
          obtain ⟨i1, hi1, hy0, hy1, hy2⟩ := info_item
          have k7 := HT7.out.cell rfl hi' (j := 7) rfl (by decide)
          have HT8 : Hid (TrOwn (w7.alloc (.cells #[.string x, .int .i64 0] 103)) B T0 o X' (.slice (some ⟨GH, 0, none⟩) X'.length c) (.slice (some ⟨g, 0, none⟩) (t.seen.length + 1) cg) vL { t with seen := t.seen ++ [x], hs := X'.map hmX }) := HT7.out.alloc _
          have HN8 : Hid (IsRows FIt (w7.alloc (.cells #[.string x, .int .i64 0] 103)) (some ⟨w7.heap.size, 0, none⟩) 1 [(⟨x, 0⟩ : It)]) := by
            refine ⟨Nat.le_refl _, (show 1 ≤ maxLen by decide), (fun e => by cases e), fun _ => ⟨_, 0, rfl, fun j u hu => ?_⟩⟩
            rw [cell_of_row _ _ (0 + j) _ _ (0, 0) (heap_alloc_new w7 (.cells #[.string x, .int .i64 0] 103)), Nat.zero_add]
            have hu' : [Value.string x, Value.int .i64 0][j]? = some u := hu
            simpa using hu'
          have HQ8 := (HT8.out.each _ (List.getElem_mem hi')).todo
          clear hlt
          go_wp2_with (at_builtin; refine wp_append_qf rfl _ _ 36 103 rfl i1 (.agg #[.string ⟨#[]⟩, .int .i64 0]) 24 Tryz.underlying36 hi1 hy0 hy1 hy2 rfl (by decide) rfl HQ8 rfl HN8.out HT8.out.hB ?c2 ?_)
          case c2 => have := HSZ.out; simp only [List.length_singleton]; omega
          intro v9 w9 row9 hq9 hg9 hn9
          obtain ⟨a9, c9, hv9⟩ := hq9.form
          subst hv9
          have hn9' : row9 = X'[i].row ∨ ∃ g, row9 = some g ∧ (w7.alloc (.cells #[.string x, .int .i64 0] 103)).heap.size ≤ g := by simpa using hn9
          have hT9 := HT8.out.todo rfl hi' hg9 hq9 hn9'
          have hs9 : Sep (w7.alloc (.cells #[.string x, .int .i64 0] 103)) (w9.setCell ⟨GH, i * 8 + 7, none⟩ (.slice a9 (X'[i].h.todo ++ [(⟨x, 0⟩ : It)]).length c9)) (Ow T0 X' (.slice (some ⟨GH, 0, none⟩) X'.length c) (.slice (some ⟨g, 0, none⟩) (t.seen.length + 1) cg) vL) (Ow T0 (X'.set i ⟨{ X'[i].h with todo := X'[i].h.todo ++ [(⟨x, 0⟩ : It)], ta := a9, tc := c9 }, row9⟩) (.slice (some ⟨GH, 0, none⟩) X'.length c) (.slice (some ⟨g, 0, none⟩) (t.seen.length + 1) cg) vL) := sep_row hi' rfl hg9 hn9'
          have k8 := HT8.out.cell rfl hi' (j := 7) rfl (by decide)
          have haq : Ap (some GH) X'[i].row := (HT8.out.qH _ (List.getElem_mem hi')).1
          have q7 := cell_ap k8 hg9 haq
          have f7 : w9.frozen? ⟨GH, i * 8 + 7, none⟩ = false := by
            rw [World.frozen?_of_block (w := w7.alloc (.cells #[.string x, .int .i64 0] 103)) (hg9.block GH (St.cell_block k8) (fun e => haq GH rfl e.symm))]
            exact HT8.out.free rfl _
          obtain ⟨nn, hnn⟩ : ∃ nn, (X'[i].h.todo ++ [(⟨x, 0⟩ : It)]).length = nn := ⟨_, rfl⟩
          rw [hnn] at hT9 hs9 ⊢
          have HT9 : Hid (TrIs w (Ow T0 X vH (.slice aS t.seen.length cS) vL) (Rd X) B T0 o (hearT t x) (w9.setCell ⟨GH, i * 8 + 7, none⟩ (.slice a9 nn c9))) := by
            rw [HE.out, HAD.out]
            exact ⟨_, _, _, _, hT9, (HS7.out.trans (Sep.below ((Below.refl _ w7).alloc (Nat.le_refl _) _))).trans hs9, RdK.trans HRD6.out (rd_set hi' rfl rfl) (Nat.le_refl _)⟩
          have HLO9 : Hid (Lo T0 o w (w9.setCell ⟨GH, i * 8 + 7, none⟩ (.slice a9 nn c9))) := HLO7.out.trans ((Lo.below ((Below.refl _ w7).alloc (Nat.le_refl _) _) HT7.out.T_lt).trans ((Lo.grown hg9 (HT8.out.qT _ (List.getElem_mem hi')).1 HT8.out.T_lt).trans (Lo.other (fun e => HT8.out.a1 T0 rfl (by rw [← e]; rfl)))))
          clear k7 k8 hT9 hs9 hg9 hq9 hn9 hn9' hnn
          go_wp2_with fail
          refine bodyPost_end (results_none rfl _ _ _) rfl ?_
          exact ⟨rfl, HT9.out, HLO9.out⟩
theorem hear_any (B T0 o : Nat) (X : List Hx) (vH vS vL : Value) (t : Tm) (x : ByteArray) (w : World) (hM : Mx w) (hMB : 2 < B) (h : TrOwn w B T0 o X vH vS vL t) (hm : Small t) (hx : x.size ≤ 4194304) (ha : ascii x) :
    Calls Tryz.prog 34 #[.pointer (some ⟨T0, o, none⟩), .string x] w fun e w' => e = .returned (.tuple #[]) ∧ TrIs w (Ow T0 X vH vS vL) (Rd X) B T0 o (hearT t x) w' := (hear_lo B T0 o X vH vS vL t x w hM hMB h hm hx ha).mono fun _ _ h => ⟨h.1, h.2.1⟩
end Go.Proofs.YtiennniclkbjlaaGreatDoor.Tn
/- Of the program: a trip from some addresses on. -/
namespace Go.Proofs.YtiennniclkbjlaaGreatDoor.Tn
open Go.RowKit Go.Proofs.YtiennniclkbjlaaGreatDoor.EscM Go.Proofs.YtiennniclkbjlaaGreatDoor.AddrM Go.Proofs.YtiennniclkbjlaaGreatDoor.ReadM Go.Proofs.YtiennniclkbjlaaGreatDoor.Rd1 Go.Proofs.YtiennniclkbjlaaGreatDoor.Ad1 Go.Proofs.YtiennniclkbjlaaGreatDoor.RuleM Go.Proofs.YtiennniclkbjlaaGreatDoor.St Go.Proofs.YtiennniclkbjlaaGreatDoor.EscL Go.Proofs.YtiennniclkbjlaaGreatDoor.RR Go.Proofs.YtiennniclkbjlaaGreatDoor.LetM Go.Proofs.YtiennniclkbjlaaGreatDoor.GrM Go.Proofs.YtiennniclkbjlaaGreatDoor.RoIt Go.Proofs.YtiennniclkbjlaaGreatDoor.RoLk Go.Proofs.YtiennniclkbjlaaGreatDoor.RoQ Go.Proofs.YtiennniclkbjlaaGreatDoor.Mp Go.Proofs.YtiennniclkbjlaaGreatDoor.WdM Go.Proofs.YtiennniclkbjlaaGreatDoor.Wd Go.Proofs.YtiennniclkbjlaaGreatDoor.TpM Go.Proofs.YtiennniclkbjlaaGreatDoor.TrM Go.Proofs.YtiennniclkbjlaaGreatDoor.TrW Go.Proofs.YtiennniclkbjlaaGreatDoor.Tq Go.Proofs.YtiennniclkbjlaaGreatDoor.PgA Go.Proofs.YtiennniclkbjlaaGreatDoor.MkA Go.Proofs.YtiennniclkbjlaaGreatDoor.Im Go.Proofs.YtiennniclkbjlaaGreatDoor.Nm

theorem rule_sz {l : List UInt8} (h : ruleL l = true) : l.length ≤ 16 := by
  unfold ruleL at h
  simp only [Bool.and_eq_true, decide_eq_true_eq] at h
  omega
theorem hear_fewer {t : Tm} (h : t.hs.length ≤ t.seen.length) (x : ByteArray) : (hearT t x).hs.length ≤ (hearT t x).seen.length := by
  unfold hearT
  cases normA x with
  | none => exact h
  | some A =>
    dsimp only
    split
    · exact h
    · have := put_len (nm := t.name) (A := A) (x := x) t.hs
      simp only [List.length_append, List.length_singleton]
      omega
theorem small_of {t : Tm} (h : TmOk t) (hl : t.hs.length ≤ t.seen.length) : Small t := by
  refine ⟨by have := h.sl; omega, h.sl, fun g hg => ?_⟩
  have hk := h.hh g hg
  refine ⟨by have := hk.rl; omega, fun r hr => ?_, ?_⟩
  · have := rule_sz (hk.ro r hr)
    have e : r.path.size = r.path.data.toList.length := by simp
    omega
  · have := ReM.nodup_len hk.on (fun y hy => by
      obtain ⟨z, hz, rfl⟩ := List.mem_map.1 hy
      exact (hk.td z hz).2.1)
    rw [List.length_map] at this
    have := h.sl
    omega
end Go.Proofs.YtiennniclkbjlaaGreatDoor.Tn
/- Of the program: a trip from some addresses on. -/
namespace Go.Proofs.YtiennniclkbjlaaGreatDoor.Tn
open Go.RowKit Go.Proofs.YtiennniclkbjlaaGreatDoor.EscM Go.Proofs.YtiennniclkbjlaaGreatDoor.AddrM Go.Proofs.YtiennniclkbjlaaGreatDoor.ReadM Go.Proofs.YtiennniclkbjlaaGreatDoor.Rd1 Go.Proofs.YtiennniclkbjlaaGreatDoor.Ad1 Go.Proofs.YtiennniclkbjlaaGreatDoor.RuleM Go.Proofs.YtiennniclkbjlaaGreatDoor.St Go.Proofs.YtiennniclkbjlaaGreatDoor.EscL Go.Proofs.YtiennniclkbjlaaGreatDoor.RR Go.Proofs.YtiennniclkbjlaaGreatDoor.LetM Go.Proofs.YtiennniclkbjlaaGreatDoor.GrM Go.Proofs.YtiennniclkbjlaaGreatDoor.RoIt Go.Proofs.YtiennniclkbjlaaGreatDoor.RoLk Go.Proofs.YtiennniclkbjlaaGreatDoor.RoQ Go.Proofs.YtiennniclkbjlaaGreatDoor.Mp Go.Proofs.YtiennniclkbjlaaGreatDoor.WdM Go.Proofs.YtiennniclkbjlaaGreatDoor.Wd Go.Proofs.YtiennniclkbjlaaGreatDoor.TpM Go.Proofs.YtiennniclkbjlaaGreatDoor.TrM Go.Proofs.YtiennniclkbjlaaGreatDoor.TrW Go.Proofs.YtiennniclkbjlaaGreatDoor.Tq Go.Proofs.YtiennniclkbjlaaGreatDoor.PgA Go.Proofs.YtiennniclkbjlaaGreatDoor.MkA Go.Proofs.YtiennniclkbjlaaGreatDoor.Im Go.Proofs.YtiennniclkbjlaaGreatDoor.Nm

/-- a trip of one's own lies there, as it is read -/
theorem own_tp {w : World} {B T0 o : Nat} {X : List Hx} {vH vS vL : Value} {t : Tm} (h : TrOwn w B T0 o X vH vS vL t) : ∃ p : Tp, tmP p = t ∧ (∀ w', TrOwn w' B T0 o X vH vS vL t → TpAt w' p) ∧ p.name = t.name ∧ p.now = t.now ∧ vH = .slice p.ha p.hs.length p.hc ∧ vS = .slice p.sa p.seen.length p.sc ∧ vL = .slice p.la p.lk.length p.lc := by
  obtain ⟨aH, cH, e1, _⟩ := h.houses.rows
  obtain ⟨aS, cS, e2, _⟩ := h.seen.strs
  obtain ⟨aL, cL, e3, _⟩ := h.looks.rows
  refine ⟨⟨t.name, t.now, X.map Hx.h, aH, cH, t.seen, aS, cS, t.lk, aL, cL⟩, ?_, fun w' h' => ?_, rfl, rfl, e1, e2, e3⟩
  · have e := h.hX
    unfold tmP
    rw [List.map_map, show hmS ∘ Hx.h = hmX from rfl, e]
  · obtain ⟨aH', cH', e1', q1⟩ := h'.houses.rows
    obtain ⟨aS', cS', e2', q2⟩ := h'.seen.strs
    obtain ⟨aL', cL', e3', q3⟩ := h'.looks.rows
    have d1 := e1.symm.trans e1'
    have d2 := e2.symm.trans e2'
    have d3 := e3.symm.trans e3'
    injection d1 with a1 _ b1
    injection d2 with a2 _ b2
    injection d3 with a3 _ b3
    subst a1 b1 a2 b2 a3 b3
    refine ⟨q1, ?_, q2, q3⟩
    intro g hg
    obtain ⟨x, hx, rfl⟩ := List.mem_map.1 hg
    have hq := h'.each x hx
    refine ⟨⟨hq.names, hq.rules⟩, ?_⟩
    obtain ⟨a, c, e, hr⟩ := hq.todo.rows
    injection e with e4 _ e5
    subst e4 e5
    exact hr
/-- one that begins -/
theorem own_empty (w : World) (B : Nat) (hB : B ≤ w.heap.size) (name : ByteArray) (now : Int) : TrOwn (w.alloc (.cells #[.string name, .int .i64 now, .slice none 0 0, .slice none 0 0, .slice none 0 0] 29)) B w.heap.size 0 [] (.slice none 0 0) (.slice none 0 0) (.slice none 0 0) ⟨name, now, [], [], []⟩ := by
  have hb := Bs.new 29 w #[.string name, .int .i64 now, .slice none 0 0, .slice none 0 0, .slice none 0 0]
  have hs : (w.alloc (.cells #[.string name, .int .i64 now, .slice none 0 0, .slice none 0 0, .slice none 0 0] 29)).heap.size = w.heap.size + 1 := by simp
  exact ⟨rfl, hb.cell 0 rfl, hb.cell 1 rfl, hb.cell 2 rfl, hb.cell 3 rfl, hb.cell 4 rfl, fun j _ => hb.free _, hB, by omega, World.ownsRow_nil _ _ _ _, World.ownsRow_nil _ _ _ _, World.ownsRow_nil _ _ _ _, (fun x hx => by cases hx), none_ap.symm, none_ap.symm, none_ap.symm, none_ap, none_ap, none_ap, (fun x hx => by cases hx), (fun x hx => by cases hx), (fun x hx => by cases hx), (fun x hx => by cases hx), List.Pairwise.nil, (fun x hx => by cases hx)⟩
theorem hears_fewer : ∀ (S : List ByteArray) {t : Tm}, t.hs.length ≤ t.seen.length → (S.foldl hearT t).hs.length ≤ (S.foldl hearT t).seen.length := by
  intro S
  induction S with
  | nil => intro t h; exact h
  | cons x r ih => intro t h; exact ih (hear_fewer h x)
def tpZ : Tp := ⟨⟨#[]⟩, 0, [], none, 0, [], none, 0, [], none, 0⟩
/-- how a trip begins, or none -/
def NewIs (name : ByteArray) (S : List ByteArray) (w : World) (e : Ending) (w' : World) : Prop :=
  if nameB name && decide (S.length ≤ 12) then ∃ p : Tp, e = .returned (.tuple #[tpV p, .bool true]) ∧ tmP p = newT name S ∧ TpAt w' p ∧ Below w.heap.size w w'
  else e = .returned (.tuple #[tpV tpZ, .bool false]) ∧ Below w.heap.size w w'
theorem zeroTp (w : World) : (zeroValue 29).run Tryz.prog w = .ok (tpV tpZ) w :=
  (zero_of_info (show (Tryz.prog.info? 29).map (fun i => (i.zero, i.size)) = some (some (tpV tpZ), 5) by kernel_rfl)).1 w
set_option maxRecDepth 100000 in
set_option maxHeartbeats 3200000 in
theorem tripNew_any (name : ByteArray) (a0 : Option Addr) (cap : Nat) (S : List ByteArray) (w : World) (hM : Mx w) (hS : IsStrs w a0 cap S) (hn : name.size ≤ 4194304) (hl : S.length ≤ 4194304) (hx : ∀ s ∈ S, s.size ≤ 4194304 ∧ ascii s) :
    Calls Tryz.prog 11 #[.string name, .slice a0 S.length cap] w fun e w' => NewIs name S w e w' := by
  have HM : Hid (Mx w) := hM
  have HS : Hid (IsStrs w a0 cap S) := hS
  have HNM : Hid (∀ W : World, Calls Tryz.prog 33 #[.string name] W fun e w' => e = .returned (.bool (nameB name)) ∧ w' = W) := fun W => implName_any name W (by unfold maxLen; omega)
  have HX : Hid (∀ s ∈ S, s.size ≤ 4194304 ∧ ascii s) := hx
  have HZ : Hid (Bs 29 (w.alloc (.cells #[.string ⟨#[]⟩, .int .i64 0, .slice none 0 0, .slice none 0 0, .slice none 0 0] 29)) w.heap.size #[.string ⟨#[]⟩, .int .i64 0, .slice none 0 0, .slice none 0 0, .slice none 0 0]) := Bs.new _ _ _
  have HBZ : Hid (Below w.heap.size w (w.alloc (.cells #[.string ⟨#[]⟩, .int .i64 0, .slice none 0 0, .slice none 0 0, .slice none 0 0] 29))) := (Below.refl _ w).alloc (Nat.le_refl _) _
  clear hM hS hx hn
  go_enter Tryz.func11, Tryz.ntmps11
  go_wp2_with fail
  refine (HNM.out _).mono ?_
  rintro e w1 ⟨rfl, rfl⟩
  cases hnb : nameB name with
  | false =>
    have d0 := HZ.out.cell 0 rfl
    have d1 := HZ.out.cell 1 rfl
    have d2 := HZ.out.cell 2 rfl
    have d3 := HZ.out.cell 3 rfl
    have d4 := HZ.out.cell 4 rfl
    have HE : Hid (nameB name = false) := hnb
    go_wp2_with fail
    refine bodyPost_ret (v := .tuple #[tpV tpZ, .bool false]) (by simp [results, Tryz.results11, go_sem, d0, d1, d2, d3, d4, tpV, tpZ]) rfl ?_
    unfold NewIs
    rw [HE.out, Bool.false_and, if_neg (by simp)]
    exact ⟨rfl, HBZ.out⟩
  | true =>
    have HE : Hid (nameB name = true) := hnb
    by_cases h12 : S.length ≤ 12
    · have H12 : Hid (S.length ≤ 12) := h12
      have HT0 : Hid (TrOwn ((w.alloc (.cells #[.string ⟨#[]⟩, .int .i64 0, .slice none 0 0, .slice none 0 0, .slice none 0 0] 29)).alloc (.cells #[.string name, .int .i64 0, .slice none 0 0, .slice none 0 0, .slice none 0 0] 29)) (w.heap.size + 1) (w.heap.size + 1) 0 [] (.slice none 0 0) (.slice none 0 0) (.slice none 0 0) ⟨name, 0, [], [], []⟩) := by
        have := own_empty (w.alloc (.cells #[.string ⟨#[]⟩, .int .i64 0, .slice none 0 0, .slice none 0 0, .slice none 0 0] 29)) (w.heap.size + 1) (by simp) name 0
        rw [show (w.alloc (.cells #[.string ⟨#[]⟩, .int .i64 0, .slice none 0 0, .slice none 0 0, .slice none 0 0] 29)).heap.size = w.heap.size + 1 by simp] at this
        exact this
      have HZ0 : Hid (Bs 29 ((w.alloc (.cells #[.string ⟨#[]⟩, .int .i64 0, .slice none 0 0, .slice none 0 0, .slice none 0 0] 29)).alloc (.cells #[.string name, .int .i64 0, .slice none 0 0, .slice none 0 0, .slice none 0 0] 29)) w.heap.size #[.string ⟨#[]⟩, .int .i64 0, .slice none 0 0, .slice none 0 0, .slice none 0 0]) := HZ.out.alloc _
      have HB0 : Hid (Below w.heap.size w ((w.alloc (.cells #[.string ⟨#[]⟩, .int .i64 0, .slice none 0 0, .slice none 0 0, .slice none 0 0] 29)).alloc (.cells #[.string name, .int .i64 0, .slice none 0 0, .slice none 0 0, .slice none 0 0] 29))) := HBZ.out.alloc HBZ.out.size _
      obtain ⟨w2, hw2⟩ : ∃ w2, (w.alloc (.cells #[.string ⟨#[]⟩, .int .i64 0, .slice none 0 0, .slice none 0 0, .slice none 0 0] 29)).alloc (.cells #[.string name, .int .i64 0, .slice none 0 0, .slice none 0 0, .slice none 0 0] 29) = w2 := ⟨_, rfl⟩
      have HW2 : Hid ((w.alloc (.cells #[.string ⟨#[]⟩, .int .i64 0, .slice none 0 0, .slice none 0 0, .slice none 0 0] 29)).alloc (.cells #[.string name, .int .i64 0, .slice none 0 0, .slice none 0 0, .slice none 0 0] 29) = w2) := hw2
      rw [hw2] at HT0 HZ0 HB0
      have HMX : Hid (2 < w.heap.size + 1) := by
        obtain ⟨m, hm⟩ := HM.out
        have : 2 < w.heap.size := St.cell_block hm
        show _ < _
        omega
      clear hw2 hnb h12
      have hdc : decide ((12 : Int) < (S.length : Int)) = false := decide_eq_false (by have := H12.out; omega)
      go_wp2_with fail
      go_loopw [22] (fun i wr => ∃ k : Nat, k ≤ S.length ∧ i = .int .i64 (k : Int) ∧ Hid (TrIs w2 (Ow (w.heap.size + 1) [] (.slice none 0 0) (.slice none 0 0) (.slice none 0 0)) (Rd []) (w.heap.size + 1) (w.heap.size + 1) 0 ((S.take k).foldl hearT ⟨name, 0, [], [], []⟩) wr)) (fun i _ => S.length - (intOf i).toNat)
      case atStart =>
        refine ⟨0, Nat.zero_le _, rfl, ?_⟩
        rw [HW2.out]
        exact ⟨[], _, _, _, HT0.out, Sep.refl, RdK.refl⟩
      case round =>
        obtain ⟨k, hk, rfl, X, vH, vS, vL, hT, hs, hr⟩ := hrel
        have HT : Hid _ := hT
        have HSP : Hid _ := hs
        have HRD : Hid _ := hr
        have hb : Below (w.heap.size + 1) w2 wr := hs.low HT0.out.low HT0.out.hB
        have HB : Hid (Below w.heap.size w wr) := HB0.out.trans (hb.mono (Nat.le_succ _))
        have HZ1 : Hid (Bs 29 wr w.heap.size #[.string ⟨#[]⟩, .int .i64 0, .slice none 0 0, .slice none 0 0, .slice none 0 0]) := (hb.block w.heap.size (Nat.lt_succ_self _)).trans HZ0.out
        have hS1 := HS.out.below HB.out
        clear hT hs hr hb
        by_cases hlt : k < S.length
        · obtain ⟨q1, q2, q3, q4⟩ := hS1
          obtain ⟨b, off, e1, hc⟩ := q4 (by intro e; rw [e] at hlt; exact absurd hlt (Nat.not_lt_zero _))
          have hck := hc k hlt
          have hxx := HX.out S[k] (List.getElem_mem hlt)
          have HTK : Hid ((S.take (k + 1)).foldl hearT ⟨name, 0, [], [], []⟩ = hearT ((S.take k).foldl hearT ⟨name, 0, [], [], []⟩) S[k]) := by
            show _ = _
            rw [List.take_succ_eq_append_getElem hlt, List.foldl_append]; rfl
          subst e1
          clear hc q1 q3 q4
          have HSM : Hid (Small ((S.take k).foldl hearT ⟨name, 0, [], [], []⟩)) := small_of (hears_ok _ (empty_ok HE.out)) (hears_fewer _ (Nat.le_refl _))
          have HHC : Hid _ := hear_any (w.heap.size + 1) (w.heap.size + 1) 0 X vH vS vL _ S[k] wr (HM.out.below HB.out) HMX.out HT.out HSM.out hxx.1 hxx.2
          clear hxx
          generalize S[k] = x at *
          go_wp2_with (go_at_call 34; refine Calls.mono HHC.out ?_; rintro e w3 ⟨rfl, X2, vH2, vS2, vL2, hT2, hs2, hr2⟩; have HT2 : Hid _ := hT2; have HS2 : Hid _ := hs2; have HR2 : Hid _ := hr2; clear hT2 hs2 hr2)
          go_roundw
          case rel =>
            refine ⟨k + 1, by omega, by go_num, X2, vH2, vS2, vL2, ?_, HSP.out.trans HS2.out, RdK.trans HRD.out HR2.out HSP.out.size⟩
            rw [HTK.out]; exact HT2.out
          case measure => simp [intOf]; omega
        · have hkl : k = S.length := by omega
          subst hkl
          have HTE : Hid (TrOwn wr (w.heap.size + 1) (w.heap.size + 1) 0 X vH vS vL (newT name S)) := by
            have := HT.out
            rw [List.take_of_length_le (Nat.le_refl _)] at this; exact this
          obtain ⟨p, hp, hpA, hpn, hpw, e1, e2, e3⟩ := own_tp HTE.out
          subst e1 e2 e3
          have c0 : wr.cell? ⟨w.heap.size + 1, 0, none⟩ = some (.string p.name) := by rw [hpn]; exact HTE.out.c0
          have c1 : wr.cell? ⟨w.heap.size + 1, 1, none⟩ = some (.int .i64 p.now) := by rw [hpw]; have := HTE.out.c1; simpa using this
          have c2 := HTE.out.c2
          have c3 := HTE.out.c3
          have c4 := HTE.out.c4
          rw [Nat.zero_add] at c2 c3 c4
          have z0 := HZ1.out.cell 0 rfl
          have z1 := HZ1.out.cell 1 rfl
          have z2 := HZ1.out.cell 2 rfl
          have z3 := HZ1.out.cell 3 rfl
          have z4 := HZ1.out.cell 4 rfl
          have f0 := HZ1.out.free 0
          have f1 := HZ1.out.free 1
          have f2 := HZ1.out.free 2
          have f3 := HZ1.out.free 3
          have f4 := HZ1.out.free 4
          have HPP : Hid (tmP p = newT name S) := hp
          have HPA : Hid (∀ w', TrOwn w' (w.heap.size + 1) (w.heap.size + 1) 0 X (.slice p.ha p.hs.length p.hc) (.slice p.sa p.seen.length p.sc) (.slice p.la p.lk.length p.lc) (newT name S) → TpAt w' p) := hpA
          clear hp hpA hpn hpw hlt hk hS1
          go_wp2_with fail
          have HF : Hid (Bs 29 (((((wr.setCell ⟨w.heap.size, 0, none⟩ (.string p.name)).setCell ⟨w.heap.size, 1, none⟩ (.int .i64 p.now)).setCell ⟨w.heap.size, 2, none⟩ (.slice p.ha p.hs.length p.hc)).setCell ⟨w.heap.size, 3, none⟩ (.slice p.sa p.seen.length p.sc)).setCell ⟨w.heap.size, 4, none⟩ (.slice p.la p.lk.length p.lc)) w.heap.size #[.string p.name, .int .i64 p.now, .slice p.ha p.hs.length p.hc, .slice p.sa p.seen.length p.sc, .slice p.la p.lk.length p.lc]) := ((((HZ1.out.set 0 _).set 1 _).set 2 _).set 3 _).set 4 _
          have hw2s : w.heap.size < w2.heap.size := by rw [← HW2.out]; simp; omega
          have hno := (HSP.out.keep w.heap.size hw2s (fun h => by
            rcases h with h | h | h | h | ⟨_, h, _⟩
            · omega
            · cases h
            · cases h
            · cases h
            · cases h)).1
          have hnr := HRD.out w.heap.size hw2s (fun h => by
            obtain ⟨_, h, _⟩ := h
            cases h)
          have HTF := ((((HTE.out.apart (grown_one w.heap.size 0 (.string p.name)) hno hnr).apart (grown_one w.heap.size 1 (.int .i64 p.now)) hno hnr).apart (grown_one w.heap.size 2 (.slice p.ha p.hs.length p.hc)) hno hnr).apart (grown_one w.heap.size 3 (.slice p.sa p.seen.length p.sc)) hno hnr).apart (grown_one w.heap.size 4 (.slice p.la p.lk.length p.lc)) hno hnr
          have HBF : Hid (Below w.heap.size w (((((wr.setCell ⟨w.heap.size, 0, none⟩ (.string p.name)).setCell ⟨w.heap.size, 1, none⟩ (.int .i64 p.now)).setCell ⟨w.heap.size, 2, none⟩ (.slice p.ha p.hs.length p.hc)).setCell ⟨w.heap.size, 3, none⟩ (.slice p.sa p.seen.length p.sc)).setCell ⟨w.heap.size, 4, none⟩ (.slice p.la p.lk.length p.lc))) := by
            show Below _ _ _
            iterate 5 refine Below.setCell ?_ (by dsimp only; omega) _
            exact HB.out
          have HPF : Hid _ := HPA.out _ HTF
          clear HTF hno hnr
          obtain ⟨wf, hwf⟩ : ∃ wf, (((((wr.setCell ⟨w.heap.size, 0, none⟩ (.string p.name)).setCell ⟨w.heap.size, 1, none⟩ (.int .i64 p.now)).setCell ⟨w.heap.size, 2, none⟩ (.slice p.ha p.hs.length p.hc)).setCell ⟨w.heap.size, 3, none⟩ (.slice p.sa p.seen.length p.sc)).setCell ⟨w.heap.size, 4, none⟩ (.slice p.la p.lk.length p.lc)) = wf := ⟨_, rfl⟩
          rw [hwf] at HF HBF HPF ⊢
          have y0 := HF.out.cell 0 rfl
          have y1 := HF.out.cell 1 rfl
          have y2 := HF.out.cell 2 rfl
          have y3 := HF.out.cell 3 rfl
          have y4 := HF.out.cell 4 rfl
          refine bodyPost_ret (v := .tuple #[tpV p, .bool true]) (by simp [results, Tryz.results11, go_sem, y0, y1, y2, y3, y4, tpV]) rfl ?_
          unfold NewIs
          rw [HE.out, decide_eq_true H12.out, Bool.and_true, if_pos rfl]
          exact ⟨p, rfl, HPP.out, HPF.out, HBF.out⟩
    · have HE2 : Hid (¬ S.length ≤ 12) := h12
      have d0 := HZ.out.cell 0 rfl
      have d1 := HZ.out.cell 1 rfl
      have d2 := HZ.out.cell 2 rfl
      have d3 := HZ.out.cell 3 rfl
      have d4 := HZ.out.cell 4 rfl
      go_wp2_with fail
      refine bodyPost_ret (v := .tuple #[tpV tpZ, .bool false]) (by simp [results, Tryz.results11, go_sem, d0, d1, d2, d3, d4, tpV, tpZ]) rfl ?_
      unfold NewIs
      rw [decide_eq_false HE2.out, Bool.and_false, if_neg (by simp)]
      exact ⟨rfl, HBZ.out⟩
end Go.Proofs.YtiennniclkbjlaaGreatDoor.Tn
/- Of the program: where, and when, the next call of a trip is. -/
namespace Go.Proofs.YtiennniclkbjlaaGreatDoor.Tn
open Go.RowKit Go.Proofs.YtiennniclkbjlaaGreatDoor.EscM Go.Proofs.YtiennniclkbjlaaGreatDoor.AddrM Go.Proofs.YtiennniclkbjlaaGreatDoor.ReadM Go.Proofs.YtiennniclkbjlaaGreatDoor.Rd1 Go.Proofs.YtiennniclkbjlaaGreatDoor.Ad1 Go.Proofs.YtiennniclkbjlaaGreatDoor.RuleM Go.Proofs.YtiennniclkbjlaaGreatDoor.St Go.Proofs.YtiennniclkbjlaaGreatDoor.EscL Go.Proofs.YtiennniclkbjlaaGreatDoor.RR Go.Proofs.YtiennniclkbjlaaGreatDoor.LetM Go.Proofs.YtiennniclkbjlaaGreatDoor.GrM Go.Proofs.YtiennniclkbjlaaGreatDoor.RoIt Go.Proofs.YtiennniclkbjlaaGreatDoor.RoLk Go.Proofs.YtiennniclkbjlaaGreatDoor.RoQ Go.Proofs.YtiennniclkbjlaaGreatDoor.Mp Go.Proofs.YtiennniclkbjlaaGreatDoor.WdM Go.Proofs.YtiennniclkbjlaaGreatDoor.Wd Go.Proofs.YtiennniclkbjlaaGreatDoor.TpM Go.Proofs.YtiennniclkbjlaaGreatDoor.TrM Go.Proofs.YtiennniclkbjlaaGreatDoor.TrW Go.Proofs.YtiennniclkbjlaaGreatDoor.Tq Go.Proofs.YtiennniclkbjlaaGreatDoor.PgA Go.Proofs.YtiennniclkbjlaaGreatDoor.MkA Go.Proofs.YtiennniclkbjlaaGreatDoor.Im Go.Proofs.YtiennniclkbjlaaGreatDoor.Nm

set_option maxRecDepth 100000 in
set_option maxHeartbeats 1600000 in
theorem nextC_any (b o T0 o' P : Nat) (h : Hs) (now : Int) (w : World) (hc : HsC w b o h) (hp : w.cell? ⟨P, 0, none⟩ = some (.pointer (some ⟨T0, o', none⟩))) (hn : w.cell? ⟨T0, o' + 1, none⟩ = some (.int .i64 now)) :
    Calls Tryz.prog 77 #[.pointer (some ⟨b, o, none⟩), .pointer (some ⟨P, 0, none⟩)] w fun e w' => e = .returned (.tuple #[.int .i64 (max h.ready now), .bool (decide (0 < h.todo.length))]) ∧ Below w.heap.size w w' := by
  have k1 := hc 1 _ rfl
  have k7 := hc 7 _ rfl
  have d1 : w.drew.cell? ⟨b, o + 1, none⟩ = some (.int .i64 h.ready) := k1
  have d7 : w.drew.cell? ⟨b, o + 7, none⟩ = some (.slice h.ta h.todo.length h.tc) := k7
  have dp : w.drew.cell? ⟨P, 0, none⟩ = some (.pointer (some ⟨T0, o', none⟩)) := hp
  have dn : w.drew.cell? ⟨T0, o' + 1, none⟩ = some (.int .i64 now) := hn
  clear hc k1 k7
  go_enter Tryz.func77, Tryz.ntmps77
  go_wp2_with fail
  go_region_held_law (fun w' => w'.cell? ⟨b, o + 1, none⟩ = some (.int .i64 h.ready) ∧ w'.cell? ⟨b, o + 7, none⟩ = some (.slice h.ta h.todo.length h.tc) ∧ w'.cell? ⟨P, 0, none⟩ = some (.pointer (some ⟨T0, o', none⟩)) ∧ w'.cell? ⟨T0, o' + 1, none⟩ = some (.int .i64 now)) (go_keep) (fail)
  go_wp2_with fail
  refine bodyPost_ret (v := .tuple #[.int .i64 (max h.ready now), .bool (decide (0 < h.todo.length))]) (by simp [results, Tryz.results77, go_sem]) rfl ?_
  exact ⟨rfl, (Below.refl _ w).drew⟩
theorem due_at {now : Int} {h : Hs} : TrM.due now (hmS h) = if h.todo.length = 0 then none else some (max h.ready now) := rfl
/-- how far one has looked, as three variables -/
def plI (R : Option (Nat × Int)) : Int := match R with | none => 0 | some (p, _) => (p : Int)
def plM (R : Option (Nat × Int)) : Int := match R with | none => 0 | some (_, m) => m
def capN : Option (Nat × Int) → Option (Nat × Int)
  | none => none
  | some (i, m) => if 5000 < m then none else some (i, m)
theorem next_cap {t : Tm} : nextT t = capN (firstTo (TrM.due t.now) t.hs t.hs.length) := by
  unfold nextT
  cases firstTo (TrM.due t.now) t.hs t.hs.length with
  | none => rfl
  | some im => rfl
theorem to_step {now : Int} {L : List Hs} {k : Nat} (hk : k < L.length) : firstTo (TrM.due now) (L.map hmS) (k + 1) = (if L[k].todo.length = 0 then firstTo (TrM.due now) (L.map hmS) k else match firstTo (TrM.due now) (L.map hmS) k with | none => some (k, max L[k].ready now) | some (i, m) => if max L[k].ready now < m then some (k, max L[k].ready now) else some (i, m)) := by
  conv => lhs; unfold firstTo
  rw [List.getElem?_map, List.getElem?_eq_getElem hk]
  show (match TrM.due now (hmS L[k]) with | none => _ | some v => _) = _
  rw [due_at]
  by_cases h0 : L[k].todo.length = 0
  · rw [if_pos h0, if_pos h0]
  · rw [if_neg h0, if_neg h0]; rfl
--IF impl.nextCall$1
set_option maxRecDepth 100000 in
set_option maxHeartbeats 3200000 in
theorem firstLeast_any (GH off T0 o' P cH : Nat) (L : List Hs) (now : Int) (w : World) (a0 : Option Addr) (hI : IsRows FHs w a0 cH L) (ha : 0 < L.length → a0 = some ⟨GH, off, none⟩) (hp : w.cell? ⟨P, 0, none⟩ = some (.pointer (some ⟨T0, o', none⟩))) (hn : w.cell? ⟨T0, o' + 1, none⟩ = some (.int .i64 now)) (hl : L.length ≤ 4194304) :
    Calls Tryz.prog 76 #[.slice a0 L.length cH, .func (.func 77) #[] #[.pointer (some ⟨P, 0, none⟩)]] w fun e w' => e = .returned (.tuple #[.int .i64 (plI (firstTo (TrM.due now) (L.map hmS) L.length)), .int .i64 (plM (firstTo (TrM.due now) (L.map hmS) L.length)), .bool (firstTo (TrM.due now) (L.map hmS) L.length).isSome]) ∧ Below w.heap.size w w' := by
  have HI : Hid (IsRows FHs w a0 cH L) := hI
  have HP : Hid (w.cell? ⟨P, 0, none⟩ = some (.pointer (some ⟨T0, o', none⟩))) := hp
  have HN : Hid (w.cell? ⟨T0, o' + 1, none⟩ = some (.int .i64 now)) := hn
  obtain ⟨R, hR⟩ : ∃ R : Nat → Option (Nat × Int), R = fun k => firstTo (TrM.due now) (L.map hmS) k := ⟨_, rfl⟩
  have HST : Hid (∀ k (hk : k < L.length), R (k + 1) = (if L[k].todo.length = 0 then R k else match R k with | none => some (k, max L[k].ready now) | some (i, m) => if max L[k].ready now < m then some (k, max L[k].ready now) else some (i, m))) := fun k hk => by rw [hR]; exact to_step hk
  have HR0 : Hid (R 0 = none) := by rw [hR]; rfl
  rw [show firstTo (TrM.due now) (L.map hmS) L.length = R L.length by rw [hR]]
  have HA : Hid (0 < L.length → a0 = some ⟨GH, off, none⟩) := ha
  clear hI hp hn hR ha
  go_enter Tryz.func76, Tryz.ntmps76
  go_wp2
  go_loopw [7, 8, 9, 15] (fun p m f i wr => ∃ k : Nat, k ≤ L.length ∧ i = .int .i64 (k : Int) ∧ p = .int .i64 (plI (R k)) ∧ m = .int .i64 (plM (R k)) ∧ f = .bool (R k).isSome ∧ Hid (Below w.heap.size w wr)) (fun _ _ _ i _ => L.length - (intOf i).toNat)
  case atStart => exact ⟨0, Nat.zero_le _, rfl, by rw [HR0.out]; rfl, by rw [HR0.out]; rfl, by rw [HR0.out]; rfl, Below.refl _ _⟩
  case round =>
    obtain ⟨k, hk, rfl, rfl, rfl, rfl, HB⟩ := hrel
    by_cases hlt : k < L.length
    · have hs1 := HST.out k hlt
      have e1 := HA.out (by omega)
      subst e1
      have hC : HsC wr GH (off + k * 8) L[k] := fun j u hu => by
        have hj : j < 8 := by
          have := (List.getElem?_eq_some_iff.1 hu).1
          rw [FHs.len] at this; exact this
        obtain ⟨_, _, _, q4⟩ := HI.out.below HB.out
        obtain ⟨b, o, e, hc⟩ := q4 (by intro e; rw [e] at hlt; exact absurd hlt (Nat.not_lt_zero _))
        injection e with e
        injection e with e1 e2 _
        subst e1 e2
        have := hc (k * 8 + j) u (by
          have e := FHs.cells_at L k hlt j hj
          rw [show FHs.k = 8 from rfl] at e
          rw [e]; exact hu)
        rw [show off + (k * 8 + j) = off + k * 8 + j by omega] at this
        exact this
      have HCC : Hid _ := nextC_any GH (off + k * 8) T0 o' P L[k] now wr hC ((HB.out.cell (St.cell_block HP.out)).trans HP.out) ((HB.out.cell (St.cell_block HN.out)).trans HN.out)
      by_cases h0 : L[k].todo.length = 0
      · rw [if_pos h0] at hs1
        have HS1 : Hid (R (k + 1) = R k) := hs1
        rw [show decide (0 < L[k].todo.length) = false from decide_eq_false (by omega)] at HCC
        clear hs1 hC h0
        generalize max L[k].ready now = v at HCC
        go_wp2_with (go_at_call 77; refine Calls.mono HCC.out ?_; rintro e w2 ⟨rfl, hb2⟩; have HB2 : Hid (Below w.heap.size w w2) := HB.out.trans (hb2.mono HB.out.size))
        go_roundw
        case rel => exact ⟨k + 1, by omega, by go_num, by rw [HS1.out], by rw [HS1.out], by rw [HS1.out], HB2⟩
        case measure => simp [intOf]; omega
      · rw [if_neg h0] at hs1
        rw [show decide (0 < L[k].todo.length) = true from decide_eq_true (by omega)] at HCC
        clear hC h0
        generalize max L[k].ready now = v at HCC hs1
        cases hRk : R k with
        | none =>
          rw [hRk] at hs1
          have HS1 : Hid (R (k + 1) = some (k, v)) := hs1
          clear hs1 hRk
          go_wp2_with (go_at_call 77; refine Calls.mono HCC.out ?_; rintro e w2 ⟨rfl, hb2⟩; have HB2 : Hid (Below w.heap.size w w2) := HB.out.trans (hb2.mono HB.out.size))
          go_roundw
          case rel => exact ⟨k + 1, by omega, by go_num, by rw [HS1.out]; rfl, by rw [HS1.out]; rfl, by rw [HS1.out]; rfl, HB2⟩
          case measure => simp [intOf]; omega
        | some im =>
          obtain ⟨i, m⟩ := im
          rw [hRk] at hs1
          have HRK : Hid (R k = some (i, m)) := hRk
          have e2 : plM (some (i, m)) = m := rfl
          by_cases hv : v < m
          · have HS1 : Hid (R (k + 1) = some (k, v)) := by
              show _ = _
              rw [hs1]; exact if_pos hv
            have hvd : decide (v < m) = true := decide_eq_true hv
            clear hs1 hRk
            go_wp2_with (go_at_call 77; refine Calls.mono HCC.out ?_; rintro e w2 ⟨rfl, hb2⟩; have HB2 : Hid (Below w.heap.size w w2) := HB.out.trans (hb2.mono HB.out.size))
            go_roundw
            case rel => exact ⟨k + 1, by omega, by go_num, by rw [HS1.out]; rfl, by rw [HS1.out]; rfl, by rw [HS1.out]; rfl, HB2⟩
            case measure => simp [intOf]; omega
          · have HS1 : Hid (R (k + 1) = some (i, m)) := by
              show _ = _
              rw [hs1]; exact if_neg hv
            have hvd : decide (v < m) = false := decide_eq_false hv
            clear hs1 hRk
            go_wp2_with (go_at_call 77; refine Calls.mono HCC.out ?_; rintro e w2 ⟨rfl, hb2⟩; have HB2 : Hid (Below w.heap.size w w2) := HB.out.trans (hb2.mono HB.out.size))
            go_roundw
            case rel => exact ⟨k + 1, by omega, by go_num, by rw [HS1.out, ← HRK.out], by rw [HS1.out]; rfl, by rw [HS1.out]; rfl, HB2⟩
            case measure => simp [intOf]; omega
    · have hkl : k = L.length := by omega
      subst hkl
      go_wp2
      refine bodyPost_ret (v := .tuple #[.int .i64 (plI (R L.length)), .int .i64 (plM (R L.length)), .bool (R L.length).isSome]) (by simp [results, Tryz.results76, go_sem]) rfl ?_
      exact ⟨rfl, HB.out⟩
--FI
set_option maxRecDepth 100000 in
set_option maxHeartbeats 1600000 in
theorem nextCall_any (T0 o' : Nat) (aH : Option Addr) (cH : Nat) (L : List Hs) (now : Int) (w : World) (hI : IsRows FHs w aH cH L) (h2 : w.cell? ⟨T0, o' + 2, none⟩ = some (.slice aH L.length cH)) (hn : w.cell? ⟨T0, o' + 1, none⟩ = some (.int .i64 now)) (hl : L.length ≤ 4194304) (t : Tm) (ht : t.now = now) (hs : t.hs = L.map hmS) :
    Calls Tryz.prog 49 #[.pointer (some ⟨T0, o', none⟩)] w fun e w' => e = .returned (.tuple #[.int .i64 (plI (nextT t)), .int .i64 (plM (nextT t)), .bool (nextT t).isSome]) ∧ Below w.heap.size w w' := by
  have hmf : ∀ (fn : Fn) (first cap : Array Value) (w : World), (Instr.makeFunc fn first cap).run Tryz.prog w = .ok (.func fn first cap) w := fun _ _ _ _ => rfl
  have HB1 : Hid (Below w.heap.size w (w.alloc (.cells #[.pointer (some ⟨T0, o', none⟩)] 67))) := (Below.refl _ w).alloc (Nat.le_refl _) _
  have hp1 : (w.alloc (.cells #[.pointer (some ⟨T0, o', none⟩)] 67)).cell? ⟨w.heap.size, 0, none⟩ = some (.pointer (some ⟨T0, o', none⟩)) := by
    have := cell_one_new w (.pointer (some ⟨T0, o', none⟩)) 67 0 _ rfl
    rw [add_mk] at this; exact this
  have h21 := (HB1.out.cell (St.cell_block h2)).trans h2
  have hn1 := (HB1.out.cell (St.cell_block hn)).trans hn
  have HI1 : Hid (IsRows FHs (w.alloc (.cells #[.pointer (some ⟨T0, o', none⟩)] 67)) aH cH L) := hI.below HB1.out
  have HEX : Hid (∃ GH off, 0 < L.length → aH = some ⟨GH, off, none⟩) := by
    by_cases h0 : L = []
    · exact ⟨0, 0, fun h => by rw [h0] at h; exact absurd h (Nat.not_lt_zero _)⟩
    · obtain ⟨_, _, _, q4⟩ := hI
      obtain ⟨b, off, e, _⟩ := q4 h0
      exact ⟨b, off, fun _ => e⟩
  obtain ⟨GH, off, ha⟩ := HEX.out
  have HC : Hid _ := firstLeast_any GH off T0 o' w.heap.size cH L now _ aH HI1.out ha hp1 hn1 hl
  obtain ⟨R, hR⟩ : ∃ R, firstTo (TrM.due now) (L.map hmS) L.length = R := ⟨_, rfl⟩
  have HNT : Hid (nextT t = capN R) := by
    show _ = _
    rw [next_cap, ht, hs, List.length_map, hR]
  rw [hR] at HC
  clear hI h2 hn HI1 HEX ha hR ht hs hn1
  go_enter Tryz.func49, Tryz.ntmps49
  cases R with
  | none =>
    have HN2 : Hid (nextT t = none) := HNT.out
    go_wp2_with (go_at_call 76; refine Calls.mono HC.out ?_; rintro e w2 ⟨rfl, hb2⟩; have HB2 : Hid (Below w.heap.size w w2) := HB1.out.trans (hb2.mono HB1.out.size))
    refine bodyPost_ret (v := .tuple #[.int .i64 0, .int .i64 0, .bool false]) (by simp [results, Tryz.results49, go_sem]) rfl ?_
    rw [HN2.out]
    exact ⟨rfl, HB2.out⟩
  | some im =>
    obtain ⟨i, m⟩ := im
    have e1 : plI (some (i, m)) = (i : Int) := rfl
    have e2 : plM (some (i, m)) = m := rfl
    have e3 : (some (i, m)).isSome = true := rfl
    rw [e1, e2, e3] at HC
    by_cases hm : 5000 < m
    · have HN2 : Hid (nextT t = none) := HNT.out.trans (if_pos hm)
      have hd : decide ((5000 : Int) < m) = true := decide_eq_true hm
      clear e1 e2 e3
      go_wp2_with (go_at_call 76; refine Calls.mono HC.out ?_; rintro e w2 ⟨rfl, hb2⟩; have HB2 : Hid (Below w.heap.size w w2) := HB1.out.trans (hb2.mono HB1.out.size))
      refine bodyPost_ret (v := .tuple #[.int .i64 0, .int .i64 0, .bool false]) (by simp [results, Tryz.results49, go_sem]) rfl ?_
      rw [HN2.out]
      exact ⟨rfl, HB2.out⟩
    · have HN2 : Hid (nextT t = some (i, m)) := HNT.out.trans (if_neg hm)
      have hd : decide ((5000 : Int) < m) = false := decide_eq_false hm
      clear e1 e2 e3
      go_wp2_with (go_at_call 76; refine Calls.mono HC.out ?_; rintro e w2 ⟨rfl, hb2⟩; have HB2 : Hid (Below w.heap.size w w2) := HB1.out.trans (hb2.mono HB1.out.size))
      refine bodyPost_ret (v := .tuple #[.int .i64 (i : Int), .int .i64 m, .bool true]) (by simp [results, Tryz.results49, go_sem]) rfl ?_
      rw [HN2.out]
      exact ⟨rfl, HB2.out⟩
end Go.Proofs.YtiennniclkbjlaaGreatDoor.Tn
/- Of the program: at which house a call was. -/
namespace Go.Proofs.YtiennniclkbjlaaGreatDoor.Tn
open Go.RowKit Go.Proofs.YtiennniclkbjlaaGreatDoor.EscM Go.Proofs.YtiennniclkbjlaaGreatDoor.AddrM Go.Proofs.YtiennniclkbjlaaGreatDoor.ReadM Go.Proofs.YtiennniclkbjlaaGreatDoor.Rd1 Go.Proofs.YtiennniclkbjlaaGreatDoor.Ad1 Go.Proofs.YtiennniclkbjlaaGreatDoor.RuleM Go.Proofs.YtiennniclkbjlaaGreatDoor.St Go.Proofs.YtiennniclkbjlaaGreatDoor.EscL Go.Proofs.YtiennniclkbjlaaGreatDoor.RR Go.Proofs.YtiennniclkbjlaaGreatDoor.LetM Go.Proofs.YtiennniclkbjlaaGreatDoor.GrM Go.Proofs.YtiennniclkbjlaaGreatDoor.RoIt Go.Proofs.YtiennniclkbjlaaGreatDoor.RoLk Go.Proofs.YtiennniclkbjlaaGreatDoor.RoQ Go.Proofs.YtiennniclkbjlaaGreatDoor.Mp Go.Proofs.YtiennniclkbjlaaGreatDoor.WdM Go.Proofs.YtiennniclkbjlaaGreatDoor.Wd Go.Proofs.YtiennniclkbjlaaGreatDoor.TpM Go.Proofs.YtiennniclkbjlaaGreatDoor.TrM Go.Proofs.YtiennniclkbjlaaGreatDoor.TrW Go.Proofs.YtiennniclkbjlaaGreatDoor.Tq Go.Proofs.YtiennniclkbjlaaGreatDoor.PgA Go.Proofs.YtiennniclkbjlaaGreatDoor.MkA Go.Proofs.YtiennniclkbjlaaGreatDoor.Im Go.Proofs.YtiennniclkbjlaaGreatDoor.Nm

set_option maxRecDepth 100000 in
set_option maxHeartbeats 1600000 in
theorem houseAt_any (l : Lk) (A0 : Ad) (w : World) (hM : Mx w) (hA : normA l.addr = some A0) :
    Calls Tryz.prog 50 #[.agg #[.int .i64 l.time, .string l.addr, .int .i64 l.kind]] w fun e w' => e = .returned (.string A0.house) ∧ Below w.heap.size w w' := by
  have hz := norm_size hA
  have HNA : Hid (normA l.addr = some A0) := hA
  have HB0 : Hid (Below w.heap.size w (w.alloc (.cells #[.int .i64 l.time, .string l.addr, .int .i64 l.kind] 57))) := (Below.refl _ w).alloc (Nat.le_refl _) _
  have HRD : Hid (∀ W, Below w.heap.size w W → Calls Tryz.prog 62 #[.string l.addr] W fun e w' => Reads (normA l.addr) W e w') := fun W hW => readAddress_any l.addr W (hM.below hW) (by omega) trivial
  have x1 := (Bs.new 57 w #[.int .i64 l.time, .string l.addr, .int .i64 l.kind]).cell 1 rfl
  clear hM hA
  go_enter Tryz.func50, Tryz.ntmps50
  go_wp2_with (go_at_call 62; refine Calls.mono (HRD.out _ HB0.out) ?_; rintro e w2 ⟨A, ok, a2, c2, rfl, hans, hO2, hb2⟩; have HB2 : Hid (Below w.heap.size w w2) := HB0.out.trans (hb2.mono HB0.out.size); have HAB : Hid (A = A0) := (by rw [HNA.out] at hans; rcases hans with ⟨_, h2⟩ | ⟨_, h2, _⟩; exact (Option.some.inj h2).symm; cases h2); have hG := Bs.new 97 w2 #[.string A.house, .slice a2 A.parts.length c2, .bool A.asks, .string A.ask]; have g0 := hG.cell 0 rfl; clear hans hO2 hb2 hG)
  go_ret
  exact ⟨by rw [← HAB.out]; rfl, HB2.out.alloc HB2.out.size _⟩
end Go.Proofs.YtiennniclkbjlaaGreatDoor.Tn
/- A trip of one's own: a house's notice is told; a trip in its caller. -/
namespace Go.Proofs.YtiennniclkbjlaaGreatDoor.TrW
open Go.RowKit Go.Proofs.YtiennniclkbjlaaGreatDoor.MkA Go.Proofs.YtiennniclkbjlaaGreatDoor.EscM Go.Proofs.YtiennniclkbjlaaGreatDoor.AddrM Go.Proofs.YtiennniclkbjlaaGreatDoor.ReadM Go.Proofs.YtiennniclkbjlaaGreatDoor.RuleM Go.Proofs.YtiennniclkbjlaaGreatDoor.St Go.Proofs.YtiennniclkbjlaaGreatDoor.RR Go.Proofs.YtiennniclkbjlaaGreatDoor.LetM Go.Proofs.YtiennniclkbjlaaGreatDoor.GrM Go.Proofs.YtiennniclkbjlaaGreatDoor.RoIt Go.Proofs.YtiennniclkbjlaaGreatDoor.RoLk Go.Proofs.YtiennniclkbjlaaGreatDoor.RoQ Go.Proofs.YtiennniclkbjlaaGreatDoor.TpM Go.Proofs.YtiennniclkbjlaaGreatDoor.TrM Go.Proofs.YtiennniclkbjlaaGreatDoor.Tq

variable {w w' w1 : World} {B T0 o : Nat} {X : List Hx} {vH vS vL : Value} {t : Tm} {r : Option Nat}
/-- a cell of a house is written: also where its names and rules lie -/
theorem TrOwn.setG (h : TrOwn w B T0 o X vH vS vL t) {GH c : Nat} (hv : vH = .slice (some ⟨GH, 0, none⟩) X.length c) {i : Nat} (hi : i < X.length) {j : Nat} (hj : j < 8) {y : Value} {x' : Hx} (he : FHs.enc x'.h = (FHs.enc X[i].h).set j y)
    (hx : HxAt w B x') (hr : ∀ k, x'.row = some k → X[i].row = some k) (hxa : ∀ b, (b = some T0 ∨ b = vH.ownBlock ∨ b = vS.ownBlock ∨ b = vL.ownBlock ∨ ∃ y ∈ X, b = y.row) → Ap b (blk x'.h.gr.na) ∧ Ap b (blk x'.h.gr.ra)) :
    TrOwn (w.setCell ⟨GH, i * 8 + j, none⟩ y) B T0 o (X.set i x') vH vS vL { t with hs := t.hs.set i (hmX x') } := by
  have hg := grown_one (w := w) GH (i * 8 + j) y
  have hob : vH.ownBlock = some GH := by rw [hv]; rfl
  rw [← hob] at hg
  have hxi := List.getElem_mem hi
  have hlow : ∀ {b : Option Nat}, Ap b X[i].row → Ap b x'.row := fun hb k h1 h2 => hb k h1 (hr k h2)
  have hq : ∀ {b : Option Nat}, Qa b X → (b = some T0 ∨ b = vH.ownBlock ∨ b = vS.ownBlock ∨ b = vL.ownBlock ∨ ∃ y ∈ X, b = y.row) → Qa b (X.set i x') := fun hb hm => qa_set hb ⟨hlow (hb _ hxi).1, hxa _ hm⟩
  have heach : ∀ z ∈ X.set i x', HxAt w B z := fun z hz => by
    rcases List.mem_or_eq_of_mem_set hz with hz | hz
    · exact h.each z hz
    · rw [hz]; exact hx
  refine ⟨by rw [List.map_set, h.hX], cell_ap h.c0 hg h.a1, cell_ap h.c1 hg h.a1, cell_ap h.c2 hg h.a1, cell_ap h.c3 hg h.a1, cell_ap h.c4 hg h.a1, fr_ap h.fr h.T_lt hg h.a1, h.hT, Nat.le_trans h.hB hg.size, ?_, owns_ap h.seen hg h.a4.symm, ownsR_ap h.looks hg h.a5.symm, each_grown heach hg (hq h.qH (Or.inr (Or.inl rfl))), h.a1, h.a2, h.a3, h.a4, h.a5, h.a6, hq h.qT (Or.inl rfl), hq h.qH (Or.inr (Or.inl rfl)), hq h.qS (Or.inr (Or.inr (Or.inl rfl))), hq h.qL (Or.inr (Or.inr (Or.inr (Or.inl rfl)))), ?_, ?_⟩
  · have h1 := h.houses
    unfold OwnsR at h1 ⊢
    rw [List.length_map] at h1
    rw [hv] at h1 ⊢
    have h2 := Dr.own_set (j := i * 8 + j) (y := y) h1
    rw [List.length_map, List.length_set]
    have e := cells_set FHs (X.map Hx.h) i (by simpa using hi) j y x'.h hj (by simpa using he)
    rw [show FHs.k = 8 from rfl] at e
    rw [List.map_set, ← e]; exact h2
  · refine List.pairwise_iff_getElem.2 fun a b ha hb hab => ?_
    rw [List.length_set] at ha hb
    by_cases e1 : i = a
    · subst e1
      have e2 : ¬ i = b := by omega
      rw [List.getElem_set_self, List.getElem_set_ne e2]
      exact (hlow (rows_other h hb hi (fun e => e2 e.symm))).symm
    · rw [List.getElem_set_ne e1]
      by_cases e2 : i = b
      · subst e2
        rw [List.getElem_set_self]
        exact hlow (rows_other h ha hi (fun e => e1 e.symm))
      · rw [List.getElem_set_ne e2]
        exact rows_other h ha hb (by omega)
  · intro y hy z hz
    have hrow : ∃ y' ∈ X, ∀ k, y.row = some k → y'.row = some k := by
      rcases List.mem_or_eq_of_mem_set hy with hy | hy
      · exact ⟨y, hy, fun _ e => e⟩
      · rw [hy]; exact ⟨_, hxi, hr⟩
    obtain ⟨y', hy', hyr⟩ := hrow
    rcases List.mem_or_eq_of_mem_set hz with hz | hz
    · obtain ⟨q3, q4⟩ := h.sx y' hy' z hz
      exact ⟨fun k h1 h2 => q3 k (hyr k h1) h2, fun k h1 h2 => q4 k (hyr k h1) h2⟩
    · rw [hz]
      obtain ⟨q3, q4⟩ := hxa y'.row (Or.inr (Or.inr (Or.inr (Or.inr ⟨y', hy', rfl⟩))))
      exact ⟨fun k h1 h2 => q3 k (hyr k h1) h2, fun k h1 h2 => q4 k (hyr k h1) h2⟩
/-- it is put into a caller's block, behind the pages -/
theorem own_caller (h : TrOwn w B T0 o X vH vS vL t) (pv : Value) : TrOwn (w.alloc (.cells #[pv, .string t.name, .int .i64 t.now, vH, vS, vL] 117)) B w.heap.size 1 X vH vS vL t := by
  have h' := h.alloc (.cells #[pv, .string t.name, .int .i64 t.now, vH, vS, vL] 117)
  have hb := Bs.new 117 w #[pv, .string t.name, .int .i64 t.now, vH, vS, vL]
  have hf : ∀ {v : Option Nat}, (∀ k, v = some k → k < w.heap.size) → Ap (some w.heap.size) v := fun hv => ap_fresh hv (Nat.le_refl _)
  exact ⟨h'.hX, hb.cell 1 rfl, hb.cell 2 rfl, hb.cell 3 rfl, hb.cell 4 rfl, hb.cell 5 rfl, fun j _ => hb.free _, h.hB, h'.hB, h'.houses, h'.seen, h'.looks, h'.each, hf (row_lt h.houses), hf (row_lt h.seen), hf (row_lt h.looks), h.a4, h.a5, h.a6,
    fun x hx => ⟨hf (fun k hk => ((h.each x hx).todo.lt k hk).2), hf (h.each x hx).nlt, hf (h.each x hx).rlt⟩, h.qH, h.qS, h.qL, h.pw, h.sx⟩
end Go.Proofs.YtiennniclkbjlaaGreatDoor.TrW
/- Of the program: whether what is left is let no longer. -/
namespace Go.Proofs.YtiennniclkbjlaaGreatDoor.Tn
open Go.RowKit Go.Proofs.YtiennniclkbjlaaGreatDoor.EscM Go.Proofs.YtiennniclkbjlaaGreatDoor.AddrM Go.Proofs.YtiennniclkbjlaaGreatDoor.ReadM Go.Proofs.YtiennniclkbjlaaGreatDoor.Rd1 Go.Proofs.YtiennniclkbjlaaGreatDoor.Ad1 Go.Proofs.YtiennniclkbjlaaGreatDoor.RuleM Go.Proofs.YtiennniclkbjlaaGreatDoor.St Go.Proofs.YtiennniclkbjlaaGreatDoor.EscL Go.Proofs.YtiennniclkbjlaaGreatDoor.RR Go.Proofs.YtiennniclkbjlaaGreatDoor.LetM Go.Proofs.YtiennniclkbjlaaGreatDoor.GrM Go.Proofs.YtiennniclkbjlaaGreatDoor.RoIt Go.Proofs.YtiennniclkbjlaaGreatDoor.RoLk Go.Proofs.YtiennniclkbjlaaGreatDoor.RoQ Go.Proofs.YtiennniclkbjlaaGreatDoor.Mp Go.Proofs.YtiennniclkbjlaaGreatDoor.WdM Go.Proofs.YtiennniclkbjlaaGreatDoor.Wd Go.Proofs.YtiennniclkbjlaaGreatDoor.TpM Go.Proofs.YtiennniclkbjlaaGreatDoor.TrM Go.Proofs.YtiennniclkbjlaaGreatDoor.TrW Go.Proofs.YtiennniclkbjlaaGreatDoor.Tq Go.Proofs.YtiennniclkbjlaaGreatDoor.PgA Go.Proofs.YtiennniclkbjlaaGreatDoor.MkA Go.Proofs.YtiennniclkbjlaaGreatDoor.Im Go.Proofs.YtiennniclkbjlaaGreatDoor.Nm

set_option maxRecDepth 100000 in
set_option maxHeartbeats 3200000 in
theorem dropC_any (y : It) (b o P : Nat) (h : Hs) (w : World) (hM : Mx w) (hs : y.addr.size ≤ 4194304) (hc : HsC w b o h) (hr : IsRows FRu w h.gr.ra h.gr.rc h.gr.ru) (hl : h.gr.ru.length ≤ 4194304) (hz : ∀ r ∈ h.gr.ru, r.path.size ≤ 4194304) (hp : w.cell? ⟨P, 0, none⟩ = some (.pointer (some ⟨b, o, none⟩))) :
    Calls Tryz.prog 127 #[.agg #[.string y.addr, .int .i64 y.tries], .pointer (some ⟨P, 0, none⟩)] w fun e w' => e = .returned (.bool (!letIt (grp h.gr) y)) ∧ Below w.heap.size w w' := by
  have HB0 : Hid (Below w.heap.size w (w.alloc (.cells #[.string y.addr, .int .i64 y.tries] 103))) := (Below.refl _ w).alloc (Nat.le_refl _) _
  have x0 := (Bs.new 103 w #[.string y.addr, .int .i64 y.tries]).cell 0 rfl
  have HRD : Hid (∀ W, Below w.heap.size w W → Calls Tryz.prog 62 #[.string y.addr] W fun e w' => Reads (normA y.addr) W e w') := fun W hW => readAddress_any y.addr W (hM.below hW) hs trivial
  have HLT : Hid (∀ W (A : Ad) (a1 : Option Addr) (c1 : Nat), Below w.heap.size w W → IsStrs W a1 c1 A.parts → bulkA A ≤ 1000 → Calls Tryz.prog 64 #[.pointer (some ⟨b, o, none⟩), .agg #[.string A.house, .slice a1 A.parts.length c1, .bool A.asks, .string A.ask]] W fun e w' => e = .returned (.bool (letsL h.gr.ru (pathF A).data.toList)) ∧ Below W.heap.size W w') := fun W A a1 c1 hW hS hB => houseLets_any b o h A a1 c1 W (hM.below hW) (hc.below hW) (hr.below hW) hl hz hS hB
  have HP : Hid (w.cell? ⟨P, 0, none⟩ = some (.pointer (some ⟨b, o, none⟩))) := hp
  clear hM hc hr hz hp
  go_enter Tryz.func127, Tryz.ntmps127
  go_wp2_with fail
  refine Calls.mono (HRD.out _ HB0.out) ?_
  rintro e w2 ⟨A, ok, a2, c2, rfl, hans, hO2, hb2⟩
  have HB2 : Hid (Below w.heap.size w w2) := HB0.out.trans (hb2.mono HB0.out.size)
  have HLI : Hid (letIt (grp h.gr) y = letsL h.gr.ru (pathF A).data.toList) := by
    show _ = _
    unfold letIt
    rcases hans with ⟨_, h2⟩ | ⟨_, h2, h3⟩
    · rw [h2]; rfl
    · rw [h2, h3]; rfl
  have HBK : Hid (bulkA A ≤ 1000) := by
    show _ ≤ _
    rcases hans with ⟨_, h2⟩ | ⟨_, _, h3⟩
    · have := OB.reads_bulk (Or.inl ⟨(rfl : true = true), (norm_some h2).1⟩)
      omega
    · rw [h3]; decide
  have HS2 : Hid (IsStrs w2 a2 c2 A.parts) := hO2.strsOf
  clear hans hO2 hb2
  have HB3 : Hid (Below w.heap.size w (w2.alloc (.cells #[.string A.house, .slice a2 A.parts.length c2, .bool A.asks, .string A.ask] 97))) := HB2.out.alloc HB2.out.size _
  have HX3 : Hid (Bs 97 (w2.alloc (.cells #[.string A.house, .slice a2 A.parts.length c2, .bool A.asks, .string A.ask] 97)) w2.heap.size #[.string A.house, .slice a2 A.parts.length c2, .bool A.asks, .string A.ask]) := Bs.new _ _ _
  have HS3 : Hid (IsStrs (w2.alloc (.cells #[.string A.house, .slice a2 A.parts.length c2, .bool A.asks, .string A.ask] 97)) a2 c2 A.parts) := HS2.out.keep (alloc_keep _ _)
  have y0 := HX3.out.cell 0 rfl
  have y1 := HX3.out.cell 1 rfl
  have y2 := HX3.out.cell 2 rfl
  have y3 := HX3.out.cell 3 rfl
  have p3 := (HB3.out.cell (St.cell_block HP.out)).trans HP.out
  go_wp2_with (go_at_call 64; refine Calls.mono (HLT.out _ A a2 c2 HB3.out HS3.out HBK.out) ?_; rintro e w4 ⟨rfl, hb4⟩; have HB4 : Hid (Below w.heap.size w w4) := HB3.out.trans (hb4.mono HB3.out.size))
  go_ret
  exact ⟨by rw [HLI.out]; rfl, HB4.out⟩
end Go.Proofs.YtiennniclkbjlaaGreatDoor.Tn
/- Of the program: a call at an address of a house. -/
namespace Go.Proofs.YtiennniclkbjlaaGreatDoor.Tn
open Go.RowKit Go.Proofs.YtiennniclkbjlaaGreatDoor.Bk Go.Proofs.YtiennniclkbjlaaGreatDoor.EscM Go.Proofs.YtiennniclkbjlaaGreatDoor.AddrM Go.Proofs.YtiennniclkbjlaaGreatDoor.ReadM Go.Proofs.YtiennniclkbjlaaGreatDoor.Rd1 Go.Proofs.YtiennniclkbjlaaGreatDoor.Ad1 Go.Proofs.YtiennniclkbjlaaGreatDoor.RuleM Go.Proofs.YtiennniclkbjlaaGreatDoor.St Go.Proofs.YtiennniclkbjlaaGreatDoor.EscL Go.Proofs.YtiennniclkbjlaaGreatDoor.RR Go.Proofs.YtiennniclkbjlaaGreatDoor.LetM Go.Proofs.YtiennniclkbjlaaGreatDoor.GrM Go.Proofs.YtiennniclkbjlaaGreatDoor.RoIt Go.Proofs.YtiennniclkbjlaaGreatDoor.RoLk Go.Proofs.YtiennniclkbjlaaGreatDoor.RoPg Go.Proofs.YtiennniclkbjlaaGreatDoor.RoQ Go.Proofs.YtiennniclkbjlaaGreatDoor.Mp Go.Proofs.YtiennniclkbjlaaGreatDoor.WdM Go.Proofs.YtiennniclkbjlaaGreatDoor.Wd Go.Proofs.YtiennniclkbjlaaGreatDoor.TpM Go.Proofs.YtiennniclkbjlaaGreatDoor.TrM Go.Proofs.YtiennniclkbjlaaGreatDoor.TrW Go.Proofs.YtiennniclkbjlaaGreatDoor.Tq Go.Proofs.YtiennniclkbjlaaGreatDoor.PgA Go.Proofs.YtiennniclkbjlaaGreatDoor.MkA Go.Proofs.YtiennniclkbjlaaGreatDoor.Im Go.Proofs.YtiennniclkbjlaaGreatDoor.Nm

theorem Tryz.infoLkN : (Tryz.prog.info? 57).map (fun i => (i.zero, i.size, i.bytes)) = some (some (.agg #[.int .i64 0, .string ⟨#[]⟩, .int .i64 0]), 3, 32) := by kernel_rfl
theorem back_three {n : Int} (h : 0 ≤ n ∧ n ≤ 2) : backI (n + 1) = 2 ∨ backI (n + 1) = 4 ∨ backI (n + 1) = 8 := by
  have : n = 0 ∨ n = 1 ∨ n = 2 := by omega
  rcases this with rfl | rfl | rfl
  · exact Or.inl rfl
  · exact Or.inr (Or.inl rfl)
  · exact Or.inr (Or.inr rfl)
theorem back_is {n : Int} (h : 0 ≤ n ∧ n ≤ 2) : backI (n + 1) = backF (n + 1) := by
  have : n = 0 ∨ n = 1 ∨ n = 2 := by omega
  rcases this with rfl | rfl | rfl <;> rfl
set_option maxRecDepth 100000 in
set_option maxHeartbeats 3200000 in
theorem lookAt_any (B T0 GH c i mb : Nat) (X : List Hx) (vS vL : Value) (t : Tm) (hi : i < X.length) (L : List Pg) (a : ByteArray) (n : Int) (w : World) (h : TrOwn w B T0 1 X (.slice (some ⟨GH, 0, none⟩) X.length c) vS vL t) (hp : w.cell? ⟨T0, 0, none⟩ = some (.map (some mb))) (hm : IsMap w mb (entsL L)) (hlk : t.lk.length ≤ 1000) (hmo : ¬ Ow T0 X (.slice (some ⟨GH, 0, none⟩) X.length c) vS vL mb) (hn : 0 ≤ n ∧ n ≤ 2) (hnw : 0 ≤ t.now ∧ t.now ≤ 5000) (hwt : 0 ≤ X[i].h.gr.wait ∧ X[i].h.gr.wait ≤ 20) :
    Calls Tryz.prog 123 #[.pointer (some ⟨T0, 0, none⟩), .pointer (some ⟨GH, i * 8, none⟩), .string a, .int .i64 n] w fun e w' => e = .returned (.tuple #[.int .i64 (kindF L a n).1, .string (kindF L a n).2]) ∧ ∃ X' vL', TrOwn w' B T0 1 X' (.slice (some ⟨GH, 0, none⟩) X.length c) vS vL' { t with lk := t.lk ++ [⟨t.now, a, (kindF L a n).1⟩], hs := t.hs.set i (lookH (hmX X[i]) t.now (kindF L a n).1 n) } ∧ X'.length = X.length ∧ (∃ hi' : i < X'.length, X'[i].row = X[i].row ∧ X'[i].h = { X[i].h with ready := (lookH (hmX X[i]) t.now (kindF L a n).1 n).ready }) ∧ w'.cell? ⟨T0, 0, none⟩ = some (.map (some mb)) ∧ Sep w w' (Ow T0 X (.slice (some ⟨GH, 0, none⟩) X.length c) vS vL) (Ow T0 X' (.slice (some ⟨GH, 0, none⟩) X.length c) vS vL') ∧ RdK w (Rd X) (Rd X') := by
  obtain ⟨i0, hi0, hz0, hz1, hz2⟩ := info_parts Tryz.infoLkN
  obtain ⟨aL, cL, hvL, _⟩ := h.looks.rows
  subst hvL
  have HT : Hid (TrOwn w B T0 1 X (.slice (some ⟨GH, 0, none⟩) X.length c) vS (.slice aL t.lk.length cL) t) := h
  have c1 := h.c1
  have HGA : Hid _ := getAt_any mb L a n w hm
  have HP0 : Hid (w.cell? ⟨T0, 0, none⟩ = some (.map (some mb))) := hp
  clear h hm
  go_enter Tryz.func123, Tryz.ntmps123
  go_wp2_with fail
  refine Calls.mono HGA.out ?_
  rintro e w1 ⟨rfl, hb1⟩
  have HT1 : Hid (TrOwn w1 B T0 1 X (.slice (some ⟨GH, 0, none⟩) X.length c) vS (.slice aL t.lk.length cL) t) := HT.out.below hb1
  have HTa : Hid (TrOwn (w1.alloc (.cells #[.int .i64 t.now, .string a, .int .i64 (kindF L a n).1] 57)) B T0 1 X (.slice (some ⟨GH, 0, none⟩) X.length c) vS (.slice aL t.lk.length cL) t) := HT1.out.alloc _
  have hbk : ∀ j u, [Value.int .i64 t.now, .string a, .int .i64 (kindF L a n).1][j]? = some u → (w1.alloc (.cells #[.int .i64 t.now, .string a, .int .i64 (kindF L a n).1] 57)).cell? ((⟨w1.heap.size, 0, none⟩ : Addr).add j) = some u := fun j u hu => by
    rw [add_mk, Nat.zero_add, cell_of_row _ _ j _ _ (0, 0) (heap_alloc_new w1 (.cells #[.int .i64 t.now, .string a, .int .i64 (kindF L a n).1] 57))]
    simpa using hu
  have HBK : Hid _ := hbk
  have c4 := HT1.out.c4
  have HB1 : Hid (Below w.heap.size w (w1.alloc (.cells #[.int .i64 t.now, .string a, .int .i64 (kindF L a n).1] 57))) := hb1.alloc hb1.size _
  clear hb1 hbk
  go_wp2_with (at_builtin; refine wpList_append_lies _ rfl _ _ 27 rfl B 57 i0 (.agg #[.int .i64 0, .string ⟨#[]⟩, .int .i64 0]) 3 32 Tryz.underlying27 hi0 hz0 hz1 hz2 rfl (by decide) _ _ _ rfl HTa.out.looks ⟨w1.heap.size, 0, none⟩ 1 1 [.int .i64 t.now, .string a, .int .i64 (kindF L a n).1] rfl rfl HBK.out ?c2 (by omega) ?c3 ?c4 ?c5 (w1.heap.size + 1) ?c6 ?_)
  case c2 => intro u hu; simp only [List.mem_cons, List.not_mem_nil, or_false] at hu; rcases hu with rfl | rfl | rfl <;> rfl
  case c3 => unfold maxLen; omega
  case c4 => omega
  case c5 => exact HTa.out.hB
  case c6 => simp
  intro g cg w4 hown hg0 hat _
  have hOn := OwnsR.append (F := FLk) (X := t.lk) (x := (⟨t.now, a, (kindF L a n).1⟩ : Lk)) hown
  have hn4 : (Value.slice (some ⟨g, 0, none⟩) (t.lk.length + 1) cg).ownBlock = (Value.slice aL t.lk.length cL).ownBlock ∨ ∃ g', (Value.slice (some ⟨g, 0, none⟩) (t.lk.length + 1) cg).ownBlock = some g' ∧ (w1.alloc (.cells #[.int .i64 t.now, .string a, .int .i64 (kindF L a n).1] 57)).heap.size ≤ g' := by
    rcases hat with h | h
    · exact Or.inl h.symm
    · exact Or.inr ⟨g, rfl, by rw [h]; simp⟩
  have HT5 : Hid (TrOwn (w4.setCell ⟨T0, 5, none⟩ (.slice (some ⟨g, 0, none⟩) (t.lk.length + 1) cg)) B T0 1 X (.slice (some ⟨GH, 0, none⟩) X.length c) vS (.slice (some ⟨g, 0, none⟩) (t.lk.length + 1) cg) { t with lk := t.lk ++ [⟨t.now, a, (kindF L a n).1⟩] }) := HTa.out.look hg0 hOn hn4
  have q4 : w4.cell? ⟨T0, 5, none⟩ = some (.slice aL t.lk.length cL) := cell_ap HTa.out.c4 hg0 HTa.out.a3
  have f4 : w4.frozen? ⟨T0, 5, none⟩ = false := fr_ap HTa.out.fr HTa.out.T_lt hg0 HTa.out.a3 4 (by decide)
  have hs5 := sep_look (T0 := T0) (o := 1) (X := X) (vH := .slice (some ⟨GH, 0, none⟩) X.length c) (vS := vS) (v := .slice (some ⟨g, 0, none⟩) (t.lk.length + 1) cg) hg0 hn4
  have hp4 : w4.cell? ⟨T0, 0, none⟩ = some (.map (some mb)) := cell_ap ((HB1.out.cell (St.cell_block HP0.out)).trans HP0.out) hg0 HTa.out.a3
  have hp5 : (w4.setCell ⟨T0, 5, none⟩ (.slice (some ⟨g, 0, none⟩) (t.lk.length + 1) cg)).cell? ⟨T0, 0, none⟩ = some (.map (some mb)) := set_other hp4 (by decide)
  obtain ⟨w5, hw5⟩ : ∃ w5, w4.setCell ⟨T0, 5, none⟩ (.slice (some ⟨g, 0, none⟩) (t.lk.length + 1) cg) = w5 := ⟨_, rfl⟩
  have hs5' : Sep (w1.alloc (.cells #[.int .i64 t.now, .string a, .int .i64 (kindF L a n).1] 57)) w5 (Ow T0 X (.slice (some ⟨GH, 0, none⟩) X.length c) vS (.slice aL t.lk.length cL)) (Ow T0 X (.slice (some ⟨GH, 0, none⟩) X.length c) vS (.slice (some ⟨g, 0, none⟩) (t.lk.length + 1) cg)) := by rw [← hw5]; exact hs5
  rw [hw5] at HT5 hp5
  have HS5 : Hid (Sep w w5 (Ow T0 X (.slice (some ⟨GH, 0, none⟩) X.length c) vS (.slice aL t.lk.length cL)) (Ow T0 X (.slice (some ⟨GH, 0, none⟩) X.length c) vS (.slice (some ⟨g, 0, none⟩) (t.lk.length + 1) cg))) := (Sep.below HB1.out).trans hs5'
  have HP5 : Hid (w5.cell? ⟨T0, 0, none⟩ = some (.map (some mb))) := hp5
  clear hs5 hs5' hp4 hp5
  have k1 := HT5.out.cell rfl hi (j := 1) rfl (by decide)
  have k5 := HT5.out.cell rfl hi (j := 5) rfl (by decide)
  have fk := HT5.out.free rfl (i * 8 + 1)
  have hwr : wrap64 (t.now + max X[i].h.gr.wait 1) = t.now + max X[i].h.gr.wait 1 := by unfold wrap64; omega
  obtain ⟨kd, hK⟩ : ∃ kd, (kindF L a n).1 = kd := ⟨_, rfl⟩
  have HK : Hid ((kindF L a n).1 = kd) := hK
  clear hown hg0 hat hOn hn4 c1 c4 hp
  rw [hK] at HT5 ⊢
  clear hK
  by_cases hkd : kd = 3
  · have hkq : (kd == 3) = true := by simpa using hkd
    have hkb : decide (kd = 3) = true := decide_eq_true hkd
    have HKD : Hid (kd = 3) := hkd
    have hk6 : (w5.setCell ⟨GH, i * 8 + 1, none⟩ (.int .i64 (t.now + max X[i].h.gr.wait 1))).cell? ⟨GH, i * 8 + 1, none⟩ = some (.int .i64 (t.now + max X[i].h.gr.wait 1)) := set_same k1
    have fk6 : (w5.setCell ⟨GH, i * 8 + 1, none⟩ (.int .i64 (t.now + max X[i].h.gr.wait 1))).frozen? ⟨GH, i * 8 + 1, none⟩ = false := by rw [frozen_set]; exact fk
    obtain ⟨bk, hbk⟩ : ∃ bk, backI (n + 1) = bk := ⟨_, rfl⟩
    have hbn : bk = 2 ∨ bk = 4 ∨ bk = 8 := by rw [← hbk]; exact back_three hn
    obtain ⟨rd, hrd⟩ : ∃ rd, t.now + max X[i].h.gr.wait 1 = rd := ⟨_, rfl⟩
    have HBK : Hid (∀ W : World, Calls Tryz.prog 147 #[.int .i64 (n + 1)] W fun e w' => e = .returned (.int .i64 bk) ∧ w' = W) := fun W => by rw [← hbk]; exact implBack_any (n + 1) W
    have HRD : Hid (t.now + max X[i].h.gr.wait 1 = rd ∧ backI (n + 1) = bk) := ⟨hrd, hbk⟩
    have hr0 : 0 ≤ rd ∧ rd ≤ 6000 := by rw [← hrd]; omega
    obtain ⟨w6, hw6⟩ : ∃ w6, (w5.setCell ⟨GH, i * 8 + 1, none⟩ (.int .i64 (t.now + max X[i].h.gr.wait 1))) = w6 := ⟨_, rfl⟩
    rw [hw6] at hk6 fk6
    clear hbk
    have HW6 : Hid ((w5.setCell ⟨GH, i * 8 + 1, none⟩ (.int .i64 (t.now + max X[i].h.gr.wait 1))) = w6) := hw6
    clear hrd
    go_wp2_with fail
    clear hw6
    rw [HRD.out.1] at hk6
    clear hkq hkb k1 k5 fk hwr hwt hnw hlk
    have d6 : w6.drew.cell? ⟨GH, i * 8 + 1, none⟩ = some (.int .i64 rd) := hk6
    have e6 : w6.drew.frozen? ⟨GH, i * 8 + 1, none⟩ = false := fk6
    have hwn : IntKind.i64.wrap (n + 1) = n + 1 := IntWalk.i64_in _ (by omega)
    go_region_with (go_at_call 147; refine (HBK.out _).mono ?_; rintro e w7 ⟨rfl, e7⟩; have e8 := e7.symm; subst e8)
    all_goals (
      clear d6 e6 hk6 fk6 hwn
      have hwb : IntKind.i64.wrap (rd + bk) = rd + bk := IntWalk.i64_in _ (by omega)
      rw [hwb]
      have hxi := HT5.out.each _ (List.getElem_mem hi)
      have HT6 : TrOwn (w5.setCell ⟨GH, i * 8 + 1, none⟩ (.int .i64 rd)) B T0 1 (X.set i ⟨{ X[i].h with ready := rd }, X[i].row⟩) (.slice (some ⟨GH, 0, none⟩) X.length c) vS (.slice (some ⟨g, 0, none⟩) (t.lk.length + 1) cg) { t with lk := t.lk ++ [⟨t.now, a, kd⟩], hs := t.hs.set i (hmX ⟨{ X[i].h with ready := rd }, X[i].row⟩) } :=
        HT5.out.setH rfl hi (by decide) rfl ⟨hxi.names, hxi.rules, hxi.todo, hxi.nlt, hxi.rlt⟩ (fun _ e => e) rfl rfl
      rw [← HRD.out.1, HW6.out, HRD.out.1] at HT6
      have hi6 : i < (X.set i ⟨{ X[i].h with ready := rd }, X[i].row⟩).length := by rw [List.length_set]; exact hi
      have hx6 := HT6.each _ (List.getElem_mem hi6)
      rw [List.getElem_set_self] at hx6
      have HT7 : Hid (TrOwn (w6.setCell ⟨GH, i * 8 + 1, none⟩ (.int .i64 (rd + bk))).drew B T0 1 (X.set i ⟨{ X[i].h with ready := rd + bk }, X[i].row⟩) (.slice (some ⟨GH, 0, none⟩) X.length c) vS (.slice (some ⟨g, 0, none⟩) (t.lk.length + 1) cg) { t with lk := t.lk ++ [⟨t.now, a, kd⟩], hs := t.hs.set i (hmX ⟨{ X[i].h with ready := rd + bk }, X[i].row⟩) }) := by
        have h7 := HT6.setH (j := 1) (y := .int .i64 (rd + bk)) (x' := ⟨{ X[i].h with ready := rd + bk }, X[i].row⟩) (GH := GH) (c := c) (by rw [List.length_set]) hi6 (by decide) (by rw [List.getElem_set_self]; rfl) ⟨hx6.names, hx6.rules, hx6.todo, hx6.nlt, hx6.rlt⟩ (by rw [List.getElem_set_self]; exact fun _ e => e) (by rw [List.getElem_set_self]) (by rw [List.getElem_set_self])
        rw [List.set_set] at h7
        have h8 := h7.below (w' := (w6.setCell ⟨GH, i * 8 + 1, none⟩ (.int .i64 (rd + bk))).drew) ⟨rfl, rfl, rfl, Nat.le_refl _, fun _ _ => rfl⟩
        dsimp only at h8
        rw [List.set_set] at h8
        exact h8
      have HS7 : Hid (Sep w (w6.setCell ⟨GH, i * 8 + 1, none⟩ (.int .i64 (rd + bk))).drew (Ow T0 X (.slice (some ⟨GH, 0, none⟩) X.length c) vS (.slice aL t.lk.length cL)) (Ow T0 (X.set i ⟨{ X[i].h with ready := rd + bk }, X[i].row⟩) (.slice (some ⟨GH, 0, none⟩) X.length c) vS (.slice (some ⟨g, 0, none⟩) (t.lk.length + 1) cg))) := by
        have h1 : Sep w5 w6 (Ow T0 X (.slice (some ⟨GH, 0, none⟩) X.length c) vS (.slice (some ⟨g, 0, none⟩) (t.lk.length + 1) cg)) (Ow T0 (X.set i ⟨{ X[i].h with ready := rd }, X[i].row⟩) (.slice (some ⟨GH, 0, none⟩) X.length c) vS (.slice (some ⟨g, 0, none⟩) (t.lk.length + 1) cg)) := by rw [← HW6.out]; exact sep_row hi rfl ⟨rfl, rfl, rfl, Nat.le_refl _, fun _ _ _ => rfl⟩ (Or.inl rfl)
        have h2 := sep_row (w := w6) (w1 := w6) (T0 := T0) (vH := .slice (some ⟨GH, 0, none⟩) X.length c) (vS := vS) (vL := .slice (some ⟨g, 0, none⟩) (t.lk.length + 1) cg) (j := i * 8 + 1) (v := .int .i64 (rd + bk)) (x' := ⟨{ X[i].h with ready := rd + bk }, X[i].row⟩) hi6 rfl ⟨rfl, rfl, rfl, Nat.le_refl _, fun _ _ _ => rfl⟩ (by rw [List.getElem_set_self]; exact Or.inl rfl)
        rw [List.set_set] at h2
        have h3 : Sep (w6.setCell ⟨GH, i * 8 + 1, none⟩ (.int .i64 (rd + bk))) (w6.setCell ⟨GH, i * 8 + 1, none⟩ (.int .i64 (rd + bk))).drew (Ow T0 (X.set i ⟨{ X[i].h with ready := rd + bk }, X[i].row⟩) (.slice (some ⟨GH, 0, none⟩) X.length c) vS (.slice (some ⟨g, 0, none⟩) (t.lk.length + 1) cg)) (Ow T0 (X.set i ⟨{ X[i].h with ready := rd + bk }, X[i].row⟩) (.slice (some ⟨GH, 0, none⟩) X.length c) vS (.slice (some ⟨g, 0, none⟩) (t.lk.length + 1) cg)) := Sep.below ⟨rfl, rfl, rfl, Nat.le_refl _, fun _ _ => rfl⟩
        exact ((HS5.out.trans h1).trans h2).trans h3
      have HP7 : Hid ((w6.setCell ⟨GH, i * 8 + 1, none⟩ (.int .i64 (rd + bk))).drew.cell? ⟨T0, 0, none⟩ = some (.map (some mb))) := by
        have h1 : w6.cell? ⟨T0, 0, none⟩ = some (.map (some mb)) := by rw [← HW6.out]; exact cell_ap HP5.out (grown_one GH (i * 8 + 1) _) HT5.out.a1
        have h2 : (w6.setCell ⟨GH, i * 8 + 1, none⟩ (.int .i64 (rd + bk))).cell? ⟨T0, 0, none⟩ = some (.map (some mb)) := cell_ap h1 (grown_one GH (i * 8 + 1) _) HT5.out.a1
        exact h2
      have HLH : Hid (lookH (hmX X[i]) t.now kd n = hmX ⟨{ X[i].h with ready := rd + bk }, X[i].row⟩) := by
        show _ = _
        unfold lookH
        rw [if_pos HKD.out, ← back_is hn, HRD.out.2]
        show { hmX X[i] with ready := t.now + max X[i].h.gr.wait 1 + bk } = _
        rw [HRD.out.1]; rfl
      clear HT6 hx6 hxi hi6 hwb e7
      obtain ⟨w8, hw8⟩ : ∃ w8, (w6.setCell ⟨GH, i * 8 + 1, none⟩ (.int .i64 (rd + bk))).drew = w8 := ⟨_, rfl⟩
      rw [hw8] at HT7 HS7 HP7 ⊢
      clear hw8
      go_wp2_with fail
      refine bodyPost_ret (v := .tuple #[.int .i64 3, .string (kindF L a n).2]) (by simp [results, Tryz.results123, go_sem]) rfl ?_
      rw [HK.out, HLH.out]
      exact ⟨by rw [HKD.out], _, _, HT7.out, List.length_set, ⟨by rw [List.length_set]; exact hi, by rw [List.getElem_set_self], by rw [List.getElem_set_self]; rfl⟩, HP7.out, HS7.out, rd_set hi rfl rfl⟩)
  · have HKD : Hid (¬ kd = 3) := hkd
    have hkb : decide (kd = 3) = false := decide_eq_false hkd
    have HT6 : Hid (TrOwn (w5.setCell ⟨GH, i * 8 + 1, none⟩ (.int .i64 (t.now + max X[i].h.gr.wait 1))) B T0 1 (X.set i ⟨{ X[i].h with ready := t.now + max X[i].h.gr.wait 1 }, X[i].row⟩) (.slice (some ⟨GH, 0, none⟩) X.length c) vS (.slice (some ⟨g, 0, none⟩) (t.lk.length + 1) cg) { t with lk := t.lk ++ [⟨t.now, a, kd⟩], hs := t.hs.set i (hmX ⟨{ X[i].h with ready := t.now + max X[i].h.gr.wait 1 }, X[i].row⟩) }) := by
      have hx := HT5.out.each _ (List.getElem_mem hi)
      exact HT5.out.setH rfl hi (by decide) rfl ⟨hx.names, hx.rules, hx.todo, hx.nlt, hx.rlt⟩ (fun _ e => e) rfl rfl
    have HS6 : Hid (Sep w5 (w5.setCell ⟨GH, i * 8 + 1, none⟩ (.int .i64 (t.now + max X[i].h.gr.wait 1))) (Ow T0 X (.slice (some ⟨GH, 0, none⟩) X.length c) vS (.slice (some ⟨g, 0, none⟩) (t.lk.length + 1) cg)) (Ow T0 (X.set i ⟨{ X[i].h with ready := t.now + max X[i].h.gr.wait 1 }, X[i].row⟩) (.slice (some ⟨GH, 0, none⟩) X.length c) vS (.slice (some ⟨g, 0, none⟩) (t.lk.length + 1) cg))) := sep_row hi rfl ⟨rfl, rfl, rfl, Nat.le_refl _, fun _ _ _ => rfl⟩ (Or.inl rfl)
    have HP6 : Hid ((w5.setCell ⟨GH, i * 8 + 1, none⟩ (.int .i64 (t.now + max X[i].h.gr.wait 1))).cell? ⟨T0, 0, none⟩ = some (.map (some mb))) := cell_ap HP5.out (grown_one GH (i * 8 + 1) _) HT5.out.a1
    go_wp2_with fail
    refine bodyPost_ret (v := .tuple #[.int .i64 kd, .string (kindF L a n).2]) (by simp [results, Tryz.results123, go_sem]) rfl ?_
    have hlk2 : lookH (hmX X[i]) t.now kd n = hmX ⟨{ X[i].h with ready := t.now + max X[i].h.gr.wait 1 }, X[i].row⟩ := by
      unfold lookH
      rw [if_neg HKD.out, Int.add_zero]; rfl
    rw [HK.out, hlk2]
    exact ⟨rfl, _, _, HT6.out, List.length_set, ⟨by rw [List.length_set]; exact hi, by rw [List.getElem_set_self], by rw [List.getElem_set_self]; rfl⟩, HP6.out, HS5.out.trans HS6.out, rd_set hi rfl rfl⟩
end Go.Proofs.YtiennniclkbjlaaGreatDoor.Tn
/- Queues of structs of one's own: a cell is written; what is behind is cleared. -/
namespace Go.Proofs.YtiennniclkbjlaaGreatDoor.RoQ
open Go.RowKit Go.Proofs.YtiennniclkbjlaaGreatDoor.St Go.Proofs.YtiennniclkbjlaaGreatDoor.RR Go.Proofs.YtiennniclkbjlaaGreatDoor.TrW

variable {α : Type} {F : Frm α} {w w' : World} {base b off n c : Nat} {C : List α}
theorem IsQF.parts (h : IsQF F w base (some b) (.slice (some ⟨b, off, none⟩) n c) C) : C.length = n ∧ n ≤ c ∧ c ≤ maxLen ∧ base ≤ b ∧ (∀ j u, (F.cells C)[j]? = some u → w.cell? ⟨b, off + j, none⟩ = some u) ∧ ∀ j, j < c * F.k → (w.cell? ⟨b, off + j, none⟩).isSome = true ∧ w.frozen? ⟨b, off + j, none⟩ = false := by
  obtain ⟨ao, of, cap, h1, h2, h3, ⟨_, hr⟩ | ⟨g, hc, hr, ha, hb, hl, ht⟩⟩ := h
  · cases hr
  · injection h1 with e1 e2 e3
    have e4 := Option.some.inj hr
    rw [ha] at e1
    have e5 := Option.some.inj e1
    injection e5 with _ e6
    subst e4; subst e6; subst e3; subst e2
    exact ⟨rfl, h2, h3, hb, hl, ht⟩
theorem IsQF.mk' (h1 : C.length = n) (h2 : n ≤ c) (h0 : 0 < c) (h3 : c ≤ maxLen) (h4 : base ≤ b) (h5 : ∀ j u, (F.cells C)[j]? = some u → w.cell? ⟨b, off + j, none⟩ = some u) (h6 : ∀ j, j < c * F.k → (w.cell? ⟨b, off + j, none⟩).isSome = true ∧ w.frozen? ⟨b, off + j, none⟩ = false) : IsQF F w base (some b) (.slice (some ⟨b, off, none⟩) n c) C :=
  ⟨some ⟨b, off, none⟩, off, c, by rw [h1], by omega, h3, Or.inr ⟨b, h0, rfl, rfl, h4, h5, h6⟩⟩
theorem IsQF.at (h : IsQF F w base (some b) (.slice (some ⟨b, off, none⟩) n c) C) {i : Nat} (hi : i < C.length) {j : Nat} (hj : j < F.k) {u : Value} (hu : (F.enc C[i])[j]? = some u) : w.cell? ⟨b, off + i * F.k + j, none⟩ = some u := by
  obtain ⟨_, _, _, _, h5, _⟩ := h.parts
  rw [Nat.add_assoc]
  exact h5 _ u (by rw [F.cells_at C i hi j hj]; exact hu)
theorem IsQF.free (h : IsQF F w base (some b) (.slice (some ⟨b, off, none⟩) n c) C) {i : Nat} (hi : i < C.length) {j : Nat} (hj : j < F.k) : w.frozen? ⟨b, off + i * F.k + j, none⟩ = false := by
  obtain ⟨h1, h2, _, _, _, h6⟩ := h.parts
  rw [Nat.add_assoc]
  refine (h6 (i * F.k + j) ?_).2
  have : (i + 1) * F.k ≤ c * F.k := Nat.mul_le_mul_right _ (by omega)
  rw [Nat.succ_mul] at this
  omega
/-- a cell of an element is written -/
theorem IsQF.set1 (h : IsQF F w base (some b) (.slice (some ⟨b, off, none⟩) n c) C) {i : Nat} (hi : i < C.length) {j : Nat} (hj : j < F.k) {y : Value} {a' : α} (he : F.enc a' = (F.enc C[i]).set j y) : IsQF F (w.setCell ⟨b, off + i * F.k + j, none⟩ y) base (some b) (.slice (some ⟨b, off, none⟩) n c) (C.set i a') := by
  obtain ⟨h1, h2, h3, h4, h5, h6⟩ := h.parts
  have hlt : i * F.k + j < C.length * F.k := by
    have : (i + 1) * F.k ≤ C.length * F.k := Nat.mul_le_mul_right _ hi
    rw [Nat.succ_mul] at this
    omega
  refine IsQF.mk' (by rw [List.length_set]; exact h1) h2 (by omega) h3 h4 (fun q u hu => ?_) (fun q hq => ?_)
  · rw [← cells_set F C i hi j y a' hj he] at hu
    by_cases e : q = i * F.k + j
    · subst e
      rw [List.getElem?_set_self (by rw [F.cells_len]; exact hlt)] at hu
      have hu' := Option.some.inj hu
      subst hu'
      have hs := (h6 (i * F.k + j) (by have : C.length * F.k ≤ c * F.k := Nat.mul_le_mul_right _ (by omega); omega)).1
      obtain ⟨v, hv⟩ := Option.isSome_iff_exists.1 hs
      rw [Nat.add_assoc]
      exact set_same hv
    · rw [List.getElem?_set_ne (fun e' => e e'.symm)] at hu
      rw [Nat.add_assoc]
      exact set_other (h5 q u hu) (by omega)
  · refine ⟨?_, by rw [frozen_set]; exact (h6 q hq).2⟩
    obtain ⟨v, hv⟩ := Option.isSome_iff_exists.1 (h6 q hq).1
    by_cases e : q = i * F.k + j
    · subst e
      rw [Nat.add_assoc, set_same hv]; rfl
    · rw [Nat.add_assoc, set_other hv (by omega)]; rfl
theorem some_setCells (b q : Nat) : ∀ (vs : List Value) (o : Nat) (w : World), (w.cell? ⟨b, q, none⟩).isSome = true → ((w.setCells b o vs).cell? ⟨b, q, none⟩).isSome = true
  | [], _, _, h => h
  | v :: r, o, w, h => by
    refine some_setCells b q r (o + 1) (w.setCell ⟨b, o, none⟩ v) ?_
    obtain ⟨u, hu⟩ := Option.isSome_iff_exists.1 h
    by_cases e : q = o
    · subst e; rw [set_same hu]; rfl
    · rw [set_other hu e]; rfl
/-- its first i, what is behind them having turned -/
theorem IsQF.fore (h : IsQF F w base (some b) (.slice (some ⟨b, off, none⟩) n c) C) {i : Nat} (hi : i ≤ C.length) (vs : List Value) : IsQF F (w.setCells b (off + i * F.k) vs) base (some b) (.slice (some ⟨b, off, none⟩) (C.take i).length c) (C.take i) ∨ c = 0 := by
  obtain ⟨h1, h2, h3, h4, h5, h6⟩ := h.parts
  by_cases h0 : c = 0
  · exact Or.inr h0
  · refine Or.inl (IsQF.mk' rfl (by rw [List.length_take]; omega) (by omega) h3 h4 (fun q u hu => ?_) (fun q hq => ?_))
    · have hq : q < i * F.k := by
        have := (List.getElem?_eq_some_iff.1 hu).1
        rw [F.cells_len, List.length_take, Nat.min_eq_left hi] at this
        exact this
      rw [World.cell?_setCells_out b vs (off + i * F.k) w ⟨b, off + q, none⟩ (fun _ _ => Or.inl (by dsimp only; omega))]
      refine h5 q u ?_
      have e2 : F.cells C = F.cells (C.take i) ++ F.cells (C.drop i) := by rw [← F.cells_append, List.take_append_drop]
      rw [e2, List.getElem?_append_left (List.getElem?_eq_some_iff.1 hu).1]; exact hu
    · refine ⟨?_, by rw [World.frozen?_setCells]; exact (h6 q hq).2⟩
      have := some_setCells b (off + q) vs (off + i * F.k) w (h6 q hq).1
      exact this
/-- 'clear' of elements of several cells -/
theorem run_clear_rows {P : Program} (w : World) (t e ty : TypeId) (z : Value) (ht : P.underlying t = some (.slice e)) (hv : ∀ w, (zeroValue e).run P w = .ok z w) (h1 : ∀ u ∈ z.cells.toList, u.oneCell' = true) (b o n c : Nat) (hn : 0 < n)
    (hc : ∀ j, j < n * z.cells.size → (w.cell? ⟨b, o + j, none⟩).isSome = true) (hf : ∀ j, j < n * z.cells.size → w.frozen? ⟨b, o + j, none⟩ = false) :
    (Builtin.clear_ #[t] ty #[.slice (some ⟨b, o, none⟩) n c]).run P w = .ok (.tuple #[]) (w.setCells b o (Builtin.zeroCells z.cells n).toList) := by
  have hl : (Builtin.zeroCells z.cells n).toList.length = n * z.cells.size := by simp [Builtin.zeroCells]
  have hst := run_storeCells_cells (P := P) b o (Builtin.zeroCells z.cells n).toList 0 w (by rw [hl]; simpa using hc) (by rw [hl]; simpa using hf) (by
    intro v hv'
    simp only [Builtin.zeroCells, Array.toList_map, List.mem_map, Array.toList_range, List.mem_range] at hv'
    obtain ⟨i, hi, rfl⟩ := hv'
    have hz : 0 < z.cells.size := by
      rcases Nat.eq_zero_or_pos z.cells.size with h | h
      · rw [h] at hi; simp at hi
      · exact h
    have hm : i % z.cells.size < z.cells.size := Nat.mod_lt _ hz
    refine h1 _ ?_
    rw [getElem!_pos z.cells _ hm]
    exact Array.getElem_mem_toList hm)
  simp only [Nat.add_zero] at hst
  obtain ⟨m, rfl⟩ : ∃ m, n = m + 1 := ⟨n - 1, by omega⟩
  simp [Builtin.clear_, run_underlying ht, hv, hst]
end Go.Proofs.YtiennniclkbjlaaGreatDoor.RoQ
/- Of the program: what is let no longer is taken away. -/
namespace Go.Proofs.YtiennniclkbjlaaGreatDoor.Tn
open Go.RowKit Go.Proofs.YtiennniclkbjlaaGreatDoor.EscM Go.Proofs.YtiennniclkbjlaaGreatDoor.AddrM Go.Proofs.YtiennniclkbjlaaGreatDoor.ReadM Go.Proofs.YtiennniclkbjlaaGreatDoor.Rd1 Go.Proofs.YtiennniclkbjlaaGreatDoor.Ad1 Go.Proofs.YtiennniclkbjlaaGreatDoor.RuleM Go.Proofs.YtiennniclkbjlaaGreatDoor.St Go.Proofs.YtiennniclkbjlaaGreatDoor.EscL Go.Proofs.YtiennniclkbjlaaGreatDoor.RR Go.Proofs.YtiennniclkbjlaaGreatDoor.LetM Go.Proofs.YtiennniclkbjlaaGreatDoor.GrM Go.Proofs.YtiennniclkbjlaaGreatDoor.RoIt Go.Proofs.YtiennniclkbjlaaGreatDoor.RoLk Go.Proofs.YtiennniclkbjlaaGreatDoor.RoQ Go.Proofs.YtiennniclkbjlaaGreatDoor.Mp Go.Proofs.YtiennniclkbjlaaGreatDoor.WdM Go.Proofs.YtiennniclkbjlaaGreatDoor.Wd Go.Proofs.YtiennniclkbjlaaGreatDoor.TpM Go.Proofs.YtiennniclkbjlaaGreatDoor.TrM Go.Proofs.YtiennniclkbjlaaGreatDoor.TrW Go.Proofs.YtiennniclkbjlaaGreatDoor.Tq Go.Proofs.YtiennniclkbjlaaGreatDoor.PgA Go.Proofs.YtiennniclkbjlaaGreatDoor.MkA Go.Proofs.YtiennniclkbjlaaGreatDoor.Im Go.Proofs.YtiennniclkbjlaaGreatDoor.Nm

set_option maxRecDepth 100000 in
set_option maxHeartbeats 3200000 in
theorem idxDrop_any (keep : It → Bool) (a0 : Option Addr) (cap : Nat) (L : List It) (P : Nat) (w : World) (hI : IsRows FIt w a0 cap L) (hl : L.length ≤ 4194304) (hC : ∀ W y, Below w.heap.size w W → y ∈ L → Calls Tryz.prog 127 #[.agg #[.string y.addr, .int .i64 y.tries], .pointer (some ⟨P, 0, none⟩)] W fun e w' => e = .returned (.bool (!keep y)) ∧ Below W.heap.size W w') :
    Calls Tryz.prog 119 #[.slice a0 L.length cap, .func (.func 127) #[] #[.pointer (some ⟨P, 0, none⟩)]] w fun e w' => (∃ z : Int, e = .returned (.int .i64 z) ∧ ((z = -1 ∧ ∀ y ∈ L, keep y = true) ∨ ∃ k, ∃ hk : k < L.length, z = (k : Int) ∧ keep L[k] = false ∧ ∀ y ∈ L.take k, keep y = true)) ∧ Below w.heap.size w w' := by
  have HI : Hid (IsRows FIt w a0 cap L) := hI
  have HC : Hid (∀ W y, Below w.heap.size w W → y ∈ L → Calls Tryz.prog 127 #[.agg #[.string y.addr, .int .i64 y.tries], .pointer (some ⟨P, 0, none⟩)] W fun e w' => e = .returned (.bool (!keep y)) ∧ Below W.heap.size W w') := hC
  clear hI hC
  go_enter Tryz.func119, Tryz.ntmps119
  go_wp2
  go_loopw [8] (fun i wr => ∃ k : Nat, k ≤ L.length ∧ i = .int .i64 (k : Int) ∧ Hid (∀ y ∈ L.take k, keep y = true) ∧ Hid (Below w.heap.size w wr)) (fun i _ => L.length - (intOf i).toNat)
  case atStart => exact ⟨0, Nat.zero_le _, rfl, (fun h hh => by cases hh), Below.refl _ _⟩
  case round =>
    obtain ⟨k, hk, rfl, HN, HB⟩ := hrel
    by_cases hlt : k < L.length
    · obtain ⟨b, off, e1, c0, c1⟩ := it_at (HI.out.below HB.out) hlt
      subst e1
      have HCC : Hid (∀ W, Below w.heap.size w W → Calls Tryz.prog 127 #[.agg #[.string L[k].addr, .int .i64 L[k].tries], .pointer (some ⟨P, 0, none⟩)] W fun e w' => e = .returned (.bool (!keep L[k])) ∧ Below W.heap.size W w') := fun W hW => HC.out W _ hW (List.getElem_mem hlt)
      cases he : keep L[k] with
      | false =>
        have HE : Hid (∃ hk : k < L.length, keep L[k] = false) := ⟨hlt, he⟩
        rw [he] at HCC
        clear he
        generalize L[k] = y at c0 c1 HCC
        go_wp2_with (go_at_call 127; refine (HCC.out _ HB.out).mono ?_; rintro e w2 ⟨rfl, hb2⟩; have HB2 : Hid (Below w.heap.size w w2) := HB.out.trans (hb2.mono HB.out.size))
        go_ret
        obtain ⟨q1, q2⟩ := HE.out
        exact ⟨⟨(k : Int), rfl, Or.inr ⟨k, q1, rfl, q2, HN.out⟩⟩, HB2.out⟩
      | true =>
        have HN2 : Hid (∀ y ∈ L.take (k + 1), keep y = true) := fun h hh => by
          rw [List.take_succ_eq_append_getElem hlt] at hh
          rcases List.mem_append.1 hh with hh | hh
          · exact HN.out h hh
          · have e : h = L[k] := by simpa using hh
            rw [e]; exact he
        rw [he] at HCC
        clear he
        generalize L[k] = y at c0 c1 HCC
        go_wp2_with (go_at_call 127; refine (HCC.out _ HB.out).mono ?_; rintro e w2 ⟨rfl, hb2⟩; have HB2 : Hid (Below w.heap.size w w2) := HB.out.trans (hb2.mono HB.out.size))
        go_roundw
        case rel => exact ⟨k + 1, by omega, by go_num, HN2, HB2⟩
        case measure => simp [intOf]; omega
    · have HF : Hid (∀ y ∈ L, keep y = true) := by
        have e1 : L.take k = L := List.take_of_length_le (by omega)
        have := HN.out
        rw [e1] at this; exact this
      go_wp2
      go_ret
      exact ⟨⟨-1, rfl, Or.inl ⟨rfl, HF.out⟩⟩, HB.out⟩
/-- the list, and what of it is done -/
structure DelI (keep : It → Bool) (L C : List It) (i j : Nat) : Prop where
  len : C.length = L.length
  ij : i < j
  jl : j ≤ L.length
  fore : C.take i = (L.take j).filter keep
  back : C.drop j = L.drop j
theorem DelI.start {keep : It → Bool} {L : List It} {k : Nat} (hk : k < L.length) (hn : keep L[k] = false) (hy : ∀ y ∈ L.take k, keep y = true) : DelI keep L L k (k + 1) :=
  ⟨rfl, Nat.lt_succ_self k, hk, by rw [List.take_succ_eq_append_getElem hk, List.filter_append, List.filter_eq_self.2 hy]; simp [hn], rfl⟩
theorem DelI.elem {keep : It → Bool} {L C : List It} {i j : Nat} (h : DelI keep L C i j) (hj : j < L.length) : ∃ hc : j < C.length, C[j] = L[j] := by
  have hc : j < C.length := by rw [h.len]; exact hj
  refine ⟨hc, ?_⟩
  have h1 := List.drop_eq_getElem_cons hc
  have h2 := List.drop_eq_getElem_cons hj
  rw [h.back, h2] at h1
  injection h1 with e _
  exact e.symm
theorem DelI.keep {keep : It → Bool} {L C : List It} {i j : Nat} (h : DelI keep L C i j) (hj : j < L.length) (hk : keep L[j] = true) : DelI keep L (C.set i L[j]) (i + 1) (j + 1) := by
  have hi : i < C.length := by rw [h.len]; exact Nat.lt_trans h.ij hj
  refine ⟨by rw [List.length_set]; exact h.len, by have := h.ij; omega, hj, ?_, ?_⟩
  · have hi2 : i < (C.set i L[j]).length := by rw [List.length_set]; exact hi
    rw [List.take_succ_eq_append_getElem hi2, List.getElem_set_self, List.take_set_of_le (Nat.le_refl _), h.fore, List.take_succ_eq_append_getElem hj, List.filter_append]
    simp [hk]
  · rw [List.drop_set_of_lt (by have := h.ij; omega)]
    have h1 : C.drop (j + 1) = (C.drop j).drop 1 := by rw [List.drop_drop]
    have h2 : L.drop (j + 1) = (L.drop j).drop 1 := by rw [List.drop_drop]
    rw [h1, h2, h.back]
theorem DelI.drop {keep : It → Bool} {L C : List It} {i j : Nat} (h : DelI keep L C i j) (hj : j < L.length) (hk : keep L[j] = false) : DelI keep L C i (j + 1) := by
  refine ⟨h.len, by have := h.ij; omega, hj, ?_, ?_⟩
  · rw [List.take_succ_eq_append_getElem hj, List.filter_append, h.fore]
    simp [hk]
  · have h1 : C.drop (j + 1) = (C.drop j).drop 1 := by rw [List.drop_drop]
    have h2 : L.drop (j + 1) = (L.drop j).drop 1 := by rw [List.drop_drop]
    rw [h1, h2, h.back]
theorem DelI.done {keep : It → Bool} {L C : List It} {i : Nat} (h : DelI keep L C i L.length) : C.take i = L.filter keep := by
  have := h.fore
  rwa [List.take_of_length_le (Nat.le_refl _)] at this
set_option maxRecDepth 100000 in
set_option maxHeartbeats 6400000 in
theorem delFunc_any (keep : It → Bool) (B : Nat) (a0 : Option Addr) (cap : Nat) (L : List It) (P : Nat) (row : Option Nat) (w : World) (hq : IsQF FIt w B row (.slice a0 L.length cap) L) (hl : L.length ≤ 4194304) (hC : ∀ W y, w.grownBy W row → y ∈ L → Calls Tryz.prog 127 #[.agg #[.string y.addr, .int .i64 y.tries], .pointer (some ⟨P, 0, none⟩)] W fun e w' => e = .returned (.bool (!keep y)) ∧ Below W.heap.size W w') :
    Calls Tryz.prog 126 #[.slice a0 L.length cap, .func (.func 127) #[] #[.pointer (some ⟨P, 0, none⟩)]] w fun e w' => e = .returned (.slice a0 (L.filter keep).length cap) ∧ IsQF FIt w' B row (.slice a0 (L.filter keep).length cap) (L.filter keep) ∧ w.grownBy w' row := by
  have HI : Hid (IsRows FIt w a0 cap L) := by
    obtain ⟨a1, c1, e, hr⟩ := hq.rows
    injection e with e1 _ e3
    subst e1; subst e3
    exact hr
  have HX : Hid _ := idxDrop_any keep a0 cap L P w HI.out hl (fun W y hW hy => hC W y (by have := grown_of hW; exact ⟨this.os, this.tape, this.output, this.size, fun k hk _ => hW.block k hk⟩) hy)
  have HC : Hid (∀ W y, w.grownBy W row → y ∈ L → Calls Tryz.prog 127 #[.agg #[.string y.addr, .int .i64 y.tries], .pointer (some ⟨P, 0, none⟩)] W fun e w' => e = .returned (.bool (!keep y)) ∧ Below W.heap.size W w') := hC
  have HQ : Hid (IsQF FIt w B row (.slice a0 L.length cap) L) := hq
  clear hq hC
  go_enter Tryz.func126, Tryz.ntmps126
  go_wp2_with fail
  refine Calls.mono HX.out ?_
  rintro e w1 ⟨⟨z, rfl, hz⟩, hb1⟩
  have HB1 : Hid (Below w.heap.size w w1) := hb1
  rcases hz with ⟨rfl, hall⟩ | ⟨k, hk, rfl, hkf, hka⟩
  · have HF : Hid (L.filter keep = L) := List.filter_eq_self.2 hall
    clear hall hb1
    go_wp2_with fail
    go_ret
    rw [HF.out]
    exact ⟨rfl, HQ.out.below HB1.out, ⟨HB1.out.os, HB1.out.tape, HB1.out.output, HB1.out.size, fun k hk _ => HB1.out.block k hk⟩⟩
  · obtain ⟨b, off, hbo, hbr⟩ : ∃ b off, a0 = some ⟨b, off, none⟩ ∧ row = some b := by
      obtain ⟨ao, of, cp, h1, h2, h3, ⟨h4, _⟩ | ⟨g, _, hr, ha, _⟩⟩ := HQ.out
      · omega
      · injection h1 with e1 _ _
        rw [ha] at e1
        exact ⟨g, of, e1, hr⟩
    subst hbo
    subst hbr
    have HQ1 : Hid (IsQF FIt w1 B (some b) (.slice (some ⟨b, off, none⟩) L.length cap) L) := HQ.out.below HB1.out
    have HD1 : Hid (DelI keep L L k (k + 1)) := DelI.start hk hkf hka
    have HG1 : Hid (w.grownBy w1 (some b)) := ⟨HB1.out.os, HB1.out.tape, HB1.out.output, HB1.out.size, fun k hk _ => HB1.out.block k hk⟩
    obtain ⟨_, hcap, hcm, _⟩ := HQ1.out.parts
    clear hkf hka hb1 HI HX
    have HL : Hid (L.length ≤ 4194304) := hl
    have hkz : ((k : Int) == -1) = false := by rw [beq_eq_false_iff_ne]; omega
    go_wp2_with fail
    go_loopw [5, 6] (fun vi vj wr => ∃ (i j : Nat) (C : List It), vi = .int .i64 (i : Int) ∧ vj = .int .i64 (j : Int) ∧ Hid (DelI keep L C i j) ∧ Hid (IsQF FIt wr B (some b) (.slice (some ⟨b, off, none⟩) L.length cap) C) ∧ Hid (w.grownBy wr (some b))) (fun _ vj _ => L.length - (intOf vj).toNat)
    case atStart => exact ⟨k, k + 1, L, rfl, by go_num, HD1, HQ1, HG1⟩
    case round =>
      obtain ⟨i, j, C, rfl, rfl, HD, HQ2, HG⟩ := hrel
      have hij := HD.out.ij
      have hjl := HD.out.jl
      by_cases hlt : j < L.length
      · obtain ⟨hcj, hce⟩ := HD.out.elem hlt
        have c0 : wr.cell? ⟨b, off + j * 2, none⟩ = some (.string L[j].addr) := by rw [← hce]; exact HQ2.out.at hcj (j := 0) (by decide) rfl
        have c1 : wr.cell? ⟨b, off + j * 2 + 1, none⟩ = some (.int .i64 L[j].tries) := by rw [← hce]; exact HQ2.out.at hcj (j := 1) (by decide) rfl
        have HBa : Hid (Below wr.heap.size wr (wr.alloc (.cells #[.string L[j].addr, .int .i64 L[j].tries] 103))) := (Below.refl _ wr).alloc (Nat.le_refl _) _
        have HXa : Hid (Bs 103 (wr.alloc (.cells #[.string L[j].addr, .int .i64 L[j].tries] 103)) wr.heap.size #[.string L[j].addr, .int .i64 L[j].tries]) := Bs.new _ _ _
        have HCC : Hid (∀ W, w.grownBy W (some b) → Calls Tryz.prog 127 #[.agg #[.string L[j].addr, .int .i64 L[j].tries], .pointer (some ⟨P, 0, none⟩)] W fun e w' => e = .returned (.bool (!keep L[j])) ∧ Below W.heap.size W w') := fun W hW => HC.out W _ hW (List.getElem_mem hlt)
        have HKD : Hid (keep L[j] = true → DelI keep L (C.set i L[j]) (i + 1) (j + 1)) := fun h => HD.out.keep hlt h
        have HDD : Hid (keep L[j] = false → DelI keep L C i (j + 1)) := fun h => HD.out.drop hlt h
        have hic : i < C.length := by rw [HD.out.len]; omega
        have HIC : Hid (i < C.length) := hic
        clear hce hcj HD
        generalize L[j] = y at *
        obtain ⟨ya, yt⟩ := y
        dsimp only at *
        have HGa : Hid (w.grownBy (wr.alloc (.cells #[.string ya, .int .i64 yt] 103)) (some b)) := ⟨HG.out.os, HG.out.tape, HG.out.output, Nat.le_trans HG.out.size HBa.out.size, fun k hk hr => (HBa.out.block k (Nat.lt_of_lt_of_le hk HG.out.size)).trans (HG.out.block k hk hr)⟩
        cases hk : keep ⟨ya, yt⟩ with
        | false =>
          have HD2 : Hid (DelI keep L C i (j + 1)) := HDD.out hk
          rw [hk] at HCC
          clear hk HKD HDD
          go_wp2_with (go_at_call 127; refine (HCC.out _ HGa.out).mono ?_; rintro e w3 ⟨rfl, hb3⟩; have HB3 : Hid (Below wr.heap.size wr w3) := HBa.out.trans (hb3.mono HBa.out.size); clear hb3)
          go_roundw
          case rel => exact ⟨i, j + 1, C, rfl, by go_num, HD2, HQ2.out.below HB3.out, ⟨HB3.out.os.trans HG.out.os, HB3.out.tape.trans HG.out.tape, HB3.out.output.trans HG.out.output, Nat.le_trans HG.out.size HB3.out.size, fun k hk hr => (HB3.out.block k (Nat.lt_of_lt_of_le hk HG.out.size)).trans (HG.out.block k hk hr)⟩⟩
          case measure => simp [intOf]; omega
        | true =>
          have HD2 : Hid (DelI keep L (C.set i ⟨ya, yt⟩) (i + 1) (j + 1)) := HKD.out hk
          rw [hk] at HCC
          have hci : C[i]? = some C[i] := List.getElem?_eq_getElem hic
          clear hk HKD HDD hci
          have HST : Hid (∀ W, IsQF FIt W B (some b) (.slice (some ⟨b, off, none⟩) L.length cap) C → IsQF FIt ((W.setCell ⟨b, off + i * 2, none⟩ (.string ya)).setCell ⟨b, off + i * 2 + 1, none⟩ (.int .i64 yt)) B (some b) (.slice (some ⟨b, off, none⟩) L.length cap) (C.set i ⟨ya, yt⟩)) := fun W hW => by
            have h1 := hW.set1 hic (j := 0) (y := .string ya) (a' := ⟨ya, C[i].tries⟩) (by decide) rfl
            have h2 := h1.set1 (i := i) (by rw [List.length_set]; exact hic) (j := 1) (y := .int .i64 yt) (a' := ⟨ya, yt⟩) (by decide) (by rw [List.getElem_set_self]; rfl)
            rw [List.set_set] at h2
            exact h2
          have HFR : Hid (∀ W, IsQF FIt W B (some b) (.slice (some ⟨b, off, none⟩) L.length cap) C → W.cell? ⟨b, off + i * 2, none⟩ = some (.string C[i].addr) ∧ W.cell? ⟨b, off + i * 2 + 1, none⟩ = some (.int .i64 C[i].tries) ∧ W.frozen? ⟨b, off + i * 2, none⟩ = false ∧ W.frozen? ⟨b, off + i * 2 + 1, none⟩ = false) := fun W hW => ⟨hW.at hic (j := 0) (by decide) rfl, hW.at hic (j := 1) (by decide) rfl, hW.free hic (j := 0) (by decide), hW.free hic (j := 1) (by decide)⟩
          generalize C[i] = ci at HFR
          clear hic
          go_wp2_with (go_at_call 127; refine (HCC.out _ HGa.out).mono ?_; rintro e w3 ⟨rfl, hb3⟩; have HB3 : Hid (Below wr.heap.size wr w3) := HBa.out.trans (hb3.mono HBa.out.size); have y0 := (HXa.out.below hb3).cell 0 rfl; have y1 := (HXa.out.below hb3).cell 1 rfl; have HQ3 : Hid (IsQF FIt w3 B (some b) (.slice (some ⟨b, off, none⟩) L.length cap) C) := HQ2.out.below HB3.out; obtain ⟨g0, g1, g2, g3⟩ := HFR.out w3 HQ3.out; clear hb3)
          go_roundw
          case rel =>
            refine ⟨i + 1, j + 1, C.set i ⟨ya, yt⟩, by go_num, by go_num, HD2, HST.out w3 HQ3.out, ?_⟩
            have h1 : w.grownBy w3 (some b) := ⟨HB3.out.os.trans HG.out.os, HB3.out.tape.trans HG.out.tape, HB3.out.output.trans HG.out.output, Nat.le_trans HG.out.size HB3.out.size, fun k hk hr => (HB3.out.block k (Nat.lt_of_lt_of_le hk HG.out.size)).trans (HG.out.block k hk hr)⟩
            have h2 := h1.trans (grown_one b (off + i * 2) (.string ya))
            exact h2.trans (grown_one b (off + i * 2 + 1) (.int .i64 yt))
          case measure => simp [intOf]; omega
      · have hje : j = L.length := by omega
        subst hje
        have HDE : Hid (C.take i = L.filter keep) := HD.out.done
        have HCL : Hid (C.length = L.length) := HD.out.len
        have HIF : Hid ((L.filter keep).length = i) := by
          have := congrArg List.length HDE.out
          rw [List.length_take, HD.out.len] at this
          show _ = _
          omega
        have hcz : ¬ cap - i = 0 := by omega
        have hci : ¬ cap = i := by omega
        have hclr : ∀ ty, (Builtin.clear_ #[36] ty #[.slice (some ⟨b, off + i * 2, none⟩) (L.length - i) (cap - i)]).run Tryz.prog wr = .ok (.tuple #[]) (wr.setCells b (off + i * 2) (Builtin.zeroCells #[.string ⟨#[]⟩, .int .i64 0] (L.length - i)).toList) := fun ty => by
          obtain ⟨_, _, _, _, _, h6⟩ := HQ2.out.parts
          have hb2 : ∀ j, j < (L.length - i) * 2 → i * 2 + j < cap * FIt.k := fun j hj => by show _ < cap * 2; omega
          exact run_clear_rows wr 36 103 ty (.agg #[.string ⟨#[]⟩, .int .i64 0]) Tryz.underlying36 (fun w => Tryz.zeroValue103 w) (by intro u hu; simp [Value.cells] at hu; rcases hu with rfl | rfl <;> rfl) b (off + i * 2) (L.length - i) (cap - i) (by omega) (fun j hj => by rw [Nat.add_assoc]; exact (h6 _ (hb2 j hj)).1) (fun j hj => by rw [Nat.add_assoc]; exact (h6 _ (hb2 j hj)).2)
        go_wp2_with fail
        clear hclr
        go_ret
        refine ⟨by rw [HIF.out]; rfl, ?_, HG.out.trans (grown_setCells b _ _ wr)⟩
        have h := HQ2.out.fore (i := i) (by have := HCL.out; omega) (Builtin.zeroCells #[.string ⟨#[]⟩, .int .i64 0] (L.length - i)).toList
        rw [HDE.out] at h
        rcases h with h | h
        · exact h
        · omega
end Go.Proofs.YtiennniclkbjlaaGreatDoor.Tn
/- A trip of one's own: what a notice says is put to a house. -/
namespace Go.Proofs.YtiennniclkbjlaaGreatDoor.TrW
open Go.RowKit Go.Proofs.YtiennniclkbjlaaGreatDoor.MkA Go.Proofs.YtiennniclkbjlaaGreatDoor.EscM Go.Proofs.YtiennniclkbjlaaGreatDoor.AddrM Go.Proofs.YtiennniclkbjlaaGreatDoor.ReadM Go.Proofs.YtiennniclkbjlaaGreatDoor.RuleM Go.Proofs.YtiennniclkbjlaaGreatDoor.St Go.Proofs.YtiennniclkbjlaaGreatDoor.RR Go.Proofs.YtiennniclkbjlaaGreatDoor.LetM Go.Proofs.YtiennniclkbjlaaGreatDoor.GrM Go.Proofs.YtiennniclkbjlaaGreatDoor.RoIt Go.Proofs.YtiennniclkbjlaaGreatDoor.RoLk Go.Proofs.YtiennniclkbjlaaGreatDoor.RoQ Go.Proofs.YtiennniclkbjlaaGreatDoor.TpM Go.Proofs.YtiennniclkbjlaaGreatDoor.TrM Go.Proofs.YtiennniclkbjlaaGreatDoor.Tq Go.Proofs.YtiennniclkbjlaaGreatDoor.Dr

variable {w w' w1 w5 w6 : World} {B T0 o : Nat} {X : List Hx} {vH vS vL : Value} {t : Tm} {r : Option Nat}
/-- what a trip's blocks are apart from -/
def Apt (T0 : Nat) (X : List Hx) (vH vS vL : Value) (v : Option Nat) : Prop := ∀ b, (b = some T0 ∨ b = vH.ownBlock ∨ b = vS.ownBlock ∨ b = vL.ownBlock ∨ ∃ y ∈ X, b = y.row) → Ap b v
theorem TrOwn.fresh (h : TrOwn w B T0 o X vH vS vL t) {v : Option Nat} (hv : ∀ k, v = some k → w.heap.size ≤ k) : Apt T0 X vH vS vL v := fun b hb k e1 e2 => by
  have h1 := hv k e2
  have h2 : Ow T0 X vH vS vL k := by
    rcases hb with hb | hb | hb | hb | ⟨y, hy, hb⟩
    · rw [hb] at e1; exact Or.inl (Option.some.inj e1).symm
    · rw [hb] at e1; exact Or.inr (Or.inl e1)
    · rw [hb] at e1; exact Or.inr (Or.inr (Or.inl e1))
    · rw [hb] at e1; exact Or.inr (Or.inr (Or.inr (Or.inl e1)))
    · rw [hb] at e1; exact Or.inr (Or.inr (Or.inr (Or.inr ⟨y, hy, e1⟩)))
  have := h.lt k h2
  omega
theorem TrOwn.apt (h : TrOwn w B T0 o X vH vS vL t) {i : Nat} (hi : i < X.length) : Apt T0 X vH vS vL (blk X[i].h.gr.na) ∧ Apt T0 X vH vS vL (blk X[i].h.gr.ra) := by
  have hx := List.getElem_mem hi
  refine ⟨fun b hb => ?_, fun b hb => ?_⟩
  · rcases hb with rfl | rfl | rfl | rfl | ⟨y, hy, rfl⟩
    · exact (h.qT _ hx).2.1
    · exact (h.qH _ hx).2.1
    · exact (h.qS _ hx).2.1
    · exact (h.qL _ hx).2.1
    · exact (h.sx y hy _ hx).1
  · rcases hb with rfl | rfl | rfl | rfl | ⟨y, hy, rfl⟩
    · exact (h.qT _ hx).2.2
    · exact (h.qH _ hx).2.2
    · exact (h.qS _ hx).2.2
    · exact (h.qL _ hx).2.2
    · exact (h.sx y hy _ hx).2
theorem Apt.set {v : Option Nat} {i : Nat} {x' : Hx} (h : Apt T0 X vH vS vL v) (hi : i < X.length) (hr : x'.row = X[i].row) : Apt T0 (X.set i x') vH vS vL v := fun b hb => by
  refine h b ?_
  rcases hb with hb | hb | hb | hb | ⟨y, hy, hb⟩
  · exact Or.inl hb
  · exact Or.inr (Or.inl hb)
  · exact Or.inr (Or.inr (Or.inl hb))
  · exact Or.inr (Or.inr (Or.inr (Or.inl hb)))
  · rcases List.mem_or_eq_of_mem_set hy with hy | hy
    · exact Or.inr (Or.inr (Or.inr (Or.inr ⟨y, hy, hb⟩)))
    · rw [hy, hr] at hb
      exact Or.inr (Or.inr (Or.inr (Or.inr ⟨_, List.getElem_mem hi, hb⟩)))
theorem rd_new {i : Nat} {x' : Hx} (hn : ∀ k, blk x'.h.gr.na = some k → w.heap.size ≤ k) (hr : ∀ k, blk x'.h.gr.ra = some k → w.heap.size ≤ k) : RdK w (Rd X) (Rd (X.set i x')) := RdK.sub fun k hk => by
  obtain ⟨y, hy, hk⟩ := hk
  rcases List.mem_or_eq_of_mem_set hy with hy | hy
  · exact Or.inl ⟨y, hy, hk⟩
  · subst hy
    rcases hk with hk | hk
    · exact Or.inr (hn k hk)
    · exact Or.inr (hr k hk)
set_option maxRecDepth 100000 in
set_option maxHeartbeats 1600000 in
theorem TrOwn.group (h5 : TrOwn w5 B T0 o X vH vS vL t) (hb : Below w5.heap.size w5 w6) {g : Gr} (hg : GrOwn w6 w5.heap.size g) {GH c : Nat} (hv : vH = .slice (some ⟨GH, 0, none⟩) X.length c) {i : Nat} (hi : i < X.length) :
    TrOwn (((w6.setCell ⟨GH, i * 8 + 3, none⟩ (.slice g.na g.nm.length g.nc)).setCell ⟨GH, i * 8 + 4, none⟩ (.slice g.ra g.ru.length g.rc)).setCell ⟨GH, i * 8 + 5, none⟩ (.int .i64 g.wait)) B T0 o (X.set i ⟨{ X[i].h with gr := g }, X[i].row⟩) vH vS vL { t with hs := t.hs.set i (hmX ⟨{ X[i].h with gr := g }, X[i].row⟩) } ∧ Sep w5 (((w6.setCell ⟨GH, i * 8 + 3, none⟩ (.slice g.na g.nm.length g.nc)).setCell ⟨GH, i * 8 + 4, none⟩ (.slice g.ra g.ru.length g.rc)).setCell ⟨GH, i * 8 + 5, none⟩ (.int .i64 g.wait)) (Ow T0 X vH vS vL) (Ow T0 (X.set i ⟨{ X[i].h with gr := g }, X[i].row⟩) vH vS vL) ∧ RdK w5 (Rd X) (Rd (X.set i ⟨{ X[i].h with gr := g }, X[i].row⟩)) := by
  have h6 := h5.below hb
  have hxi := List.getElem_mem hi
  have hob : vH.ownBlock = some GH := by rw [hv]; rfl
  have hGlt : GH < w5.heap.size := h5.lt GH (Or.inr (Or.inl hob))
  have ln := World.ownsRow.lt hg.1
  have lr := hg.2.lt
  rw [own_blk] at ln lr
  have fn : Apt T0 X vH vS vL (blk g.na) := h5.fresh fun k hk => (ln k hk).1
  have frr : Apt T0 X vH vS vL (blk g.ra) := h5.fresh fun k hk => (lr k hk).1
  have hx := h6.each _ hxi
  have s1 := h6.setG hv hi (j := 3) (y := .slice g.na g.nm.length g.nc) (x' := ⟨{ X[i].h with gr := { X[i].h.gr with nm := g.nm, na := g.na, nc := g.nc } }, X[i].row⟩) (by decide) rfl ⟨hg.1.strsOf, hx.rules, hx.todo, fun k hk => (ln k hk).2, hx.rlt⟩ (fun _ e => e) (fun b hb => ⟨fn b hb, (h6.apt hi).2 b hb⟩)
  have hi1 : i < (X.set i ⟨{ X[i].h with gr := { X[i].h.gr with nm := g.nm, na := g.na, nc := g.nc } }, X[i].row⟩).length := by rw [List.length_set]; exact hi
  have hx1 := s1.each _ (List.getElem_mem hi1)
  rw [List.getElem_set_self] at hx1
  have g1 : GrOwn (w6.setCell ⟨GH, i * 8 + 3, none⟩ (.slice g.na g.nm.length g.nc)) w5.heap.size g := ⟨owns_ap hg.1 (grown_one _ _ _) (fun k e1 e2 => by rw [own_blk] at e1; have := (ln k e1).1; have := Option.some.inj e2; omega), ownsR_ap hg.2 (grown_one _ _ _) (fun k e1 e2 => by rw [own_blk] at e1; have := (lr k e1).1; have := Option.some.inj e2; omega)⟩
  have s2 := s1.setG (GH := GH) (c := c) (by rw [List.length_set]; exact hv) hi1 (j := 4) (y := .slice g.ra g.ru.length g.rc) (x' := ⟨{ X[i].h with gr := { X[i].h.gr with nm := g.nm, na := g.na, nc := g.nc, ru := g.ru, ra := g.ra, rc := g.rc } }, X[i].row⟩) (by decide) (by rw [List.getElem_set_self]; rfl) ⟨hx1.names, g1.2.rowsOf, hx1.todo, hx1.nlt, fun k hk => Nat.lt_of_lt_of_le (lr k hk).2 (grown_one _ _ _).size⟩ (by rw [List.getElem_set_self]; exact fun _ e => e) (fun b hb => ⟨Apt.set (x' := ⟨{ X[i].h with gr := { X[i].h.gr with nm := g.nm, na := g.na, nc := g.nc } }, X[i].row⟩) fn hi rfl b hb, Apt.set (x' := ⟨{ X[i].h with gr := { X[i].h.gr with nm := g.nm, na := g.na, nc := g.nc } }, X[i].row⟩) frr hi rfl b hb⟩)
  rw [List.set_set] at s2
  dsimp only at s2
  rw [List.set_set] at s2
  have hi2 : i < (X.set i ⟨{ X[i].h with gr := { X[i].h.gr with nm := g.nm, na := g.na, nc := g.nc, ru := g.ru, ra := g.ra, rc := g.rc } }, X[i].row⟩).length := by rw [List.length_set]; exact hi
  have hx2 := s2.each _ (List.getElem_mem hi2)
  rw [List.getElem_set_self] at hx2
  have s3 := s2.setH (GH := GH) (c := c) (by rw [List.length_set]; exact hv) hi2 (j := 5) (y := .int .i64 g.wait) (x' := ⟨{ X[i].h with gr := g }, X[i].row⟩) (by decide) (by rw [List.getElem_set_self]; rfl) ⟨hx2.names, hx2.rules, hx2.todo, hx2.nlt, hx2.rlt⟩ (by rw [List.getElem_set_self]; exact fun _ e => e) (by rw [List.getElem_set_self]) (by rw [List.getElem_set_self])
  rw [List.set_set] at s3
  dsimp only at s3
  rw [List.set_set] at s3
  refine ⟨s3, ?_, rd_new (fun k hk => (ln k hk).1) (fun k hk => (lr k hk).1)⟩
  have p1 : Sep w6 (w6.setCell ⟨GH, i * 8 + 3, none⟩ (.slice g.na g.nm.length g.nc)) (Ow T0 X vH vS vL) (Ow T0 (X.set i ⟨{ X[i].h with gr := g }, X[i].row⟩) vH vS vL) := sep_row hi hob ⟨rfl, rfl, rfl, Nat.le_refl _, fun _ _ _ => rfl⟩ (Or.inl rfl)
  have hi3 : i < (X.set i ⟨{ X[i].h with gr := g }, X[i].row⟩).length := by rw [List.length_set]; exact hi
  have p2 : ∀ (W : World) (j : Nat) (y : Value), Sep W (W.setCell ⟨GH, j, none⟩ y) (Ow T0 (X.set i ⟨{ X[i].h with gr := g }, X[i].row⟩) vH vS vL) (Ow T0 (X.set i ⟨{ X[i].h with gr := g }, X[i].row⟩) vH vS vL) := fun W j y => by
    have := sep_row (w := W) (w1 := W) (T0 := T0) (vH := vH) (vS := vS) (vL := vL) (j := j) (v := y) (x' := ⟨{ X[i].h with gr := g }, X[i].row⟩) hi3 hob ⟨rfl, rfl, rfl, Nat.le_refl _, fun _ _ _ => rfl⟩ (by rw [List.getElem_set_self]; exact Or.inl rfl)
    rw [List.set_set] at this
    exact this
  exact ((((Sep.below hb).trans p1).trans (p2 _ _ _)).trans (p2 _ _ _))
/-- a cell of a house is written: what was not of it stays -/
theorem sep_house1 {GH j i : Nat} {y : Value} {x' : Hx} (hi : i < X.length) (hv : vH.ownBlock = some GH) (hr : x'.row = X[i].row) : Sep w (w.setCell ⟨GH, j, none⟩ y) (Ow T0 X vH vS vL) (Ow T0 (X.set i x') vH vS vL) := sep_row hi hv ⟨rfl, rfl, rfl, Nat.le_refl _, fun _ _ _ => rfl⟩ (Or.inl hr)
end Go.Proofs.YtiennniclkbjlaaGreatDoor.TrW
/- A trip in its caller, one house of it under way: what is written into that house. -/
namespace Go.Proofs.YtiennniclkbjlaaGreatDoor.TrW
open Go.RowKit Go.Proofs.YtiennniclkbjlaaGreatDoor.MkA Go.Proofs.YtiennniclkbjlaaGreatDoor.EscM Go.Proofs.YtiennniclkbjlaaGreatDoor.AddrM Go.Proofs.YtiennniclkbjlaaGreatDoor.ReadM Go.Proofs.YtiennniclkbjlaaGreatDoor.RuleM Go.Proofs.YtiennniclkbjlaaGreatDoor.St Go.Proofs.YtiennniclkbjlaaGreatDoor.RR Go.Proofs.YtiennniclkbjlaaGreatDoor.LetM Go.Proofs.YtiennniclkbjlaaGreatDoor.GrM Go.Proofs.YtiennniclkbjlaaGreatDoor.RoIt Go.Proofs.YtiennniclkbjlaaGreatDoor.RoLk Go.Proofs.YtiennniclkbjlaaGreatDoor.RoQ Go.Proofs.YtiennniclkbjlaaGreatDoor.TpM Go.Proofs.YtiennniclkbjlaaGreatDoor.TrM Go.Proofs.YtiennniclkbjlaaGreatDoor.Tq Go.Proofs.YtiennniclkbjlaaGreatDoor.Dr

/-- the slice of the houses -/
def vHs (GH n c : Nat) : Value := .slice (some ⟨GH, 0, none⟩) n c
/-- a trip in its caller; x is its i-th house; what was not of it is as it was in w0 -/
structure Tw (w0 : World) (O R : Nat → Prop) (B T0 GH c i : Nat) (pv : Value) (X : List Hx) (x : Hx) (vS vL : Value) (t : Tm) (w : World) : Prop where
  own : TrOwn w B T0 1 X (vHs GH X.length c) vS vL t
  at_ : X[i]? = some x
  sep : Sep w0 w O (Ow T0 X (vHs GH X.length c) vS vL)
  rd : RdK w0 R (Rd X)
  pc : w.cell? ⟨T0, 0, none⟩ = some pv
variable {w0 w w' w1 : World} {O R : Nat → Prop} {B T0 GH c i : Nat} {pv : Value} {X : List Hx} {x : Hx} {vS vL : Value} {t : Tm}
theorem Tw.lt (h : Tw w0 O R B T0 GH c i pv X x vS vL t w) : ∃ hi : i < X.length, X[i] = x := List.getElem?_eq_some_iff.1 h.at_
theorem Tw.cell (h : Tw w0 O R B T0 GH c i pv X x vS vL t w) {j : Nat} {u : Value} (hu : (FHs.enc x.h)[j]? = some u) (hj : j < 8) : w.cell? ⟨GH, i * 8 + j, none⟩ = some u := by
  obtain ⟨hi, e⟩ := h.lt
  subst e
  exact h.own.cell rfl hi hu hj
theorem Tw.free (h : Tw w0 O R B T0 GH c i pv X x vS vL t w) (j : Nat) : w.frozen? ⟨GH, j, none⟩ = false := h.own.free rfl j
theorem Tw.below (h : Tw w0 O R B T0 GH c i pv X x vS vL t w) (hb : Below w.heap.size w w') : Tw w0 O R B T0 GH c i pv X x vS vL t w' :=
  ⟨h.own.below hb, h.at_, h.sep.trans (Sep.below hb), h.rd, (hb.cell (St.cell_block h.pc)).trans h.pc⟩
theorem Tw.drew (h : Tw w0 O R B T0 GH c i pv X x vS vL t w) : Tw w0 O R B T0 GH c i pv X x vS vL t w.drew := h.below ⟨rfl, rfl, rfl, Nat.le_refl _, fun _ _ => rfl⟩
theorem Tw.house (h : Tw w0 O R B T0 GH c i pv X x vS vL t w) : HxAt w B x := by
  obtain ⟨hi, e⟩ := h.lt
  subst e
  exact h.own.each _ (List.getElem_mem hi)
/-- what was there ahead and is not of it is there -/
theorem Tw.kept (h : Tw w0 O R B T0 GH c i pv X x vS vL t w) {k : Nat} (hk : k < w0.heap.size) (ho : ¬ O k) : w.heap[k]? = w0.heap[k]? ∧ ¬ Ow T0 X (vHs GH X.length c) vS vL k := ⟨(h.sep.keep k hk ho).2, (h.sep.keep k hk ho).1⟩
theorem vH_len {X X' : List Hx} (h : X'.length = X.length) : vHs GH X.length c = vHs GH X'.length c := by rw [h]
/-- a cell of the house is written, its lists stay -/
theorem Tw.set (h : Tw w0 O R B T0 GH c i pv X x vS vL t w) {j : Nat} (hj : j < 8) {y : Value} {x' : Hx} (he : FHs.enc x'.h = (FHs.enc x.h).set j y) (hr : x'.row = x.row) (hg : x'.h.gr = x.h.gr) (h1 : x'.h.ta = x.h.ta) (h2 : x'.h.tc = x.h.tc) (h3 : x'.h.todo = x.h.todo) :
    ∃ X', Tw w0 O R B T0 GH c i pv X' x' vS vL { t with hs := t.hs.set i (hmX x') } (w.setCell ⟨GH, i * 8 + j, none⟩ y) := by
  have hH := h.house
  obtain ⟨hi, e⟩ := h.lt
  subst e
  have hx : HxAt w B x' := ⟨by rw [hg]; exact hH.names, by rw [hg]; exact hH.rules, by rw [hr, h1, h2, h3]; exact hH.todo, by rw [hg]; exact hH.nlt, by rw [hg]; exact hH.rlt⟩
  have s := h.own.setH rfl hi hj he hx (fun k e => by rw [← hr]; exact e) (by rw [hg]) (by rw [hg])
  have p := sep_house1 (w := w) (T0 := T0) (vH := vHs GH X.length c) (vS := vS) (vL := vL) (GH := GH) (j := i * 8 + j) (y := y) hi rfl hr
  have hl : (X.set i x').length = X.length := List.length_set
  rw [vH_len hl] at s
  refine ⟨X.set i x', s, List.getElem?_set_self hi, h.sep.trans ?_, RdK.trans h.rd (rd_set (w := w) hi (by rw [hg]) (by rw [hg])) h.sep.size, cell_ap h.pc (grown_one _ _ _) h.own.a1⟩
  have e3 : Ow T0 (X.set i x') (vHs GH (X.set i x').length c) vS vL = Ow T0 (X.set i x') (vHs GH X.length c) vS vL := by rw [hl]
  rw [e3]; exact p
/-- what a notice says is put to it -/
theorem Tw.said (h : Tw w0 O R B T0 GH c i pv X x vS vL t w) (hb : Below w.heap.size w w1) {g : Gr} (hg : GrOwn w1 w.heap.size g) :
    ∃ X', Tw w0 O R B T0 GH c i pv X' ⟨{ x.h with gr := g }, x.row⟩ vS vL { t with hs := t.hs.set i (hmX ⟨{ x.h with gr := g }, x.row⟩) } (((w1.setCell ⟨GH, i * 8 + 3, none⟩ (.slice g.na g.nm.length g.nc)).setCell ⟨GH, i * 8 + 4, none⟩ (.slice g.ra g.ru.length g.rc)).setCell ⟨GH, i * 8 + 5, none⟩ (.int .i64 g.wait)) := by
  obtain ⟨hi, e⟩ := h.lt
  subst e
  obtain ⟨s, p, r⟩ := h.own.group hb hg rfl hi
  have hl : (X.set i ⟨{ X[i].h with gr := g }, X[i].row⟩).length = X.length := List.length_set
  rw [vH_len hl] at s
  refine ⟨X.set i ⟨{ X[i].h with gr := g }, X[i].row⟩, s, List.getElem?_set_self hi, h.sep.trans ?_, RdK.trans h.rd r h.sep.size, ?_⟩
  · have e3 : Ow T0 (X.set i ⟨{ X[i].h with gr := g }, X[i].row⟩) (vHs GH (X.set i ⟨{ X[i].h with gr := g }, X[i].row⟩).length c) vS vL = Ow T0 (X.set i ⟨{ X[i].h with gr := g }, X[i].row⟩) (vHs GH X.length c) vS vL := by rw [hl]
    rw [e3]; exact p
  · have h1 := (hb.cell (St.cell_block h.pc)).trans h.pc
    exact cell_ap (cell_ap (cell_ap h1 (grown_one _ _ _) h.own.a1) (grown_one _ _ _) h.own.a1) (grown_one _ _ _) h.own.a1
/-- what is left there has turned in its own row -/
theorem Tw.todo (h : Tw w0 O R B T0 GH c i pv X x vS vL t w) (hg : w.grownBy w1 x.row) {a' : Option Addr} {c' : Nat} {L' : List It} {row' : Option Nat} (hq : IsQF FIt w1 B row' (.slice a' L'.length c') L') (hn : row' = x.row ∨ ∃ g, row' = some g ∧ w.heap.size ≤ g) :
    ∃ X', Tw w0 O R B T0 GH c i pv X' ⟨{ x.h with todo := L', ta := a', tc := c' }, row'⟩ vS vL { t with hs := t.hs.set i { hmX x with todo := L' } } (w1.setCell ⟨GH, i * 8 + 7, none⟩ (.slice a' L'.length c')) := by
  obtain ⟨hi, e⟩ := h.lt
  subst e
  have s := h.own.todo rfl hi hg hq hn
  have p := sep_row (w := w) (w1 := w1) (T0 := T0) (vH := vHs GH X.length c) (vS := vS) (vL := vL) (GH := GH) (j := i * 8 + 7) (v := .slice a' L'.length c') (x' := ⟨{ X[i].h with todo := L', ta := a', tc := c' }, row'⟩) hi rfl hg hn
  have hl : (X.set i ⟨{ X[i].h with todo := L', ta := a', tc := c' }, row'⟩).length = X.length := List.length_set
  rw [vH_len hl] at s
  refine ⟨X.set i ⟨{ X[i].h with todo := L', ta := a', tc := c' }, row'⟩, s, List.getElem?_set_self hi, h.sep.trans ?_, RdK.trans h.rd (rd_set (w := w) hi rfl rfl) h.sep.size, ?_⟩
  · have e3 : Ow T0 (X.set i ⟨{ X[i].h with todo := L', ta := a', tc := c' }, row'⟩) (vHs GH (X.set i ⟨{ X[i].h with todo := L', ta := a', tc := c' }, row'⟩).length c) vS vL = Ow T0 (X.set i ⟨{ X[i].h with todo := L', ta := a', tc := c' }, row'⟩) (vHs GH X.length c) vS vL := by rw [hl]
    rw [e3]; exact p
  · exact cell_ap (cell_ap h.pc hg (h.own.qT _ (List.getElem_mem hi)).1) (grown_one _ _ _) h.own.a1
/-- what is left there is cut in front -/
theorem Tw.cut (h : Tw w0 O R B T0 GH c i pv X x vS vL t w) {a' : Option Addr} {c' : Nat} {L' : List It} {row' : Option Nat} (hq : IsQF FIt w B row' (.slice a' L'.length c') L') (hr : ∀ k, row' = some k → x.row = some k) :
    ∃ X', Tw w0 O R B T0 GH c i pv X' ⟨{ x.h with todo := L', ta := a', tc := c' }, row'⟩ vS vL { t with hs := t.hs.set i { hmX x with todo := L' } } (w.setCell ⟨GH, i * 8 + 7, none⟩ (.slice a' L'.length c')) := by
  have hH := h.house
  obtain ⟨hi, e⟩ := h.lt
  subst e
  have hx : HxAt w B ⟨{ X[i].h with todo := L', ta := a', tc := c' }, row'⟩ := ⟨hH.names, hH.rules, hq, hH.nlt, hH.rlt⟩
  have s := h.own.setH rfl hi (j := 7) (y := .slice a' L'.length c') (by decide) rfl hx hr rfl rfl
  have hl : (X.set i ⟨{ X[i].h with todo := L', ta := a', tc := c' }, row'⟩).length = X.length := List.length_set
  rw [vH_len hl] at s
  refine ⟨X.set i ⟨{ X[i].h with todo := L', ta := a', tc := c' }, row'⟩, s, List.getElem?_set_self hi, h.sep.trans ?_, RdK.trans h.rd (rd_set (w := w) hi rfl rfl) h.sep.size, cell_ap h.pc (grown_one _ _ _) h.own.a1⟩
  have e3 : Ow T0 (X.set i ⟨{ X[i].h with todo := L', ta := a', tc := c' }, row'⟩) (vHs GH (X.set i ⟨{ X[i].h with todo := L', ta := a', tc := c' }, row'⟩).length c) vS vL = Ow T0 (X.set i ⟨{ X[i].h with todo := L', ta := a', tc := c' }, row'⟩) (vHs GH X.length c) vS vL := by rw [hl]
  rw [e3]
  refine Sep.of (r := none) ⟨rfl, rfl, rfl, Nat.le_refl _, fun _ _ _ => rfl⟩ (fun k hk => by cases hk) (Or.inr (Or.inl rfl)) fun k hk => ?_
  rcases hk with hk | hk | hk | hk | ⟨y, hy, hk⟩
  · exact Or.inl (Or.inl hk)
  · exact Or.inl (Or.inr (Or.inl hk))
  · exact Or.inl (Or.inr (Or.inr (Or.inl hk)))
  · exact Or.inl (Or.inr (Or.inr (Or.inr (Or.inl hk))))
  · rcases List.mem_or_eq_of_mem_set hy with hy | hy
    · exact Or.inl (Or.inr (Or.inr (Or.inr (Or.inr ⟨y, hy, hk⟩))))
    · rw [hy] at hk
      exact Or.inl (Or.inr (Or.inr (Or.inr (Or.inr ⟨_, List.getElem_mem hi, hr k hk⟩))))
end Go.Proofs.YtiennniclkbjlaaGreatDoor.TrW
