/- What stands in memory at a round of the program's WorldReach. -/
import Derived.Test.YtmgcdfmgmpnonaaGreatDoorReQ
import Derived.Test.YtmgcdfmgmpnonaaGreatDoorPgA1Pk
namespace Go.Proofs.YtmgcdfmgmpnonaaGreatDoor.ReM
open Go.RowKit Go.Proofs.YtmgcdfmgmpnonaaGreatDoor.AddrM Go.Proofs.YtmgcdfmgmpnonaaGreatDoor.St Go.Proofs.YtmgcdfmgmpnonaaGreatDoor.EscL Go.Proofs.YtmgcdfmgmpnonaaGreatDoor.Mp Go.Proofs.YtmgcdfmgmpnonaaGreatDoor.RoPg Go.Proofs.YtmgcdfmgmpnonaaGreatDoor.WdM Go.Proofs.YtmgcdfmgmpnonaaGreatDoor.Wd

structure QSt (w0 wr : World) (B b1 b2 : Nat) (L : List Pg) (M : List (ByteArray × Value)) (o : Value) (out : List ByteArray) (row : Option Nat) (q : Value) (qs : List ByteArray) : Prop where
  pages : IsMap wr b1 (entsL L)
  counts : IsMap wr b2 M
  own : Owns wr B o out
  que : IsQ wr B row q qs
  apart : ∀ k, o.ownBlock = some k → row = some k → False
  below : Below w0.heap.size w0 wr
  l1 : b1 < B
  l2 : b2 < B
  ne : b1 ≠ b2
  g2 : w0.heap.size ≤ b2
  g : w0.heap.size ≤ B
  size : B ≤ wr.heap.size
variable {w0 wr w' : World} {B b1 b2 : Nat} {L : List Pg} {M M' : List (ByteArray × Value)} {o o' : Value} {out out' : List ByteArray} {row row' : Option Nat} {q q' : Value} {qs qs' : List ByteArray}
theorem QSt.on (h : QSt w0 wr B b1 b2 L M o out row q qs) (hb : Below wr.heap.size wr w') : QSt w0 w' B b1 b2 L M o out row q qs :=
  ⟨h.pages.below hb, h.counts.below hb, Owns.below h.own hb, h.que.below hb, h.apart, h.below.trans (hb.mono h.below.size), h.l1, h.l2, h.ne, h.g2, h.g, Nat.le_trans h.size hb.size⟩
theorem QSt.alloc (h : QSt w0 wr B b1 b2 L M o out row q qs) (x : Obj) : QSt w0 (wr.alloc x) B b1 b2 L M o out row q qs := h.on ((Below.refl _ wr).alloc (Nat.le_refl _) x)
/-- a count was stored -/
theorem QSt.store (h : QSt w0 wr B b1 b2 L M o out row q qs) (hm : IsMap w' b2 M') (hg : wr.grownBy w' (some b2)) : QSt w0 w' B b1 b2 L M' o out row q qs := by
  have hl2 := h.l2
  refine ⟨h.pages.grown hg (fun e => h.ne (Option.some.inj e).symm), hm, owns_apart h.own hg (fun k hk e => ?_), h.que.grown hg (fun k hk e => ?_), h.apart, h.below.trans (Dr.grown_any _ hg h.below.size (fun k e => ?_)), h.l1, h.l2, h.ne, h.g2, h.g, Nat.le_trans h.size hg.size⟩
  · have := Owns.block h.own k hk
    have e2 : b2 = k := Option.some.inj e
    omega
  · have := (h.que.lt k hk).1
    have e2 : b2 = k := Option.some.inj e
    omega
  · have e2 : b2 = k := Option.some.inj e
    have := h.g2
    omega
/-- the head was let go by -/
theorem QSt.pop (h : QSt w0 wr B b1 b2 L M o out row q qs) (hq : IsQ wr B row' q' qs') (hr : ∀ k, row' = some k → row = some k) : QSt w0 wr B b1 b2 L M o out row' q' qs' :=
  ⟨h.pages, h.counts, h.own, hq, fun k hk e => h.apart k hk (hr k e), h.below, h.l1, h.l2, h.ne, h.g2, h.g, h.size⟩
/-- what one came to has grown -/
theorem QSt.came (h : QSt w0 wr B b1 b2 L M o out row q qs) (hg : wr.grownBy w' o.ownBlock) (hO : Owns w' B o' out') (hn : o'.ownBlock = o.ownBlock ∨ ∃ g, o'.ownBlock = some g ∧ wr.heap.size ≤ g) : QSt w0 w' B b1 b2 L M o' out' row q qs := by
  have hl1 := h.l1
  have hl2 := h.l2
  have hbk := Owns.block h.own
  refine ⟨h.pages.grown hg (fun e => ?_), h.counts.grown hg (fun e => ?_), hO, h.que.grown hg (fun k hk e => h.apart k e hk), fun k hk e => ?_, h.below.trans (Dr.grown_any _ hg h.below.size (fun k e => ?_)), h.l1, h.l2, h.ne, h.g2, h.g, Nat.le_trans h.size hg.size⟩
  · have := hbk _ e; omega
  · have := hbk _ e; omega
  · rcases hn with e1 | ⟨g, e1, hge⟩
    · rw [e1] at hk; exact h.apart k hk e
    · rw [e1] at hk
      have e2 : g = k := Option.some.inj hk
      have := (h.que.lt k e).2
      omega
  · have := hbk _ e
    have := h.g
    omega
/-- the queue has grown -/
theorem QSt.grow (h : QSt w0 wr B b1 b2 L M o out row q qs) (hg : wr.grownBy w' row) (hq : IsQ w' B row' q' qs') (hn : row' = row ∨ ∃ g, row' = some g ∧ wr.heap.size ≤ g) : QSt w0 w' B b1 b2 L M o out row' q' qs' := by
  have hl1 := h.l1
  have hl2 := h.l2
  have hbk := h.que.lt
  refine ⟨h.pages.grown hg (fun e => ?_), h.counts.grown hg (fun e => ?_), owns_apart h.own hg (fun k hk e => h.apart k hk e), hq, fun k hk e => ?_, h.below.trans (Dr.grown_any _ hg h.below.size (fun k e => ?_)), h.l1, h.l2, h.ne, h.g2, h.g, Nat.le_trans h.size hg.size⟩
  · have := (hbk _ e).1; omega
  · have := (hbk _ e).1; omega
  · rcases hn with e1 | ⟨g, e1, hge⟩
    · rw [e1] at e; exact h.apart k hk e
    · rw [e1] at e
      have e2 : g = k := Option.some.inj e
      have := owns_lt h.own k hk
      omega
  · have := (hbk _ e).1
    have := h.g
    omega
end Go.Proofs.YtmgcdfmgmpnonaaGreatDoor.ReM
