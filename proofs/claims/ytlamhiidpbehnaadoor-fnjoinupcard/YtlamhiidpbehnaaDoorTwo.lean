/- Two drawn addresses beside each other; are they the same? -/
import Derived.Test.YtlamhiidpbehnaaDoorDraw7
import Derived.Test.YtlamhiidpbehnaaDoorReadBack
namespace Go.Proofs.YtlamhiidpbehnaaDoor.Tw
open Go.RowKit Go.Proofs.YtlamhiidpbehnaaDoor.St Go.Proofs.YtlamhiidpbehnaaDoor.AddrM Go.Proofs.YtlamhiidpbehnaaDoor.EscL Go.Proofs.YtlamhiidpbehnaaDoor.Ad1 Go.Proofs.YtlamhiidpbehnaaDoor.Dr

def sameB (A B : Ad) : Bool := (A.house.toList == B.house.toList) && (A.asks == B.asks) && (A.ask.toList == B.ask.toList) && decide (A.parts = B.parts)
theorem same_iff (A B : Ad) : sameB A B = true ↔ A = B := by
  unfold sameB
  rw [str_eq_iff, str_eq_iff]
  simp only [Bool.and_eq_true, decide_eq_true_eq, beq_iff_eq]
  obtain ⟨h, p, q, k⟩ := A
  obtain ⟨h', p', q', k'⟩ := B
  simp only [Ad.mk.injEq]
  constructor
  · rintro ⟨⟨⟨a, b⟩, c⟩, d⟩; exact ⟨a, d, b, c⟩
  · rintro ⟨a, d, b, c⟩; exact ⟨⟨⟨a, b⟩, c⟩, d⟩

/-- two addresses in their blocks -/
structure Two (w wr : World) (G1 G2 : Nat) (A B : Ad) (a1 : Option Addr) (c1 : Nat) (b1 : Option Addr) (d1 : Nat) : Prop where
  box1 : Box wr G1 (.string A.house) (.slice a1 A.parts.length c1) (.bool A.asks) (.string A.ask)
  box2 : Box wr G2 (.string B.house) (.slice b1 B.parts.length d1) (.bool B.asks) (.string B.ask)
  own1 : Owns wr w.heap.size (.slice a1 A.parts.length c1) A.parts
  own2 : Owns wr w.heap.size (.slice b1 B.parts.length d1) B.parts
  low : Below w.heap.size w wr
theorem Two.strs1 {w wr : World} {G1 G2 : Nat} {A B : Ad} {a1 : Option Addr} {c1 : Nat} {b1 : Option Addr} {d1 : Nat} (h : Two w wr G1 G2 A B a1 c1 b1 d1) : IsStrs wr a1 c1 A.parts := Owns.strsOf h.own1
theorem Two.strs2 {w wr : World} {G1 G2 : Nat} {A B : Ad} {a1 : Option Addr} {c1 : Nat} {b1 : Option Addr} {d1 : Nat} (h : Two w wr G1 G2 A B a1 c1 b1 d1) : IsStrs wr b1 d1 B.parts := Owns.strsOf h.own2
theorem Two.below {w wr w' : World} {G1 G2 : Nat} {A B : Ad} {a1 : Option Addr} {c1 : Nat} {b1 : Option Addr} {d1 : Nat} (h : Two w wr G1 G2 A B a1 c1 b1 d1) (hb : Below wr.heap.size wr w') : Two w w' G1 G2 A B a1 c1 b1 d1 :=
  ⟨h.box1.grown (grown_of_below none hb) (by simp), h.box2.grown (grown_of_below none hb) (by simp), Owns.below h.own1 hb, Owns.below h.own2 hb, h.low.trans (hb.mono h.low.size)⟩
theorem Two.drew {w wr : World} {G1 G2 : Nat} {A B : Ad} {a1 : Option Addr} {c1 : Nat} {b1 : Option Addr} {d1 : Nat} (h : Two w wr G1 G2 A B a1 c1 b1 d1) : Two w wr.drew G1 G2 A B a1 c1 b1 d1 :=
  ⟨h.box1, h.box2, Dr.Owns.heapEq h.own1 rfl, Dr.Owns.heapEq h.own2 rfl, h.low.drew⟩
theorem Two.cells {w wr : World} {G1 G2 : Nat} {A B : Ad} {a1 : Option Addr} {c1 : Nat} {b1 : Option Addr} {d1 : Nat} (h : Two w wr G1 G2 A B a1 c1 b1 d1) :
    (wr.cell? ⟨G1, 0, none⟩ = some (.string A.house) ∧ wr.cell? ⟨G1, 1, none⟩ = some (.slice a1 A.parts.length c1) ∧ wr.cell? ⟨G1, 2, none⟩ = some (.bool A.asks) ∧ wr.cell? ⟨G1, 3, none⟩ = some (.string A.ask)) ∧
    (wr.cell? ⟨G2, 0, none⟩ = some (.string B.house) ∧ wr.cell? ⟨G2, 1, none⟩ = some (.slice b1 B.parts.length d1) ∧ wr.cell? ⟨G2, 2, none⟩ = some (.bool B.asks) ∧ wr.cell? ⟨G2, 3, none⟩ = some (.string B.ask)) := ⟨h.box1.cells.1, h.box2.cells.1⟩

set_option maxRecDepth 100000 in
set_option maxHeartbeats 3200000 in
theorem lpAddr_any (A B : Ad) (a0 : Option Addr) (cap : Nat) (b0 : Option Addr) (dap : Nat) (w : World) (hA : IsStrs w a0 cap A.parts) (hB : IsStrs w b0 dap B.parts) (hl : A.parts.length ≤ 4194304) (hl2 : B.parts.length ≤ 4194304) :
    Calls Tryd.prog 9 #[.agg #[.string A.house, .slice a0 A.parts.length cap, .bool A.asks, .string A.ask], .agg #[.string B.house, .slice b0 B.parts.length dap, .bool B.asks, .string B.ask]] w fun e w' => e = .returned (.bool (sameB A B)) ∧ Below w.heap.size w w' := by
  have HA : Hid (IsStrs w a0 cap A.parts) := hA
  have HB : Hid (IsStrs w b0 dap B.parts) := hB
  clear hA hB
  have HS : Hid (sameB A B = ((A.house.toList == B.house.toList) && (A.asks == B.asks) && (A.ask.toList == B.ask.toList) && decide (A.parts = B.parts))) := rfl
  obtain ⟨h, p, q, k⟩ := A
  obtain ⟨h', p', q', k'⟩ := B
  dsimp only at *
  cases e1 : (h.toList == h'.toList) with
  | false =>
    have HN : Hid (sameB ⟨h, p, q, k⟩ ⟨h', p', q', k'⟩ = false) := by show _ = _; rw [HS.out, e1]; rfl
    go_enter Tryd.func9, Tryd.ntmps9
    go_wp2
    go_ret
    exact ⟨ret_bool HN.out.symm, ((Below.refl _ _).alloc (Nat.le_refl _) _).alloc (by simp) _⟩
  | true =>
    cases e2 : (q == q') with
    | false =>
      have HN : Hid (sameB ⟨h, p, q, k⟩ ⟨h', p', q', k'⟩ = false) := by show _ = _; rw [HS.out, e1, e2]; rfl
      go_enter Tryd.func9, Tryd.ntmps9
      go_wp2
      go_ret
      exact ⟨ret_bool HN.out.symm, ((Below.refl _ _).alloc (Nat.le_refl _) _).alloc (by simp) _⟩
    | true =>
      cases e3 : (k.toList == k'.toList) with
      | false =>
        have HN : Hid (sameB ⟨h, p, q, k⟩ ⟨h', p', q', k'⟩ = false) := by show _ = _; rw [HS.out, e1, e2, e3]; rfl
        go_enter Tryd.func9, Tryd.ntmps9
        go_wp2
        go_ret
        exact ⟨ret_bool HN.out.symm, ((Below.refl _ _).alloc (Nat.le_refl _) _).alloc (by simp) _⟩
      | true =>
        have HN : Hid (sameB ⟨h, p, q, k⟩ ⟨h', p', q', k'⟩ = decide (p = p')) := by show _ = _; rw [HS.out, e1, e2, e3]; rfl
        go_enter Tryd.func9, Tryd.ntmps9
        go_wp2_with fail
        refine (texts_any _ _ p _ _ p' _ (HA.out.keep fun k hk => by rw [alloc_keep _ _ k (by simp; omega), alloc_keep _ _ k hk]) (HB.out.keep fun k hk => by rw [alloc_keep _ _ k (by simp; omega), alloc_keep _ _ k hk]) hl hl2).mono ?_
        rintro e w1 ⟨rfl, n, rfl⟩
        go_wp2
        go_ret
        exact ⟨ret_bool HN.out.symm, below_drewN (((Below.refl _ _).alloc (Nat.le_refl _) _).alloc (by simp) _) n⟩
end Go.Proofs.YtlamhiidpbehnaaDoor.Tw
