/- Several texts in one: Draw7, Two. -/
import Derived.Test.YtboncolbijicfaaGreatDoorDraw5Pk
/- The drawn addresses of the laws. -/
namespace Go.Proofs.YtboncolbijicfaaGreatDoor.Dr
open Go.RowKit Go.Proofs.YtboncolbijicfaaGreatDoor.St Go.Proofs.YtboncolbijicfaaGreatDoor.AddrM Go.Proofs.YtboncolbijicfaaGreatDoor.EscL Go.Proofs.YtboncolbijicfaaGreatDoor.Ad1 Go.Proofs.YtboncolbijicfaaGreatDoor.ReadM Go.Proofs.YtboncolbijicfaaGreatDoor.Rd1

/-- an address that is drawn of a code -/
def DrawnA (w : World) (e : Ending) (w' : World) : Prop :=
  ∃ (A : Ad) (a1 : Option Addr) (c1 : Nat), e = .returned (.agg #[.string A.house, .slice a1 A.parts.length c1, .bool A.asks, .string A.ask]) ∧ Owns w' w.heap.size (.slice a1 A.parts.length c1) A.parts ∧ bulkA A ≤ 1000 ∧ Below w.heap.size w w'

end Go.Proofs.YtboncolbijicfaaGreatDoor.Dr
/- Two drawn addresses beside each other; are they the same? -/
namespace Go.Proofs.YtboncolbijicfaaGreatDoor.Tw
open Go.RowKit Go.Proofs.YtboncolbijicfaaGreatDoor.St Go.Proofs.YtboncolbijicfaaGreatDoor.AddrM Go.Proofs.YtboncolbijicfaaGreatDoor.EscL Go.Proofs.YtboncolbijicfaaGreatDoor.Ad1 Go.Proofs.YtboncolbijicfaaGreatDoor.Dr

def sameB (A B : Ad) : Bool := (A.house.toList == B.house.toList) && (A.asks == B.asks) && (A.ask.toList == B.ask.toList) && decide (A.parts = B.parts)
theorem same_iff (A B : Ad) : sameB A B = true ↔ A = B := by
  unfold sameB
  rw [str_eq_iff, str_eq_iff]
  simp only [Bool.and_eq_true, decide_eq_true_eq, beq_iff_eq]
  obtain ⟨h, p, q, k⟩ := A
  obtain ⟨h', p', q', k'⟩ := B
  simp only [Ad.mk.injEq]
  constructor
  · rintro ⟨⟨⟨a, b⟩, c⟩, d⟩; exact ⟨a, d, b, c⟩
  · rintro ⟨a, d, b, c⟩; exact ⟨⟨⟨a, b⟩, c⟩, d⟩

/-- two addresses in their blocks -/
structure Two (w wr : World) (G1 G2 : Nat) (A B : Ad) (a1 : Option Addr) (c1 : Nat) (b1 : Option Addr) (d1 : Nat) : Prop where
  box1 : Box wr G1 (.string A.house) (.slice a1 A.parts.length c1) (.bool A.asks) (.string A.ask)
  box2 : Box wr G2 (.string B.house) (.slice b1 B.parts.length d1) (.bool B.asks) (.string B.ask)
  own1 : Owns wr w.heap.size (.slice a1 A.parts.length c1) A.parts
  own2 : Owns wr w.heap.size (.slice b1 B.parts.length d1) B.parts
  low : Below w.heap.size w wr
theorem Two.strs1 {w wr : World} {G1 G2 : Nat} {A B : Ad} {a1 : Option Addr} {c1 : Nat} {b1 : Option Addr} {d1 : Nat} (h : Two w wr G1 G2 A B a1 c1 b1 d1) : IsStrs wr a1 c1 A.parts := Owns.strsOf h.own1
theorem Two.strs2 {w wr : World} {G1 G2 : Nat} {A B : Ad} {a1 : Option Addr} {c1 : Nat} {b1 : Option Addr} {d1 : Nat} (h : Two w wr G1 G2 A B a1 c1 b1 d1) : IsStrs wr b1 d1 B.parts := Owns.strsOf h.own2
theorem Two.below {w wr w' : World} {G1 G2 : Nat} {A B : Ad} {a1 : Option Addr} {c1 : Nat} {b1 : Option Addr} {d1 : Nat} (h : Two w wr G1 G2 A B a1 c1 b1 d1) (hb : Below wr.heap.size wr w') : Two w w' G1 G2 A B a1 c1 b1 d1 :=
  ⟨h.box1.grown (grown_of_below none hb) (by simp), h.box2.grown (grown_of_below none hb) (by simp), Owns.below h.own1 hb, Owns.below h.own2 hb, h.low.trans (hb.mono h.low.size)⟩
theorem Two.drew {w wr : World} {G1 G2 : Nat} {A B : Ad} {a1 : Option Addr} {c1 : Nat} {b1 : Option Addr} {d1 : Nat} (h : Two w wr G1 G2 A B a1 c1 b1 d1) : Two w wr.drew G1 G2 A B a1 c1 b1 d1 :=
  ⟨h.box1, h.box2, Dr.Owns.heapEq h.own1 rfl, Dr.Owns.heapEq h.own2 rfl, h.low.drew⟩
theorem Two.cells {w wr : World} {G1 G2 : Nat} {A B : Ad} {a1 : Option Addr} {c1 : Nat} {b1 : Option Addr} {d1 : Nat} (h : Two w wr G1 G2 A B a1 c1 b1 d1) :
    (wr.cell? ⟨G1, 0, none⟩ = some (.string A.house) ∧ wr.cell? ⟨G1, 1, none⟩ = some (.slice a1 A.parts.length c1) ∧ wr.cell? ⟨G1, 2, none⟩ = some (.bool A.asks) ∧ wr.cell? ⟨G1, 3, none⟩ = some (.string A.ask)) ∧
    (wr.cell? ⟨G2, 0, none⟩ = some (.string B.house) ∧ wr.cell? ⟨G2, 1, none⟩ = some (.slice b1 B.parts.length d1) ∧ wr.cell? ⟨G2, 2, none⟩ = some (.bool B.asks) ∧ wr.cell? ⟨G2, 3, none⟩ = some (.string B.ask)) := ⟨h.box1.cells.1, h.box2.cells.1⟩

end Go.Proofs.YtboncolbijicfaaGreatDoor.Tw
