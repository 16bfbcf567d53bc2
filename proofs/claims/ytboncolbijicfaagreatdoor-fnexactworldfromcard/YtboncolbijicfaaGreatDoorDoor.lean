/- What the laws over readings share. -/
import Derived.Test.YtboncolbijicfaaGreatDoorDraw7Pk
import Derived.Test.YtboncolbijicfaaGreatDoorAnyBPk
import Derived.Test.YtboncolbijicfaaGreatDoorDraw8Pk
import Derived.Test.YtboncolbijicfaaGreatDoorDraw5Pk
import Derived.Shelf.Vars
namespace Go.Proofs.YtboncolbijicfaaGreatDoor.Door
open Go.RowKit Go.Proofs.YtboncolbijicfaaGreatDoor.St Go.Proofs.YtboncolbijicfaaGreatDoor.AddrM Go.Proofs.YtboncolbijicfaaGreatDoor.ReadM Go.Proofs.YtboncolbijicfaaGreatDoor.EscL Go.Proofs.YtboncolbijicfaaGreatDoor.Ad1 Go.Proofs.YtboncolbijicfaaGreatDoor.Dr Go.Proofs.YtboncolbijicfaaGreatDoor.Tw Go.Proofs.YtboncolbijicfaaGreatDoor.RB Go.Proofs.YtboncolbijicfaaGreatDoor.Im Go.Proofs.YtboncolbijicfaaGreatDoor.Rd1

theorem mx_of {w : World} (h : w.ShapedOpen Tryz.prog) : Mx w :=
  cell_of_shapedOpen_int (g := 0) (t := 3) (zero := #[.int .i64 0]) (k := .i64) h (of_decide_eq_true (by kernel_rfl)) (by kernel_rfl) rfl (by kernel_rfl) (by kernel_rfl) Tryz.underlying3
theorem ascii_of {s : ByteArray} (h : asciiB s = true) : ascii s := by
  first
  | exact (fun _ => trivial) h
  | (rw [ascii_mem]
     intro b hb
     unfold asciiB at h
     exact of_decide_eq_true (List.all_eq_true.1 h b hb))
theorem ascii_app {a b : ByteArray} (h : ascii a) (k : ascii b) : ascii (a ++ b) := by
  first
  | exact (fun _ _ => trivial) h k
  | (rw [ascii_mem] at *
     intro x hx
     rw [data_append] at hx
     rcases List.mem_append.1 hx with hx | hx
     · exact h x hx
     · exact k x hx)
theorem text_data {A : Ad} (h : okB A = true) : (textF A).data.toList = textL A := by
  have e2 : textF A = textS A := by unfold textF; rw [h]; rfl
  rw [e2]; simp [textS]
theorem same_self (A : Ad) : sameB A A = true := (same_iff A A).2 rfl
theorem zero_bulk : bulkA zeroAd = 0 := rfl
/-- what a reading says -/
def Ans (R : Option Ad) (A : Ad) (p : Bool) : Prop := (p = true ∧ R = some A) ∨ (p = false ∧ R = none ∧ A = zeroAd)
/-- what two readings of one text say is the same -/
theorem ans_same {R : Option Ad} {A B : Ad} {p q : Bool} (h : (p = true ∧ R = some A) ∨ (p = false ∧ R = none ∧ A = zeroAd)) (k : (q = true ∧ R = some B) ∨ (q = false ∧ R = none ∧ B = zeroAd)) : B = A ∧ q = p := by
  rcases h with ⟨rfl, h⟩ | ⟨rfl, h, rfl⟩ <;> rcases k with ⟨rfl, k⟩ | ⟨rfl, k, rfl⟩
  · rw [h] at k; exact ⟨(Option.some.inj k).symm, rfl⟩
  · rw [h] at k; cases k
  · rw [h] at k; cases k
  · exact ⟨rfl, rfl⟩
theorem ans_yes {R : Option Ad} {A : Ad} {p : Bool} (h : (p = true ∧ R = some A) ∨ (p = false ∧ R = none ∧ A = zeroAd)) (e : p = true) : R = some A := by
  rcases h with ⟨_, h⟩ | ⟨h, _⟩
  · exact h
  · rw [h] at e; cases e
theorem ans_is {R : Option Ad} {A B : Ad} {p : Bool} (h : (p = true ∧ R = some A) ∨ (p = false ∧ R = none ∧ A = zeroAd)) (e : R = some B) : p = true ∧ A = B := by
  rcases h with ⟨h, k⟩ | ⟨_, k, _⟩
  · rw [e] at k; exact ⟨h, (Option.some.inj k).symm⟩
  · rw [e] at k; cases k
/-- an address in its block -/
structure At (w wr : World) (G : Nat) (A : Ad) (a1 : Option Addr) (c1 : Nat) : Prop where
  box : Box wr G (.string A.house) (.slice a1 A.parts.length c1) (.bool A.asks) (.string A.ask)
  own : Owns wr w.heap.size (.slice a1 A.parts.length c1) A.parts
theorem At.below {w wr w' : World} {G : Nat} {A : Ad} {a1 : Option Addr} {c1 : Nat} (h : At w wr G A a1 c1) (hb : Below wr.heap.size wr w') : At w w' G A a1 c1 :=
  ⟨h.box.grown (grown_of_below none hb) (by simp), Owns.below h.own hb⟩
theorem At.strs {w wr : World} {G : Nat} {A : Ad} {a1 : Option Addr} {c1 : Nat} (h : At w wr G A a1 c1) : IsStrs wr a1 c1 A.parts := Owns.strsOf h.own
theorem At.cells {w wr : World} {G : Nat} {A : Ad} {a1 : Option Addr} {c1 : Nat} (h : At w wr G A a1 c1) : wr.cell? ⟨G, 0, none⟩ = some (.string A.house) ∧ wr.cell? ⟨G, 1, none⟩ = some (.slice a1 A.parts.length c1) ∧ wr.cell? ⟨G, 2, none⟩ = some (.bool A.asks) ∧ wr.cell? ⟨G, 3, none⟩ = some (.string A.ask) := h.box.cells.1
theorem At.new {w w' : World} {b : Nat} {A : Ad} {a1 : Option Addr} {c1 : Nat} (hO : Owns w' b (.slice a1 A.parts.length c1) A.parts) (hb : w.heap.size ≤ b) : At w (w'.alloc (.cells #[.string A.house, .slice a1 A.parts.length c1, .bool A.asks, .string A.ask] 73)) w'.heap.size A a1 c1 :=
  ⟨heap_new w' _, Owns.mono (Owns.keep hO (alloc_keep w' _)) hb⟩
theorem Two.at1 {w wr : World} {G1 G2 : Nat} {A B : Ad} {a1 : Option Addr} {c1 : Nat} {b1 : Option Addr} {d1 : Nat} (h : Two w wr G1 G2 A B a1 c1 b1 d1) : At w wr G1 A a1 c1 := ⟨h.box1, h.own1⟩
theorem Two.at2 {w wr : World} {G1 G2 : Nat} {A B : Ad} {a1 : Option Addr} {c1 : Nat} {b1 : Option Addr} {d1 : Nat} (h : Two w wr G1 G2 A B a1 c1 b1 d1) : At w wr G2 B b1 d1 := ⟨h.box2, h.own2⟩
/-- how long what is read can be -/
theorem ok_sum {A : Ad} (h : okB A = true) : A.parts.length ≤ 5 ∧ bulkA A ≤ 1000 := by
  refine ⟨(Dr.ok_parts h).2.1, Nat.le_trans (Dr.ok_bulk h) (by decide)⟩
theorem ans_bulk {l : List UInt8} {A : Ad} {p : Bool} (h : (p = true ∧ readF l = some A) ∨ (p = false ∧ readF l = none ∧ A = zeroAd)) : A.parts.length ≤ 4194304 ∧ bulkA A ≤ 4194304 := by
  rcases h with ⟨_, h⟩ | ⟨_, _, rfl⟩
  · have := ok_sum (RL.read_ok h)
    omega
  · exact ⟨by decide, by decide⟩
theorem bulkA_bd (A : Ad) : A.parts.length ≤ bulkA A := by unfold bulkA; omega
end Go.Proofs.YtboncolbijicfaaGreatDoor.Door
