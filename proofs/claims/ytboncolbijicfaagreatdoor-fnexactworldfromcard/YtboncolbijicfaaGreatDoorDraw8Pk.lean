/- Several texts in one: Draw8, Draw9. -/
import Derived.Test.YtboncolbijicfaaGreatDoorDraw7Pk
import Derived.Test.YtboncolbijicfaaGreatDoorDraw5Pk
/- What is written of an address is drawn: at most 60 bytes, all ASCII. -/
namespace Go.Proofs.YtboncolbijicfaaGreatDoor.Dr
open Go.RowKit Go.Proofs.YtboncolbijicfaaGreatDoor.St Go.Proofs.YtboncolbijicfaaGreatDoor.AddrM Go.Proofs.YtboncolbijicfaaGreatDoor.EscL Go.Proofs.YtboncolbijicfaaGreatDoor.Ad1

def asciiB (s : ByteArray) : Bool := s.data.toList.all fun b => decide (b.toNat < 128)
theorem asciiB_app {a b : ByteArray} (ha : asciiB a = true) (hb : asciiB b = true) : asciiB (a ++ b) = true := by
  unfold asciiB at *
  rw [data_append, List.all_append, ha, hb]; rfl
theorem asciiB_text (A : Ad) : asciiB (textF A) = true := by
  unfold asciiB
  rw [List.all_eq_true]
  intro b hb
  cases h : okB A with
  | false =>
    have e2 : textF A = ⟨#[]⟩ := by unfold textF; rw [h]; rfl
    rw [e2] at hb; cases hb
  | true =>
    have e2 : textF A = textS A := by unfold textF; rw [h]; rfl
    rw [e2] at hb
    exact decide_eq_true (RB.text_bytes h b (by simpa [textS] using hb)).2
def fine (s : ByteArray) : Bool := decide (s.size ≤ 20) && asciiB s
theorem fine_parts {s : ByteArray} (h : fine s = true) : s.size ≤ 20 ∧ asciiB s = true := by
  unfold fine at h
  simp only [Bool.and_eq_true, decide_eq_true_eq] at h
  exact h

end Go.Proofs.YtboncolbijicfaaGreatDoor.Dr
/- A text of an address is drawn: at most 60 bytes, all ASCII. -/
namespace Go.Proofs.YtboncolbijicfaaGreatDoor.Dr
open Go.RowKit Go.Proofs.YtboncolbijicfaaGreatDoor.St Go.Proofs.YtboncolbijicfaaGreatDoor.AddrM Go.Proofs.YtboncolbijicfaaGreatDoor.EscL Go.Proofs.YtboncolbijicfaaGreatDoor.Ad1

end Go.Proofs.YtboncolbijicfaaGreatDoor.Dr
