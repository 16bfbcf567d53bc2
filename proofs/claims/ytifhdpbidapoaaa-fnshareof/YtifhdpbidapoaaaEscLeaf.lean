import Derived.Test.YtifhdpbidapoaaaChecked
import Derived.Test.YtifhdpbidapoaaaEscMath
import Derived.WalkKit
import Derived.WalkLawsBesides
import Derived.WalkSpells
import Derived.BigQuiet
import Derived.Deep.QuietTactic
import Derived.Outline
import Derived.Deep.RegionLaw
namespace Go.Proofs.Ytifhdpbidapoaaa.EscL
open Go.RowKit Go.Proofs.Ytifhdpbidapoaaa.EscM

theorem ret_int {k : IntKind} {a b : Int} (h : a = b) : Ending.returned (.int k a) = .returned (.int k b) := by rw [h]
theorem ret_bool {a b : Bool} (h : a = b) : Ending.returned (.bool a) = .returned (.bool b) := by rw [h]
theorem ret_str {a b : ByteArray} (h : a = b) : Ending.returned (.string a) = .returned (.string b) := by rw [h]



theorem byte_le (b : UInt8) : (b.toNat : Int) ≤ 255 := by have := b.toNat_lt; omega
theorem getElem_eq (s : ByteArray) (k : Nat) (h : k < s.size) : s[k]'h = s.data.toList[k]'(by simpa using h) := rfl
theorem drop_cons (s : ByteArray) (k : Nat) (h : k < s.size) : s.data.toList.drop k = s[k]'h :: s.data.toList.drop (k + 1) := by
  rw [List.drop_eq_getElem_cons (by simpa using h)]; rfl
theorem ascii_of {s : ByteArray} (h : s.data.toList.all (fun b => b.toNat < 128) = true) : ∀ i (hi : i < s.size), (s[i]'hi).toNat < 128 := by
  intro i hi
  have := List.all_eq_true.1 h (s[i]'hi) (by rw [getElem_eq]; exact List.getElem_mem _)
  simpa using this




/-- what is meant at a place, and how many bytes mean it -/
def meantZ (l : List UInt8) : Int × Int :=
  match l with
  | b :: h :: l :: _ => if b ≠ 37 then (b.toNat, 1) else if hexZ h.toNat < 0 ∨ hexZ l.toNat < 0 then (0, 0) else (hexZ h.toNat * 16 + hexZ l.toNat, 3)
  | b :: _ => if b ≠ 37 then (b.toNat, 1) else (0, 0)
  | [] => (0, 0)

theorem ne37 {b : UInt8} : (b ≠ 37) ↔ ((b.toNat : Int) ≠ 37) := by
  constructor
  · intro h e; exact h (UInt8.toNat.inj (by simp; omega))
  · intro h e; subst e; exact h rfl

theorem meant_plain (s : ByteArray) (k : Nat) (h : k < s.size) (hb : ((s[k]'h).toNat : Int) ≠ 37) : meantZ (s.data.toList.drop k) = (((s[k]'h).toNat : Int), 1) := by
  rw [drop_cons s k h]
  have := ne37.2 hb
  rcases s.data.toList.drop (k + 1) with _ | ⟨x, _ | ⟨y, r⟩⟩ <;> simp [meantZ, this]
theorem meant_short (s : ByteArray) (k : Nat) (h : k < s.size) (hb : ((s[k]'h).toNat : Int) = 37) (hl : s.size - k < 3) : meantZ (s.data.toList.drop k) = (0, 0) := by
  rw [drop_cons s k h]
  have h37 : s[k]'h = 37 := UInt8.toNat.inj (by simp; omega)
  have hlen : (s.data.toList.drop (k + 1)).length < 2 := by simp; omega
  rcases hh : s.data.toList.drop (k + 1) with _ | ⟨x, _ | ⟨y, r⟩⟩
  · simp [meantZ, h37]
  · simp [meantZ, h37]
  · rw [hh] at hlen; simp only [List.length_cons] at hlen; omega
theorem meant_sign (s : ByteArray) (k : Nat) (h : k + 2 < s.size) (hb : ((s[k]'(by omega)).toNat : Int) = 37) :
    meantZ (s.data.toList.drop k) = if hexZ (s[k+1]'(by omega)).toNat < 0 ∨ hexZ (s[k+2]'h).toNat < 0 then (0, 0) else (hexZ (s[k+1]'(by omega)).toNat * 16 + hexZ (s[k+2]'h).toNat, 3) := by
  rw [drop_cons s k (by omega), drop_cons s (k+1) (by omega), drop_cons s (k + 2) h]
  have h37 : s[k]'(by omega) = 37 := UInt8.toNat.inj (by simp; omega)
  simp [meantZ, h37]

end Go.Proofs.Ytifhdpbidapoaaa.EscL
