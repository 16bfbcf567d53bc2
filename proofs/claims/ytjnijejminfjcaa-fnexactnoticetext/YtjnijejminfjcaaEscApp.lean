import Derived.Test.YtjnijejminfjcaaEscMeant
namespace Go.Proofs.Ytjnijejminfjcaa.EscL
open Go.RowKit Go.Proofs.Ytjnijejminfjcaa.EscM

theorem ownsRow_drew {w : World} {base : Nat} {e : TypeId} {size : Nat} {v : Value} {n : Nat} {xs : List Value} (h : w.ownsRow base e size v n xs) : w.drew.ownsRow base e size v n xs := h

theorem hex_idx (q : Int) (h0 : 0 ≤ q) (h1 : q < 16) (wx : World) :
    (Instr.index 9 (.string ⟨#[48, 49, 50, 51, 52, 53, 54, 55, 56, 57, 65, 66, 67, 68, 69, 70]⟩) (.int .u8 q)).run Try.prog wx = .ok (.int .u8 (figZ q)) wx := by
  have hh : ∀ q : Int, 0 ≤ q → q < 16 → ∀ h : 0 ≤ q ∧ q < ((⟨#[48, 49, 50, 51, 52, 53, 54, 55, 56, 57, 65, 66, 67, 68, 69, 70]⟩ : ByteArray).size : Int), (((⟨#[48, 49, 50, 51, 52, 53, 54, 55, 56, 57, 65, 66, 67, 68, 69, 70]⟩ : ByteArray)[q.toNat]'(by omega)).toNat : Int) = figZ q := by
    intro q g0 g1 h
    have := fig_hex q g0 g1
    rw [← this]
    have e : hexSigns.getD q.toNat 0 = hexSigns[q.toNat]'(by simp [hexSigns]; omega) := by
      rw [List.getD_eq_getElem?_getD, List.getElem?_eq_getElem (by simp [hexSigns]; omega)]; rfl
    rw [e]; rfl
  have hcond : 0 ≤ q ∧ q < ((⟨#[48, 49, 50, 51, 52, 53, 54, 55, 56, 57, 65, 66, 67, 68, 69, 70]⟩ : ByteArray).size : Int) := ⟨h0, h1⟩
  rw [run_index_string _ _ _ _ _ Try.underlying9, dif_pos hcond, hh q h0 h1 hcond]

end Go.Proofs.Ytjnijejminfjcaa.EscL
