import Derived.Test.YtjnijejminfjcaaEscApp
import Derived.Laws.IdiomStrings
namespace Go.Proofs.Ytjnijejminfjcaa.EscL
open Go.RowKit Go.Proofs.Ytjnijejminfjcaa.EscM

theorem signL_len (n : Int) : (signL n).length ≤ 3 := by unfold signL; split <;> simp

theorem escN_plain (b : UInt8) (r : List UInt8) (h : b ≠ 37) : escN (b :: r) = (escN r).map (signL b.toNat ++ ·) := by
  rw [escN.eq_def]; simp [h]
theorem escN_sign (h l : UInt8) (r : List UInt8) : escN (37 :: h :: l :: r) = if hexZ h.toNat < 0 ∨ hexZ l.toNat < 0 then none else (escN r).map (signL (hexZ h.toNat * 16 + hexZ l.toNat) ++ ·) := by
  rw [escN.eq_def]; simp
theorem escN_short0 : escN [37] = none := by rw [escN.eq_def]; simp
theorem escN_short1 (x : UInt8) : escN [37, x] = none := by rw [escN.eq_def]; simp

/-- what is meant at a place says how the rest goes on -/
theorem meant_step (L : List UInt8) (hne : L ≠ []) :
    (meantZ L = (0, 0) ∧ escN L = none) ∨
    ∃ (b : Int) (m : Nat), meantZ L = (b, (m : Int)) ∧ 1 ≤ m ∧ m ≤ L.length ∧ 0 ≤ b ∧ b ≤ 255 ∧ escN L = (escN (L.drop m)).map (signL b ++ ·) := by
  rcases L with _ | ⟨b, r⟩
  · exact absurd rfl hne
  · by_cases hb : b = 37
    · subst hb
      rcases r with _ | ⟨x, _ | ⟨y, r⟩⟩
      · exact Or.inl ⟨by simp [meantZ], escN_short0⟩
      · exact Or.inl ⟨by simp [meantZ], escN_short1 x⟩
      · rw [escN_sign]
        have hx := hexZ_bd x.toNat
        have hy := hexZ_bd y.toNat
        by_cases hh : hexZ x.toNat < 0 ∨ hexZ y.toNat < 0
        · left; simp [meantZ, hh]
        · right
          refine ⟨hexZ x.toNat * 16 + hexZ y.toNat, 3, by simp [meantZ, hh], by omega, by simp, by omega, by omega, ?_⟩
          rw [if_neg hh]; rfl
    · right
      refine ⟨b.toNat, 1, ?_, by omega, by simp, by omega, byte_le b, ?_⟩
      · rcases r with _ | ⟨x, _ | ⟨y, r⟩⟩ <;> simp [meantZ, hb]
      · rw [escN_plain b r hb]; rfl

theorem own_below {w w' : World} {base : Nat} {v : Value} {n : Nat} {xs : List Value} (h : w.ownsRow base 5 1 v n xs) (hb : Below w.heap.size w w') : w'.ownsRow base 5 1 v n xs := by
  obtain ⟨h1, h2 | ⟨g, cap, cur, hv, hg, hc, r⟩⟩ := h
  · exact ⟨h1, Or.inl h2⟩
  · refine ⟨h1, Or.inr ⟨g, cap, cur, hv, hg, ?_, r⟩⟩
    rw [hb.block g (Array.getElem?_eq_some_iff.1 hc).1]; exact hc

theorem string_own {w : World} {base : Nat} {v : Value} {l : List UInt8} (h : w.ownsRow base 5 1 v l.length (cellsB l)) :
    (convert 47 9 v).run Try.prog w = .ok (.string ⟨l.toArray⟩) w := by
  have h' := h
  obtain ⟨_, ⟨rfl, hn⟩ | ⟨g, cap, cur, rfl, _⟩⟩ := h
  · have : l = [] := List.eq_nil_of_length_eq_zero hn
    subst this
    rw [run_convert_bytes_string w _ _ _ none 0 0 Try.underlying47 Try.underlying5 Try.underlying9]
    rfl
  · refine run_convert_bytes_back w _ _ _ _ cap l Try.underlying47 Try.underlying5 Try.underlying9 ?_
    intro j hj
    have := h'.cells (g := g) rfl j (.int .u8 (l[j].toNat : Int)) (by simp [cellsB, List.getElem?_eq_getElem hj])
    exact this

theorem ret2 {a b : ByteArray} {x y : Bool} (h : a = b) (h' : x = y) : Ending.returned (.tuple #[.string a, .bool x]) = .returned (.tuple #[.string b, .bool y]) := by rw [h, h']

theorem escF_long (s : ByteArray) (h : 60 < s.size) : escF s.data.toList = ([], false) := by unfold escF; rw [if_pos (by simpa using h)]
theorem escF_of (s : ByteArray) (h : s.size ≤ 60) : escF s.data.toList = match escN s.data.toList with | some x => (x, true) | none => ([], false) := by unfold escF; rw [if_neg (by simp; omega)]; cases escN s.data.toList <;> rfl

end Go.Proofs.Ytjnijejminfjcaa.EscL
