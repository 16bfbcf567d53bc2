import Derived.Test.YtboncolbijicfaaDoorEscApp
import Derived.Laws.IdiomStrings
namespace Go.Proofs.YtboncolbijicfaaDoor.EscL
open Go.RowKit Go.Proofs.YtboncolbijicfaaDoor.EscM

theorem signL_len (n : Int) : (signL n).length ≤ 3 := by unfold signL; split <;> simp

theorem escN_plain (b : UInt8) (r : List UInt8) (h : b ≠ 37) : escN (b :: r) = (escN r).map (signL b.toNat ++ ·) := by
  rw [escN.eq_def]; simp [h]
theorem escN_sign (h l : UInt8) (r : List UInt8) : escN (37 :: h :: l :: r) = if hexZ h.toNat < 0 ∨ hexZ l.toNat < 0 then none else (escN r).map (signL (hexZ h.toNat * 16 + hexZ l.toNat) ++ ·) := by
  rw [escN.eq_def]; simp
theorem escN_short0 : escN [37] = none := by rw [escN.eq_def]; simp
theorem escN_short1 (x : UInt8) : escN [37, x] = none := by rw [escN.eq_def]; simp

/-- what is meant at a place says how the rest goes on -/
theorem meant_step (L : List UInt8) (hne : L ≠ []) :
    (meantZ L = (0, 0) ∧ escN L = none) ∨
    ∃ (b : Int) (m : Nat), meantZ L = (b, (m : Int)) ∧ 1 ≤ m ∧ m ≤ L.length ∧ 0 ≤ b ∧ b ≤ 255 ∧ escN L = (escN (L.drop m)).map (signL b ++ ·) := by
  rcases L with _ | ⟨b, r⟩
  · exact absurd rfl hne
  · by_cases hb : b = 37
    · subst hb
      rcases r with _ | ⟨x, _ | ⟨y, r⟩⟩
      · exact Or.inl ⟨by simp [meantZ], escN_short0⟩
      · exact Or.inl ⟨by simp [meantZ], escN_short1 x⟩
      · rw [escN_sign]
        have hx := hexZ_bd x.toNat
        have hy := hexZ_bd y.toNat
        by_cases hh : hexZ x.toNat < 0 ∨ hexZ y.toNat < 0
        · left; simp [meantZ, hh]
        · right
          refine ⟨hexZ x.toNat * 16 + hexZ y.toNat, 3, by simp [meantZ, hh], by omega, by simp, by omega, by omega, ?_⟩
          rw [if_neg hh]; rfl
    · right
      refine ⟨b.toNat, 1, ?_, by omega, by simp, by omega, byte_le b, ?_⟩
      · rcases r with _ | ⟨x, _ | ⟨y, r⟩⟩ <;> simp [meantZ, hb]
      · rw [escN_plain b r hb]; rfl

theorem own_below {w w' : World} {base : Nat} {v : Value} {n : Nat} {xs : List Value} (h : w.ownsRow base 5 1 v n xs) (hb : Below w.heap.size w w') : w'.ownsRow base 5 1 v n xs := by
  obtain ⟨h1, h2 | ⟨g, cap, cur, hv, hg, hc, r⟩⟩ := h
  · exact ⟨h1, Or.inl h2⟩
  · refine ⟨h1, Or.inr ⟨g, cap, cur, hv, hg, ?_, r⟩⟩
    rw [hb.block g (Array.getElem?_eq_some_iff.1 hc).1]; exact hc

theorem string_own {w : World} {base : Nat} {v : Value} {l : List UInt8} (h : w.ownsRow base 5 1 v l.length (cellsB l)) :
    (convert 79 9 v).run Tryd.prog w = .ok (.string ⟨l.toArray⟩) w := by
  have h' := h
  obtain ⟨_, ⟨rfl, hn⟩ | ⟨g, cap, cur, rfl, _⟩⟩ := h
  · have : l = [] := List.eq_nil_of_length_eq_zero hn
    subst this
    rw [run_convert_bytes_string w _ _ _ none 0 0 Tryd.underlying79 Tryd.underlying5 Tryd.underlying9]
    rfl
  · refine run_convert_bytes_back w _ _ _ _ cap l Tryd.underlying79 Tryd.underlying5 Tryd.underlying9 ?_
    intro j hj
    have := h'.cells (g := g) rfl j (.int .u8 (l[j].toNat : Int)) (by simp [cellsB, List.getElem?_eq_getElem hj])
    exact this

theorem ret2 {a b : ByteArray} {x y : Bool} (h : a = b) (h' : x = y) : Ending.returned (.tuple #[.string a, .bool x]) = .returned (.tuple #[.string b, .bool y]) := by rw [h, h']

theorem escF_long (s : ByteArray) (h : 60 < s.size) : escF s.data.toList = ([], false) := by unfold escF; rw [if_pos (by simpa using h)]
theorem escF_of (s : ByteArray) (h : s.size ≤ 60) : escF s.data.toList = match escN s.data.toList with | some x => (x, true) | none => ([], false) := by unfold escF; rw [if_neg (by simp; omega)]; cases escN s.data.toList <;> rfl

set_option maxRecDepth 100000 in
set_option maxHeartbeats 1600000 in
theorem implEsc_any (s : ByteArray) (w : World) (hs : s.size ≤ maxLen) :
    Calls Tryd.prog 68 #[.string s] w fun e w' => e = .returned (.tuple #[.string (escS s), .bool (escB s)]) ∧ Below w.heap.size w w' := by
  unfold maxLen at hs
  by_cases hlong : 60 < s.size
  · have HL : Hid _ := escF_long s hlong
    go_enter Tryd.func68, Tryd.ntmps68
    go_wp2
    go_ret2
    exact ⟨ret2 (by unfold escS; rw [HL.out]) (by unfold escB; rw [HL.out]), Below.refl _ _⟩
  · have HL : Hid _ := escF_of s (by omega)
    have hs60 : s.size ≤ 60 := by omega
    go_enter Tryd.func68, Tryd.ntmps68
    go_wp2
    go_loopw [4, 5] (fun v i wr => ∃ (k : Nat) (l : List UInt8), k ≤ s.size ∧ i = .int .i64 k ∧ Hid (wr.ownsRow w.heap.size 5 1 v l.length (cellsB l)) ∧ Below w.heap.size w wr ∧
        Hid (escN s.data.toList = (escN (s.data.toList.drop k)).map (l ++ ·)) ∧ l.length ≤ 3 * k)
      (fun _ i _ => s.size - (intOf i).toNat)
    case atStart => exact ⟨0, [], Nat.zero_le _, rfl, World.ownsRow_nil _ _ _ _, Below.refl _ _, by show _ = _; simp, by simp⟩
    case round =>
      obtain ⟨k, l, hk, rfl, HO, hbel, HE, hl⟩ := hrel
      by_cases hlt : k < s.size
      · have hne : s.data.toList.drop k ≠ [] := by intro e; have := congrArg List.length e; simp at this; omega
        rcases meant_step _ hne with ⟨hm, hn⟩ | ⟨b, m, hm, hm1, hm2, hb0, hb1, hn⟩
        · have HM : Hid _ := hm
          have HN : Hid _ := hn
          clear hm hn hne
          go_wp2_with (go_at_call 83; refine (meantByte_any s k _ hlt hs60).mono ?_; rintro e w1 ⟨rfl, hb1⟩; rw [HM.out])
          go_ret2
          exact ⟨ret2 (by unfold escS; rw [HL.out, HE.out, HN.out]; rfl) (by unfold escB; rw [HL.out, HE.out, HN.out]; rfl), hbel.trans (hb1.mono hbel.size)⟩
        · have HM : Hid _ := hm
          have HN : Hid _ := hn
          have hm3 : k + m ≤ s.size := by simp at hm2; omega
          have hm0 : ((m : Int) == 0) = false := by simp; omega
          clear hm hn hne hm2
          go_wp2_with (go_at_call 83; refine (meantByte_any s k _ hlt hs60).mono ?_; rintro e w1 ⟨rfl, hbel1⟩; rw [HM.out])
          have hO1 : w1.ownsRow w.heap.size 5 1 u4 l.length (cellsB l) := own_below HO.out hbel1
          have hsz1 : w.heap.size ≤ w1.heap.size := Nat.le_trans hbel.size hbel1.size
          refine (appendMeant_any w.heap.size u4 l b w1 hb0 hb1 (by omega) hO1 hsz1).mono ?_
          rintro e w2 ⟨v', rfl, hO2, hbel2⟩
          have HO2 : Hid _ := hO2
          have hsl := signL_len b
          clear hO1 hO2
          go_wp2
          go_roundw
          case rel =>
            refine ⟨k + m, l ++ signL b, by omega, by go_num, HO2.out, ?_, ?_, ?_⟩
            · exact (hbel.trans (hbel1.mono hbel.size)).trans hbel2
            · show _ = _
              rw [HE.out, HN.out, List.drop_drop]
              cases escN (List.drop (k + m) s.data.toList) <;> simp
            · simp only [List.length_append]; omega
          case measure => simp [intOf]; omega
      · have e : s.data.toList.drop k = [] := List.drop_eq_nil_of_le (by simp; omega)
        have HE2 : Hid (escN s.data.toList = some l) := by show _ = _; rw [HE.out, e]; simp [escN]
        have hstr := string_own HO.out
        clear e
        go_wp2
        go_ret2
        exact ⟨ret2 (by unfold escS; rw [HL.out, HE2.out]) (by unfold escB; rw [HL.out, HE2.out]), hbel⟩
end Go.Proofs.YtboncolbijicfaaDoor.EscL
