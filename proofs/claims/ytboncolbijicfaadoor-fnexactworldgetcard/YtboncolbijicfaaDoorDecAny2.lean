/- strings.IndexAny of "/?" in a text of any bytes: the short ones too. -/
import Derived.Test.YtboncolbijicfaaDoorDecAny
namespace Go.Proofs.YtboncolbijicfaaDoor.DecM
open Go.RowKit Go.Proofs.YtboncolbijicfaaDoor.EscM Go.Proofs.YtboncolbijicfaaDoor.EscL

theorem idx_ch (b : UInt8) : (([47, 63] : List UInt8).contains b = true ∧ 0 ≤ Lib.indexByte [47, 63] b) ∨ (([47, 63] : List UInt8).contains b = false ∧ Lib.indexByte [47, 63] b = -1) := by
  by_cases h1 : b = 47
  · subst h1; left; decide
  · by_cases h2 : b = 63
    · subst h2; left; decide
    · right
      have e1 : ((47 : UInt8) == b) = false := by simp; exact fun e => h1 e.symm
      have e2 : ((63 : UInt8) == b) = false := by simp; exact fun e => h2 e.symm
      refine ⟨by simp [h1, h2], ?_⟩
      simp [Lib.indexByte, e1, e2]

set_option maxRecDepth 100000 in
set_option maxHeartbeats 3200000 in
set_option maxRecDepth 100000 in
theorem rune_low (s : ByteArray) (b : UInt8) (w : World) (hs : s = chS) (hb : b.toNat < 128) :
    Calls Tryd.prog 73 #[.string s, .int .i32 (b.toNat : Int)] w fun e w' => e = .returned (.int .i64 (Lib.indexByte [47, 63] b)) ∧ w' = w := by
  have hdl : s.data.toList = [47, 63] := by rw [hs]; rfl
  have hw : IntKind.u8.wrap (b.toNat : Int) = (b.toNat : Int) := by unfold IntKind.wrap; simp [IntKind.bits, IntKind.signed]; omega
  have hib := Tryd.strings_IndexByte s (b.toNat : Int)
  have hbb : ((b.toNat : Int).toNat.toUInt8) = b := by simp
  rw [hdl, hbb] at hib
  clear hs hdl
  have HIB : Hid _ := hib
  clear hib hbb
  go_enter Tryd.func73, Tryd.ntmps73
  go_wp2_with fail
  refine (HIB.out _).mono ?_
  rintro e w1 ⟨rfl, e1⟩
  subst e1
  go_wp2
  go_ret
  exact ⟨rfl, rfl⟩

set_option maxRecDepth 100000 in
set_option maxHeartbeats 3200000 in
set_option maxRecDepth 100000 in
/-- strings.IndexAny OF AT MOST 8 BYTES, WHATEVER THEY ARE -/
theorem any_short (s : ByteArray) (w : World) (h8 : s.size ≤ 8) :
    Calls Tryd.prog 53 #[.string s, .string chS] w fun e w' => e = .returned (.int .i64 (Lib.indexAny s.data.toList [47, 63])) ∧ Below w.heap.size w w' := by
  have hc2 : chS.size = 2 := rfl
  have h8z : decide ((8 : Int) < (s.size : Int)) = false := decide_eq_false (by omega)
  have hemp : chS.toList.isEmpty = false := by rw [ByteArray.toList_eq]; rfl
  generalize hC : chS = C at *
  have HC : Hid (C = chS) := hC.symm
  clear hC
  have hn1 : ((C.size : Int) == 1) = false := by rw [hc2]; decide
  have hdl : s.data.toList.length = s.size := by simp
  go_enter Tryd.func53, Tryd.ntmps53
  go_wp2_with fail
  refine (Tryd.strings_shouldUseASCIISet _ _).mono ?_
  rintro e w1 ⟨rfl, e1⟩
  subst e1
  rw [h8z]
  have hit0 : (w1.iter s 0).heap[w1.heap.size]? = some (.stringIter s 0) := World.iter_heap _ _ _
  have hbw0 : Below w1.heap.size w1 (w1.iter s 0) := (Below.refl _ w1).alloc (Nat.le_refl _) _
  generalize hK : w1.heap.size = K at *
  go_wp2
  go_loopg [9, 10] s.size (fun g _ _ wr => ∃ i : Nat, i + g = s.size ∧ Hid (Lib.NoAny s.data.toList [47, 63] i) ∧ Hid (wr.heap[K]? = some (.stringIter s i)) ∧ Hid (Below K w1 wr))
  case atStart => exact ⟨0, by omega, Lib.NoAny.zero _ _, hit0, hbw0⟩
  case round =>
    obtain ⟨i, hig, HN, HI, HB⟩ := hrel
    cases gk with
    | zero =>
      obtain rfl : i = s.size := by omega
      have hnx := fun ty => Lib.run_next_end_at (P := Tryd.prog) wr K s s.size ty HI.out (by omega)
      have HE : Hid (Lib.indexAny s.data.toList [47, 63] = -1) := Lib.indexAny_none (by rw [hdl]; exact HN.out)
      go_wp2
      go_ret
      exact ⟨ret_int HE.out.symm, by rw [hK]; exact HB.out⟩
    | succ g =>
      have hi : i < s.size := by omega
      have hxi : s.data.toList[i]? = some (s[i]'hi) := by rw [List.getElem?_eq_getElem (by omega)]; rfl
      by_cases hx : (s[i]'hi).toNat < 128
      · have hnx := fun ty => Lib.run_next_ascii_at (P := Tryd.prog) wr K s i ty HI.out hi hx
        have HI2 : Hid ((wr.iterAt K s (i + 1)).heap[K]? = some (.stringIter s (i + 1))) := Lib.iterAt_heap _ _ _ _ _ HI.out
        have HB2 : Hid (Below K w1 (wr.iterAt K s (i + 1))) := Lib.below_iterAt HB.out (Nat.le_refl _) _ _
        have HXI : Hid _ := hxi
        clear hxi
        generalize hX : (s[i]'hi) = x at *
        clear hX
        generalize wr.iterAt K s (i + 1) = wn at *
        rcases idx_ch x with ⟨hc, hge⟩ | ⟨hc, hge⟩
        · have HE : Hid (Lib.indexAny s.data.toList [47, 63] = i) := Lib.indexAny_hit HN.out HXI.out hc
          have hgd : decide ((0 : Int) ≤ Lib.indexByte [47, 63] x) = true := decide_eq_true hge
          go_wp2_with fail
          refine (rune_low C x _ HC.out hx).mono ?_
          rintro e w2 ⟨rfl, e2⟩
          subst e2
          go_wp2
          go_ret
          exact ⟨ret_int HE.out.symm, by rw [hK]; exact HB2.out⟩
        · have HN2 : Hid (Lib.NoAny s.data.toList [47, 63] (i + 1)) := HN.out.succ HXI.out hc
          go_wp2_with fail
          refine (rune_low C x _ HC.out hx).mono ?_
          rintro e w2 ⟨rfl, e2⟩
          subst e2
          rw [hge]
          go_wp2
          go_roundg g
          case measure => omega
          case rel => exact ⟨i + 1, by omega, HN2, HI2, HB2⟩
      · have hx2 : 128 ≤ (s[i]'hi).toNat := by omega
        obtain ⟨hd1, hd2⟩ := decode_high s i hi hx2
        have hd3 := decode_le s i
        have hsk := decode_skip s i hi hx2
        have hnx := fun ty => Lib.run_next_any_at (P := Tryd.prog) wr K s i ty HI.out hi
        generalize hD1 : (Utf8.decode s i).1 = r at *
        generalize hD2 : (Utf8.decode s i).2 = n at *
        have hin : i + n ≤ s.size := by obtain ⟨hk, _⟩ := hsk (i + n - 1) (by omega) (by omega); omega
        have HI2 : Hid ((wr.iterAt K s (i + n)).heap[K]? = some (.stringIter s (i + n))) := Lib.iterAt_heap _ _ _ _ _ HI.out
        have HB2 : Hid (Below K w1 (wr.iterAt K s (i + n))) := Lib.below_iterAt HB.out (Nat.le_refl _) _ _
        have HN2 : Hid (Lib.NoAny s.data.toList [47, 63] (i + n)) := by
          intro j b hj hb
          by_cases hji : j < i
          · exact HN.out j b hji hb
          · obtain ⟨hk, hge⟩ := hsk j (by omega) hj
            have e : b = s[j]'hk := by
              rw [List.getElem?_eq_getElem (by omega)] at hb
              exact (Option.some.inj hb).symm
            rcases idx_ch b with ⟨hc, _⟩ | ⟨hc, _⟩
            · exfalso
              have : b = 47 ∨ b = 63 := by simpa using hc
              rw [← e] at hge
              rcases this with h | h <;> (rw [h] at hge; revert hge; decide)
            · exact hc
        clear hsk hxi hx hx2 hD1 hD2
        generalize wr.iterAt K s (i + n) = wn at *
        go_wp2_with fail
        refine (rune_high C _ _ HC.out (by omega) (by omega)).mono ?_
        rintro e w2 ⟨rfl, hb2⟩
        have hKlt : K < wn.heap.size := (Array.getElem?_eq_some_iff.1 HI2.out).1
        have HI3 : Hid (w2.heap[K]? = some (.stringIter s (i + n))) := by show _ = _; rw [hb2.block K hKlt]; exact HI2.out
        have HB3 : Hid (Below K w1 w2) := HB2.out.trans (hb2.mono (by omega))
        go_wp2
        go_roundg (s.size - (i + n))
        case measure => omega
        case rel => exact ⟨i + n, by omega, HN2, HI3, HB3⟩

/-- strings.IndexAny of "/?" -/
theorem any_all (s : ByteArray) (w : World) (hs : s.size ≤ 1000000) :
    Calls Tryd.prog 53 #[.string s, .string ⟨#[47, 63]⟩] w fun e w' => e = .returned (.int .i64 (Lib.indexAny s.data.toList [47, 63])) ∧ Below w.heap.size w w' := by
  by_cases h8 : s.size ≤ 8
  · exact any_short s w h8
  · have hca : ∀ (j : Nat) b, chS.data.toList[j]? = some b → b.toNat < 128 := by
      intro j b hb
      have hm := List.mem_of_getElem? hb
      have : b = 47 ∨ b = 63 := by simpa [chS] using hm
      rcases this with rfl | rfl <;> decide
    refine (Tryd.strings_IndexAny_long (zero_of_info (show (Tryd.prog.info? 83).map (fun i => (i.zero, i.size)) = some (some (.agg (Array.replicate 256 (.bool false))), 256) by kernel_rfl)).1 s chS w (by decide) (by omega) (by omega) (by decide) hca).mono ?_
    rintro e w' ⟨rfl, rfl⟩
    exact ⟨rfl, ((Below.refl _ w).alloc (Nat.le_refl _) _).alloc (by simp) _⟩
end Go.Proofs.YtboncolbijicfaaDoor.DecM
