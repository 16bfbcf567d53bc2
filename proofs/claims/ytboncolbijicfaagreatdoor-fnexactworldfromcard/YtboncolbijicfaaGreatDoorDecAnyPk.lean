/- Several texts in one: DecAny, DecAny2. -/
import Derived.Test.YtboncolbijicfaaGreatDoorEscLeafPk
import Derived.Test.YtboncolbijicfaaGreatDoorShelf
import Derived.Lib.OthersKept
import Derived.Laws.Runes
/- strings.IndexAny of "/?" in a text of any bytes. -/
namespace Go.Proofs.YtboncolbijicfaaGreatDoor.DecM
open Go.RowKit Go.Proofs.YtboncolbijicfaaGreatDoor.EscM Go.Proofs.YtboncolbijicfaaGreatDoor.EscL

def chS : ByteArray := ⟨#[47, 63]⟩
theorem ch_size : chS.size = 2 := rfl

set_option maxRecDepth 100000 in
set_option maxHeartbeats 1600000 in
set_option maxRecDepth 100000 in
theorem rune_error (s : ByteArray) (w : World) (hs : s = chS) :
    Calls Tryz.prog 174 #[.string s, .int .i32 65533] w fun e w' => e = .returned (.int .i64 (-1)) ∧ Below w.heap.size w w' := by
  have hsz : s.size = 2 := by rw [hs]; rfl
  have HA : Hid (∀ (i : Nat) (h : i < s.size), (s[i]'h).toNat < 128) := by
    subst hs
    intro i h
    have h2 : i < 2 := h
    have : i = 0 ∨ i = 1 := by omega
    rcases this with rfl | rfl
    · show (47 : UInt8).toNat < 128; decide
    · show (63 : UInt8).toNat < 128; decide
  clear hs
  have hbw : ∀ i, Below w.heap.size w (w.iter s i) := fun i => (Below.refl _ w).alloc (Nat.le_refl _) _
  go_enter Tryz.func174, Tryz.ntmps174
  go_wp2
  go_loopg [5, 6] 2 (fun g _ _ wx => ∃ i : Nat, i + g = 2 ∧ wx = w.iter s i)
  case atStart => exact ⟨0, by omega, rfl⟩
  case round =>
    obtain ⟨i, hig, rfl⟩ := hrel
    cases gk with
    | zero =>
      obtain rfl : i = 2 := by omega
      have hnx := fun ty => run_next_end (P := Tryz.prog) w s 2 ty (by omega)
      go_wp2
      go_ret
      exact ⟨rfl, hbw 2⟩
    | succ g =>
      have hi : i < s.size := by omega
      have hx := HA.out i hi
      have hnx := fun ty => run_next_ascii (P := Tryz.prog) w s i ty hi hx
      generalize (s[i]'hi).toNat = x at *
      have hne : ((x : Int) == 65533) = false := by simp; omega
      go_wp2
      go_roundg g
      case measure => omega
      case rel => exact ⟨i + 1, by omega, rfl⟩

set_option maxRecDepth 100000 in
set_option maxHeartbeats 1600000 in
set_option maxRecDepth 100000 in
theorem rune_valid (r : Int) (w : World) (h0 : 128 ≤ r) (h1 : r ≤ 2147483647) :
    Calls Tryz.prog 200 #[.int .i32 r] w fun e w' => e = .returned (.bool (decide (r < 55296 ∨ (57343 < r ∧ r ≤ 1114111)))) ∧ w' = w := by
  by_cases a : r < 55296
  · go_enter Tryz.func200, Tryz.ntmps200
    go_wp2
    go_ret
    exact ⟨ret_bool (decide_eq_true (Or.inl a)).symm, rfl⟩
  · by_cases b : 57343 < r ∧ r ≤ 1114111
    · obtain ⟨b1, b2⟩ := b
      go_enter Tryz.func200, Tryz.ntmps200
      go_wp2
      go_ret
      exact ⟨ret_bool (by simp <;> omega), rfl⟩
    · have b1 : (decide (57343 < r) && decide (r ≤ 1114111)) = false := by simp; omega
      by_cases c : 57343 < r
      · have d : ¬ r ≤ 1114111 := fun h => b ⟨c, h⟩
        go_enter Tryz.func200, Tryz.ntmps200
        go_wp2
        go_ret
        exact ⟨ret_bool (by simp <;> omega), rfl⟩
      · go_enter Tryz.func200, Tryz.ntmps200
        go_wp2
        go_ret
        exact ⟨ret_bool (by simp <;> omega), rfl⟩

theorem enc_two (r : Int) (h0 : 128 ≤ r) (hv : Utf8.valid r = true) : (∃ a b : UInt8, Utf8.encode r = ⟨#[a, b]⟩ ∧ 128 ≤ b.toNat) ∨ (Utf8.encode r).size = 3 ∨ (Utf8.encode r).size = 4 := by
  have e : (if Utf8.valid r then r.toNat else Utf8.runeError) = r.toNat := by rw [hv]; rfl
  have h8 : ¬ r.toNat < 128 := by omega
  unfold Utf8.encode
  simp only [e]
  by_cases h2 : r.toNat < 2048
  · left
    refine ⟨UInt8.ofNat (192 + r.toNat / 64), UInt8.ofNat (128 + r.toNat % 64), by simp [h8, h2], ?_⟩
    rw [UInt8.toNat_ofNat']
    omega
  · right
    by_cases h3 : r.toNat < 65536
    · left; simp only [h8, h2, h3, if_true, if_false]; rfl
    · right; simp only [h8, h2, h3, if_false]; rfl

theorem byte_none (t : ByteArray) (c : Int) (w : World) (h : t.size = 0) :
    Calls Tryz.prog 199 #[.string t, .int .u8 c] w fun e w' => e = .returned (.int .i64 (-1)) ∧ w = w' := by
  refine (Tryz.strings_IndexByte t c w).mono ?_
  rintro e w' ⟨rfl, rfl⟩
  have : t.data.toList = [] := by
    have h2 : t.data.toList.length = 0 := by simpa using h
    exact List.eq_nil_of_length_eq_zero h2
  rw [this]
  exact ⟨rfl, rfl⟩

set_option maxRecDepth 100000 in
set_option maxHeartbeats 3200000 in
set_option maxRecDepth 100000 in
theorem rune_high (s : ByteArray) (r : Int) (w : World) (hs : s = chS) (h0 : 128 ≤ r) (h1 : r ≤ 2147483647) :
    Calls Tryz.prog 174 #[.string s, .int .i32 r] w fun e w' => e = .returned (.int .i64 (-1)) ∧ Below w.heap.size w w' := by
  by_cases he : r = 65533
  · subst he; exact rune_error s w hs
  have heb : (r == 65533) = false := by simp; exact he
  by_cases hv : r < 55296 ∨ (57343 < r ∧ r ≤ 1114111)
  · have hval : Utf8.valid r = true := by unfold Utf8.valid; simp; omega
    have henc := enc_two r h0 hval
    have hsz : s.size = 2 := by rw [hs]; rfl
    have HV : Hid _ := decide_eq_true hv
    clear hv
    rcases henc with ⟨a, b, hab, hb⟩ | h3 | h3
    · have hcv0 : ∀ W, (convert 21 9 (.int .i32 r)).run Tryz.prog W = .ok (.string ⟨#[a, b]⟩) W := fun W => by rw [← hab]; exact run_convert_int_string (P := Tryz.prog) W 21 9 .i32 r (by kernel_rfl) Tryz.underlying9
      obtain ⟨E, hcv, hz2, hEb⟩ : ∃ E : ByteArray, (∀ W, (convert 21 9 (.int .i32 r)).run Tryz.prog W = .ok (.string E) W) ∧ E.size = 2 ∧ ∀ h : 1 < E.size, (E[1]'h).toNat = b.toNat := ⟨⟨#[a, b]⟩, hcv0, rfl, fun _ => rfl⟩
      have hsb : ∀ h : 1 < s.size, (s[1]'h).toNat = 63 := by subst hs; intro _; rfl
      have hb1 : 1 < E.size := by omega
      have hs1 : 1 < s.size := by omega
      have hEb1 := hEb hb1
      have hsb1 := hsb hs1
      have hne : ((63 : Int) != (b.toNat : Int)) = true := by simp; omega
      clear hab hs hcv0 hEb hsb
      go_enter Tryz.func174, Tryz.ntmps174
      go_wp2_with fail
      refine (rune_valid r _ h0 h1).mono ?_
      rintro e w1 ⟨rfl, e1⟩
      subst e1
      rw [HV.out]
      go_wp2
      go_step3
      go_wp2
      go_loopw [9] (fun i wr => i = .int .i64 1 ∧ wr = w1) (fun _ _ => 0)
      case atStart => exact ⟨rfl, rfl⟩
      case round =>
        obtain ⟨rfl, rfl⟩ := hrel
        go_wp2
        go_step3
        go_wp2
        go_region_with fail
        all_goals
          have e2 : IntKind.i64.wrap 2 = 2 := by decide
          have hle : (2 : Int) ≤ (s.size : Int) := by omega
          go_wp2
          go_region_with (go_at_call 199; refine (byte_none _ _ _ (by first | (simp; done) | (simp; omega) | omega)).mono ?_; rintro e w2 ⟨rfl, e3⟩; subst e3)
          all_goals
            go_wp2
            rw [Exit.noGoto_ret]
            simp only [Exit.inBlock]
            show Exit.noGoto _ Exit.ret _ _
            rw [Exit.noGoto_ret]
            simp only [Exit.inBlock, Exit.then]
            rw [Exit.noGoto_ret]
            go_ret
            exact ⟨rfl, ((Below.refl _ _).drew).drew⟩
    · generalize hE : Utf8.encode r = E at *
      have hcv : ∀ W, (convert 21 9 (.int .i32 r)).run Tryz.prog W = .ok (.string E) W := fun W => by rw [← hE]; exact run_convert_int_string (P := Tryz.prog) W 21 9 .i32 r (by kernel_rfl) Tryz.underlying9
      clear hE
      go_enter Tryz.func174, Tryz.ntmps174
      go_wp2_with fail
      refine (rune_valid r _ h0 h1).mono ?_
      rintro e w1 ⟨rfl, e1⟩
      subst e1
      rw [HV.out]
      go_wp2
      go_step3
      go_wp2
      go_loopw [9] (fun i wr => i = .int .i64 2 ∧ wr = w1) (fun _ _ => 0)
      case atStart => exact ⟨rfl, rfl⟩
      case round =>
        obtain ⟨rfl, rfl⟩ := hrel
        go_wp2
        rw [Exit.noGoto_ret]
        go_ret
        exact ⟨rfl, Below.refl _ _⟩
    · generalize hE : Utf8.encode r = E at *
      have hcv : ∀ W, (convert 21 9 (.int .i32 r)).run Tryz.prog W = .ok (.string E) W := fun W => by rw [← hE]; exact run_convert_int_string (P := Tryz.prog) W 21 9 .i32 r (by kernel_rfl) Tryz.underlying9
      clear hE
      go_enter Tryz.func174, Tryz.ntmps174
      go_wp2_with fail
      refine (rune_valid r _ h0 h1).mono ?_
      rintro e w1 ⟨rfl, e1⟩
      subst e1
      rw [HV.out]
      go_wp2
      go_step3
      go_wp2
      go_loopw [9] (fun i wr => i = .int .i64 3 ∧ wr = w1) (fun _ _ => 0)
      case atStart => exact ⟨rfl, rfl⟩
      case round =>
        obtain ⟨rfl, rfl⟩ := hrel
        go_wp2
        rw [Exit.noGoto_ret]
        go_ret
        exact ⟨rfl, Below.refl _ _⟩
  · have HV : Hid _ := decide_eq_false hv
    clear hv
    go_enter Tryz.func174, Tryz.ntmps174
    go_wp2_with fail
    refine (rune_valid r _ h0 h1).mono ?_
    rintro e w1 ⟨rfl, e1⟩
    subst e1
    rw [HV.out]
    go_wp2
    go_ret
    exact ⟨rfl, Below.refl _ _⟩

end Go.Proofs.YtboncolbijicfaaGreatDoor.DecM
/- strings.IndexAny of "/?" in a text of any bytes: the short ones too. -/
namespace Go.Proofs.YtboncolbijicfaaGreatDoor.DecM
open Go.RowKit Go.Proofs.YtboncolbijicfaaGreatDoor.EscM Go.Proofs.YtboncolbijicfaaGreatDoor.EscL

theorem idx_ch (b : UInt8) : (([47, 63] : List UInt8).contains b = true ∧ 0 ≤ Lib.indexByte [47, 63] b) ∨ (([47, 63] : List UInt8).contains b = false ∧ Lib.indexByte [47, 63] b = -1) := by
  by_cases h1 : b = 47
  · subst h1; left; decide
  · by_cases h2 : b = 63
    · subst h2; left; decide
    · right
      have e1 : ((47 : UInt8) == b) = false := by simp; exact fun e => h1 e.symm
      have e2 : ((63 : UInt8) == b) = false := by simp; exact fun e => h2 e.symm
      refine ⟨by simp [h1, h2], ?_⟩
      simp [Lib.indexByte, e1, e2]

set_option maxRecDepth 100000 in
set_option maxHeartbeats 3200000 in
set_option maxRecDepth 100000 in
theorem rune_low (s : ByteArray) (b : UInt8) (w : World) (hs : s = chS) (hb : b.toNat < 128) :
    Calls Tryz.prog 174 #[.string s, .int .i32 (b.toNat : Int)] w fun e w' => e = .returned (.int .i64 (Lib.indexByte [47, 63] b)) ∧ w' = w := by
  have hdl : s.data.toList = [47, 63] := by rw [hs]; rfl
  have hw : IntKind.u8.wrap (b.toNat : Int) = (b.toNat : Int) := by unfold IntKind.wrap; simp [IntKind.bits, IntKind.signed]; omega
  have hib := Tryz.strings_IndexByte s (b.toNat : Int)
  have hbb : ((b.toNat : Int).toNat.toUInt8) = b := by simp
  rw [hdl, hbb] at hib
  clear hs hdl
  have HIB : Hid _ := hib
  clear hib hbb
  go_enter Tryz.func174, Tryz.ntmps174
  go_wp2_with fail
  refine (HIB.out _).mono ?_
  rintro e w1 ⟨rfl, e1⟩
  subst e1
  go_wp2
  go_ret
  exact ⟨rfl, rfl⟩

set_option maxRecDepth 100000 in
set_option maxHeartbeats 3200000 in
set_option maxRecDepth 100000 in
/-- strings.IndexAny OF AT MOST 8 BYTES, WHATEVER THEY ARE -/
theorem any_short (s : ByteArray) (w : World) (h8 : s.size ≤ 8) :
    Calls Tryz.prog 151 #[.string s, .string chS] w fun e w' => e = .returned (.int .i64 (Lib.indexAny s.data.toList [47, 63])) ∧ Below w.heap.size w w' := by
  have hc2 : chS.size = 2 := rfl
  have h8z : decide ((8 : Int) < (s.size : Int)) = false := decide_eq_false (by omega)
  have hemp : chS.toList.isEmpty = false := by rw [ByteArray.toList_eq]; rfl
  generalize hC : chS = C at *
  have HC : Hid (C = chS) := hC.symm
  clear hC
  have hn1 : ((C.size : Int) == 1) = false := by rw [hc2]; decide
  have hdl : s.data.toList.length = s.size := by simp
  go_enter Tryz.func151, Tryz.ntmps151
  go_wp2_with fail
  refine (Tryz.strings_shouldUseASCIISet _ _).mono ?_
  rintro e w1 ⟨rfl, e1⟩
  subst e1
  rw [h8z]
  have hit0 : (w1.iter s 0).heap[w1.heap.size]? = some (.stringIter s 0) := World.iter_heap _ _ _
  have hbw0 : Below w1.heap.size w1 (w1.iter s 0) := (Below.refl _ w1).alloc (Nat.le_refl _) _
  generalize hK : w1.heap.size = K at *
  go_wp2
  go_loopg [9, 10] s.size (fun g _ _ wr => ∃ i : Nat, i + g = s.size ∧ Hid (Lib.NoAny s.data.toList [47, 63] i) ∧ Hid (wr.heap[K]? = some (.stringIter s i)) ∧ Hid (Below K w1 wr))
  case atStart => exact ⟨0, by omega, Lib.NoAny.zero _ _, hit0, hbw0⟩
  case round =>
    obtain ⟨i, hig, HN, HI, HB⟩ := hrel
    cases gk with
    | zero =>
      obtain rfl : i = s.size := by omega
      have hnx := fun ty => Lib.run_next_end_at (P := Tryz.prog) wr K s s.size ty HI.out (by omega)
      have HE : Hid (Lib.indexAny s.data.toList [47, 63] = -1) := Lib.indexAny_none (by rw [hdl]; exact HN.out)
      go_wp2
      go_ret
      exact ⟨ret_int HE.out.symm, by rw [hK]; exact HB.out⟩
    | succ g =>
      have hi : i < s.size := by omega
      have hxi : s.data.toList[i]? = some (s[i]'hi) := by rw [List.getElem?_eq_getElem (by omega)]; rfl
      by_cases hx : (s[i]'hi).toNat < 128
      · have hnx := fun ty => Lib.run_next_ascii_at (P := Tryz.prog) wr K s i ty HI.out hi hx
        have HI2 : Hid ((wr.iterAt K s (i + 1)).heap[K]? = some (.stringIter s (i + 1))) := Lib.iterAt_heap _ _ _ _ _ HI.out
        have HB2 : Hid (Below K w1 (wr.iterAt K s (i + 1))) := Lib.below_iterAt HB.out (Nat.le_refl _) _ _
        have HXI : Hid _ := hxi
        clear hxi
        generalize hX : (s[i]'hi) = x at *
        clear hX
        generalize wr.iterAt K s (i + 1) = wn at *
        rcases idx_ch x with ⟨hc, hge⟩ | ⟨hc, hge⟩
        · have HE : Hid (Lib.indexAny s.data.toList [47, 63] = i) := Lib.indexAny_hit HN.out HXI.out hc
          have hgd : decide ((0 : Int) ≤ Lib.indexByte [47, 63] x) = true := decide_eq_true hge
          go_wp2_with fail
          refine (rune_low C x _ HC.out hx).mono ?_
          rintro e w2 ⟨rfl, e2⟩
          subst e2
          go_wp2
          go_ret
          exact ⟨ret_int HE.out.symm, by rw [hK]; exact HB2.out⟩
        · have HN2 : Hid (Lib.NoAny s.data.toList [47, 63] (i + 1)) := HN.out.succ HXI.out hc
          go_wp2_with fail
          refine (rune_low C x _ HC.out hx).mono ?_
          rintro e w2 ⟨rfl, e2⟩
          subst e2
          rw [hge]
          go_wp2
          go_roundg g
          case measure => omega
          case rel => exact ⟨i + 1, by omega, HN2, HI2, HB2⟩
      · have hx2 : 128 ≤ (s[i]'hi).toNat := by omega
        obtain ⟨hd1, hd2⟩ := decode_high s i hi hx2
        have hd3 := decode_le s i
        have hsk := decode_skip s i hi hx2
        have hnx := fun ty => Lib.run_next_any_at (P := Tryz.prog) wr K s i ty HI.out hi
        generalize hD1 : (Utf8.decode s i).1 = r at *
        generalize hD2 : (Utf8.decode s i).2 = n at *
        have hin : i + n ≤ s.size := by obtain ⟨hk, _⟩ := hsk (i + n - 1) (by omega) (by omega); omega
        have HI2 : Hid ((wr.iterAt K s (i + n)).heap[K]? = some (.stringIter s (i + n))) := Lib.iterAt_heap _ _ _ _ _ HI.out
        have HB2 : Hid (Below K w1 (wr.iterAt K s (i + n))) := Lib.below_iterAt HB.out (Nat.le_refl _) _ _
        have HN2 : Hid (Lib.NoAny s.data.toList [47, 63] (i + n)) := by
          intro j b hj hb
          by_cases hji : j < i
          · exact HN.out j b hji hb
          · obtain ⟨hk, hge⟩ := hsk j (by omega) hj
            have e : b = s[j]'hk := by
              rw [List.getElem?_eq_getElem (by omega)] at hb
              exact (Option.some.inj hb).symm
            rcases idx_ch b with ⟨hc, _⟩ | ⟨hc, _⟩
            · exfalso
              have : b = 47 ∨ b = 63 := by simpa using hc
              rw [← e] at hge
              rcases this with h | h <;> (rw [h] at hge; revert hge; decide)
            · exact hc
        clear hsk hxi hx hx2 hD1 hD2
        generalize wr.iterAt K s (i + n) = wn at *
        go_wp2_with fail
        refine (rune_high C _ _ HC.out (by omega) (by omega)).mono ?_
        rintro e w2 ⟨rfl, hb2⟩
        have hKlt : K < wn.heap.size := (Array.getElem?_eq_some_iff.1 HI2.out).1
        have HI3 : Hid (w2.heap[K]? = some (.stringIter s (i + n))) := by show _ = _; rw [hb2.block K hKlt]; exact HI2.out
        have HB3 : Hid (Below K w1 w2) := HB2.out.trans (hb2.mono (by omega))
        go_wp2
        go_roundg (s.size - (i + n))
        case measure => omega
        case rel => exact ⟨i + n, by omega, HN2, HI3, HB3⟩

/-- strings.IndexAny of "/?" -/
theorem any_all (s : ByteArray) (w : World) (hs : s.size ≤ 1000000) :
    Calls Tryz.prog 151 #[.string s, .string ⟨#[47, 63]⟩] w fun e w' => e = .returned (.int .i64 (Lib.indexAny s.data.toList [47, 63])) ∧ Below w.heap.size w w' := by
  by_cases h8 : s.size ≤ 8
  · exact any_short s w h8
  · have hca : ∀ (j : Nat) b, chS.data.toList[j]? = some b → b.toNat < 128 := by
      intro j b hb
      have hm := List.mem_of_getElem? hb
      have : b = 47 ∨ b = 63 := by simpa [chS] using hm
      rcases this with rfl | rfl <;> decide
    refine (Tryz.strings_IndexAny_long (zero_of_info (show (Tryz.prog.info? 193).map (fun i => (i.zero, i.size)) = some (some (.agg (Array.replicate 256 (.bool false))), 256) by kernel_rfl)).1 s chS w (by decide) (by omega) (by omega) (by decide) hca).mono ?_
    rintro e w' ⟨rfl, rfl⟩
    exact ⟨rfl, ((Below.refl _ w).alloc (Nat.le_refl _) _).alloc (by simp) _⟩
end Go.Proofs.YtboncolbijicfaaGreatDoor.DecM
