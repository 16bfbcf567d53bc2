/- strings.IndexAny of "/?" in a text of any bytes. -/
import Derived.Test.YtboncolbijicfaaDoorDecMath
import Derived.Test.YtboncolbijicfaaDoorShelf
import Derived.Lib.OthersKept
import Derived.Laws.Runes
namespace Go.Proofs.YtboncolbijicfaaDoor.DecM
open Go.RowKit Go.Proofs.YtboncolbijicfaaDoor.EscM Go.Proofs.YtboncolbijicfaaDoor.EscL

def chS : ByteArray := ⟨#[47, 63]⟩
theorem ch_size : chS.size = 2 := rfl

set_option maxRecDepth 100000 in
set_option maxHeartbeats 1600000 in
set_option maxRecDepth 100000 in
theorem rune_error (s : ByteArray) (w : World) (hs : s = chS) :
    Calls Tryd.prog 73 #[.string s, .int .i32 65533] w fun e w' => e = .returned (.int .i64 (-1)) ∧ Below w.heap.size w w' := by
  have hsz : s.size = 2 := by rw [hs]; rfl
  have HA : Hid (∀ (i : Nat) (h : i < s.size), (s[i]'h).toNat < 128) := by
    subst hs
    intro i h
    have h2 : i < 2 := h
    have : i = 0 ∨ i = 1 := by omega
    rcases this with rfl | rfl
    · show (47 : UInt8).toNat < 128; decide
    · show (63 : UInt8).toNat < 128; decide
  clear hs
  have hbw : ∀ i, Below w.heap.size w (w.iter s i) := fun i => (Below.refl _ w).alloc (Nat.le_refl _) _
  go_enter Tryd.func73, Tryd.ntmps73
  go_wp2
  go_loopg [5, 6] 2 (fun g _ _ wx => ∃ i : Nat, i + g = 2 ∧ wx = w.iter s i)
  case atStart => exact ⟨0, by omega, rfl⟩
  case round =>
    obtain ⟨i, hig, rfl⟩ := hrel
    cases gk with
    | zero =>
      obtain rfl : i = 2 := by omega
      have hnx := fun ty => run_next_end (P := Tryd.prog) w s 2 ty (by omega)
      go_wp2
      go_ret
      exact ⟨rfl, hbw 2⟩
    | succ g =>
      have hi : i < s.size := by omega
      have hx := HA.out i hi
      have hnx := fun ty => run_next_ascii (P := Tryd.prog) w s i ty hi hx
      generalize (s[i]'hi).toNat = x at *
      have hne : ((x : Int) == 65533) = false := by simp; omega
      go_wp2
      go_roundg g
      case measure => omega
      case rel => exact ⟨i + 1, by omega, rfl⟩

set_option maxRecDepth 100000 in
set_option maxHeartbeats 1600000 in
set_option maxRecDepth 100000 in
theorem rune_valid (r : Int) (w : World) (h0 : 128 ≤ r) (h1 : r ≤ 2147483647) :
    Calls Tryd.prog 88 #[.int .i32 r] w fun e w' => e = .returned (.bool (decide (r < 55296 ∨ (57343 < r ∧ r ≤ 1114111)))) ∧ w' = w := by
  by_cases a : r < 55296
  · go_enter Tryd.func88, Tryd.ntmps88
    go_wp2
    go_ret
    exact ⟨ret_bool (decide_eq_true (Or.inl a)).symm, rfl⟩
  · by_cases b : 57343 < r ∧ r ≤ 1114111
    · obtain ⟨b1, b2⟩ := b
      go_enter Tryd.func88, Tryd.ntmps88
      go_wp2
      go_ret
      exact ⟨ret_bool (by simp <;> omega), rfl⟩
    · have b1 : (decide (57343 < r) && decide (r ≤ 1114111)) = false := by simp; omega
      by_cases c : 57343 < r
      · have d : ¬ r ≤ 1114111 := fun h => b ⟨c, h⟩
        go_enter Tryd.func88, Tryd.ntmps88
        go_wp2
        go_ret
        exact ⟨ret_bool (by simp <;> omega), rfl⟩
      · go_enter Tryd.func88, Tryd.ntmps88
        go_wp2
        go_ret
        exact ⟨ret_bool (by simp <;> omega), rfl⟩

theorem enc_two (r : Int) (h0 : 128 ≤ r) (hv : Utf8.valid r = true) : (∃ a b : UInt8, Utf8.encode r = ⟨#[a, b]⟩ ∧ 128 ≤ b.toNat) ∨ (Utf8.encode r).size = 3 ∨ (Utf8.encode r).size = 4 := by
  have e : (if Utf8.valid r then r.toNat else Utf8.runeError) = r.toNat := by rw [hv]; rfl
  have h8 : ¬ r.toNat < 128 := by omega
  unfold Utf8.encode
  simp only [e]
  by_cases h2 : r.toNat < 2048
  · left
    refine ⟨UInt8.ofNat (192 + r.toNat / 64), UInt8.ofNat (128 + r.toNat % 64), by simp [h8, h2], ?_⟩
    rw [UInt8.toNat_ofNat']
    omega
  · right
    by_cases h3 : r.toNat < 65536
    · left; simp only [h8, h2, h3, if_true, if_false]; rfl
    · right; simp only [h8, h2, h3, if_false]; rfl

theorem byte_none (t : ByteArray) (c : Int) (w : World) (h : t.size = 0) :
    Calls Tryd.prog 87 #[.string t, .int .u8 c] w fun e w' => e = .returned (.int .i64 (-1)) ∧ w = w' := by
  refine (Tryd.strings_IndexByte t c w).mono ?_
  rintro e w' ⟨rfl, rfl⟩
  have : t.data.toList = [] := by
    have h2 : t.data.toList.length = 0 := by simpa using h
    exact List.eq_nil_of_length_eq_zero h2
  rw [this]
  exact ⟨rfl, rfl⟩

set_option maxRecDepth 100000 in
set_option maxHeartbeats 3200000 in
set_option maxRecDepth 100000 in
theorem rune_high (s : ByteArray) (r : Int) (w : World) (hs : s = chS) (h0 : 128 ≤ r) (h1 : r ≤ 2147483647) :
    Calls Tryd.prog 73 #[.string s, .int .i32 r] w fun e w' => e = .returned (.int .i64 (-1)) ∧ Below w.heap.size w w' := by
  by_cases he : r = 65533
  · subst he; exact rune_error s w hs
  have heb : (r == 65533) = false := by simp; exact he
  by_cases hv : r < 55296 ∨ (57343 < r ∧ r ≤ 1114111)
  · have hval : Utf8.valid r = true := by unfold Utf8.valid; simp; omega
    have henc := enc_two r h0 hval
    have hsz : s.size = 2 := by rw [hs]; rfl
    have HV : Hid _ := decide_eq_true hv
    clear hv
    rcases henc with ⟨a, b, hab, hb⟩ | h3 | h3
    · have hcv0 : ∀ W, (convert 21 9 (.int .i32 r)).run Tryd.prog W = .ok (.string ⟨#[a, b]⟩) W := fun W => by rw [← hab]; exact run_convert_int_string (P := Tryd.prog) W 21 9 .i32 r (by kernel_rfl) Tryd.underlying9
      obtain ⟨E, hcv, hz2, hEb⟩ : ∃ E : ByteArray, (∀ W, (convert 21 9 (.int .i32 r)).run Tryd.prog W = .ok (.string E) W) ∧ E.size = 2 ∧ ∀ h : 1 < E.size, (E[1]'h).toNat = b.toNat := ⟨⟨#[a, b]⟩, hcv0, rfl, fun _ => rfl⟩
      have hsb : ∀ h : 1 < s.size, (s[1]'h).toNat = 63 := by subst hs; intro _; rfl
      have hb1 : 1 < E.size := by omega
      have hs1 : 1 < s.size := by omega
      have hEb1 := hEb hb1
      have hsb1 := hsb hs1
      have hne : ((63 : Int) != (b.toNat : Int)) = true := by simp; omega
      clear hab hs hcv0 hEb hsb
      go_enter Tryd.func73, Tryd.ntmps73
      go_wp2_with fail
      refine (rune_valid r _ h0 h1).mono ?_
      rintro e w1 ⟨rfl, e1⟩
      subst e1
      rw [HV.out]
      go_wp2
      go_step3
      go_wp2
      go_loopw [9] (fun i wr => i = .int .i64 1 ∧ wr = w1) (fun _ _ => 0)
      case atStart => exact ⟨rfl, rfl⟩
      case round =>
        obtain ⟨rfl, rfl⟩ := hrel
        go_wp2
        go_step3
        go_wp2
        go_region_with fail
        all_goals
          have e2 : IntKind.i64.wrap 2 = 2 := by decide
          have hle : (2 : Int) ≤ (s.size : Int) := by omega
          go_wp2
          go_region_with (go_at_call 87; refine (byte_none _ _ _ (by first | (simp; done) | (simp; omega) | omega)).mono ?_; rintro e w2 ⟨rfl, e3⟩; subst e3)
          all_goals
            go_wp2
            rw [Exit.noGoto_ret]
            simp only [Exit.inBlock]
            show Exit.noGoto _ Exit.ret _ _
            rw [Exit.noGoto_ret]
            simp only [Exit.inBlock, Exit.then]
            rw [Exit.noGoto_ret]
            go_ret
            exact ⟨rfl, ((Below.refl _ _).drew).drew⟩
    · generalize hE : Utf8.encode r = E at *
      have hcv : ∀ W, (convert 21 9 (.int .i32 r)).run Tryd.prog W = .ok (.string E) W := fun W => by rw [← hE]; exact run_convert_int_string (P := Tryd.prog) W 21 9 .i32 r (by kernel_rfl) Tryd.underlying9
      clear hE
      go_enter Tryd.func73, Tryd.ntmps73
      go_wp2_with fail
      refine (rune_valid r _ h0 h1).mono ?_
      rintro e w1 ⟨rfl, e1⟩
      subst e1
      rw [HV.out]
      go_wp2
      go_step3
      go_wp2
      go_loopw [9] (fun i wr => i = .int .i64 2 ∧ wr = w1) (fun _ _ => 0)
      case atStart => exact ⟨rfl, rfl⟩
      case round =>
        obtain ⟨rfl, rfl⟩ := hrel
        go_wp2
        rw [Exit.noGoto_ret]
        go_ret
        exact ⟨rfl, Below.refl _ _⟩
    · generalize hE : Utf8.encode r = E at *
      have hcv : ∀ W, (convert 21 9 (.int .i32 r)).run Tryd.prog W = .ok (.string E) W := fun W => by rw [← hE]; exact run_convert_int_string (P := Tryd.prog) W 21 9 .i32 r (by kernel_rfl) Tryd.underlying9
      clear hE
      go_enter Tryd.func73, Tryd.ntmps73
      go_wp2_with fail
      refine (rune_valid r _ h0 h1).mono ?_
      rintro e w1 ⟨rfl, e1⟩
      subst e1
      rw [HV.out]
      go_wp2
      go_step3
      go_wp2
      go_loopw [9] (fun i wr => i = .int .i64 3 ∧ wr = w1) (fun _ _ => 0)
      case atStart => exact ⟨rfl, rfl⟩
      case round =>
        obtain ⟨rfl, rfl⟩ := hrel
        go_wp2
        rw [Exit.noGoto_ret]
        go_ret
        exact ⟨rfl, Below.refl _ _⟩
  · have HV : Hid _ := decide_eq_false hv
    clear hv
    go_enter Tryd.func73, Tryd.ntmps73
    go_wp2_with fail
    refine (rune_valid r _ h0 h1).mono ?_
    rintro e w1 ⟨rfl, e1⟩
    subst e1
    rw [HV.out]
    go_wp2
    go_ret
    exact ⟨rfl, Below.refl _ _⟩

end Go.Proofs.YtboncolbijicfaaDoor.DecM
