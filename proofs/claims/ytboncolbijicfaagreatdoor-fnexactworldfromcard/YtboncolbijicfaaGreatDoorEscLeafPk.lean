/- Several texts in one: EscLeaf, DecMath. -/
import Derived.Test.YtboncolbijicfaaGreatDoorChecked
import Derived.Test.YtboncolbijicfaaGreatDoorEscMath
import Derived.WalkKit
import Derived.WalkLawsBesides
import Derived.WalkSpells
import Derived.BigQuiet
import Derived.Deep.QuietTactic
import Derived.Outline
import Derived.Deep.RegionLaw
import Derived.Laws.RangeAny
namespace Go.Proofs.YtboncolbijicfaaGreatDoor.EscL
open Go.RowKit Go.Proofs.YtboncolbijicfaaGreatDoor.EscM

theorem ret_int {k : IntKind} {a b : Int} (h : a = b) : Ending.returned (.int k a) = .returned (.int k b) := by rw [h]
theorem ret_bool {a b : Bool} (h : a = b) : Ending.returned (.bool a) = .returned (.bool b) := by rw [h]
theorem ret_str {a b : ByteArray} (h : a = b) : Ending.returned (.string a) = .returned (.string b) := by rw [h]

theorem l1Hex_any (n : Int) (w : World) (h0 : 0 ≤ n) (h1 : n ≤ 255) :
    Calls Tryz.prog 196 #[.int .u8 n] w fun e w' => e = .returned (.int .i64 (hexZ n)) ∧ w' = w := by
  go_enter Tryz.func196, Tryz.ntmps196
  go_wp2
  all_goals
    go_ret
    exact ⟨ret_int (by unfold hexZ; repeat' split <;> omega), rfl⟩

theorem l1Plain_any (n : Int) (w : World) (h0 : 0 ≤ n) (h1 : n ≤ 255) :
    Calls Tryz.prog 135 #[.int .u8 n] w fun e w' => e = .returned (.bool (plainZ n)) ∧ w' = w := by
  go_enter Tryz.func135, Tryz.ntmps135
  go_wp2
  all_goals
    go_ret
    refine ⟨ret_bool ?_, rfl⟩
    rw [Bool.eq_iff_iff]
    simp [plainZ]
    try omega

theorem byte_le (b : UInt8) : (b.toNat : Int) ≤ 255 := by have := b.toNat_lt; omega
theorem getElem_eq (s : ByteArray) (k : Nat) (h : k < s.size) : s[k]'h = s.data.toList[k]'(by simpa using h) := rfl
theorem drop_cons (s : ByteArray) (k : Nat) (h : k < s.size) : s.data.toList.drop k = s[k]'h :: s.data.toList.drop (k + 1) := by
  rw [List.drop_eq_getElem_cons (by simpa using h)]; rfl
theorem ascii_of {s : ByteArray} (h : s.data.toList.all (fun b => b.toNat < 128) = true) : ∀ i (hi : i < s.size), (s[i]'hi).toNat < 128 := by
  intro i hi
  have := List.all_eq_true.1 h (s[i]'hi) (by rw [getElem_eq]; exact List.getElem_mem _)
  simpa using this

set_option maxRecDepth 100000 in
set_option maxHeartbeats 400000 in
theorem signPlace_any (s : ByteArray) (n : Int) (w : World) (h0 : 0 ≤ n) (h1 : n ≤ 255) (_hs : s.size ≤ 1000) (hasc : s.data.toList.all (fun b => b.toNat < 128) = true) :
    Calls Tryz.prog 195 #[.string s, .int .u8 n] w fun e w' => e = .returned (.int .i64 (placeFrom s.data.toList n 0)) ∧ ∃ o, w' = w.alloc o := by
  have hascii := ascii_of hasc
  clear hasc
  go_enter Tryz.func195, Tryz.ntmps195
  go_wp2
  go_loopw [5] (fun _ wr => ∃ pos : Nat, pos ≤ s.size ∧ wr = w.iter s pos ∧ Hid (placeFrom s.data.toList n 0 = placeFrom (s.data.toList.drop pos) n pos))
    (fun _ wr => s.size - wr.iterPos w.heap.size)
  case atStart => exact ⟨0, Nat.zero_le _, rfl, rfl⟩
  case round =>
    obtain ⟨pos, hps, rfl, HI⟩ := hrel
    by_cases hp : pos < s.size
    · have h128 := hascii pos hp
      have hnext : ∀ ty, (Instr.next (.pointer (some ⟨w.heap.size, 0, none⟩)) true ty).run Tryz.prog (w.iter s pos) = _ := fun ty => run_next_ascii w s pos ty hp h128
      have HD : Hid (s.data.toList.drop pos = s[pos]'hp :: s.data.toList.drop (pos + 1)) := drop_cons s pos hp
      go_wp2
      · go_ret
        have he : ((s[pos]'hp).toNat : Int) = n := by simpa using ‹((s[pos]'hp).toNat == n) = true›
        refine ⟨ret_int ?_, _, rfl⟩
        rw [HI.out, HD.out, placeFrom, if_pos he]
      · have he : ¬ ((s[pos]'hp).toNat : Int) = n := by simpa using ‹((s[pos]'hp).toNat == n) = false›
        go_roundw
        case rel => exact ⟨pos + 1, by omega, rfl, by show _ = _; rw [HI.out, HD.out, placeFrom, if_neg he]⟩
        case measure => simp; omega
    · have hnext : ∀ ty, (Instr.next (.pointer (some ⟨w.heap.size, 0, none⟩)) true ty).run Tryz.prog (w.iter s pos) = _ := fun ty => run_next_end w s pos ty hp
      go_wp2
      go_ret
      refine ⟨ret_int ?_, _, rfl⟩
      rw [HI.out, List.drop_eq_nil_of_le (by simp; omega)]; rfl

theorem hexValue_any (n : Int) (w : World) (h0 : 0 ≤ n) (h1 : n ≤ 255) :
    Calls Tryz.prog 217 #[.int .u8 n] w fun e w' => e = .returned (.int .i64 (hexZ n)) ∧ ∃ o, w' = w.alloc o := by
  have HP : Hid (placeFrom hexSigns (if 97 ≤ n ∧ n ≤ 102 then n - 32 else n) 0 = hexZ n) := place_hex n h0 h1
  by_cases hc : 97 ≤ n ∧ n ≤ 102
  · obtain ⟨ha, hb⟩ := hc
    have HQ : Hid (placeFrom hexSigns (n - 32) 0 = hexZ n) := by have := HP.out; rwa [if_pos ⟨ha, hb⟩] at this
    go_enter Tryz.func217, Tryz.ntmps217
    go_wp2_with (go_at_call 195; refine (signPlace_any _ _ _ (by omega) (by omega) (by decide) (by decide)).mono ?_; rintro e w' ⟨rfl, o, rfl⟩)
    go_ret
    exact ⟨ret_int HQ.out, o, rfl⟩
  · have HQ : Hid (placeFrom hexSigns n 0 = hexZ n) := by have := HP.out; rwa [if_neg hc] at this
    by_cases ha : 97 ≤ n
    all_goals
      go_enter Tryz.func217, Tryz.ntmps217
      go_wp2_with (go_at_call 195; refine (signPlace_any _ _ _ (by omega) (by omega) (by decide) (by decide)).mono ?_; rintro e w' ⟨rfl, o, rfl⟩)
      go_ret
      exact ⟨ret_int HQ.out, o, rfl⟩

theorem l1Sign_any (n : Int) (w : World) (h0 : 0 ≤ n) (h1 : n ≤ 255) :
    Calls Tryz.prog 197 #[.int .i64 n] w fun e w' => e = .returned (.string ⟨#[37, toB (figZ (n / 16)), toB (figZ (n % 16))]⟩) ∧ ∃ k, w' = w.drewN k := by
  go_enter Tryz.func197, Tryz.ntmps197
  go_wp2
  go_quiet (fail)
  go_wp2
  go_ret
  refine ⟨ret_str ?_, nq, rfl⟩
  rw [hex_ext _ (by omega) (by omega), hex_ext _ (by omega) (by omega)]
  rfl

/-- what is meant at a place, and how many bytes mean it -/
def meantZ (l : List UInt8) : Int × Int :=
  match l with
  | b :: h :: l :: _ => if b ≠ 37 then (b.toNat, 1) else if hexZ h.toNat < 0 ∨ hexZ l.toNat < 0 then (0, 0) else (hexZ h.toNat * 16 + hexZ l.toNat, 3)
  | b :: _ => if b ≠ 37 then (b.toNat, 1) else (0, 0)
  | [] => (0, 0)

theorem ne37 {b : UInt8} : (b ≠ 37) ↔ ((b.toNat : Int) ≠ 37) := by
  constructor
  · intro h e; exact h (UInt8.toNat.inj (by simp; omega))
  · intro h e; subst e; exact h rfl

theorem meant_plain (s : ByteArray) (k : Nat) (h : k < s.size) (hb : ((s[k]'h).toNat : Int) ≠ 37) : meantZ (s.data.toList.drop k) = (((s[k]'h).toNat : Int), 1) := by
  rw [drop_cons s k h]
  have := ne37.2 hb
  rcases s.data.toList.drop (k + 1) with _ | ⟨x, _ | ⟨y, r⟩⟩ <;> simp [meantZ, this]
theorem meant_short (s : ByteArray) (k : Nat) (h : k < s.size) (hb : ((s[k]'h).toNat : Int) = 37) (hl : s.size - k < 3) : meantZ (s.data.toList.drop k) = (0, 0) := by
  rw [drop_cons s k h]
  have h37 : s[k]'h = 37 := UInt8.toNat.inj (by simp; omega)
  have hlen : (s.data.toList.drop (k + 1)).length < 2 := by simp; omega
  rcases hh : s.data.toList.drop (k + 1) with _ | ⟨x, _ | ⟨y, r⟩⟩
  · simp [meantZ, h37]
  · simp [meantZ, h37]
  · rw [hh] at hlen; simp only [List.length_cons] at hlen; omega
theorem meant_sign (s : ByteArray) (k : Nat) (h : k + 2 < s.size) (hb : ((s[k]'(by omega)).toNat : Int) = 37) :
    meantZ (s.data.toList.drop k) = if hexZ (s[k+1]'(by omega)).toNat < 0 ∨ hexZ (s[k+2]'h).toNat < 0 then (0, 0) else (hexZ (s[k+1]'(by omega)).toNat * 16 + hexZ (s[k+2]'h).toNat, 3) := by
  rw [drop_cons s k (by omega), drop_cons s (k+1) (by omega), drop_cons s (k + 2) h]
  have h37 : s[k]'(by omega) = 37 := UInt8.toNat.inj (by simp; omega)
  simp [meantZ, h37]

end Go.Proofs.YtboncolbijicfaaGreatDoor.EscL
/- A text of any bytes, gone by in runes: what is no ASCII byte is skipped whole. -/
namespace Go.Proofs.YtboncolbijicfaaGreatDoor.DecM
open Go.RowKit

theorem get_bang (s : ByteArray) (k : Nat) (h : k < s.size) : s.get! k = s[k]'h := by
  show s.data[k]! = s.data[k]
  exact getElem!_pos s.data k h
theorem cont_high {s : ByteArray} {i k : Nat} (h : (decide (i + k < s.size) && ((s.get! (i + k)).toNat / 64 == 2)) = true) : i + k < s.size ∧ 128 ≤ (s.get! (i + k)).toNat := by
  simp at h
  exact ⟨h.1, by have := h.2; omega⟩
/-- all bytes of a rune that is no ASCII byte are none -/
theorem decode_skip (s : ByteArray) (pos : Nat) (h : pos < s.size) (ha : 128 ≤ (s[pos]'h).toNat) : ∀ k, pos ≤ k → k < pos + (Utf8.decode s pos).2 → ∃ hk : k < s.size, 128 ≤ (s[k]'hk).toNat := by
  have hone : ∀ k, pos ≤ k → k < pos + 1 → ∃ hk : k < s.size, 128 ≤ (s[k]'hk).toNat := by
    intro k h1 h2
    have e : k = pos := by omega
    subst e
    exact ⟨h, ha⟩
  have hof : ∀ k, (k < s.size ∧ 128 ≤ (s.get! k).toNat) → ∃ hk : k < s.size, 128 ≤ (s[k]'hk).toNat := by
    rintro k ⟨h1, h2⟩
    rw [get_bang s k h1] at h2
    exact ⟨h1, h2⟩
  intro k hk1 hk2
  unfold Utf8.decode at hk2
  simp only at hk2
  have h0 : ¬ (s.get! (pos + 0)).toNat < 128 := by rw [Nat.add_zero, get_bang s pos h]; omega
  rw [if_neg h0] at hk2
  split at hk2
  · rename_i hc
    rw [Bool.and_eq_true] at hc
    have c1 := cont_high hc.2
    split at hk2
    · simp only at hk2
      have : k = pos ∨ k = pos + 1 := by omega
      rcases this with rfl | rfl
      · exact ⟨h, ha⟩
      · exact hof _ c1
    · exact hone k hk1 hk2
  · split at hk2
    · rename_i hc
      rw [Bool.and_eq_true, Bool.and_eq_true] at hc
      have c1 := cont_high hc.1.2
      have c2 := cont_high hc.2
      split at hk2
      · simp only at hk2
        have : k = pos ∨ k = pos + 1 ∨ k = pos + 2 := by omega
        rcases this with rfl | rfl | rfl
        · exact ⟨h, ha⟩
        · exact hof _ c1
        · exact hof _ c2
      · exact hone k hk1 hk2
    · split at hk2
      · rename_i hc
        rw [Bool.and_eq_true, Bool.and_eq_true, Bool.and_eq_true] at hc
        have c1 := cont_high hc.1.1.2
        have c2 := cont_high hc.1.2
        have c3 := cont_high hc.2
        split at hk2
        · simp only at hk2
          have : k = pos ∨ k = pos + 1 ∨ k = pos + 2 ∨ k = pos + 3 := by omega
          rcases this with rfl | rfl | rfl | rfl
          · exact ⟨h, ha⟩
          · exact hof _ c1
          · exact hof _ c2
          · exact hof _ c3
        · exact hone k hk1 hk2
      · exact hone k hk1 hk2
end Go.Proofs.YtboncolbijicfaaGreatDoor.DecM
