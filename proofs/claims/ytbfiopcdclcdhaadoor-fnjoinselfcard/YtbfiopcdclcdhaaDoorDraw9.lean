/- A text of an address is drawn: at most 60 bytes, all ASCII. -/
import Derived.Test.YtbfiopcdclcdhaaDoorDraw8
namespace Go.Proofs.YtbfiopcdclcdhaaDoor.Dr
open Go.RowKit Go.Proofs.YtbfiopcdclcdhaaDoor.St Go.Proofs.YtbfiopcdclcdhaaDoor.AddrM Go.Proofs.YtbfiopcdclcdhaaDoor.EscL Go.Proofs.YtbfiopcdclcdhaaDoor.Ad1

set_option maxRecDepth 100000 in
set_option maxHeartbeats 3200000 in
/-- A TEXT OF AN ADDRESS IS DRAWN. -/
theorem drawRead_any (a0 : Option Addr) (len cap : Nat) (zs : List Int) (w : World) (h : IsRow .u8 w a0 len cap zs) :
    Calls Tryd.prog 20 #[.slice a0 len cap] w fun e w' => ∃ s, e = .returned (.string s) ∧ s.size ≤ 60 ∧ asciiB s = true ∧ Below w.heap.size w w' := by
  go_enter Tryd.func20, Tryd.ntmps20
  go_wp2_with fail
  refine (open_any a0 len cap zs w h).mono ?_
  rintro e w1 ⟨rfl, hr1, hb1⟩
  go_wp2_with fail
  refine (pick_any _ _ _ 3 _ hr1 (by omega) (by omega) (by omega)).mono ?_
  rintro e w2 ⟨x, rfl, hx, hr2, hg2⟩
  have hb2 := hb1.trans (grown_below hg2 hb1.size (Nat.le_refl _))
  have HB2 : Hid _ := hb2
  clear hb1 hg2 hb2 hr1
  by_cases hx0 : x = 0
  · subst hx0
    go_wp2_with fail
    refine (ref_any _ _ _ _ hr2 (by omega)).mono ?_
    rintro e w3 ⟨s, rfl, hs, ha, hr3, hg3⟩
    have HA : Hid _ := ha
    clear ha
    go_wp2
    go_ret
    exact ⟨s, rfl, hs, HA.out, HB2.out.trans (grown_below hg3 HB2.out.size (Nat.le_refl _))⟩
  · have hx1 : ((x : Int) == 0) = false := by simp; omega
    go_wp2_with fail
    refine (of_new _ _ _ 6 _ (fun s => decide (s.size ≤ 3) && asciiB s) w2 hr2 (by omega) (by decide) (by decide) (by decide) (by decide)).mono ?_
    rintro e w3 ⟨t, rfl, ht, hr3, hg3⟩
    simp only [Bool.and_eq_true, decide_eq_true_eq] at ht
    have HT : Hid _ := ht
    have hts := ht.1
    have HB3 : Hid (Below w.heap.size w w3) := HB2.out.trans (grown_below hg3 HB2.out.size (Nat.le_refl _))
    clear ht hg3
    go_wp2_with fail
    refine (pick_any _ _ _ 5 _ hr3 (by omega) (by omega) (by omega)).mono ?_
    rintro e w4 ⟨n0, rfl, hn0, hr4, hg4⟩
    have HB4 : Hid (Below w.heap.size w w4) := HB3.out.trans (grown_below hg4 HB3.out.size (Nat.le_refl _))
    have HR4 : Hid (IsRd w.heap.size w4 w.heap.size 3) := hr4
    have hs0 : ((⟨#[47, 47]⟩ : ByteArray) ++ t).size ≤ 5 := by
      rw [ByteArray.size_append]
      have : (⟨#[47, 47]⟩ : ByteArray).size = 2 := rfl
      omega
    have HA0 : Hid (asciiB ((⟨#[47, 47]⟩ : ByteArray) ++ t) = true) := asciiB_app (by decide) HT.out.2
    clear hg4 hr4 hr3 hr2
    go_wp2
    go_loopw [4, 5] (fun v i wr => ∃ (k : Nat) (s : ByteArray), k ≤ 4 ∧ i = .int .i64 k ∧ v = .string s ∧ s.size ≤ 5 + (4 - k) * 4 ∧ Hid (asciiB s = true) ∧ Hid (IsRd w.heap.size wr w.heap.size (3 + (4 - k))) ∧ Hid (Below w.heap.size w wr))
      (fun _ i _ => (intOf i).toNat)
    case atStart => exact ⟨n0, _, by omega, rfl, rfl, by omega, HA0, HR4.out.mono (by omega), HB4⟩
    case round =>
      obtain ⟨k, s, hk, rfl, rfl, hs, HA, HR, HB⟩ := hrel
      by_cases hlt : 0 < k
      · go_wp2_with fail
        refine (partA_any _ _ _ _ HR.out (by omega)).mono ?_
        rintro e w5 ⟨p, rfl, hp, hpa, hr5, hg5⟩
        have HP : Hid _ := hpa
        have HR5 : Hid (IsRd w.heap.size w5 w.heap.size (3 + (4 - k) + 1)) := hr5
        have HB5 : Hid (Below w.heap.size w w5) := HB.out.trans (grown_below hg5 HB.out.size (Nat.le_refl _))
        clear hpa hr5 hg5
        go_wp2
        go_roundw
        case rel =>
          refine ⟨k - 1, _, by omega, by go_num, rfl, ?_, asciiB_app (asciiB_app HA.out (by decide)) HP.out, HR5.out.mono (by omega), HB5⟩
          rw [ByteArray.size_append, ByteArray.size_append]
          have : (⟨#[47]⟩ : ByteArray).size = 1 := rfl
          omega
        case measure => simp [intOf]; omega
      · go_wp2_with fail
        refine (of_new _ _ _ 8 _ (fun s => decide (s.size ≤ 6) && asciiB s) wr HR.out (by omega) (by decide) (by decide) (by decide) (by decide)).mono ?_
        rintro e w5 ⟨p, rfl, hp, hr5, hg5⟩
        simp only [Bool.and_eq_true, decide_eq_true_eq] at hp
        have HP : Hid _ := hp
        have hps := hp.1
        have HB5 : Hid (Below w.heap.size w w5) := HB.out.trans (grown_below hg5 HB.out.size (Nat.le_refl _))
        clear hp hr5 hg5
        go_wp2
        go_ret
        refine ⟨_, rfl, ?_, asciiB_app HA.out HP.out.2, HB5.out⟩
        rw [ByteArray.size_append]
        omega
end Go.Proofs.YtbfiopcdclcdhaaDoor.Dr
