/- A page's text is drawn: all ASCII, at most 600 bytes. -/
import Derived.Test.YtjgaddchkoonpaaGreatDoorDraw8Pk
namespace Go.Proofs.YtjgaddchkoonpaaGreatDoor.Dr
open Go.RowKit Go.Proofs.YtjgaddchkoonpaaGreatDoor.St Go.Proofs.YtjgaddchkoonpaaGreatDoor.AddrM Go.Proofs.YtjgaddchkoonpaaGreatDoor.EscL Go.Proofs.YtjgaddchkoonpaaGreatDoor.Ad1

theorem sz_app (a b : ByteArray) : (a ++ b).size = a.size + b.size := ByteArray.size_append

set_option maxRecDepth 100000 in
set_option maxHeartbeats 6400000 in
theorem page_any (B r q : Nat) (w : World) (h : IsRd B w r q) (hq : q ≤ 8000) :
    Calls Tryz.prog 16 #[.pointer (some ⟨r, 0, none⟩)] w fun e w' => ∃ s, e = .returned (.string s) ∧ s.size ≤ 600 ∧ asciiB s = true ∧ IsRd B w' r (q + 70) ∧ w.grownBy w' (some r) := by
  have HR0 : Hid (IsRd B w r q) := h
  clear h
  go_enter Tryz.func16, Tryz.ntmps16
  go_wp2_with fail
  refine (pick_any B r q 5 _ HR0.out (by omega) (by omega) (by omega)).mono ?_
  rintro e w1 ⟨x, rfl, hx, hr1, hg1⟩
  have HR1 : Hid (IsRd B w1 r (q + 1)) := hr1
  have HG1 : Hid (w.grownBy w1 (some r)) := hg1
  clear hr1 hg1
  go_wp2
  go_loopw [3, 4] (fun v i wr => ∃ (k : Nat) (s : ByteArray), k ≤ 4 ∧ i = .int .i64 k ∧ v = .string s ∧ s.size ≤ (4 - k) * 130 ∧ Hid (asciiB s = true) ∧ Hid (IsRd B wr r (q + 1 + (4 - k) * 16)) ∧ Hid (w.grownBy wr (some r)))
    (fun _ i _ => (intOf i).toNat)
  case atStart => exact ⟨x, ByteArray.empty, by omega, rfl, rfl, by simp, (by show asciiB _ = true; decide), HR1.out.mono (by omega), HG1⟩
  case round =>
    obtain ⟨k, s, hk, rfl, rfl, hs, HA, HR, HG⟩ := hrel
    by_cases hlt : 0 < k
    · go_wp2_with fail
      refine (pick_any B r _ 9 _ HR.out (by omega) (by omega) (by omega)).mono ?_
      rintro e w2 ⟨y, rfl, hy, hr2, hg2⟩
      have HR2 : Hid (IsRd B w2 r (q + 1 + (4 - k) * 16 + 1)) := hr2
      have HG2 : Hid (w.grownBy w2 (some r)) := grown_trans HG.out hg2
      clear hr2 hg2
      by_cases h0 : y = 0
      · subst h0
        go_wp2_with fail
        refine (ref_any B r _ _ HR2.out (by omega)).mono ?_
        rintro e w3 ⟨t, rfl, ht, hta, hr3, hg3⟩
        have HT : Hid (asciiB t = true) := hta
        have HR3 : Hid (IsRd B w3 r (q + 1 + (4 - k) * 16 + 1 + 7)) := hr3
        have HG3 : Hid (w.grownBy w3 (some r)) := grown_trans HG2.out hg3
        clear hta hr3 hg3
        go_wp2_with fail
        refine (ref_any B r _ _ HR3.out (by omega)).mono ?_
        rintro e w4 ⟨t2, rfl, ht2, hta2, hr4, hg4⟩
        have HT2 : Hid (asciiB t2 = true) := hta2
        have HR4 : Hid (IsRd B w4 r (q + 1 + (4 - k) * 16 + 1 + 7 + 7)) := hr4
        have HG4 : Hid (w.grownBy w4 (some r)) := grown_trans HG3.out hg4
        clear hta2 hr4 hg4
        go_wp2
        go_roundw
        case rel =>
          refine ⟨k - 1, _, by omega, by go_num, rfl, ?_, ?_, HR4.out.mono (by omega), HG4⟩
          · simp only [sz_app]
            have e1 : (⟨#[40]⟩ : ByteArray).size = 1 := rfl
            have e2 : (⟨#[60]⟩ : ByteArray).size = 1 := rfl
            have e3 : (⟨#[62, 41]⟩ : ByteArray).size = 2 := rfl
            omega
          · exact asciiB_app (asciiB_app (asciiB_app (asciiB_app (asciiB_app HA.out (by decide)) HT.out) (by decide)) HT2.out) (by decide)
        case measure => simp [intOf]; omega
      have n0 : ((y : Int) == 0) = false := by simp; omega
      by_cases h1 : y = 1
      · subst h1
        go_wp2_with fail
        refine (ref_any B r _ _ HR2.out (by omega)).mono ?_
        rintro e w3 ⟨t, rfl, ht, hta, hr3, hg3⟩
        have HT : Hid (asciiB t = true) := hta
        have HR3 : Hid (IsRd B w3 r (q + 1 + (4 - k) * 16 + 1 + 7)) := hr3
        have HG3 : Hid (w.grownBy w3 (some r)) := grown_trans HG2.out hg3
        clear hta hr3 hg3
        go_wp2
        go_roundw
        case rel =>
          refine ⟨k - 1, _, by omega, by go_num, rfl, ?_, ?_, HR3.out.mono (by omega), HG3⟩
          · simp only [sz_app]
            have e1 : (⟨#[60, 33]⟩ : ByteArray).size = 2 := rfl
            have e2 : (⟨#[62]⟩ : ByteArray).size = 1 := rfl
            omega
          · exact asciiB_app (asciiB_app (asciiB_app HA.out (by decide)) HT.out) (by decide)
        case measure => simp [intOf]; omega
      have n1 : ((y : Int) == 1) = false := by simp; omega
      by_cases h2 : y = 2
      · subst h2
        go_wp2_with fail
        refine (ref_any B r _ _ HR2.out (by omega)).mono ?_
        rintro e w3 ⟨t, rfl, ht, hta, hr3, hg3⟩
        have HT : Hid (asciiB t = true) := hta
        have HR3 : Hid (IsRd B w3 r (q + 1 + (4 - k) * 16 + 1 + 7)) := hr3
        have HG3 : Hid (w.grownBy w3 (some r)) := grown_trans HG2.out hg3
        clear hta hr3 hg3
        go_wp2
        go_roundw
        case rel =>
          refine ⟨k - 1, _, by omega, by go_num, rfl, ?_, ?_, HR3.out.mono (by omega), HG3⟩
          · simp only [sz_app]
            have e1 : (⟨#[60, 64]⟩ : ByteArray).size = 2 := rfl
            have e2 : (⟨#[62]⟩ : ByteArray).size = 1 := rfl
            omega
          · exact asciiB_app (asciiB_app (asciiB_app HA.out (by decide)) HT.out) (by decide)
        case measure => simp [intOf]; omega
      have n2 : ((y : Int) == 2) = false := by simp; omega
      by_cases h3 : y = 3
      · subst h3
        go_wp2_with fail
        refine (of_new B r _ 6 _ fine w2 HR2.out (by omega) (by decide) (by decide) (by decide) (by decide)).mono ?_
        rintro e w3 ⟨t, rfl, ht, hr3, hg3⟩
        have hts := (fine_parts ht).1
        have HT : Hid (asciiB t = true) := (fine_parts ht).2
        have HR3 : Hid (IsRd B w3 r (q + 1 + (4 - k) * 16 + 1 + 1)) := hr3
        have HG3 : Hid (w.grownBy w3 (some r)) := grown_trans HG2.out hg3
        clear ht hr3 hg3
        go_wp2
        go_roundw
        case rel =>
          refine ⟨k - 1, _, by omega, by go_num, rfl, ?_, asciiB_app HA.out HT.out, HR3.out.mono (by omega), HG3⟩
          simp only [sz_app]
          omega
        case measure => simp [intOf]; omega
      · have n3 : ((y : Int) == 3) = false := by simp; omega
        go_wp2_with fail
        refine (ref_any B r _ _ HR2.out (by omega)).mono ?_
        rintro e w3 ⟨t, rfl, ht, hta, hr3, hg3⟩
        have HT : Hid (asciiB t = true) := hta
        have HR3 : Hid (IsRd B w3 r (q + 1 + (4 - k) * 16 + 1 + 7)) := hr3
        have HG3 : Hid (w.grownBy w3 (some r)) := grown_trans HG2.out hg3
        clear hta hr3 hg3
        go_wp2
        go_roundw
        case rel =>
          refine ⟨k - 1, _, by omega, by go_num, rfl, ?_, ?_, HR3.out.mono (by omega), HG3⟩
          · simp only [sz_app]
            have e1 : (⟨#[60]⟩ : ByteArray).size = 1 := rfl
            have e2 : (⟨#[62]⟩ : ByteArray).size = 1 := rfl
            omega
          · exact asciiB_app (asciiB_app (asciiB_app HA.out (by decide)) HT.out) (by decide)
        case measure => simp [intOf]; omega
    · go_wp2
      go_ret
      exact ⟨s, rfl, by omega, HA.out, HR.out.mono (by omega), HG.out⟩

end Go.Proofs.YtjgaddchkoonpaaGreatDoor.Dr
