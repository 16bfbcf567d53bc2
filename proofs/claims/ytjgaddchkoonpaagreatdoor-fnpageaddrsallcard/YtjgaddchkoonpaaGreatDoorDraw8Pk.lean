/- Several texts in one: Draw8, Draw9. -/
import Derived.Test.YtjgaddchkoonpaaGreatDoorDraw5Pk
import Derived.Test.YtjgaddchkoonpaaGreatDoorReadBack
/- What is written of an address is drawn: at most 60 bytes, all ASCII. -/
namespace Go.Proofs.YtjgaddchkoonpaaGreatDoor.Dr
open Go.RowKit Go.Proofs.YtjgaddchkoonpaaGreatDoor.St Go.Proofs.YtjgaddchkoonpaaGreatDoor.AddrM Go.Proofs.YtjgaddchkoonpaaGreatDoor.EscL Go.Proofs.YtjgaddchkoonpaaGreatDoor.Ad1

def asciiB (s : ByteArray) : Bool := s.data.toList.all fun b => decide (b.toNat < 128)
theorem asciiB_app {a b : ByteArray} (ha : asciiB a = true) (hb : asciiB b = true) : asciiB (a ++ b) = true := by
  unfold asciiB at *
  rw [data_append, List.all_append, ha, hb]; rfl
theorem asciiB_text (A : Ad) : asciiB (textF A) = true := by
  unfold asciiB
  rw [List.all_eq_true]
  intro b hb
  cases h : okB A with
  | false =>
    have e2 : textF A = ⟨#[]⟩ := by unfold textF; rw [h]; rfl
    rw [e2] at hb; cases hb
  | true =>
    have e2 : textF A = textS A := by unfold textF; rw [h]; rfl
    rw [e2] at hb
    exact decide_eq_true (RB.text_bytes h b (by simpa [textS] using hb)).2
def fine (s : ByteArray) : Bool := decide (s.size ≤ 20) && asciiB s
theorem fine_parts {s : ByteArray} (h : fine s = true) : s.size ≤ 20 ∧ asciiB s = true := by
  unfold fine at h
  simp only [Bool.and_eq_true, decide_eq_true_eq] at h
  exact h

set_option maxRecDepth 100000 in
set_option maxHeartbeats 3200000 in
theorem ref_any (B r q : Nat) (w : World) (h : IsRd B w r q) (hq : q ≤ 9000) :
    Calls Tryz.prog 42 #[.pointer (some ⟨r, 0, none⟩)] w fun e w' => ∃ s, e = .returned (.string s) ∧ s.size ≤ 60 ∧ asciiB s = true ∧ IsRd B w' r (q + 7) ∧ w.grownBy w' (some r) := by
  have HR0 : Hid (IsRd B w r q) := h
  clear h
  go_enter Tryz.func42, Tryz.ntmps42
  go_wp2_with fail
  refine (pick_any B r q 8 _ HR0.out (by omega) (by omega) (by omega)).mono ?_
  rintro e w1 ⟨y, rfl, hy, hr1, hg1⟩
  have HR1 : Hid (IsRd B w1 r (q + 1)) := hr1
  have HG1 : Hid (w.grownBy w1 (some r)) := hg1
  clear hr1 hg1
  by_cases h0 : y = 0
  · subst h0
    go_wp2_with fail
    refine (addr_any B r (q + 1) _ HR1.out (by omega)).mono ?_
    rintro e w2 ⟨s, rfl, hs, hr2, hg2, A, hA⟩
    have HA : Hid (asciiB s = true) := by show _ = _; rw [hA]; exact asciiB_text A
    clear hA
    go_wp2
    go_ret
    exact ⟨s, rfl, hs, HA.out, hr2.mono (by omega), grown_trans HG1.out hg2⟩
  have e0 : ((y : Int) == 0) = false := by simp; omega
  by_cases h1 : y = 1
  · subst h1
    go_wp2_with fail
    refine (addr_any B r (q + 1) _ HR1.out (by omega)).mono ?_
    rintro e w2 ⟨s, rfl, hs, hr2, hg2, A, hA⟩
    have HA : Hid (asciiB s = true) := by show _ = _; rw [hA]; exact asciiB_text A
    clear hA
    go_wp2
    go_ret
    exact ⟨s, rfl, hs, HA.out, hr2.mono (by omega), grown_trans HG1.out hg2⟩
  have e1 : ((y : Int) == 1) = false := by simp; omega
  by_cases h2 : y = 2
  · subst h2
    go_wp2_with fail
    refine (of_new B r (q + 1) 6 _ fine w1 HR1.out (by omega) (by decide) (by decide) (by decide) (by decide)).mono ?_
    rintro e w2 ⟨t, rfl, ht, hr2, hg2⟩
    have HT : Hid _ := fine_parts ht
    have hts := (fine_parts ht).1
    clear ht
    go_wp2
    go_ret
    refine ⟨_, rfl, ?_, asciiB_app (by decide) HT.out.2, hr2.mono (by omega), grown_trans HG1.out hg2⟩
    rw [ByteArray.size_append]
    have : (⟨#[47]⟩ : ByteArray).size = 1 := rfl
    omega
  have e2 : ((y : Int) == 2) = false := by simp; omega
  by_cases h3 : y = 3
  · subst h3
    go_wp2_with fail
    refine (of_new B r (q + 1) 5 _ fine w1 HR1.out (by omega) (by decide) (by decide) (by decide) (by decide)).mono ?_
    rintro e w2 ⟨t, rfl, ht, hr2, hg2⟩
    have HT : Hid _ := fine_parts ht
    clear ht
    go_wp2
    go_ret
    exact ⟨_, rfl, Nat.le_trans HT.out.1 (by decide), HT.out.2, hr2.mono (by omega), grown_trans HG1.out hg2⟩
  have e3 : ((y : Int) == 3) = false := by simp; omega
  by_cases h4 : y = 4
  · subst h4
    go_wp2_with fail
    refine (of_new B r (q + 1) 6 _ fine w1 HR1.out (by omega) (by decide) (by decide) (by decide) (by decide)).mono ?_
    rintro e w2 ⟨t, rfl, ht, hr2, hg2⟩
    have HT : Hid _ := fine_parts ht
    clear ht
    go_wp2
    go_ret
    exact ⟨_, rfl, Nat.le_trans HT.out.1 (by decide), HT.out.2, hr2.mono (by omega), grown_trans HG1.out hg2⟩
  have e4 : ((y : Int) == 4) = false := by simp; omega
  by_cases h5 : y = 5
  · subst h5
    go_wp2_with fail
    refine (of_new B r (q + 1) 7 _ fine w1 HR1.out (by omega) (by decide) (by decide) (by decide) (by decide)).mono ?_
    rintro e w2 ⟨t, rfl, ht, hr2, hg2⟩
    have HT : Hid _ := fine_parts ht
    clear ht
    go_wp2
    go_ret
    exact ⟨_, rfl, Nat.le_trans HT.out.1 (by decide), HT.out.2, hr2.mono (by omega), grown_trans HG1.out hg2⟩
  · have e5 : ((y : Int) == 5) = false := by simp; omega
    go_wp2_with fail
    refine (of_new B r (q + 1) 4 _ fine w1 HR1.out (by omega) (by decide) (by decide) (by decide) (by decide)).mono ?_
    rintro e w2 ⟨t, rfl, ht, hr2, hg2⟩
    have HT : Hid _ := fine_parts ht
    clear ht
    go_wp2
    go_ret
    exact ⟨_, rfl, Nat.le_trans HT.out.1 (by decide), HT.out.2, hr2.mono (by omega), grown_trans HG1.out hg2⟩
end Go.Proofs.YtjgaddchkoonpaaGreatDoor.Dr
/- A text of an address is drawn: at most 60 bytes, all ASCII. -/
namespace Go.Proofs.YtjgaddchkoonpaaGreatDoor.Dr
open Go.RowKit Go.Proofs.YtjgaddchkoonpaaGreatDoor.St Go.Proofs.YtjgaddchkoonpaaGreatDoor.AddrM Go.Proofs.YtjgaddchkoonpaaGreatDoor.EscL Go.Proofs.YtjgaddchkoonpaaGreatDoor.Ad1

end Go.Proofs.YtjgaddchkoonpaaGreatDoor.Dr
