/- A pattern is drawn. -/
import Derived.Test.YthpliaihaboaeaaDraw2
namespace Go.Proofs.Ythpliaihaboaeaa.Dr
open Go.RowKit

set_option maxHeartbeats 800000 in
theorem rule_any (B r q : Nat) (w : World) (h : IsRd B w r q) (hq : q ≤ 10000) :
    Calls Try.prog 10 #[.pointer (some ⟨r, 0, none⟩)] w fun e w' => ∃ s, e = .returned (.string s) ∧ s.size ≤ 16 ∧ IsRd B w' r (q + 1) ∧ w.grownBy w' (some r) := by
  go_enter Try.func10, Try.ntmps10
  have hle := h.le
  go_wp2_with fail
  refine (of_lit B r _ w.heap.size 14 _ _ (fun s => decide (s.size ≤ 16)) _ (h.alloc _) (by omega) (by omega) (heap_new _ _) rfl (by decide) (by decide) (by decide)).mono ?_
  rintro e w2 ⟨t, rfl, ht, hr2, hg2⟩
  have ht' : t.size ≤ 16 := of_decide_eq_true ht
  clear ht hle
  go_wp2
  go_ret
  exact ⟨t, rfl, ht', hr2, grown_trans (grown_alloc _ _ _) hg2⟩

set_option maxRecDepth 100000 in
set_option maxHeartbeats 800000 in
theorem drawRuleOk_any (a0 : Option Addr) (len cap : Nat) (zs : List Int) (w : World) (h : IsRow .u8 w a0 len cap zs) :
    Calls Try.prog 5 #[.slice a0 len cap] w fun e w' => ∃ s, e = .returned (.string s) ∧ s.size ≤ 100 ∧ Below w.heap.size w w' := by
  go_enter Try.func5, Try.ntmps5
  go_wp2_with fail
  refine (open_any a0 len cap zs w h).mono ?_
  rintro e w1 ⟨rfl, hr1, hb1⟩
  go_wp2_with fail
  refine (pick_any _ _ _ 2 _ hr1 (by omega) (by omega) (by omega)).mono ?_
  rintro e w2 ⟨x, rfl, hx, hr2, hg2⟩
  by_cases hx0 : x = 0
  · subst hx0
    go_wp2_with fail
    refine (rule_any _ _ _ _ hr2 (by omega)).mono ?_
    rintro e w3 ⟨s, rfl, hs, hr3, hg3⟩
    go_wp2
    go_ret
    exact ⟨s, rfl, by omega, hb1.trans ((grown_below hg2 hb1.size (Nat.le_refl _)).trans (grown_below hg3 (Nat.le_trans hb1.size hg2.size) (Nat.le_refl _)))⟩
  · have hx1 : ((x : Int) == 0) = false := by simp; omega
    have hle := hr2.le
    go_wp2_with fail
    refine (of_lit _ _ _ w2.heap.size 10 _ _ (fun s => decide (s.size ≤ 30)) _ (hr2.alloc _) (by omega) (by omega) (heap_new _ _) rfl (by decide) (by decide) (by decide)).mono ?_
    rintro e w3 ⟨t, rfl, ht, hr3, hg3⟩
    have ht' : t.size ≤ 30 := of_decide_eq_true ht
    have hle3 := hr3.le
    clear ht
    go_wp2_with fail
    refine (of_lit _ _ _ w3.heap.size 5 _ _ (fun s => decide (s.size ≤ 30)) _ (hr3.alloc _) (by omega) (by omega) (heap_new _ _) rfl (by decide) (by decide) (by decide)).mono ?_
    rintro e w4 ⟨u, rfl, hu, hr4, hg4⟩
    have hu' : u.size ≤ 30 := of_decide_eq_true hu
    clear hu
    go_wp2
    go_ret
    refine ⟨_, rfl, by rw [ByteArray.size_append]; omega, ?_⟩
    have b2 := hb1.trans (grown_below hg2 hb1.size (Nat.le_refl _))
    have b3 := b2.trans (grown_below (grown_trans (grown_alloc _ _ _) hg3) b2.size (Nat.le_refl _))
    exact b3.trans (grown_below (grown_trans (grown_alloc _ _ _) hg4) b3.size (Nat.le_refl _))
end Go.Proofs.Ythpliaihaboaeaa.Dr
