/- A pattern is drawn. -/
import Derived.Test.YtcohaalgefcjnaaGreatDoorDraw1Pk
namespace Go.Proofs.YtcohaalgefcjnaaGreatDoor.Dr
open Go.RowKit

set_option maxRecDepth 100000 in
set_option maxHeartbeats 800000 in
theorem rule_any (B r q : Nat) (w : World) (h : IsRd B w r q) (hq : q ≤ 10000) :
    Calls Tryz.prog 158 #[.pointer (some ⟨r, 0, none⟩)] w fun e w' => ∃ s, e = .returned (.string s) ∧ s.size ≤ 16 ∧ IsRd B w' r (q + 1) ∧ w.grownBy w' (some r) := by
  go_enter Tryz.func158, Tryz.ntmps158
  have hle := h.le
  go_wp2_with fail
  refine (of_lit B r _ w.heap.size 14 _ _ (fun s => decide (s.size ≤ 16)) _ (h.alloc _) (by omega) (by omega) (heap_new _ _) rfl (by decide) (by decide) (by decide)).mono ?_
  rintro e w2 ⟨t, rfl, ht, hr2, hg2⟩
  have ht' : t.size ≤ 16 := of_decide_eq_true ht
  clear ht hle
  go_wp2
  go_ret
  exact ⟨t, rfl, ht', hr2, grown_trans (grown_alloc _ _ _) hg2⟩

end Go.Proofs.YtcohaalgefcjnaaGreatDoor.Dr
