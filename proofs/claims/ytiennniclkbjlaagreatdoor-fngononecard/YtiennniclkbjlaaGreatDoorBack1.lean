/- TripBack of the program and of the model: 2, 4, 8 of 1, 2, 3, else 0. -/
import Derived.Test.YtiennniclkbjlaaGreatDoorChecked
import Derived.WalkKit
import Derived.WalkLawsBesides
import Derived.WalkSpells
import Derived.Below
namespace Go.Proofs.YtiennniclkbjlaaGreatDoor.Bk
open Go.RowKit

def backI (n : Int) : Int := if n = 1 then 2 else if n = 2 then 4 else if n = 3 then 8 else 0

theorem backI_out {n : Int} (h : n < 1 ∨ 3 < n) : backI n = 0 := by
  unfold backI
  rw [if_neg (by omega), if_neg (by omega), if_neg (by omega)]

set_option maxRecDepth 100000 in
set_option maxHeartbeats 800000 in
theorem implBack_any (n : Int) (w : World) :
    Calls Tryz.prog 147 #[.int .i64 n] w fun e w' => e = .returned (.int .i64 (backI n)) ∧ w' = w := by
  by_cases h1 : n < 1
  · rw [backI_out (Or.inl h1)]
    go_enter Tryz.func147, Tryz.ntmps147
    go_wp2
    go_ret
    exact ⟨rfl, rfl⟩
  · by_cases h2 : 3 < n
    · rw [backI_out (Or.inr h2)]
      go_enter Tryz.func147, Tryz.ntmps147
      go_wp2
      go_ret
      exact ⟨rfl, rfl⟩
    · obtain rfl | rfl | rfl : n = 1 ∨ n = 2 ∨ n = 3 := by omega
      all_goals
        go_enter Tryz.func147, Tryz.ntmps147
        go_wp2
        go_ret
        exact ⟨rfl, rfl⟩

end Go.Proofs.YtiennniclkbjlaaGreatDoor.Bk
