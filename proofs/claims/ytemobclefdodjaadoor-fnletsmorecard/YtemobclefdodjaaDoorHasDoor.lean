/- What the laws over patterns share. -/
import Derived.Test.YtemobclefdodjaaDoorHas2
import Derived.Test.YtemobclefdodjaaDoorHas4
import Derived.Shelf.Vars
namespace Go.Proofs.YtemobclefdodjaaDoor.Ha
open Go.RowKit Go.Proofs.YtemobclefdodjaaDoor.EscM Go.Proofs.YtemobclefdodjaaDoor.EscL Go.Proofs.YtemobclefdodjaaDoor.RuleM Go.Proofs.YtemobclefdodjaaDoor.Ru1 Go.Proofs.YtemobclefdodjaaDoor.ReadM Go.Proofs.YtemobclefdodjaaDoor.HasM Go.Proofs.YtemobclefdodjaaDoor.St Go.Proofs.YtemobclefdodjaaDoor.Rd1
theorem mx_of {w : World} (h : w.ShapedOpen Tryd.prog) : Mx w :=
  cell_of_shapedOpen_int (g := 0) (t := 3) (zero := #[.int .i64 0]) (k := .i64) h (of_decide_eq_true (by kernel_rfl)) (by kernel_rfl) rfl (by kernel_rfl) (by kernel_rfl) Tryd.underlying3

theorem ends_any (p : ByteArray) (w : World) (hp : p.size ≤ 1000) :
    Calls Tryd.prog 17 #[.string p] w fun e w' => e = .returned (.bool (endsB p.data.toList)) ∧ ∃ n, w' = w.drewN n := by
  by_cases h0 : p.size = 0
  · have hpe : p.toList.isEmpty = true := by
      rw [ByteArray.toList_eq, List.isEmpty_iff]
      exact List.eq_nil_of_length_eq_zero (by rw [len_eq]; exact h0)
    have HE : Hid (endsB p.data.toList = false) := by
      have : p.data.toList = [] := List.eq_nil_of_length_eq_zero (by rw [len_eq]; exact h0)
      show _ = _
      rw [this]; rfl
    go_enter Tryd.func17, Tryd.ntmps17
    go_wp2
    go_ret
    exact ⟨ret_bool HE.out.symm, 0, rfl⟩
  · have hp1 : 0 < p.size := by omega
    have hpe : p.toList.isEmpty = false := by
      rw [ByteArray.toList_eq]
      cases hl : p.data.toList with
      | nil => exact absurd (by simpa using congrArg List.length hl) h0
      | cons a t => rfl
    have HE : Hid _ := HaS.last_ext p hp1
    have hi0 : (0 : Int) ≤ (p.size : Int) - 1 := by omega
    have hi1 : (p.size : Int) - 1 < (p.size : Int) := by omega
    have hi2 : ((p.size : Int) - 1).toNat = p.size - 1 := by omega
    go_enter Tryd.func17, Tryd.ntmps17
    go_wp2
    go_ret
    exact ⟨ret_bool HE.out, 0, rfl⟩
end Go.Proofs.YtemobclefdodjaaDoor.Ha
