/- What the laws over patterns share. -/
import Derived.Test.YtcdbdhdaegmnjaaDoorHas2
import Derived.Test.YtcdbdhdaegmnjaaDoorHas4
import Derived.Shelf.Vars
namespace Go.Proofs.YtcdbdhdaegmnjaaDoor.Ha
open Go.RowKit Go.Proofs.YtcdbdhdaegmnjaaDoor.EscM Go.Proofs.YtcdbdhdaegmnjaaDoor.EscL Go.Proofs.YtcdbdhdaegmnjaaDoor.RuleM Go.Proofs.YtcdbdhdaegmnjaaDoor.Ru1 Go.Proofs.YtcdbdhdaegmnjaaDoor.ReadM Go.Proofs.YtcdbdhdaegmnjaaDoor.HasM Go.Proofs.YtcdbdhdaegmnjaaDoor.St Go.Proofs.YtcdbdhdaegmnjaaDoor.Rd1
theorem mx_of {w : World} (h : w.ShapedOpen Tryd.prog) : Mx w :=
  cell_of_shapedOpen_int (g := 0) (t := 3) (zero := #[.int .i64 0]) (k := .i64) h (of_decide_eq_true (by kernel_rfl)) (by kernel_rfl) rfl (by kernel_rfl) (by kernel_rfl) Tryd.underlying3

end Go.Proofs.YtcdbdhdaegmnjaaDoor.Ha
