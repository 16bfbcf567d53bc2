/- FnExactWorldGet: the walk. -/
import Derived.Test.YtboncolbijicfaaDoorRows
import Derived.WalkKit
import Derived.ProofKit
import Derived.OpenShut
import Derived.ShutString
import Derived.ChangeOld
import Derived.Below
import Derived.Test.YtboncolbijicfaaDoorCards
import Derived.Test.YtboncolbijicfaaDoorWd1Pk
import Derived.Test.YtboncolbijicfaaDoorExPg
import Derived.Test.YtboncolbijicfaaDoorOpenPg
import Derived.Shelf.Vars
import Derived.Lay
import Derived.LaidOnce
import Derived.SevenTiedAt
namespace Go.Proofs.YtboncolbijicfaaDoor.fnExactWorldGet
open Go.ChangeShapes Go.WideShapes Go.ChangeAt Go.RowKit
open Go.ChangeMaps (open_string shut_string)
set_option linter.unusedVariables false
open Go.Proofs.YtboncolbijicfaaDoor.EscL Go.Proofs.YtboncolbijicfaaDoor.EscM Go.Proofs.YtboncolbijicfaaDoor.St Go.Proofs.YtboncolbijicfaaDoor.RR Go.Proofs.YtboncolbijicfaaDoor.RoPg Go.Proofs.YtboncolbijicfaaDoor.ExPg Go.Proofs.YtboncolbijicfaaDoor.WdM Go.Proofs.YtboncolbijicfaaDoor.Wd

theorem mx_of {w : World} (h : w.ShapedOpen Tryd.prog) : Im.Mx w :=
  cell_of_shapedOpen_int (g := 0) (t := 3) (zero := #[.int .i64 0]) (k := .i64) h (of_decide_eq_true (by kernel_rfl)) (by kernel_rfl) rfl (by kernel_rfl) (by kernel_rfl) Tryd.underlying3

set_option maxRecDepth 100000 in
set_option maxHeartbeats 3200000 in
theorem walk (a0 : Option Addr) (cap : Nat) (L : List Pg) (a : ByteArray) (t : Int) (w : World) (hI : IsRows FPg w a0 cap L) (hs : ∀ g ∈ L, PgIn g) (w1 : a.size ≤ maxLen) (_ : (Lit.int .i64 t).wf = true) (hL : laidMetH Tryd.prog Rows.fnExactWorldGetRow.laid w) (hsh : w.ShapedOpen Tryd.prog) :
    Calls Tryd.prog 4 #[.slice a0 L.length cap, .string a, .int .i64 t] w fun e w' => e = .returned (.bool true) ∧ Below w.heap.size w w' := by
  have HM : Hid (Im.Mx w) := mx_of hsh
  have HI : Hid (IsRows FPg w a0 cap L) := hI
  have HIn : Hid (∀ g ∈ L, PgIn g) := hs
  clear hsh hL hI hs
  unfold maxLen at w1
  by_cases hlong : 1048576 < a.size
  · go_enter Tryd.func4, Tryd.ntmps4
    go_wp2
    go_ret
    exact ⟨rfl, Below.refl _ _⟩
  go_enter Tryd.func4, Tryd.ntmps4
  go_wp2_with fail
  refine (szPgS_any a0 cap L 1048576 _ HI.out HIn.out (by decide)).mono ?_
  rintro e w1 ⟨⟨x, rfl, hx⟩, hb1⟩
  have HB1 : Hid (Below w.heap.size w w1) := hb1
  clear hb1
  rcases hx with hx | ⟨hx0, _, hxl, hxs⟩
  · go_wp2
    go_ret
    exact ⟨rfl, HB1.out⟩
  have HSz : Hid (PgSz L) := fun g hg => by obtain ⟨e1, e2, e3⟩ := hxs g hg; omega
  have HAs : Hid (PgAs L) := fun _ _ => ⟨trivial, trivial⟩
  clear hxs
  go_wp2_with fail
  refine (toPgS_any a0 cap L _ (HI.out.below HB1.out) hxl).mono ?_
  rintro e w2 ⟨rfl, hO2, hb2⟩
  have HO2 : Hid (IsRows FPg w2 (some ⟨w1.heap.size, 0, none⟩) L.length L) := hO2.rowsOf
  have HB2 : Hid (Below w.heap.size w w2) := HB1.out.trans (hb2.mono HB1.out.size)
  clear hO2 hb2
  go_wp2_with fail
  refine (specGet_any _ _ L a t _ HO2.out HSz.out).mono ?_
  rintro e w3 ⟨rfl, hb3⟩
  have HB3 : Hid (Below w.heap.size w w3) := HB2.out.trans (hb3.mono HB2.out.size)
  clear hb3 HO2
  -- x0
  go_wp2_with fail
  refine (toPgS_any a0 cap L _ (HI.out.below HB3.out) hxl).mono ?_
  rintro e w4 ⟨rfl, hO4, hb4⟩
  have HO4 : Hid (IsRows FPg w4 (some ⟨w3.heap.size, 0, none⟩) L.length L) := hO4.rowsOf
  have HB4 : Hid (Below w.heap.size w w4) := HB3.out.trans (hb4.mono HB3.out.size)
  clear hO4 hb4
  go_wp2_with fail
  refine (implGet_any _ _ L a t _ (HM.out.below HB4.out) HO4.out HSz.out HAs.out).mono ?_
  rintro e w5 ⟨rfl, hb5⟩
  have HB5 : Hid (Below w.heap.size w w5) := HB4.out.trans (hb5.mono HB4.out.size)
  have HO5 : Hid (IsRows FPg w5 (some ⟨w3.heap.size, 0, none⟩) L.length L) := IsRows.below HO4.out hb5
  clear hb5 HO4
  go_wp2_with fail
  refine (toPgS_any a0 cap L _ (HI.out.below HB5.out) hxl).mono ?_
  rintro e w6 ⟨rfl, hO6, hb6⟩
  have HO6 : Hid (IsRows FPg w6 (some ⟨w5.heap.size, 0, none⟩) L.length L) := hO6.rowsOf
  have HP6 : Hid (IsRows FPg w6 (some ⟨w3.heap.size, 0, none⟩) L.length L) := IsRows.below HO5.out hb6
  have HB6 : Hid (Below w.heap.size w w6) := HB5.out.trans (hb6.mono HB5.out.size)
  clear hO6 hb6 HO5
  go_wp2_with fail
  refine (eqPgS_any _ _ _ _ L _ HP6.out HO6.out (by omega)).mono ?_
  rintro e w7 ⟨rfl, hb7⟩
  have HB7 : Hid (Below w.heap.size w w7) := HB6.out.trans (hb7.mono HB6.out.size)
  clear hb7
  go_wp2
  go_ret
  exact ⟨rfl, HB7.out⟩
end Go.Proofs.YtboncolbijicfaaDoor.fnExactWorldGet
