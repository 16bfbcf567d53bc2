/- FnWorldGetOn: the walk. -/
import Derived.Test.YtcohaalgefcjnaaGreatDoorRows
import Derived.WalkKit
import Derived.ProofKit
import Derived.OpenShut
import Derived.ShutString
import Derived.ChangeOld
import Derived.Below
import Derived.Test.YtcohaalgefcjnaaGreatDoorCards
import Derived.Test.YtcohaalgefcjnaaGreatDoorDrawWPk
import Derived.Test.YtcohaalgefcjnaaGreatDoorWd1Pk
import Derived.Shelf.Vars
import Derived.Lay
import Derived.LaidOnce
import Derived.SevenTiedAt
namespace Go.Proofs.YtcohaalgefcjnaaGreatDoor.fnWorldGetOn
open Go.ChangeShapes Go.WideShapes Go.ChangeAt Go.RowKit
open Go.ChangeMaps (open_string shut_string)
set_option linter.unusedVariables false
open Go.Proofs.YtcohaalgefcjnaaGreatDoor.EscL Go.Proofs.YtcohaalgefcjnaaGreatDoor.EscM Go.Proofs.YtcohaalgefcjnaaGreatDoor.St Go.Proofs.YtcohaalgefcjnaaGreatDoor.RR Go.Proofs.YtcohaalgefcjnaaGreatDoor.RoPg Go.Proofs.YtcohaalgefcjnaaGreatDoor.WdM Go.Proofs.YtcohaalgefcjnaaGreatDoor.Wd Go.Proofs.YtcohaalgefcjnaaGreatDoor.Dr

theorem mx_of {w : World} (h : w.ShapedOpen Tryz.prog) : Im.Mx w :=
  cell_of_shapedOpen_int (g := 0) (t := 3) (zero := #[.int .i64 0]) (k := .i64) h (of_decide_eq_true (by kernel_rfl)) (by kernel_rfl) rfl (by kernel_rfl) (by kernel_rfl) Tryz.underlying3

theorem bd_sz {L : List Pg} (h : PgsBd L) : PgSz L := fun p hp => by obtain ⟨h1, h2, h3, _⟩ := h p hp; omega
set_option maxRecDepth 100000 in
set_option maxHeartbeats 6400000 in
theorem walk (a0 : Option Addr) (len0 cap0 : Nat) (z0 : List Int) (b0 : Option Addr) (len1 cap1 : Nat) (z1 : List Int) (w : World) (w0 : Dr.IsRow .u8 w a0 len0 cap0 z0) (w1 : Dr.IsRow .u8 w b0 len1 cap1 z1) (hL : laidMetH Tryz.prog Rows.fnWorldGetOnRow.laid w) (hsh : w.ShapedOpen Tryz.prog) :
    Calls Tryz.prog 5 #[.slice a0 len0 cap0, .slice b0 len1 cap1] w fun e w' => e = .returned (.bool true) ∧ Below w.heap.size w w' := by
  have HM : Hid (Im.Mx w) := mx_of hsh
  clear hsh hL
  have hlm : len1 ≤ 9223372036854775807 := by
    rcases w1 with ⟨_, h, _⟩ | ⟨_, _, h1, h2, _⟩
    · omega
    · unfold maxLen at h2; omega
  clear w1
  by_cases hlong : (1048576 : Int) < len0
  · go_enter Tryz.func5, Tryz.ntmps5
    go_wp2
    go_ret
    exact ⟨rfl, Below.refl _ _⟩
  by_cases hlong1 : (1048576 : Int) < len1
  · go_enter Tryz.func5, Tryz.ntmps5
    go_wp2
    go_ret
    exact ⟨rfl, Below.refl _ _⟩
  obtain ⟨m, hm, hm9⟩ : ∃ m : Nat, (len1 : Int).tmod 9 = (m : Int) ∧ m ≤ 8 := ⟨len1 % 9, by rw [Int.tmod_eq_emod_of_nonneg (by omega)]; omega, by omega⟩
  go_enter Tryz.func5, Tryz.ntmps5
  go_wp2_with fail
  refine (drawGet_any a0 len0 cap0 z0 w w0).mono ?_
  rintro e w1' ⟨L, a1, c1, s, t, rfl, hI, hl, hL, hs, ht1, ht4, hb1⟩
  obtain ⟨w1, hww⟩ : ∃ x, x = w1' := ⟨_, rfl⟩
  subst hww
  have HI1 : Hid (IsRows FPg w1 a1 c1 L) := hI
  have HL : Hid (PgSz L) := bd_sz hL
  have HA : Hid (PgAs L) := fun _ _ => ⟨trivial, trivial⟩
  have HB1 : Hid (Below w.heap.size w w1) := hb1
  clear hI hL hb1 w0
  have HGF : Hid (getF L s t = if wOk L && decide (0 ≤ t) then kindF L s t else (0, ⟨#[]⟩)) := rfl
  have HKF : Hid (kindF L s t = match L.find? (sameA s) with
    | none => (0, ⟨#[]⟩)
    | some p => if t < p.fails then (3, ⟨#[]⟩) else if p.lead.toList.isEmpty then (1, p.text) else (2, p.lead)) := rfl
  go_wp2_with fail
  refine (specGet_any a1 c1 L s t _ HI1.out HL.out).mono ?_
  rintro e w2 ⟨rfl, hb2⟩
  have HB2 : Hid (Below w.heap.size w w2) := HB1.out.trans (hb2.mono HB1.out.size)
  have HI2 : Hid (IsRows FPg w2 a1 c1 L) := HI1.out.below hb2
  clear hb2 HI1 HB1
  go_wp2_with fail
  refine (implGet_any a1 c1 L s t _ (HM.out.below HB2.out) HI2.out HL.out HA.out).mono ?_
  rintro e w3 ⟨rfl, hb3⟩
  have HB3 : Hid (Below w.heap.size w w3) := HB2.out.trans (hb3.mono HB2.out.size)
  have HI3 : Hid (IsRows FPg w3 a1 c1 L) := IsRows.below HI2.out hb3
  clear hb3 HI2 HB2
  generalize getF L s t = R at *
  go_wp2_with fail
  refine (specWorldOk_any a1 c1 L _ HI3.out HL.out).mono ?_
  rintro e w4 ⟨rfl, hb4⟩
  have HB4 : Hid (Below w.heap.size w w4) := HB3.out.trans (hb4.mono HB3.out.size)
  have HI4 : Hid (IsRows FPg w4 a1 c1 L) := IsRows.below HI3.out hb4
  clear hb4 HI3 HB3
  cases hw : wOk L with
  | false =>
    clear hw
    go_wp2
    go_ret
    exact ⟨rfl, HB4.out⟩
  | true =>
  by_cases ht : t < 0
  · clear hw
    go_wp2
    go_ret
    exact ⟨rfl, HB4.out⟩
  have HR : Hid (R = kindF L s t) := by show _ = _; rw [HGF.out, hw, decide_eq_true (show 0 ≤ t by omega)]; rfl
  by_cases hk3 : R.1 = 3
  · have hk3b : (R.1 == 3) = true := by simp [hk3]
    clear hw HGF HKF
    go_wp2
    go_ret
    exact ⟨rfl, HB4.out⟩
  have hk3b : (R.1 == 3) = false := by simp [hk3]
  have HON : Hid (getF L s (t + (m : Int)) = R) := by
    show _ = _
    unfold getF
    rw [hw, decide_eq_true (show 0 ≤ t + (m : Int) by omega), HR.out]
    show kindF L s (t + (m : Int)) = kindF L s t
    have h3 := hk3
    rw [HR.out] at h3
    unfold kindF at h3 ⊢
    cases hf : L.find? (sameA s) with
    | none => rfl
    | some p =>
      rw [hf] at h3
      dsimp only at h3 ⊢
      by_cases h1 : t < p.fails
      · rw [if_pos h1] at h3; exact absurd rfl h3
      · rw [if_neg h1, if_neg (show ¬ t + (m : Int) < p.fails by omega)]
  have haw : IntKind.i64.wrap (t + (m : Int)) = t + (m : Int) := IntWalk.i64_in _ (by omega)
  clear hw HGF HKF HR
  go_wp2_with fail
  refine (implGet_any a1 c1 L s (t + (m : Int)) _ (HM.out.below HB4.out) HI4.out HL.out HA.out).mono ?_
  rintro e w5 ⟨rfl, hb5⟩
  have HB5 : Hid (Below w.heap.size w w5) := HB4.out.trans (hb5.mono HB4.out.size)
  rw [HON.out]
  clear hb5
  go_wp2
  go_ret
  exact ⟨rfl, HB5.out⟩

end Go.Proofs.YtcohaalgefcjnaaGreatDoor.fnWorldGetOn
