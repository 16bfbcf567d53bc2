/- FnReachOn: the walk. -/
import Derived.Test.YtmgcdfmgmpnonaaGreatDoorRows
import Derived.WalkKit
import Derived.ProofKit
import Derived.OpenShut
import Derived.ShutString
import Derived.ChangeOld
import Derived.Below
import Derived.Test.YtmgcdfmgmpnonaaGreatDoorCards
import Derived.Test.YtmgcdfmgmpnonaaGreatDoorReL
import Derived.Test.YtmgcdfmgmpnonaaGreatDoorEscLeafPk
import Derived.Deep.RegionHeldLaw
import Derived.Shelf.Vars
import Derived.Lay
import Derived.LaidOnce
import Derived.SevenTiedAt
namespace Go.Proofs.YtmgcdfmgmpnonaaGreatDoor.fnReachOn
open Go.ChangeShapes Go.WideShapes Go.ChangeAt Go.RowKit
open Go.ChangeMaps (open_string shut_string)
set_option linter.unusedVariables false
open Go.Proofs.YtmgcdfmgmpnonaaGreatDoor.AddrM Go.Proofs.YtmgcdfmgmpnonaaGreatDoor.Ad1 Go.Proofs.YtmgcdfmgmpnonaaGreatDoor.Rd1 Go.Proofs.YtmgcdfmgmpnonaaGreatDoor.RdA Go.Proofs.YtmgcdfmgmpnonaaGreatDoor.MkA Go.Proofs.YtmgcdfmgmpnonaaGreatDoor.Mp Go.Proofs.YtmgcdfmgmpnonaaGreatDoor.EscL Go.Proofs.YtmgcdfmgmpnonaaGreatDoor.EscM Go.Proofs.YtmgcdfmgmpnonaaGreatDoor.ReadM Go.Proofs.YtmgcdfmgmpnonaaGreatDoor.RuleM Go.Proofs.YtmgcdfmgmpnonaaGreatDoor.St Go.Proofs.YtmgcdfmgmpnonaaGreatDoor.RR Go.Proofs.YtmgcdfmgmpnonaaGreatDoor.RoPg Go.Proofs.YtmgcdfmgmpnonaaGreatDoor.LetM Go.Proofs.YtmgcdfmgmpnonaaGreatDoor.Nm Go.Proofs.YtmgcdfmgmpnonaaGreatDoor.GrM Go.Proofs.YtmgcdfmgmpnonaaGreatDoor.WdM Go.Proofs.YtmgcdfmgmpnonaaGreatDoor.Wd Go.Proofs.YtmgcdfmgmpnonaaGreatDoor.WdN Go.Proofs.YtmgcdfmgmpnonaaGreatDoor.PgM Go.Proofs.YtmgcdfmgmpnonaaGreatDoor.PgA Go.Proofs.YtmgcdfmgmpnonaaGreatDoor.ReM

theorem mx_of {w : World} (h : w.ShapedOpen Tryz.prog) : Im.Mx w :=
  cell_of_shapedOpen_int (g := 0) (t := 3) (zero := #[.int .i64 0]) (k := .i64) h (of_decide_eq_true (by kernel_rfl)) (by kernel_rfl) rfl (by kernel_rfl) (by kernel_rfl) Tryz.underlying3
set_option maxRecDepth 100000 in
set_option maxHeartbeats 6400000 in
theorem walk (a0 : Option Addr) (len0 cap0 : Nat) (z0 : List Int) (w : World) (w0 : Dr.IsRow .u8 w a0 len0 cap0 z0) (hL : laidMetH Tryz.prog Rows.fnReachOnRow.laid w) (hsh : w.ShapedOpen Tryz.prog) :
    Calls Tryz.prog 7 #[.slice a0 len0 cap0] w fun e w' => e = .returned (.bool true) ∧ Below w.heap.size w w' := by
  have HM : Hid (Im.Mx w) := mx_of hsh
  clear hsh hL
  by_cases hlong : (1048576 : Int) < len0
  · go_enter Tryz.func7, Tryz.ntmps7
    go_wp2
    go_ret
    exact ⟨rfl, Below.refl _ _⟩
  go_enter Tryz.func7, Tryz.ntmps7
  go_wp2_with fail
  refine (Dr.drawReach_any a0 len0 cap0 z0 w w0).mono ?_
  rintro e w1 ⟨L, a1, cc, s, S, a2, c2, rfl, hI, hl, hL, hs, hSt, hSl, hSz, hb1⟩
  have HI1 : Hid (IsRows FPg w1 a1 cc L) := hI
  have HL : Hid (PgSz L) := bd_sz hL
  have HR : Hid (PgRd L) := bd_rd hL
  have HBD : Hid (Dr.PgsBd L) := hL
  have HST1 : Hid (IsStrs w1 a2 c2 S) := hSt
  have HSZ : Hid (∀ x ∈ S, x.size ≤ 1000) := fun x hx => Nat.le_trans (hSz x hx) (by decide)
  have HN : Hid (nameB s = true) := hs
  have hsz := nameB_size hs
  have HB1 : Hid (Below w.heap.size w w1) := hb1
  clear hI hL hSt hSz hs hb1 w0
  go_wp2_with fail
  refine (implReach_any a1 cc L s a2 c2 S _ (HM.out.below HB1.out) HI1.out HL.out (all_asc L) HR.out (all_tx L) (by omega) HST1.out HSZ.out (by omega)).mono ?_
  rintro e w2 ⟨v2, rfl, hO2, hb2⟩
  have HB2 : Hid (Below w.heap.size w w2) := HB1.out.trans (hb2.mono HB1.out.size)
  have HI2 : Hid (IsRows FPg w2 a1 cc L) := HI1.out.below hb2
  have HST2 : Hid (IsStrs w2 a2 c2 S) := HST1.out.below hb2
  obtain ⟨a3, c3, hv2, hS2⟩ := hO2.strs
  subst hv2
  have HS2 : Hid (IsStrs w2 a3 c3 (reachW L s S)) := hS2
  clear hO2 hb2 hS2 HB1 HI1 HST1
  go_wp2_with fail
  refine (specReach_any a1 cc L s a2 c2 S _ HI2.out HL.out HR.out (by omega) HST2.out HSZ.out (by omega)).mono ?_
  rintro e w3 ⟨v3, rfl, hO3, hb3⟩
  have HB3 : Hid (Below w.heap.size w w3) := HB2.out.trans (hb3.mono HB2.out.size)
  have HI3 : Hid (IsRows FPg w3 a1 cc L) := HI2.out.below hb3
  have HST3 : Hid (IsStrs w3 a2 c2 S) := HST2.out.below hb3
  have HS3 : Hid (IsStrs w3 a3 c3 (reachW L s S)) := HS2.out.below hb3
  obtain ⟨a4, c4, hv3, hS3⟩ := hO3.strs
  subst hv3
  have HSM : Hid (IsStrs w3 a4 c4 (reachW L s S)) := hS3
  have hrl := reach_len L s S
  have HRZ : Hid (∀ x ∈ reachW L s S, x.size ≤ 1000) := fun x hx => reach_small HSZ.out hx
  clear hO3 hb3 hS3 HB2 HI2 HST2 HS2
  obtain ⟨R, hR⟩ : ∃ R, reachW L s S = R := ⟨_, rfl⟩
  have HRE : Hid (reachW L s S = R) := hR
  rw [hR] at HS3 HSM hrl HRZ
  rw [hR]
  clear hR
  go_wp2_with fail
  refine (texts_n a3 _ c3 R a4 _ c4 R _ rfl rfl HS3.out HSM.out (by omega) (by omega)).mono ?_
  rintro e w4 ⟨rfl, n4, hw4⟩
  have HB4 : Hid (Below w.heap.size w w4) := by rw [hw4]; exact below_drew HB3.out _
  have HI4 : Hid (IsRows FPg w4 a1 cc L) := by rw [hw4]; exact HI3.out.keep fun _ _ => rfl
  have HST4 : Hid (IsStrs w4 a2 c2 S) := by rw [hw4]; exact HST3.out.drewN _
  have HS4 : Hid (IsStrs w4 a3 c3 R) := by rw [hw4]; exact HS3.out.drewN _
  rw [show decide (R = R) = true from decide_eq_true rfl]
  clear hw4 HSM HS3 HB3 HI3 HST3
  have HLK : Hid (∀ x ∈ R, ∀ y ∈ fromW L x, letsW L s y = true → ¬ (getF L y 2).1 = 3 → hasB y R = true) := fun x hx y hy h1 h2 => by
    have := reach_goes (S := S) (by rw [HRE.out]; exact hx) hy h1 h2
    rw [HRE.out] at this; exact this
  clear HRE
  go_wp2
  go_loopw [7] (fun i wr => ∃ k : Nat, k ≤ R.length ∧ i = .int .i64 (k : Int) ∧ Hid (Below w4.heap.size w4 wr)) (fun i _ => R.length - (intOf i).toNat)
  case atStart => exact ⟨0, Nat.zero_le _, rfl, Below.refl _ _⟩
  case round =>
    obtain ⟨k, hk, rfl, HW⟩ := hrel
    have HBW : Hid (Below w.heap.size w wr) := HB4.out.trans (HW.out.mono HB4.out.size)
    by_cases hlt : k < R.length
    · obtain ⟨b1, o1, e1, c1⟩ := (HS4.out.below HW.out).at hlt
      have HLX : Hid (∀ y ∈ fromW L R[k], letsW L s y = true → ¬ (getF L y 2).1 = 3 → hasB y R = true) := HLK.out _ (List.getElem_mem hlt)
      have hxz := HRZ.out _ (List.getElem_mem hlt)
      have e1' := e1
      subst e1'
      generalize R[k] = x at *
      generalize wr = wo at *
      go_wp2_with fail
      refine (implFrom_any a1 cc L x _ (HM.out.below HBW.out) (HI4.out.below HW.out) HL.out (all_asc L) (all_tx L) (by omega) trivial).mono ?_
      rintro e w5 ⟨v5, rfl, hO5, hb5⟩
      obtain ⟨a5, c5, hv5, hS5⟩ := hO5.strs
      subst hv5
      have HS5 : Hid (IsStrs w5 a5 c5 (fromW L x)) := hS5
      have HW5 : Hid (Below w4.heap.size w4 w5) := HW.out.trans (hb5.mono HW.out.size)
      have hfl : (fromW L x).length ≤ 300 := from_len L x
      have HFZ : Hid (∀ y ∈ fromW L x, y.size ≤ 1000) := fun y hy => from_small hy
      clear hO5 hS5 hb5 HW HBW c1
      generalize fromW L x = F at *
      go_wp2
      go_loopw [9] (fun i wq => ∃ j : Nat, j ≤ F.length ∧ i = .int .i64 (j : Int) ∧ Hid (Below w5.heap.size w5 wq)) (fun i _ => F.length - (intOf i).toNat)
      case atStart => exact ⟨0, Nat.zero_le _, rfl, Below.refl _ _⟩
      case round =>
        obtain ⟨j, hj, rfl, HQ⟩ := hrel
        have HWQ : Hid (Below w4.heap.size w4 wr) := HW5.out.trans (HQ.out.mono HW5.out.size)
        have HBQ : Hid (Below w.heap.size w wr) := HB4.out.trans (HWQ.out.mono HB4.out.size)
        by_cases hjl : j < F.length
        · obtain ⟨b3, o3, e3, c3'⟩ := (HS5.out.below HQ.out).at hjl
          have HLY : Hid (letsW L s F[j] = true → ¬ (getF L F[j] 2).1 = 3 → hasB F[j] R = true) := HLX.out _ (List.getElem_mem hjl)
          have hyz := HFZ.out _ (List.getElem_mem hjl)
          have e3' := e3
          subst e3'
          generalize F[j] = y at *
          go_wp2_with fail
          refine (implGet_any a1 cc L y 2 _ (HM.out.below HBQ.out) (HI4.out.below HWQ.out) HL.out (all_asc L)).mono ?_
          rintro e w6 ⟨rfl, hb6⟩
          have HQ6 : Hid (Below w5.heap.size w5 w6) := HQ.out.trans (hb6.mono HQ.out.size)
          have HW6 : Hid (Below w4.heap.size w4 w6) := HWQ.out.trans (hb6.mono HWQ.out.size)
          have HB6 : Hid (Below w.heap.size w w6) := HBQ.out.trans (hb6.mono HBQ.out.size)
          have c6 := (hb6.cell (St.cell_block c3')).trans c3'
          clear hb6 c3' HQ HWQ HBQ
          generalize getF L y 2 = K at *
          obtain ⟨kd, tx⟩ := K
          dsimp only at *
          go_wp2_with fail
          refine (implWLets_any a1 cc L s y _ (HM.out.below HB6.out) (HI4.out.below HW6.out) HL.out (all_asc L) HR.out (by unfold maxLen; omega) (by omega) trivial).mono ?_
          rintro e w7 ⟨rfl, hb7⟩
          have HQ7 : Hid (Below w5.heap.size w5 w7) := HQ6.out.trans (hb7.mono HQ6.out.size)
          have HW7 : Hid (Below w4.heap.size w4 w7) := HW6.out.trans (hb7.mono HW6.out.size)
          have c7 := (hb7.cell (St.cell_block c6)).trans c6
          clear hb7 c6
          generalize letsW L s y = V at *
          cases V with
          | false =>
            clear HLY
            go_wp2
            go_roundw
            case rel => exact ⟨j + 1, by omega, by go_num, HQ7⟩
            case measure => simp [intOf]; omega
          | true =>
            by_cases h3 : kd = 3
            · subst h3
              clear HLY
              go_wp2
              go_roundw
              case rel => exact ⟨j + 1, by omega, by go_num, HQ7⟩
              case measure => simp [intOf]; omega
            · have h4 : hasB y R = true := HLY.out rfl h3
              have e4 : (kd != 3) = true := by simpa using h3
              have e5 : (kd == 3) = false := by simpa using h3
              clear HLY h3
              go_wp2_with fail
              refine (has_n (some ⟨b1, o1, none⟩) c3 _ R y _ rfl (HS4.out.below HW7.out) (by omega)).mono ?_
              rintro e w8 ⟨rfl, e8⟩
              have e9 := e8.symm
              subst e9
              rw [h4]
              go_wp2
              go_roundw
              case rel => exact ⟨j + 1, by omega, by go_num, HQ7⟩
              case measure => simp [intOf]; omega
        · go_wp2
          go_roundw
          case rel => exact ⟨k + 1, by omega, by go_num, HWQ⟩
          case measure => simp [intOf]; omega
    · go_wp2
      go_ret
      exact ⟨rfl, HBW.out⟩
end Go.Proofs.YtmgcdfmgmpnonaaGreatDoor.fnReachOn
