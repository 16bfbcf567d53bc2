/- FnReachLeast: the walk. -/
import Derived.Test.YtmgcdfmgmpnonaaGreatDoorRows
import Derived.WalkKit
import Derived.ProofKit
import Derived.OpenShut
import Derived.ShutString
import Derived.ChangeOld
import Derived.Below
import Derived.Test.YtmgcdfmgmpnonaaGreatDoorCards
import Derived.Test.YtmgcdfmgmpnonaaGreatDoorReL
import Derived.Test.YtmgcdfmgmpnonaaGreatDoorEscLeafPk
import Derived.Deep.RegionHeldLaw
import Derived.Shelf.Vars
import Derived.Lay
import Derived.LaidOnce
import Derived.SevenTiedAt
namespace Go.Proofs.YtmgcdfmgmpnonaaGreatDoor.fnReachLeast
open Go.ChangeShapes Go.WideShapes Go.ChangeAt Go.RowKit
open Go.ChangeMaps (open_string shut_string)
set_option linter.unusedVariables false
open Go.Proofs.YtmgcdfmgmpnonaaGreatDoor.AddrM Go.Proofs.YtmgcdfmgmpnonaaGreatDoor.Ad1 Go.Proofs.YtmgcdfmgmpnonaaGreatDoor.Rd1 Go.Proofs.YtmgcdfmgmpnonaaGreatDoor.RdA Go.Proofs.YtmgcdfmgmpnonaaGreatDoor.MkA Go.Proofs.YtmgcdfmgmpnonaaGreatDoor.Mp Go.Proofs.YtmgcdfmgmpnonaaGreatDoor.EscL Go.Proofs.YtmgcdfmgmpnonaaGreatDoor.EscM Go.Proofs.YtmgcdfmgmpnonaaGreatDoor.ReadM Go.Proofs.YtmgcdfmgmpnonaaGreatDoor.RuleM Go.Proofs.YtmgcdfmgmpnonaaGreatDoor.St Go.Proofs.YtmgcdfmgmpnonaaGreatDoor.RR Go.Proofs.YtmgcdfmgmpnonaaGreatDoor.RoPg Go.Proofs.YtmgcdfmgmpnonaaGreatDoor.LetM Go.Proofs.YtmgcdfmgmpnonaaGreatDoor.Nm Go.Proofs.YtmgcdfmgmpnonaaGreatDoor.GrM Go.Proofs.YtmgcdfmgmpnonaaGreatDoor.WdM Go.Proofs.YtmgcdfmgmpnonaaGreatDoor.Wd Go.Proofs.YtmgcdfmgmpnonaaGreatDoor.WdN Go.Proofs.YtmgcdfmgmpnonaaGreatDoor.PgM Go.Proofs.YtmgcdfmgmpnonaaGreatDoor.PgA Go.Proofs.YtmgcdfmgmpnonaaGreatDoor.ReM

theorem mx_of {w : World} (h : w.ShapedOpen Tryz.prog) : Im.Mx w :=
  cell_of_shapedOpen_int (g := 0) (t := 3) (zero := #[.int .i64 0]) (k := .i64) h (of_decide_eq_true (by kernel_rfl)) (by kernel_rfl) rfl (by kernel_rfl) (by kernel_rfl) Tryz.underlying3
set_option maxRecDepth 100000 in
set_option maxHeartbeats 6400000 in
theorem walk (a0 : Option Addr) (len0 cap0 : Nat) (z0 : List Int) (w : World) (w0 : Dr.IsRow .u8 w a0 len0 cap0 z0) (hL : laidMetH Tryz.prog Rows.fnReachLeastRow.laid w) (hsh : w.ShapedOpen Tryz.prog) :
    Calls Tryz.prog 8 #[.slice a0 len0 cap0] w fun e w' => e = .returned (.bool true) ∧ Below w.heap.size w w' := by
  have HM : Hid (Im.Mx w) := mx_of hsh
  clear hsh hL
  by_cases hlong : (1048576 : Int) < len0
  · go_enter Tryz.func8, Tryz.ntmps8
    go_wp2
    go_ret
    exact ⟨rfl, Below.refl _ _⟩
  go_enter Tryz.func8, Tryz.ntmps8
  go_wp2_with fail
  refine (Dr.drawReach_any a0 len0 cap0 z0 w w0).mono ?_
  rintro e w1 ⟨L, a1, cc, s, S, a2, c2, rfl, hI, hl, hL, hs, hSt, hSl, hSz, hb1⟩
  have HI1 : Hid (IsRows FPg w1 a1 cc L) := hI
  have HL : Hid (PgSz L) := bd_sz hL
  have HR : Hid (PgRd L) := bd_rd hL
  have HBD : Hid (Dr.PgsBd L) := hL
  have HST1 : Hid (IsStrs w1 a2 c2 S) := hSt
  have HSZ : Hid (∀ x ∈ S, x.size ≤ 1000) := fun x hx => Nat.le_trans (hSz x hx) (by decide)
  have HN : Hid (nameB s = true) := hs
  have hsz := nameB_size hs
  have HB1 : Hid (Below w.heap.size w w1) := hb1
  clear hI hL hSt hSz hs hb1 w0
  go_wp2_with fail
  refine (implReach_any a1 cc L s a2 c2 S _ (HM.out.below HB1.out) HI1.out HL.out (all_asc L) HR.out (all_tx L) (by omega) HST1.out HSZ.out (by omega)).mono ?_
  rintro e w2 ⟨v2, rfl, hO2, hb2⟩
  have HB2 : Hid (Below w.heap.size w w2) := HB1.out.trans (hb2.mono HB1.out.size)
  have HI2 : Hid (IsRows FPg w2 a1 cc L) := HI1.out.below hb2
  have HST2 : Hid (IsStrs w2 a2 c2 S) := HST1.out.below hb2
  obtain ⟨a3, c3, hv2, hS2⟩ := hO2.strs
  subst hv2
  have HS2 : Hid (IsStrs w2 a3 c3 (reachW L s S)) := hS2
  clear hO2 hb2 hS2 HB1 HI1 HST1
  go_wp2_with fail
  refine (specReach_any a1 cc L s a2 c2 S _ HI2.out HL.out HR.out (by omega) HST2.out HSZ.out (by omega)).mono ?_
  rintro e w3 ⟨v3, rfl, hO3, hb3⟩
  have HB3 : Hid (Below w.heap.size w w3) := HB2.out.trans (hb3.mono HB2.out.size)
  have HI3 : Hid (IsRows FPg w3 a1 cc L) := HI2.out.below hb3
  have HST3 : Hid (IsStrs w3 a2 c2 S) := HST2.out.below hb3
  have HS3 : Hid (IsStrs w3 a3 c3 (reachW L s S)) := HS2.out.below hb3
  obtain ⟨a4, c4, hv3, hS3⟩ := hO3.strs
  subst hv3
  have HSM : Hid (IsStrs w3 a4 c4 (reachW L s S)) := hS3
  have hrl := reach_len L s S
  have HRZ : Hid (∀ x ∈ reachW L s S, x.size ≤ 1000) := fun x hx => reach_small HSZ.out hx
  clear hO3 hb3 hS3 HB2 HI2 HST2 HS2
  obtain ⟨R, hR⟩ : ∃ R, reachW L s S = R := ⟨_, rfl⟩
  have HRE : Hid (reachW L s S = R) := hR
  rw [hR] at HS3 HSM hrl HRZ
  rw [hR]
  clear hR
  go_wp2_with fail
  refine (texts_n a3 _ c3 R a4 _ c4 R _ rfl rfl HS3.out HSM.out (by omega) (by omega)).mono ?_
  rintro e w4 ⟨rfl, n4, hw4⟩
  have HB4 : Hid (Below w.heap.size w w4) := by rw [hw4]; exact below_drew HB3.out _
  have HI4 : Hid (IsRows FPg w4 a1 cc L) := by rw [hw4]; exact HI3.out.keep fun _ _ => rfl
  have HST4 : Hid (IsStrs w4 a2 c2 S) := by rw [hw4]; exact HST3.out.drewN _
  have HS4 : Hid (IsStrs w4 a3 c3 R) := by rw [hw4]; exact HS3.out.drewN _
  rw [show decide (R = R) = true from decide_eq_true rfl]
  clear hw4 HSM HS3 HB3 HI3 HST3
  have HLK : Hid (∀ i, ∀ hi : i < R.length, hasB R[i] S = false → ∃ k, ∃ hk : k < R.length, k < i ∧ hasB R[i] (fromW L R[k]) = true) := fun i hi hs => reach_whence HRE.out hi hs
  clear HRE
  go_wp2
  go_loopw [7] (fun i wr => ∃ k : Nat, k ≤ R.length ∧ i = .int .i64 (k : Int) ∧ Hid (Below w4.heap.size w4 wr)) (fun i _ => R.length - (intOf i).toNat)
  case atStart => exact ⟨0, Nat.zero_le _, rfl, Below.refl _ _⟩
  case round =>
    obtain ⟨k, hk, rfl, HW⟩ := hrel
    have HBW : Hid (Below w.heap.size w wr) := HB4.out.trans (HW.out.mono HB4.out.size)
    by_cases hlt : k < R.length
    · obtain ⟨b1, o1, e1, c1⟩ := (HS4.out.below HW.out).at hlt
      have HLX : Hid (hasB R[k] S = false → ∃ m, ∃ hm : m < R.length, m < k ∧ hasB R[k] (fromW L R[m]) = true) := HLK.out k hlt
      have e1' := e1
      subst e1'
      have HC : Hid (∀ m, ∀ hm : m < R.length, ∀ W, Below w4.heap.size w4 W → W.cell? ⟨b1, o1 + m, none⟩ = some (.string R[m])) := fun m hm W hW => by
        obtain ⟨b', o', e', hc'⟩ := (HS4.out.below hW).at hm
        injection e' with e'
        injection e' with e1 e2
        subst e1; subst e2; exact hc'
      have HX : Hid (R[k] = R[k]) := rfl
      generalize hx : R[k] = x at *
      have HXX : Hid (R[k] = x) := hx
      clear hx HX
      generalize wr = wo at *
      go_wp2_with fail
      refine (has_n a2 c2 _ S x _ rfl (HST4.out.below HW.out) (by omega)).mono ?_
      rintro e w5 ⟨rfl, e5⟩
      have e6 := e5.symm
      subst e6
      have HST : Hid (∃ m : Nat, m ≤ k ∧ (hasB x S = true ∨ (hasB x S = false ∧ ∀ j, ∀ hj : j < R.length, j < 0 → hasB x (fromW L R[j]) = false))) := ⟨0, Nat.zero_le _, by cases h : hasB x S with | true => exact Or.inl rfl | false => exact Or.inr ⟨rfl, fun j _ h => by omega⟩⟩
      obtain ⟨so, hso⟩ : ∃ so, hasB x S = so := ⟨_, rfl⟩
      have HSO : Hid (hasB x S = so) := hso
      rw [hso]
      clear hso HST c1
      go_wp2
      go_loopw [8, 9] (fun v i wq => ∃ (j : Nat) (t : Bool), j ≤ k ∧ i = .int .i64 (j : Int) ∧ v = .bool t ∧ Hid (t = false → hasB x S = false ∧ ∀ m, ∀ hm : m < R.length, m < j → hasB x (fromW L R[m]) = false) ∧ Hid (Below w4.heap.size w4 wq)) (fun _ i _ => k - (intOf i).toNat)
      case atStart => exact ⟨0, so, Nat.zero_le _, rfl, rfl, fun h => ⟨by rw [HSO.out, h], fun m _ h => by omega⟩, HW⟩
      case round =>
        obtain ⟨j, t, hj, rfl, rfl, HT, HQ⟩ := hrel
        have HBQ : Hid (Below w.heap.size w wr) := HB4.out.trans (HQ.out.mono HB4.out.size)
        cases t with
        | true =>
          clear HT
          by_cases hjk : j < k
          · go_wp2
            go_roundw
            case rel => exact ⟨k + 1, by omega, by go_num, HQ⟩
            case measure => simp [intOf]; omega
          · go_wp2
            go_roundw
            case rel => exact ⟨k + 1, by omega, by go_num, HQ⟩
            case measure => simp [intOf]; omega
        | false =>
          by_cases hjk : j < k
          · have hjR : j < R.length := by omega
            have hyz := HRZ.out _ (List.getElem_mem hjR)
            have d1 : wr.cell? ⟨b1, o1 + j, none⟩ = some (.string R[j]) := HC.out j hjR wr HQ.out
            have d2 : wr.cell? ⟨b1, o1 + k, none⟩ = some (.string x) := by
              have := HC.out k hlt wr HQ.out
              rw [HXX.out] at this; exact this
            have HN1 : Hid (hasB x (fromW L R[j]) = false → ∀ m, ∀ hm : m < R.length, m < j + 1 → hasB x (fromW L R[m]) = false) := fun h m hm hmj => by
              by_cases e : m = j
              · subst e; exact h
              · exact (HT.out rfl).2 m hm (by omega)
            have HS0 : Hid (hasB x S = false) := (HT.out rfl).1
            have hfl : (fromW L R[j]).length ≤ 300 := from_len L R[j]
            clear HT
            generalize R[j] = y at *
            have HFM : Hid (∀ W, Im.Mx W → IsRows FPg W a1 cc L → Calls Tryz.prog 32 #[.slice a1 L.length cc, .string y] W fun e w' => ∃ v, e = .returned v ∧ Owns w' W.heap.size v (fromW L y) ∧ Below W.heap.size W w') := fun W hM hW => implFrom_any a1 cc L y W hM hW HL.out (all_asc L) (all_tx L) (by omega) trivial
            generalize fromW L y = F at *
            have hj0 : (0 : Int) ≤ (j : Int) := by omega
            have hj1 : (j : Int) < (R.length : Int) := by omega
            have hk0 : (0 : Int) ≤ (k : Int) := by omega
            have hk1 : (k : Int) < (R.length : Int) := by omega
            go_wp2_with fail
            go_region_held_law (fun w' => w'.cell? ⟨b1, o1 + j, none⟩ = some (.string y) ∧ w'.cell? ⟨b1, o1 + k, none⟩ = some (.string x)) (first | go_keep | exact hS6)
              ((first
              | (go_at_call 32
                 refine (HFM.out wr.drew ((HM.out.below HBQ.out).keep fun _ _ => rfl) ((HI4.out.below HQ.out).keep fun _ _ => rfl)).mono ?_
                 rintro e w6 ⟨v6, rfl, hO6, hb0⟩
                 obtain ⟨a6, c6, hv6, hS6'⟩ := hO6.strs
                 subst hv6
                 have hb6 : Below wr.heap.size wr w6 := ((Below.refl _ wr).drew).trans hb0
                 have HS6 : Hid (IsStrs w6 a6 c6 F) := hS6'
                 have HQ6 : Hid (Below w4.heap.size w4 w6) := HQ.out.trans (hb6.mono HQ.out.size)
                 have hS6 : w6.cell? ⟨b1, o1 + j, none⟩ = some (.string y) ∧ w6.cell? ⟨b1, o1 + k, none⟩ = some (.string x) := ⟨(hb6.cell (St.cell_block d1)).trans d1, (hb6.cell (St.cell_block d2)).trans d2⟩
                 clear hO6 hS6' hb0 hb6)
              | (go_at_call 31
                 refine (has_n a6 c6 _ F x _ rfl HS6.out (by omega)).mono ?_
                 rintro e w7 ⟨rfl, e7⟩
                 have e8 := e7.symm
                 subst e8)
              | fail))
            all_goals
              go_wp2
              go_roundw
              case rel => exact ⟨j + 1, hasB x F, by omega, by go_num, rfl, fun h => ⟨HS0.out, HN1.out h⟩, HQ6⟩
              case measure => simp [intOf]; omega
          · have HE : Hid False := by
              obtain ⟨h1, h2⟩ := HT.out rfl
              obtain ⟨m, hm, hmk, hmx⟩ := HLX.out h1
              rw [h2 m hm (by omega)] at hmx; cases hmx
            exact HE.out.elim
    · go_wp2
      go_ret
      exact ⟨rfl, HBW.out⟩
end Go.Proofs.YtmgcdfmgmpnonaaGreatDoor.fnReachLeast
