/- FnWorldGet: the walk. -/
import Derived.Test.YtcohaalgefcjnaaGreatDoorRows
import Derived.WalkKit
import Derived.ProofKit
import Derived.OpenShut
import Derived.ShutString
import Derived.ChangeOld
import Derived.Below
import Derived.Test.YtcohaalgefcjnaaGreatDoorCards
import Derived.Test.YtcohaalgefcjnaaGreatDoorDrawWPk
import Derived.Test.YtcohaalgefcjnaaGreatDoorWd1Pk
import Derived.Shelf.Vars
import Derived.Lay
import Derived.LaidOnce
import Derived.SevenTiedAt
namespace Go.Proofs.YtcohaalgefcjnaaGreatDoor.fnWorldGet
open Go.ChangeShapes Go.WideShapes Go.ChangeAt Go.RowKit
open Go.ChangeMaps (open_string shut_string)
set_option linter.unusedVariables false
open Go.Proofs.YtcohaalgefcjnaaGreatDoor.EscL Go.Proofs.YtcohaalgefcjnaaGreatDoor.EscM Go.Proofs.YtcohaalgefcjnaaGreatDoor.St Go.Proofs.YtcohaalgefcjnaaGreatDoor.RR Go.Proofs.YtcohaalgefcjnaaGreatDoor.RoPg Go.Proofs.YtcohaalgefcjnaaGreatDoor.WdM Go.Proofs.YtcohaalgefcjnaaGreatDoor.Wd Go.Proofs.YtcohaalgefcjnaaGreatDoor.Dr

theorem mx_of {w : World} (h : w.ShapedOpen Tryz.prog) : Im.Mx w :=
  cell_of_shapedOpen_int (g := 0) (t := 3) (zero := #[.int .i64 0]) (k := .i64) h (of_decide_eq_true (by kernel_rfl)) (by kernel_rfl) rfl (by kernel_rfl) (by kernel_rfl) Tryz.underlying3

theorem bd_sz {L : List Pg} (h : PgsBd L) : PgSz L := fun p hp => by obtain ⟨h1, h2, h3, _⟩ := h p hp; omega
set_option maxRecDepth 100000 in
set_option maxHeartbeats 6400000 in
theorem walk (a0 : Option Addr) (len0 cap0 : Nat) (z0 : List Int) (w : World) (w0 : Dr.IsRow .u8 w a0 len0 cap0 z0) (hL : laidMetH Tryz.prog Rows.fnWorldGetRow.laid w) (hsh : w.ShapedOpen Tryz.prog) :
    Calls Tryz.prog 4 #[.slice a0 len0 cap0] w fun e w' => e = .returned (.bool true) ∧ Below w.heap.size w w' := by
  have HM : Hid (Im.Mx w) := mx_of hsh
  clear hsh hL
  by_cases hlong : (1048576 : Int) < len0
  · go_enter Tryz.func4, Tryz.ntmps4
    go_wp2
    go_ret
    exact ⟨rfl, Below.refl _ _⟩
  go_enter Tryz.func4, Tryz.ntmps4
  go_wp2_with fail
  refine (drawGet_any a0 len0 cap0 z0 w w0).mono ?_
  rintro e w1 ⟨L, a1, c1, s, t, rfl, hI, hl, hL, hs, ht1, ht4, hb1⟩
  have HI1 : Hid (IsRows FPg w1 a1 c1 L) := hI
  have HL : Hid (PgSz L) := bd_sz hL
  have HA : Hid (PgAs L) := fun _ _ => ⟨trivial, trivial⟩
  have HB1 : Hid (Below w.heap.size w w1) := hb1
  clear hI hL hb1 w0
  have HGF : Hid (getF L s t = if wOk L && decide (0 ≤ t) then kindF L s t else (0, ⟨#[]⟩)) := rfl
  have HKF : Hid (kindF L s t = match L.find? (sameA s) with
    | none => (0, ⟨#[]⟩)
    | some p => if t < p.fails then (3, ⟨#[]⟩) else if p.lead.toList.isEmpty then (1, p.text) else (2, p.lead)) := rfl
  go_wp2_with fail
  refine (specGet_any a1 c1 L s t _ HI1.out HL.out).mono ?_
  rintro e w2 ⟨rfl, hb2⟩
  have HB2 : Hid (Below w.heap.size w w2) := HB1.out.trans (hb2.mono HB1.out.size)
  have HI2 : Hid (IsRows FPg w2 a1 c1 L) := HI1.out.below hb2
  clear hb2 HI1 HB1
  go_wp2_with fail
  refine (implGet_any a1 c1 L s t _ (HM.out.below HB2.out) HI2.out HL.out HA.out).mono ?_
  rintro e w3 ⟨rfl, hb3⟩
  have HB3 : Hid (Below w.heap.size w w3) := HB2.out.trans (hb3.mono HB2.out.size)
  have HI3 : Hid (IsRows FPg w3 a1 c1 L) := IsRows.below HI2.out hb3
  clear hb3 HI2 HB2
  generalize getF L s t = R at *
  go_wp2_with fail
  refine (specWorldOk_any a1 c1 L _ HI3.out HL.out).mono ?_
  rintro e w4 ⟨rfl, hb4⟩
  have HB4 : Hid (Below w.heap.size w w4) := HB3.out.trans (hb4.mono HB3.out.size)
  have HI4 : Hid (IsRows FPg w4 a1 c1 L) := IsRows.below HI3.out hb4
  clear hb4 HI3 HB3
  cases hw : wOk L with
  | false =>
    clear hw
    go_wp2
    go_ret
    exact ⟨rfl, HB4.out⟩
  | true =>
  by_cases ht : t < 0
  · clear hw
    go_wp2
    go_ret
    exact ⟨rfl, HB4.out⟩
  have HR : Hid (R = kindF L s t) := by show _ = _; rw [HGF.out, hw, decide_eq_true (show 0 ≤ t by omega)]; rfl
  generalize kindF L s t = K at *
  have HRK : Hid (R = match L.find? (sameA s) with
    | none => (0, ⟨#[]⟩)
    | some p => if t < p.fails then (3, ⟨#[]⟩) else if p.lead.toList.isEmpty then (1, p.text) else (2, p.lead)) := HR.out.trans HKF.out
  clear hw HGF HKF HR K
  go_wp2
  go_loop [10] (fun i => ∃ k : Nat, k ≤ L.length ∧ i = .int .i64 (k : Int) ∧ Hid ((L.take k).any (sameA s) = false)) (fun i => L.length - (intOf i).toNat)
  case atStart => exact ⟨0, Nat.zero_le _, rfl, rfl⟩
  case round =>
    obtain ⟨k, hk, rfl, HJ⟩ := hrel
    by_cases hkl : k < L.length
    · obtain ⟨B, off, e1, c0, d1, c2, c3⟩ := pg_at HI4.out hkl
      subst e1
      have HH : Hid (sameA s L[k] = true → L.find? (sameA s) = some L[k]) := find_hit _ hkl HJ.out
      have HN : Hid (sameA s L[k] = false → (L.take (k + 1)).any (sameA s) = false) := any_step _ hkl HJ.out
      have HS : Hid (sameA s L[k] = (L[k].addr.toList == s.toList)) := rfl
      generalize L[k] = p at *
      cases hq : (p.addr.toList == s.toList) with
      | false =>
        have HJ1 : Hid ((L.take (k + 1)).any (sameA s) = false) := HN.out (by rw [HS.out]; exact hq)
        go_wp2
        go_round
        case rel => exact ⟨k + 1, by omega, by go_num, HJ1⟩
        case measure => simp [intOf]; omega
      | true =>
        have hf := HH.out (by rw [HS.out]; exact hq)
        rw [hf] at HRK
        clear hf
        by_cases hf1 : t < p.fails
        · have e : R = (3, ⟨#[]⟩) := by rw [HRK.out]; dsimp only; rw [if_pos hf1]
          subst e
          go_wp2
          go_ret
          exact ⟨rfl, HB4.out⟩
        · cases hle : p.lead.toList.isEmpty with
          | false =>
            have e : R = (2, p.lead) := by rw [HRK.out]; dsimp only; rw [if_neg hf1, hle]; rfl
            subst e
            go_wp2
            go_ret
            exact ⟨rfl, HB4.out⟩
          | true =>
            have e : R = (1, p.text) := by rw [HRK.out]; dsimp only; rw [if_neg hf1, hle]; rfl
            subst e
            go_wp2
            go_ret
            exact ⟨rfl, HB4.out⟩
    · have ek : k = L.length := by omega
      subst ek
      rw [List.take_length] at HJ
      have hf := find_none _ HJ.out
      rw [hf] at HRK
      have e : R = (0, ⟨#[]⟩) := HRK.out
      subst e
      clear hf
      go_wp2
      go_ret
      exact ⟨rfl, HB4.out⟩

end Go.Proofs.YtcohaalgefcjnaaGreatDoor.fnWorldGet
