/- FnWorldFrom: the walk. -/
import Derived.Test.YtcohaalgefcjnaaGreatDoorRows
import Derived.WalkKit
import Derived.ProofKit
import Derived.OpenShut
import Derived.ShutString
import Derived.ChangeOld
import Derived.Below
import Derived.Test.YtcohaalgefcjnaaGreatDoorCards
import Derived.Test.YtcohaalgefcjnaaGreatDoorDrawW5
import Derived.Test.YtcohaalgefcjnaaGreatDoorPgA1Pk
import Derived.Test.YtcohaalgefcjnaaGreatDoorDraw1Pk
import Derived.Shelf.Vars
import Derived.Lay
import Derived.LaidOnce
import Derived.SevenTiedAt
namespace Go.Proofs.YtcohaalgefcjnaaGreatDoor.fnWorldFrom
open Go.ChangeShapes Go.WideShapes Go.ChangeAt Go.RowKit
open Go.ChangeMaps (open_string shut_string)
set_option linter.unusedVariables false
open Go.Proofs.YtcohaalgefcjnaaGreatDoor.EscL Go.Proofs.YtcohaalgefcjnaaGreatDoor.EscM Go.Proofs.YtcohaalgefcjnaaGreatDoor.St Go.Proofs.YtcohaalgefcjnaaGreatDoor.RR Go.Proofs.YtcohaalgefcjnaaGreatDoor.RoPg Go.Proofs.YtcohaalgefcjnaaGreatDoor.WdM Go.Proofs.YtcohaalgefcjnaaGreatDoor.Wd Go.Proofs.YtcohaalgefcjnaaGreatDoor.Dr Go.Proofs.YtcohaalgefcjnaaGreatDoor.AddrM Go.Proofs.YtcohaalgefcjnaaGreatDoor.ReadM Go.Proofs.YtcohaalgefcjnaaGreatDoor.PgA Go.Proofs.YtcohaalgefcjnaaGreatDoor.Ad1 Go.Proofs.YtcohaalgefcjnaaGreatDoor.RdA

theorem mx_of {w : World} (h : w.ShapedOpen Tryz.prog) : Im.Mx w :=
  cell_of_shapedOpen_int (g := 0) (t := 3) (zero := #[.int .i64 0]) (k := .i64) h (of_decide_eq_true (by kernel_rfl)) (by kernel_rfl) rfl (by kernel_rfl) (by kernel_rfl) Tryz.underlying3
theorem bd_sz {L : List Pg} (h : PgsBd L) : PgSz L := fun p hp => by obtain ⟨h1, h2, h3, _⟩ := h p hp; omega
theorem texts_same (a0 : Option Addr) (cap : Nat) (b0 : Option Addr) (dap : Nat) (A : List ByteArray) (w : World) (hA : IsStrs w a0 cap A) (hB : IsStrs w b0 dap A) (hl : A.length ≤ 4194304) :
    Calls Tryz.prog 19 #[.slice a0 A.length cap, .slice b0 A.length dap] w fun e w' => e = .returned (.bool true) ∧ Below w.heap.size w w' := by
  refine (lpTexts_any a0 cap A b0 dap A w hA hB hl hl).mono ?_
  rintro e w1 ⟨rfl, n, rfl⟩
  exact ⟨by simp, below_drewN (Below.refl _ _) n⟩
theorem get_kind {L : List Pg} {s : ByteArray} (h : wOk L = true) : getF L s 2 = kindF L s 2 := by unfold getF; rw [h]; rfl

set_option maxRecDepth 100000 in
set_option maxHeartbeats 6400000 in
theorem walk (a0 : Option Addr) (len0 cap0 : Nat) (z0 : List Int) (w : World) (w0 : Dr.IsRow .u8 w a0 len0 cap0 z0) (hL : laidMetH Tryz.prog Rows.fnWorldFromRow.laid w) (hsh : w.ShapedOpen Tryz.prog) :
    Calls Tryz.prog 6 #[.slice a0 len0 cap0] w fun e w' => e = .returned (.bool true) ∧ Below w.heap.size w w' := by
  have HM : Hid (Im.Mx w) := mx_of hsh
  clear hsh hL
  by_cases hlong : (1048576 : Int) < len0
  · go_enter Tryz.func6, Tryz.ntmps6
    go_wp2
    go_ret
    exact ⟨rfl, Below.refl _ _⟩
  go_enter Tryz.func6, Tryz.ntmps6
  go_wp2_with fail
  refine (drawFrom_any a0 len0 cap0 z0 w w0).mono ?_
  rintro e w1 ⟨L, a1, c1, s, rfl, hI, hl, hL, hs, hb1⟩
  have HI1 : Hid (IsRows FPg w1 a1 c1 L) := hI
  have HL : Hid (PgSz L) := bd_sz hL
  have HA : Hid (PgAs L) := fun _ _ => ⟨trivial, trivial⟩
  have HT : Hid (PgTx L) := fun _ _ => trivial
  have HB1 : Hid (Below w.heap.size w w1) := hb1
  have hs4 : s.size ≤ 4194304 := by omega
  have HK3 : Hid _ := kind_three (L := L) (s := s)
  have HGK : Hid (wOk L = true → getF L s 2 = kindF L s 2) := get_kind
  have HKT : Hid _ := kind_text HL.out s 2
  have HSF : Hid _ := fun W hW => specFrom_any a1 c1 L s W hW HL.out hs4
  have HIF : Hid _ := fun W hM hW => implFrom_any a1 c1 L s W hM hW HL.out HA.out HT.out hs4 trivial
  have HSO : Hid _ := fun W hW => specWorldOk_any a1 c1 L W hW HL.out
  have HIG : Hid _ := fun W hM hW => implGet_any a1 c1 L s 2 W hM hW HL.out HA.out
  have hF := from_len L s
  clear hI hL hb1 w0
  generalize fromW L s = F at *
  generalize kindF L s 2 = K at *
  generalize getF L s 2 = G at *
  go_wp2_with fail
  refine (HIF.out _ (HM.out.below HB1.out) HI1.out).mono ?_
  rintro e w2 ⟨v2, rfl, hO2, hb2⟩
  obtain ⟨s2, d2, hv2, hS2⟩ := hO2.strs
  subst hv2
  have HS2 : Hid (IsStrs w2 s2 d2 F) := hS2
  have HB2 : Hid (Below w.heap.size w w2) := HB1.out.trans (hb2.mono HB1.out.size)
  have HI2 : Hid (IsRows FPg w2 a1 c1 L) := HI1.out.below hb2
  clear hO2 hS2 hb2 HI1 HB1
  go_wp2_with fail
  refine (HSF.out _ HI2.out).mono ?_
  rintro e w3 ⟨v3, rfl, hO3, hb3⟩
  obtain ⟨s3, d3, hv3, hS3⟩ := hO3.strs
  subst hv3
  have HR3 : Hid (IsStrs w3 s3 d3 F) := hS3
  have HS3 : Hid (IsStrs w3 s2 d2 F) := HS2.out.below hb3
  have HB3 : Hid (Below w.heap.size w w3) := HB2.out.trans (hb3.mono HB2.out.size)
  have HI3 : Hid (IsRows FPg w3 a1 c1 L) := HI2.out.below hb3
  clear hO3 hS3 hb3 HI2 HB2 HS2
  go_wp2_with fail
  refine (texts_same s2 d2 s3 d3 F _ HS3.out HR3.out (by omega)).mono ?_
  rintro e w4 ⟨rfl, hb4⟩
  have HS4 : Hid (IsStrs w4 s2 d2 F) := HS3.out.below hb4
  have HB4 : Hid (Below w.heap.size w w4) := HB3.out.trans (hb4.mono HB3.out.size)
  have HI4 : Hid (IsRows FPg w4 a1 c1 L) := HI3.out.below hb4
  clear hb4 HI3 HB3 HS3 HR3
  go_wp2_with fail
  refine (HSO.out _ HI4.out).mono ?_
  rintro e w5 ⟨rfl, hb5⟩
  have HS5 : Hid (IsStrs w5 s2 d2 F) := HS4.out.below hb5
  have HB5 : Hid (Below w.heap.size w w5) := HB4.out.trans (hb5.mono HB4.out.size)
  have HI5 : Hid (IsRows FPg w5 a1 c1 L) := HI4.out.below hb5
  clear hb5 HI4 HB4 HS4
  cases hw : wOk L with
  | false =>
    clear hw
    go_wp2_with fail
    refine (HSF.out _ HI5.out).mono ?_
    rintro e w6 ⟨v6, rfl, hO6, hb6⟩
    obtain ⟨s6, d6, hv6, hS6⟩ := hO6.strs
    subst hv6
    have HR6 : Hid (IsStrs w6 s6 d6 F) := hS6
    have HS6 : Hid (IsStrs w6 s2 d2 F) := HS5.out.below hb6
    have HB6 : Hid (Below w.heap.size w w6) := HB5.out.trans (hb6.mono HB5.out.size)
    clear hO6 hS6 hb6 HI5 HB5 HS5
    go_wp2_with fail
    refine (texts_same s2 d2 s6 d6 F _ HS6.out HR6.out (by omega)).mono ?_
    rintro e w7 ⟨rfl, hb7⟩
    have HB7 : Hid (Below w.heap.size w w7) := HB6.out.trans (hb7.mono HB6.out.size)
    clear hb7
    go_wp2
    go_ret
    exact ⟨rfl, HB7.out⟩
  | true =>
    have hG : G = K := HGK.out hw
    have HK : Hid _ := HK3.out hw
    subst hG
    clear hw HGK HK3
    go_wp2_with fail
    refine (HIG.out _ (HM.out.below HB5.out) HI5.out).mono ?_
    rintro e w6 ⟨rfl, hb6⟩
    have HS6 : Hid (IsStrs w6 s2 d2 F) := HS5.out.below hb6
    have HB6 : Hid (Below w.heap.size w w6) := HB5.out.trans (hb6.mono HB5.out.size)
    clear hb6 HI5 HB5 HS5
    rcases HK.out with ⟨h1, A, hr, hbA, hFA⟩ | ⟨h1, hFA⟩ | ⟨h1, h2, hFA⟩
    · have HRA : Hid _ := fun W hW => implRead_all s W hW hs4 trivial
      rw [hr] at HRA
      have HFA : Hid (F = pageF A G.2) := hFA
      clear hr hFA HK
      obtain ⟨G1, G2⟩ := G
      dsimp only at h1 HFA HKT ⊢
      subst h1
      go_wp2_with fail
      refine (HRA.out _ (HM.out.below HB6.out)).mono ?_
      rintro e w7 ⟨B, ok, x1, y1, rfl, hans, hO, hb7⟩
      have hAB : B = A := by
        rcases hans with ⟨_, h⟩ | ⟨_, h, _⟩
        · injection h with h; exact h.symm
        · cases h
      subst hAB
      have HB7 : Hid (Below w.heap.size w w7) := HB6.out.trans (hb7.mono HB6.out.size)
      have HS7 : Hid (IsStrs w7 s2 d2 F) := HS6.out.below hb7
      have HX7 : Hid (IsStrs w7 x1 y1 B.parts) := hO.strsOf
      clear hans hO hb7 HRA HB6 HS6
      go_wp2_with fail
      refine (implPage_any B G2 x1 y1 _ ((HM.out.below HB7.out).alloc _) (HX7.out.keep (alloc_keep _ _)) hbA HKT.out trivial).mono ?_
      rintro e w8 ⟨v8, rfl, hO8, hb8⟩
      rw [← HFA.out] at hO8
      obtain ⟨s8, d8, hv8, hS8⟩ := hO8.strs
      subst hv8
      have HR8 : Hid (IsStrs w8 s8 d8 F) := hS8
      have HS8 : Hid (IsStrs w8 s2 d2 F) := (HS7.out.keep (alloc_keep _ _)).below hb8
      have HB8 : Hid (Below w.heap.size w w8) := (HB7.out.alloc HB7.out.size _).trans (hb8.mono (by simp; exact Nat.le_succ_of_le HB7.out.size))
      clear hO8 hS8 hb8 HB7 HS7 HX7 HFA
      go_wp2_with fail
      refine (texts_same s2 d2 s8 d8 F _ HS8.out HR8.out (by omega)).mono ?_
      rintro e w9 ⟨rfl, hb9⟩
      have HB9 : Hid (Below w.heap.size w w9) := HB8.out.trans (hb9.mono HB8.out.size)
      clear hb9
      go_wp2
      go_ret
      exact ⟨rfl, HB9.out⟩
    · subst hFA
      clear HK
      obtain ⟨G1, G2⟩ := G
      dsimp only at h1 HKT HS6 ⊢
      subst h1
      have HL1 : Hid (IsStrs (w6.alloc (.cells #[.string G2] 9)) (some ⟨w6.heap.size, 0, none⟩) 1 [G2]) := (lit_one w6 w6.heap.size G2 (Nat.le_refl _)).strsOf
      have HS7 : Hid (IsStrs (w6.alloc (.cells #[.string G2] 9)) s2 d2 [G2]) := HS6.out.keep (alloc_keep _ _)
      go_wp2_with fail
      refine (texts_same s2 d2 _ 1 [G2] _ HS7.out HL1.out (by omega)).mono ?_
      rintro e w9 ⟨rfl, hb9⟩
      have HB9 : Hid (Below w.heap.size w w9) := (HB6.out.alloc HB6.out.size _).trans (hb9.mono (by simp; exact Nat.le_succ_of_le HB6.out.size))
      clear hb9
      go_wp2
      go_ret
      exact ⟨rfl, HB9.out⟩
    · subst hFA
      clear HK
      obtain ⟨G1, G2⟩ := G
      dsimp only at h1 h2 ⊢
      have hk1 : (G1 == 1) = false := by simpa using h1
      have hk2 : (G1 == 2) = false := by simpa using h2
      go_wp2
      go_ret
      exact ⟨rfl, HB6.out⟩
end Go.Proofs.YtcohaalgefcjnaaGreatDoor.fnWorldFrom
