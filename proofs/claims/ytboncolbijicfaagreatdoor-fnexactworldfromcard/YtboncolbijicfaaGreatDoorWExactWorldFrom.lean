/- FnExactWorldFrom: the walk. -/
import Derived.Test.YtboncolbijicfaaGreatDoorRows
import Derived.WalkKit
import Derived.ProofKit
import Derived.OpenShut
import Derived.ShutString
import Derived.ChangeOld
import Derived.Below
import Derived.Test.YtboncolbijicfaaGreatDoorCards
import Derived.Test.YtboncolbijicfaaGreatDoorWd5
import Derived.Test.YtboncolbijicfaaGreatDoorPgLaws
import Derived.Test.YtboncolbijicfaaGreatDoorExPgPk
import Derived.Test.YtboncolbijicfaaGreatDoorMarkA
import Derived.Test.YtboncolbijicfaaGreatDoorOpenPg
import Derived.Shelf.Vars
import Derived.Lay
import Derived.LaidOnce
import Derived.SevenTiedAt
namespace Go.Proofs.YtboncolbijicfaaGreatDoor.fnExactWorldFrom
open Go.ChangeShapes Go.WideShapes Go.ChangeAt Go.RowKit
open Go.ChangeMaps (open_string shut_string)
set_option linter.unusedVariables false
open Go.Proofs.YtboncolbijicfaaGreatDoor.EscL Go.Proofs.YtboncolbijicfaaGreatDoor.EscM Go.Proofs.YtboncolbijicfaaGreatDoor.St Go.Proofs.YtboncolbijicfaaGreatDoor.RR Go.Proofs.YtboncolbijicfaaGreatDoor.RoPg Go.Proofs.YtboncolbijicfaaGreatDoor.ExPg Go.Proofs.YtboncolbijicfaaGreatDoor.WdM Go.Proofs.YtboncolbijicfaaGreatDoor.Wd Go.Proofs.YtboncolbijicfaaGreatDoor.MkA

theorem mx_of {w : World} (h : w.ShapedOpen Tryz.prog) : Im.Mx w :=
  cell_of_shapedOpen_int (g := 0) (t := 3) (zero := #[.int .i64 0]) (k := .i64) h (of_decide_eq_true (by kernel_rfl)) (by kernel_rfl) rfl (by kernel_rfl) (by kernel_rfl) Tryz.underlying3
theorem from_len (L : List Pg) (a : ByteArray) : (fromW L a).length ≤ 300 := by
  unfold fromW
  split
  · split
    · unfold leadF
      split
      · exact PgA.page_len _ _
      · split
        · show 1 ≤ 300; omega
        · exact Nat.zero_le _
    · exact Nat.zero_le _
  · exact Nat.zero_le _
theorem eqS_same (a0 : Option Addr) (cap : Nat) (b0 : Option Addr) (dap : Nat) (A : List ByteArray) (w : World) (hA : IsStrs w a0 cap A) (hB : IsStrs w b0 dap A) (hl : A.length ≤ 4194304) :
    Calls Tryz.prog 14 #[.slice a0 A.length cap, .slice b0 A.length dap] w fun e w' => e = .returned (.bool true) ∧ Below w.heap.size w w' := by
  refine (eqS_n a0 A.length cap A b0 A.length dap A w rfl rfl hA hB hl hl).mono ?_
  rintro e w1 ⟨rfl, n, rfl⟩
  exact ⟨by simp, below_drewN (Below.refl _ _) n⟩
theorem grown_lowB {w w' : World} {b : Nat} {row : Option Nat} {u : World} (h : Below b u w) (hg : w.grownBy w' row) (hz : b ≤ w.heap.size) (hr : ∀ k, row = some k → b ≤ k) : Below b u w' :=
  Below.grown h hg hz hr

set_option maxRecDepth 100000 in
set_option maxHeartbeats 6400000 in
theorem walk (a0 : Option Addr) (cap : Nat) (L : List Pg) (a : ByteArray) (w : World) (hI : IsRows FPg w a0 cap L) (hs : ∀ g ∈ L, PgIn g) (w1 : a.size ≤ maxLen) (hL : laidMetH Tryz.prog Rows.fnExactWorldFromRow.laid w) (hsh : w.ShapedOpen Tryz.prog) :
    Calls Tryz.prog 3 #[.slice a0 L.length cap, .string a] w fun e w' => e = .returned (.bool true) ∧ Below w.heap.size w w' := by
  have HM : Hid (Im.Mx w) := mx_of hsh
  have HI : Hid (IsRows FPg w a0 cap L) := hI
  have HIn : Hid (∀ g ∈ L, PgIn g) := hs
  clear hsh hL hI hs
  unfold maxLen at w1
  by_cases hlong : 1048576 < a.size
  · go_enter Tryz.func3, Tryz.ntmps3
    go_wp2
    go_ret
    exact ⟨rfl, Below.refl _ _⟩
  go_enter Tryz.func3, Tryz.ntmps3
  go_wp2_with fail
  refine (szPgS_any a0 cap L 1048576 _ HI.out HIn.out (by decide)).mono ?_
  rintro e w1 ⟨⟨x, rfl, hx⟩, hb1⟩
  have HB1 : Hid (Below w.heap.size w w1) := hb1
  clear hb1
  rcases hx with hx | ⟨hx0, _, hxl, hxs⟩
  · go_wp2
    go_ret
    exact ⟨rfl, HB1.out⟩
  have HSz : Hid (PgSz L) := fun g hg => by obtain ⟨e1, e2, e3⟩ := hxs g hg; omega
  have HAs : Hid (PgAs L) := fun _ _ => ⟨trivial, trivial⟩
  have HTx : Hid (PgTx L) := fun _ _ => trivial
  have has : a.size ≤ 4194304 := by omega
  have HSF : Hid _ := fun b0 c0 W hW => specFrom_any b0 c0 L a W hW HSz.out has
  have HIF : Hid _ := fun b0 c0 W hM hW => implFrom_any b0 c0 L a W hM hW HSz.out HAs.out HTx.out has trivial
  have HTP : Hid _ := fun W hW => toPgS_any a0 cap L W hW hxl
  have hF := from_len L a
  clear hxs has
  generalize fromW L a = F at *
  go_wp2_with fail
  refine (HTP.out _ (HI.out.below HB1.out)).mono ?_
  rintro e w2 ⟨rfl, hO2, hb2⟩
  have HO2 : Hid (IsRows FPg w2 (some ⟨w1.heap.size, 0, none⟩) L.length L) := hO2.rowsOf
  have HB2 : Hid (Below w.heap.size w w2) := HB1.out.trans (hb2.mono HB1.out.size)
  clear hO2 hb2
  go_wp2_with fail
  refine (HSF.out _ _ _ HO2.out).mono ?_
  rintro e w3 ⟨v0, rfl, hO3, hb3⟩
  obtain ⟨s0, d0, rfl, hS3⟩ := hO3.strs
  have HB3 : Hid (Below w.heap.size w w3) := HB2.out.trans (hb3.mono HB2.out.size)
  have HS3 : Hid (IsStrs w3 s0 d0 F) := hS3
  have HK : Hid (∀ {W : World}, Below w3.heap.size w3 W → IsStrs W s0 d0 F ∧ Below w.heap.size w W ∧ IsRows FPg W a0 cap L ∧ Im.Mx W ∧ w3.heap.size ≤ W.heap.size) := fun {W} h => by
    have hbw := HB3.out.trans (h.mono HB3.out.size)
    exact ⟨HS3.out.below h, hbw, HI.out.below hbw, HM.out.below hbw, h.size⟩
  clear hO3 hS3 hb3 HO2
  have HE3 : Hid (Below w3.heap.size w3 w3) := Below.refl _ _
  -- x0
  go_wp2_with fail
  refine (HTP.out _ (HK.out HE3.out).2.2.1).mono ?_
  rintro e w4 ⟨rfl, hO4, hb4⟩
  have HO4 : Hid (OwnsR FPg 67 w4 w3.heap.size (.slice (some ⟨w3.heap.size, 0, none⟩) L.length L.length) L) := hO4
  have HE4 : Hid (Below w3.heap.size w3 w4) := hb4
  have hlt4 : w3.heap.size < w4.heap.size := (World.ownsRow.lt hO4 w3.heap.size rfl).2
  clear hO4 hb4
  -- g0
  go_wp2_with fail
  refine (HIF.out _ _ _ (HK.out HE4.out).2.2.2.1 HO4.out.rowsOf).mono ?_
  rintro e w5 ⟨v5, rfl, hO5, hb5⟩
  obtain ⟨s5, d5, hv5, hS5⟩ := hO5.strs
  subst hv5
  have HO5 : Hid (Owns w5 w4.heap.size (.slice s5 F.length d5) F) := hO5
  have HE5 : Hid (Below w3.heap.size w3 w5) := HE4.out.trans (hb5.mono (HK.out HE4.out).2.2.2.2)
  have HP5 : Hid (OwnsR FPg 67 w5 w3.heap.size (.slice (some ⟨w3.heap.size, 0, none⟩) L.length L.length) L) := HO4.out.below hb5
  clear hO5 hS5 hb5 HO4
  go_wp2_with fail
  refine (eqS_same s5 d5 s0 d0 F _ HO5.out.strsOf (HK.out HE5.out).1 (by omega)).mono ?_
  rintro e w6 ⟨rfl, hbq⟩
  have HO6 : Hid (Owns w6 w4.heap.size (.slice s5 F.length d5) F) := HO5.out.below hbq
  have HE6 : Hid (Below w3.heap.size w3 w6) := HE5.out.trans (hbq.mono (HK.out HE5.out).2.2.2.2)
  have HP6 : Hid (OwnsR FPg 67 w6 w3.heap.size (.slice (some ⟨w3.heap.size, 0, none⟩) L.length L.length) L) := HP5.out.below hbq
  clear hbq HO5 HE5 HP5
  go_wp2_with fail
  refine (HTP.out _ (HK.out HE6.out).2.2.1).mono ?_
  rintro e w7 ⟨rfl, hO7, hb7⟩
  have HQ7 : Hid (IsRows FPg w7 (some ⟨w6.heap.size, 0, none⟩) L.length L) := hO7.rowsOf
  have HO7 : Hid (Owns w7 w4.heap.size (.slice s5 F.length d5) F) := HO6.out.below hb7
  have HP7 : Hid (OwnsR FPg 67 w7 w3.heap.size (.slice (some ⟨w3.heap.size, 0, none⟩) L.length L.length) L) := HP6.out.below hb7
  have HE7 : Hid (Below w3.heap.size w3 w7) := HE6.out.trans (hb7.mono (HK.out HE6.out).2.2.2.2)
  clear hO7 hb7 HO6 HE6 HP6
  go_wp2_with fail
  refine (eqPgS_any _ _ _ _ L _ HP7.out.rowsOf HQ7.out (by omega)).mono ?_
  rintro e w8 ⟨rfl, hb8⟩
  have HO8 : Hid (Owns w8 w4.heap.size (.slice s5 F.length d5) F) := HO7.out.below hb8
  have HP8 : Hid (OwnsR FPg 67 w8 w3.heap.size (.slice (some ⟨w3.heap.size, 0, none⟩) L.length L.length) L) := HP7.out.below hb8
  have HE8 : Hid (Below w3.heap.size w3 w8) := HE7.out.trans (hb8.mono (HK.out HE7.out).2.2.2.2)
  clear hb8 HO7 HE7 HP7 HQ7
  -- x0 is marked
  go_wp2_with fail
  refine (markPgS_any w3.heap.size w3.heap.size L.length L.length _ ⟨_, HP8.out⟩ hxl).mono ?_
  rintro e w9 ⟨⟨z, rfl, hz⟩, hg9⟩
  have HO9 : Hid (Owns w9 w4.heap.size (.slice s5 F.length d5) F) := Owns.keptR HO8.out hg9 hlt4
  have HE9 : Hid (Below w3.heap.size w3 w9) := Below.grown HE8.out hg9 (HK.out HE8.out).2.2.2.2 (by intro k hk; have := Option.some.inj hk; omega)
  clear hg9 HO8 HE8 HP8
  go_wp2_with fail
  refine (eqS_same s5 d5 s0 d0 F _ HO9.out.strsOf (HK.out HE9.out).1 (by omega)).mono ?_
  rintro e w10 ⟨rfl, hbq⟩
  have HO10 : Hid (Owns w10 w4.heap.size (.slice s5 F.length d5) F) := HO9.out.below hbq
  have HE10 : Hid (Below w3.heap.size w3 w10) := HE9.out.trans (hbq.mono (HK.out HE9.out).2.2.2.2)
  clear hbq HO9 HE9
  -- g0 is marked
  have HGE : Hid (∀ g, (Value.slice s5 F.length d5).ownBlock = some g → w4.heap.size ≤ g) := fun g hg => owns_ge HO10.out g hg
  go_wp2_with fail
  refine (markS_any w4.heap.size d5 s5 F 1 _ HO10.out (by omega) (by decide) (by decide)).mono ?_
  rintro e w11 ⟨rfl, hO11, hg11⟩
  have HO11 : Hid (IsStrs w11 s5 d5 (marks 1 F.length)) := hO11.strsOf
  have HE11 : Hid (Below w3.heap.size w3 w11) := Below.grown HE10.out hg11 (HK.out HE10.out).2.2.2.2 (fun k hk => by have := HGE.out k hk; omega)
  clear hO11 hg11 HO10 HE10
  go_wp2_with fail
  refine (held_any s5 d5 F.length 1 _ HO11.out (by omega) (by decide) (by decide)).mono ?_
  rintro e w12 ⟨rfl, hb12⟩
  have HO12 : Hid (IsStrs w12 s5 d5 (marks 1 F.length)) := HO11.out.below hb12
  have HE12 : Hid (Below w3.heap.size w3 w12) := HE11.out.trans (hb12.mono (HK.out HE11.out).2.2.2.2)
  clear hb12 HO11 HE11
  have hq : ((1 + F.length : Nat) : Int) = 1 + (F.length : Int) := by omega
  rw [hq]
  go_wp2_with fail
  refine (HTP.out _ (HK.out HE12.out).2.2.1).mono ?_
  rintro e w13 ⟨rfl, hO13, hb13⟩
  have HQ13 : Hid (IsRows FPg w13 (some ⟨w12.heap.size, 0, none⟩) L.length L) := hO13.rowsOf
  have HO13 : Hid (IsStrs w13 s5 d5 (marks 1 F.length)) := HO12.out.below hb13
  have HE13 : Hid (Below w3.heap.size w3 w13) := HE12.out.trans (hb13.mono (HK.out HE12.out).2.2.2.2)
  clear hO13 hb13 HO12 HE12
  go_wp2_with fail
  refine (HIF.out _ _ _ (HK.out HE13.out).2.2.2.1 HQ13.out).mono ?_
  rintro e w14 ⟨v14, rfl, hO14, hb14⟩
  obtain ⟨s14, d14, hv14, hS14⟩ := hO14.strs
  subst hv14
  have HS14 : Hid (IsStrs w14 s14 d14 F) := hS14
  have HO14 : Hid (IsStrs w14 s5 d5 (marks 1 F.length)) := HO13.out.below hb14
  have HE14 : Hid (Below w3.heap.size w3 w14) := HE13.out.trans (hb14.mono (HK.out HE13.out).2.2.2.2)
  clear hO14 hS14 hb14 HO13 HE13 HQ13
  go_wp2_with fail
  refine (eqS_same s14 d14 s0 d0 F _ HS14.out (HK.out HE14.out).1 (by omega)).mono ?_
  rintro e w15 ⟨rfl, hbq⟩
  have HO15 : Hid (IsStrs w15 s5 d5 (marks 1 F.length)) := HO14.out.below hbq
  have HE15 : Hid (Below w3.heap.size w3 w15) := HE14.out.trans (hbq.mono (HK.out HE14.out).2.2.2.2)
  clear hbq HO14 HE14 HS14
  go_wp2_with fail
  refine (held_any s5 d5 F.length 1 _ HO15.out (by omega) (by decide) (by decide)).mono ?_
  rintro e w16 ⟨rfl, hb16⟩
  have HE16 : Hid (Below w3.heap.size w3 w16) := HE15.out.trans (hb16.mono (HK.out HE15.out).2.2.2.2)
  clear hb16 HO15 HE15
  rw [hq]
  go_wp2
  go_ret
  exact ⟨rfl, (HK.out HE16.out).2.1⟩
end Go.Proofs.YtboncolbijicfaaGreatDoor.fnExactWorldFrom
