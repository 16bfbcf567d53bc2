/- FnWorldLets: the walk. -/
import Derived.Test.YtmgcdfmgmpnonaaGreatDoorRows
import Derived.WalkKit
import Derived.ProofKit
import Derived.OpenShut
import Derived.ShutString
import Derived.ChangeOld
import Derived.Below
import Derived.Test.YtmgcdfmgmpnonaaGreatDoorCards
import Derived.Test.YtmgcdfmgmpnonaaGreatDoorDrawWN
import Derived.Test.YtmgcdfmgmpnonaaGreatDoorWdN4
import Derived.Deep.RegionHeldLaw
import Derived.Shelf.Vars
import Derived.Lay
import Derived.LaidOnce
import Derived.SevenTiedAt
namespace Go.Proofs.YtmgcdfmgmpnonaaGreatDoor.fnWorldLets
open Go.ChangeShapes Go.WideShapes Go.ChangeAt Go.RowKit
open Go.ChangeMaps (open_string shut_string)
set_option linter.unusedVariables false
open Go.Proofs.YtmgcdfmgmpnonaaGreatDoor.AddrM Go.Proofs.YtmgcdfmgmpnonaaGreatDoor.Ad1 Go.Proofs.YtmgcdfmgmpnonaaGreatDoor.Rd1 Go.Proofs.YtmgcdfmgmpnonaaGreatDoor.RdA Go.Proofs.YtmgcdfmgmpnonaaGreatDoor.MkA Go.Proofs.YtmgcdfmgmpnonaaGreatDoor.Mp Go.Proofs.YtmgcdfmgmpnonaaGreatDoor.EscL Go.Proofs.YtmgcdfmgmpnonaaGreatDoor.EscM Go.Proofs.YtmgcdfmgmpnonaaGreatDoor.ReadM Go.Proofs.YtmgcdfmgmpnonaaGreatDoor.RuleM Go.Proofs.YtmgcdfmgmpnonaaGreatDoor.St Go.Proofs.YtmgcdfmgmpnonaaGreatDoor.RR Go.Proofs.YtmgcdfmgmpnonaaGreatDoor.RoPg Go.Proofs.YtmgcdfmgmpnonaaGreatDoor.LetM Go.Proofs.YtmgcdfmgmpnonaaGreatDoor.Nm Go.Proofs.YtmgcdfmgmpnonaaGreatDoor.GrM Go.Proofs.YtmgcdfmgmpnonaaGreatDoor.Gf Go.Proofs.YtmgcdfmgmpnonaaGreatDoor.NrM Go.Proofs.YtmgcdfmgmpnonaaGreatDoor.NrT Go.Proofs.YtmgcdfmgmpnonaaGreatDoor.NrW Go.Proofs.YtmgcdfmgmpnonaaGreatDoor.WdM Go.Proofs.YtmgcdfmgmpnonaaGreatDoor.Wd Go.Proofs.YtmgcdfmgmpnonaaGreatDoor.WdN Go.Proofs.YtmgcdfmgmpnonaaGreatDoor.Dr

theorem mx_of {w : World} (h : w.ShapedOpen Tryz.prog) : Im.Mx w :=
  cell_of_shapedOpen_int (g := 0) (t := 3) (zero := #[.int .i64 0]) (k := .i64) h (of_decide_eq_true (by kernel_rfl)) (by kernel_rfl) rfl (by kernel_rfl) (by kernel_rfl) Tryz.underlying3
theorem bd_sz {L : List Pg} (h : PgsBd L) : PgSz L := fun p hp => by obtain ⟨h1, h2, h3, _⟩ := h p hp; omega
theorem bd_rd {L : List Pg} (h : PgsBd L) : PgRd L := fun p hp => by obtain ⟨h1, h2, h3, _, _, h6⟩ := h p hp; exact ⟨by omega, h6⟩
theorem nameB_size {s : ByteArray} (h : nameB s = true) : s.size ≤ 8 := by unfold nameB at h; simp at h; omega

set_option maxRecDepth 100000 in
set_option maxHeartbeats 6400000 in
theorem walk (a0 : Option Addr) (len0 cap0 : Nat) (z0 : List Int) (w : World) (w0 : Dr.IsRow .u8 w a0 len0 cap0 z0) (hL : laidMetH Tryz.prog Rows.fnWorldLetsRow.laid w) (hsh : w.ShapedOpen Tryz.prog) :
    Calls Tryz.prog 4 #[.slice a0 len0 cap0] w fun e w' => e = .returned (.bool true) ∧ Below w.heap.size w w' := by
  have HM : Hid (Im.Mx w) := mx_of hsh
  clear hsh hL
  by_cases hlong : (1048576 : Int) < len0
  · go_enter Tryz.func4, Tryz.ntmps4
    go_wp2
    go_ret
    exact ⟨rfl, Below.refl _ _⟩
  go_enter Tryz.func4, Tryz.ntmps4
  go_wp2_with fail
  refine (drawWLets_any a0 len0 cap0 z0 w w0).mono ?_
  rintro e w1 ⟨L, a1, c1, s, t, rfl, hI, hl, hL, hs, ht, hb1⟩
  have HI1 : Hid (IsRows FPg w1 a1 c1 L) := hI
  have HL : Hid (PgSz L) := bd_sz hL
  have HR : Hid (PgRd L) := bd_rd hL
  have HA : Hid (PgAs L) := fun _ _ => ⟨trivial, trivial⟩
  have HB1 : Hid (Below w.heap.size w w1) := hb1
  have hsz := nameB_size hs
  have HN : Hid (nameB s = true) := hs
  clear hI hL hb1 w0 hs
  have HSW : Hid (∀ W, IsRows FPg W a1 c1 L → Calls Tryz.prog 22 #[.slice a1 L.length c1, .string s, .string t] W fun e w' => e = .returned (.bool (letsW L s t)) ∧ Below W.heap.size W w') := fun W hW => specWLets_any a1 c1 L s t W hW HL.out HR.out (by omega) (by omega)
  have HOK : Hid (∀ W, IsRows FPg W a1 c1 L → Calls Tryz.prog 23 #[.slice a1 L.length c1] W fun e w' => e = .returned (.bool (wOk L)) ∧ Below W.heap.size W w') := fun W hW => specWorldOk_any a1 c1 L W hW HL.out
  have HRA : Hid (∀ W, Im.Mx W → Calls Tryz.prog 21 #[.string t] W fun e w' => Reads (readF t.data.toList) W e w') := fun W hW => RdA.implRead_all t W hW (by omega) trivial
  have HWN : Hid (∀ A W, Im.Mx W → IsRows FPg W a1 c1 L → readF t.data.toList = some A → wOk L = true → Calls Tryz.prog 12 #[.slice a1 L.length c1, .string A.house, .string s] W fun e w' => SaidG W w' (saysG (kindF L (doorS A.house) 2) s) e) := fun A W hM hW hr h1 => by
    have hh := (Dr.ok_parts (OB.read_ok hr)).1
    have hz : A.house.size ≤ 5 := by unfold houseB at hh; simp at hh; omega
    have h := implWNotice_any a1 c1 L A.house s W hM hW HL.out HA.out HR.out (by unfold maxLen; omega) (by unfold maxLen; omega)
    rw [notice_yes h1 hh HN.out] at h
    exact h
  have HPA : Hid (∀ A a2 c2 W, readF t.data.toList = some A → IsStrs W a2 c2 A.parts → Calls Tryz.prog 24 #[.agg #[.string A.house, .slice a2 A.parts.length c2, .bool A.asks, .string A.ask]] W fun e w' => e = .returned (.string (pathF A)) ∧ Below W.heap.size W w') := fun A a2 c2 W hr hW => implAddrPath_any A a2 c2 W hW (Nat.le_trans (OB.ok_bulk (OB.read_ok hr)) (by decide))
  have HRL : Hid (∀ A g W, Im.Mx W → GrAt W g → readF t.data.toList = some A → wOk L = true → grp g = saysG (kindF L (doorS A.house) 2) s → Calls Tryz.prog 18 #[.slice g.ra g.ru.length g.rc, .string (pathF A)] W fun e w' => e = .returned (.bool (letsW L s t)) ∧ Below W.heap.size W w') := fun A g W hM hG hr h1 hg => by
    have hgr : g.ru = (saysG (kindF L (doorS A.house) 2) s).2.1 := by rw [← hg]; rfl
    have hbd := says_bd (kindF L (doorS A.house) 2) s
    rw [← hgr] at hbd
    have hp := pathF_60 A
    rw [lets_some hr h1 HN.out, ← hgr]
    exact Le.implLets_any g.ra g.rc g.ru (pathF A) W hM hG.2 (Nat.le_trans hbd.1 (by decide)) (fun r hr => Nat.le_trans (hbd.2 r hr) (by decide)) (by unfold maxLen; omega)
  go_wp2_with fail
  refine (implWLets_any a1 c1 L s t _ (HM.out.below HB1.out) HI1.out HL.out HA.out HR.out (by unfold maxLen; omega) (by omega) trivial).mono ?_
  rintro e w2 ⟨rfl, hb2⟩
  have HB2 : Hid (Below w.heap.size w w2) := HB1.out.trans (hb2.mono HB1.out.size)
  have HI2 : Hid (IsRows FPg w2 a1 c1 L) := HI1.out.below hb2
  clear hb2 HI1 HB1
  generalize readF t.data.toList = RA at *
  generalize letsW L s t = V at *
  go_wp2_with fail
  refine (HRA.out w2 (HM.out.below HB2.out)).mono ?_
  rintro e wr ⟨A, ok, a2, c2, rfl, hans, hO, hbr⟩
  have HANS : Hid _ := hans
  obtain ⟨w3, hw3⟩ : ∃ w3, wr.alloc (.cells #[.string A.house, .slice a2 A.parts.length c2, .bool A.asks, .string A.ask] 41) = w3 := ⟨_, rfl⟩
  have HW3 : Hid (wr.alloc (.cells #[.string A.house, .slice a2 A.parts.length c2, .bool A.asks, .string A.ask] 41) = w3) := hw3
  obtain ⟨G, hGe⟩ : ∃ G, wr.heap.size = G := ⟨_, rfl⟩
  have hbw : Below w.heap.size w wr := HB2.out.trans (hbr.mono HB2.out.size)
  have HE3 : Hid (Below w.heap.size w w3) := by rw [← hw3]; exact hbw.alloc hbw.size _
  have HX3 : Hid (Bx 41 w3 G #[.string A.house, .slice a2 A.parts.length c2, .bool A.asks, .string A.ask]) := by rw [← hw3, ← hGe]; exact Bx.new _ _ _
  have HI3 : Hid (IsRows FPg w3 a1 c1 L) := by rw [← hw3]; exact (HI2.out.below hbr).keep (alloc_keep _ _)
  have HS3 : Hid (IsStrs w3 a2 c2 A.parts) := by rw [← hw3]; exact (Owns.strsOf hO).keep (alloc_keep _ _)
  clear hans hO hbr hbw hw3 HRA HI2 HB2
  go_wp2_with fail
  rw [HW3.out]
  refine (HSW.out w3 HI3.out).mono ?_
  rintro e w4 ⟨rfl, hb4⟩
  have HE4 : Hid (Below w.heap.size w w4) := HE3.out.trans (hb4.mono HE3.out.size)
  have HX4 : Hid (Bx 41 w4 G #[.string A.house, .slice a2 A.parts.length c2, .bool A.asks, .string A.ask]) := HX3.out.keep fun k hk => hb4.block k hk
  have HS4 : Hid (IsStrs w4 a2 c2 A.parts) := HS3.out.below hb4
  have HI4 : Hid (IsRows FPg w4 a1 c1 L) := HI3.out.below hb4
  clear hb4
  cases ok with
  | false =>
    clear HANS
    cases V with
    | false =>
      go_wp2_with fail
      refine (HSW.out w4 HI4.out).mono ?_
      rintro e w5 ⟨rfl, hb5⟩
      have HE5 : Hid (Below w.heap.size w w5) := HE4.out.trans (hb5.mono HE4.out.size)
      clear hb5
      go_wp2
      go_ret
      exact ⟨rfl, HE5.out⟩
    | true =>
      go_wp2_with fail
      refine (HSW.out w4 HI4.out).mono ?_
      rintro e w5 ⟨rfl, hb5⟩
      have HE5 : Hid (Below w.heap.size w w5) := HE4.out.trans (hb5.mono HE4.out.size)
      clear hb5
      go_wp2
      go_ret
      exact ⟨rfl, HE5.out⟩
  | true =>
    have HRS : Hid (RA = some A) := by
      rcases HANS.out with ⟨_, h⟩ | ⟨h, _⟩
      · exact h
      · cases h
    clear HANS
    cases V <;> (
      go_wp2_with fail
      refine (HOK.out w4 HI4.out).mono ?_
      rintro e w5 ⟨rfl, hb5⟩
      have HE5 : Hid (Below w.heap.size w w5) := HE4.out.trans (hb5.mono HE4.out.size)
      have HX5 : Hid (Bx 41 w5 G #[.string A.house, .slice a2 A.parts.length c2, .bool A.asks, .string A.ask]) := HX4.out.keep fun k hk => hb5.block k hk
      have HS5 : Hid (IsStrs w5 a2 c2 A.parts) := HS4.out.below hb5
      have HI5 : Hid (IsRows FPg w5 a1 c1 L) := HI4.out.below hb5
      clear hb5
      cases hw : wOk L with
      | false =>
        clear hw
        go_wp2_with fail
        refine (HSW.out w5 HI5.out).mono ?_
        rintro e w6 ⟨rfl, hb6⟩
        have HE6 : Hid (Below w.heap.size w w6) := HE5.out.trans (hb6.mono HE5.out.size)
        clear hb6
        go_wp2
        go_ret
        exact ⟨rfl, HE6.out⟩
      | true =>
        have HW : Hid (wOk L = true) := hw
        clear hw
        have y0 := HX5.out.cell 0 rfl
        have y1 := HX5.out.cell 1 rfl
        have y2 := HX5.out.cell 2 rfl
        have y3 := HX5.out.cell 3 rfl
        go_wp2_with fail
        go_region_held_law (fun w' => w'.cell? ⟨G, 0, none⟩ = some (.string A.house) ∧ w'.cell? ⟨G, 1, none⟩ = some (.slice a2 A.parts.length c2) ∧ w'.cell? ⟨G, 2, none⟩ = some (.bool A.asks) ∧ w'.cell? ⟨G, 3, none⟩ = some (.string A.ask)) (first | go_keep | exact hS6 | exact hS7 | exact hS8)
          ((first
          | (go_at_call 12
             refine (HWN.out A w5.drew ((HM.out.below HE5.out).keep fun _ _ => rfl) (HI5.out.keep fun _ _ => rfl) HRS.out HW.out).mono ?_
             rintro e w6 ⟨g, rfl, hg, hgo, hb0⟩
             have hb6 : Below w5.heap.size w5 w6 := ((Below.refl _ w5).drew).trans hb0
             have hfd : Sem.run Tryz.prog (Instr.field 29 (.agg #[.slice g.na g.nm.length g.nc, .slice g.ra g.ru.length g.rc, .int .i64 g.wait]) 1) w6 = .ok (.slice g.ra g.ru.length g.rc) w6 := by first | rfl | kernel_rfl
             have HGG : Hid (grp g = saysG (kindF L (doorS A.house) 2) s) := hg
             have HGA6 : Hid (GrAt w6 g) := hgo.at
             have HE6 : Hid (Below w.heap.size w w6) := HE5.out.trans (hb6.mono HE5.out.size)
             have HX6 : Hid (Bx 41 w6 G #[.string A.house, .slice a2 A.parts.length c2, .bool A.asks, .string A.ask]) := HX5.out.keep fun k hk => hb6.block k hk
             have HS6 : Hid (IsStrs w6 a2 c2 A.parts) := HS5.out.below hb6
             have HI6 : Hid (IsRows FPg w6 a1 c1 L) := HI5.out.below hb6
             have hS6 : w6.cell? ⟨G, 0, none⟩ = some (.string A.house) ∧ w6.cell? ⟨G, 1, none⟩ = some (.slice a2 A.parts.length c2) ∧ w6.cell? ⟨G, 2, none⟩ = some (.bool A.asks) ∧ w6.cell? ⟨G, 3, none⟩ = some (.string A.ask) := ⟨HX6.out.cell 0 rfl, HX6.out.cell 1 rfl, HX6.out.cell 2 rfl, HX6.out.cell 3 rfl⟩
             clear hg hgo hb0 hb6)
          | (go_at_call 24
             refine (HPA.out A a2 c2 w6 HRS.out HS6.out).mono ?_
             rintro e w7 ⟨rfl, hb7⟩
             have hfd2 : Sem.run Tryz.prog (Instr.field 29 (.agg #[.slice g.na g.nm.length g.nc, .slice g.ra g.ru.length g.rc, .int .i64 g.wait]) 1) w7 = .ok (.slice g.ra g.ru.length g.rc) w7 := by first | rfl | kernel_rfl
             have HGA7 : Hid (GrAt w7 g) := HGA6.out.below hb7
             have HE7 : Hid (Below w.heap.size w w7) := HE6.out.trans (hb7.mono HE6.out.size)
             have HX7 : Hid (Bx 41 w7 G #[.string A.house, .slice a2 A.parts.length c2, .bool A.asks, .string A.ask]) := HX6.out.keep fun k hk => hb7.block k hk
             have HS7 : Hid (IsStrs w7 a2 c2 A.parts) := HS6.out.below hb7
             have HI7 : Hid (IsRows FPg w7 a1 c1 L) := HI6.out.below hb7
             have hS7 : w7.cell? ⟨G, 0, none⟩ = some (.string A.house) ∧ w7.cell? ⟨G, 1, none⟩ = some (.slice a2 A.parts.length c2) ∧ w7.cell? ⟨G, 2, none⟩ = some (.bool A.asks) ∧ w7.cell? ⟨G, 3, none⟩ = some (.string A.ask) := ⟨HX7.out.cell 0 rfl, HX7.out.cell 1 rfl, HX7.out.cell 2 rfl, HX7.out.cell 3 rfl⟩
             clear hb7)
          | (go_at_call 18
             refine (HRL.out A g w7 (HM.out.below HE7.out) HGA7.out HRS.out HW.out HGG.out).mono ?_
             rintro e w8 ⟨rfl, hb8⟩
             have HE8 : Hid (Below w.heap.size w w8) := HE7.out.trans (hb8.mono HE7.out.size)
             have HX8 : Hid (Bx 41 w8 G #[.string A.house, .slice a2 A.parts.length c2, .bool A.asks, .string A.ask]) := HX7.out.keep fun k hk => hb8.block k hk
             have HS8 : Hid (IsStrs w8 a2 c2 A.parts) := HS7.out.below hb8
             have HI8 : Hid (IsRows FPg w8 a1 c1 L) := HI7.out.below hb8
             have hS8 : w8.cell? ⟨G, 0, none⟩ = some (.string A.house) ∧ w8.cell? ⟨G, 1, none⟩ = some (.slice a2 A.parts.length c2) ∧ w8.cell? ⟨G, 2, none⟩ = some (.bool A.asks) ∧ w8.cell? ⟨G, 3, none⟩ = some (.string A.ask) := ⟨HX8.out.cell 0 rfl, HX8.out.cell 1 rfl, HX8.out.cell 2 rfl, HX8.out.cell 3 rfl⟩
             clear hb8)
          | fail))
        all_goals
          go_wp2
          go_ret
          exact ⟨rfl, HE8.out⟩)
end Go.Proofs.YtmgcdfmgmpnonaaGreatDoor.fnWorldLets
