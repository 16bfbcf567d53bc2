/- FnWorldNotice: the walk. -/
import Derived.Test.YtmgcdfmgmpnonaaGreatDoorRows
import Derived.WalkKit
import Derived.ProofKit
import Derived.OpenShut
import Derived.ShutString
import Derived.ChangeOld
import Derived.Below
import Derived.Test.YtmgcdfmgmpnonaaGreatDoorCards
import Derived.Test.YtmgcdfmgmpnonaaGreatDoorDrawWN
import Derived.Test.YtmgcdfmgmpnonaaGreatDoorPgA1Pk
import Derived.Test.YtmgcdfmgmpnonaaGreatDoorDraw14Pk
import Derived.Deep.RegionHeldLaw
import Derived.Shelf.Vars
import Derived.Lay
import Derived.LaidOnce
import Derived.SevenTiedAt
namespace Go.Proofs.YtmgcdfmgmpnonaaGreatDoor.fnWorldNotice
open Go.ChangeShapes Go.WideShapes Go.ChangeAt Go.RowKit
open Go.ChangeMaps (open_string shut_string)
set_option linter.unusedVariables false
open Go.Proofs.YtmgcdfmgmpnonaaGreatDoor.AddrM Go.Proofs.YtmgcdfmgmpnonaaGreatDoor.Ad1 Go.Proofs.YtmgcdfmgmpnonaaGreatDoor.Rd1 Go.Proofs.YtmgcdfmgmpnonaaGreatDoor.RdA Go.Proofs.YtmgcdfmgmpnonaaGreatDoor.MkA Go.Proofs.YtmgcdfmgmpnonaaGreatDoor.Mp Go.Proofs.YtmgcdfmgmpnonaaGreatDoor.EscL Go.Proofs.YtmgcdfmgmpnonaaGreatDoor.EscM Go.Proofs.YtmgcdfmgmpnonaaGreatDoor.ReadM Go.Proofs.YtmgcdfmgmpnonaaGreatDoor.RuleM Go.Proofs.YtmgcdfmgmpnonaaGreatDoor.St Go.Proofs.YtmgcdfmgmpnonaaGreatDoor.RR Go.Proofs.YtmgcdfmgmpnonaaGreatDoor.RoPg Go.Proofs.YtmgcdfmgmpnonaaGreatDoor.LetM Go.Proofs.YtmgcdfmgmpnonaaGreatDoor.Nm Go.Proofs.YtmgcdfmgmpnonaaGreatDoor.GrM Go.Proofs.YtmgcdfmgmpnonaaGreatDoor.Gf Go.Proofs.YtmgcdfmgmpnonaaGreatDoor.NrM Go.Proofs.YtmgcdfmgmpnonaaGreatDoor.NrT Go.Proofs.YtmgcdfmgmpnonaaGreatDoor.NrW Go.Proofs.YtmgcdfmgmpnonaaGreatDoor.WdM Go.Proofs.YtmgcdfmgmpnonaaGreatDoor.Wd Go.Proofs.YtmgcdfmgmpnonaaGreatDoor.WdN Go.Proofs.YtmgcdfmgmpnonaaGreatDoor.Dr

theorem mx_of {w : World} (h : w.ShapedOpen Tryz.prog) : Im.Mx w :=
  cell_of_shapedOpen_int (g := 0) (t := 3) (zero := #[.int .i64 0]) (k := .i64) h (of_decide_eq_true (by kernel_rfl)) (by kernel_rfl) rfl (by kernel_rfl) (by kernel_rfl) Tryz.underlying3
theorem bd_sz {L : List Pg} (h : PgsBd L) : PgSz L := fun p hp => by obtain ⟨h1, h2, h3, _⟩ := h p hp; omega
theorem bd_rd {L : List Pg} (h : PgsBd L) : PgRd L := fun p hp => by obtain ⟨h1, h2, h3, _, _, h6⟩ := h p hp; exact ⟨by omega, h6⟩
theorem nameB_size {s : ByteArray} (h : nameB s = true) : s.size ≤ 8 := by unfold nameB at h; simp at h; omega
theorem nt_size (t : ByteArray) {B : List Gr} (h : B.map grp = noticeF t) : ∀ g ∈ B, True := fun _ _ => trivial
/-- what is said is short -/
theorem says_size (k : Int × ByteArray) (s : ByteArray) : (saysG k s).1 = [s] := by unfold saysG; split; rfl; split <;> rfl
theorem notice_sizes (L : List Pg) (s t : ByteArray) (hL : ∀ k, (saysG k t).2.1.length ≤ 4194304) : (noticeW L s t).1.length ≤ 4194304 ∧ (noticeW L s t).2.1.length ≤ 4194304 := by
  unfold noticeW
  split
  · exact ⟨by rw [says_size]; simp, hL _⟩
  · exact ⟨Nat.zero_le _, Nat.zero_le _⟩
theorem grp_of {a : Gr} {T : List ByteArray × List Ru × Int} (h : grp a = T) : a.nm = T.1 ∧ a.ru = T.2.1 ∧ a.wait = T.2.2 := by subst h; exact ⟨rfl, rfl, rfl⟩
theorem lets_bar : letsL [⟨false, ⟨#[47]⟩⟩] [47] = false ∧ letsL [⟨false, ⟨#[47]⟩⟩] [47, 97, 47, 98] = false := by decide +kernel

set_option maxRecDepth 100000 in
set_option maxHeartbeats 6400000 in
theorem walk (a0 : Option Addr) (len0 cap0 : Nat) (z0 : List Int) (w : World) (w0 : Dr.IsRow .u8 w a0 len0 cap0 z0) (hL : laidMetH Tryz.prog Rows.fnWorldNoticeRow.laid w) (hsh : w.ShapedOpen Tryz.prog) :
    Calls Tryz.prog 3 #[.slice a0 len0 cap0] w fun e w' => e = .returned (.bool true) ∧ Below w.heap.size w w' := by
  have HM : Hid (Im.Mx w) := mx_of hsh
  clear hsh hL
  by_cases hlong : (1048576 : Int) < len0
  · go_enter Tryz.func3, Tryz.ntmps3
    go_wp2
    go_ret
    exact ⟨rfl, Below.refl _ _⟩
  go_enter Tryz.func3, Tryz.ntmps3
  go_wp2_with fail
  refine (drawWNotice_any a0 len0 cap0 z0 w w0).mono ?_
  rintro e w1 ⟨L, a1, c1, s, t, rfl, hI, hl, hL, hs, ht, hb1⟩
  have HI1 : Hid (IsRows FPg w1 a1 c1 L) := hI
  have HL : Hid (PgSz L) := bd_sz hL
  have HR : Hid (PgRd L) := bd_rd hL
  have HA : Hid (PgAs L) := fun _ _ => ⟨trivial, trivial⟩
  have HB1 : Hid (Below w.heap.size w w1) := hb1
  have htz := nameB_size ht
  have HTB : Hid (nameB t = true) := ht
  have HKR : Hid (∀ k, (kindF L (doorS s) 2).1 = k → k = 1 → (kindF L (doorS s) 2).2.size ≤ 1000000) := fun k hk h => (kind_rd HR.out _ _ (by rw [hk, h])).1
  clear hI hL hb1 w0 ht
  have HSP : Hid (∀ W, IsRows FPg W a1 c1 L → Calls Tryz.prog 14 #[.slice a1 L.length c1, .string s, .string t] W fun e w' => SaidG W w' (noticeW L s t) e) := fun W hW => specWNotice_any a1 c1 L s t W hW HL.out HR.out (by omega) (by omega)
  have HGT : Hid (∀ W, Im.Mx W → IsRows FPg W a1 c1 L → Calls Tryz.prog 15 #[.slice a1 L.length c1, .string (doorS s), .int .i64 2] W fun e w' => e = .returned (.tuple #[.int .i64 (getF L (doorS s) 2).1, .string (getF L (doorS s) 2).2]) ∧ Below W.heap.size W w') := fun W hM hW => implGet_any a1 c1 L (doorS s) 2 W hM hW HL.out HA.out
  have HGK : Hid (wOk L = true → getF L (doorS s) 2 = kindF L (doorS s) 2) := fun h => by unfold getF; rw [h]; rfl
  have HNO : Hid ((wOk L && houseB s && nameB t) = false → noticeW L s t = ([], [], 0)) := notice_no
  have HYE : Hid (wOk L = true → houseB s = true → nameB t = true → noticeW L s t = saysG (kindF L (doorS s) 2) t) := notice_yes
  have HNZ : Hid _ := notice_sizes L s t (fun k => Nat.le_trans (says_bd k t).1 (by decide))
  have HDS : Hid (((⟨#[47, 47]⟩ : ByteArray) ++ s) ++ (⟨#[47, 110, 111, 116, 105, 99, 101]⟩ : ByteArray) = doorS s) := rfl
  have e2 : ((⟨#[47, 47]⟩ : ByteArray) ++ s).size = 2 + s.size := by rw [ByteArray.size_append]; rfl
  go_wp2_with fail
  refine (implWNotice_any a1 c1 L s t _ (HM.out.below HB1.out) HI1.out HL.out HA.out HR.out (by unfold maxLen; omega) (by unfold maxLen; omega)).mono ?_
  rintro e w2 ⟨g, rfl, hg, hgo, hb2⟩
  have HGE : Hid (grp g = noticeW L s t) := hg
  have hw2 : w.heap.size ≤ w2.heap.size := Nat.le_trans HB1.out.size hb2.size
  obtain ⟨W2, hW2⟩ : ∃ W2, w2.alloc (.cells #[.slice g.na g.nm.length g.nc, .slice g.ra g.ru.length g.rc, .int .i64 g.wait] 29) = W2 := ⟨_, rfl⟩
  have HW2 : Hid (w2.alloc (.cells #[.slice g.na g.nm.length g.nc, .slice g.ra g.ru.length g.rc, .int .i64 g.wait] 29) = W2) := hW2
  obtain ⟨G, hG⟩ : ∃ G, w2.heap.size = G := ⟨_, rfl⟩
  have HE2 : Hid (Below w.heap.size w W2) := by rw [← hW2]; exact (HB1.out.trans (hb2.mono HB1.out.size)).alloc hw2 _
  have HX2 : Hid (Bx 29 W2 G #[.slice g.na g.nm.length g.nc, .slice g.ra g.ru.length g.rc, .int .i64 g.wait]) := by rw [← hW2, ← hG]; exact Bx.new _ _ _
  have HGA2 : Hid (GrAt W2 g) := by rw [← hW2]; exact hgo.at.keep (alloc_keep _ _)
  have HI2 : Hid (IsRows FPg W2 a1 c1 L) := by rw [← hW2]; exact (HI1.out.below hb2).keep (alloc_keep _ _)
  have HGZ : Hid (g.nm.length ≤ 4194304 ∧ g.ru.length ≤ 4194304) := by
    have h := HNZ.out
    rw [← HGE.out] at h
    exact h
  clear hg hgo hb2 hW2 HI1 HB1 HNZ
  cases hk : (wOk L && houseB s && nameB t) with
  | false =>
    have HN : Hid (noticeW L s t = ([], [], 0)) := HNO.out hk
    have hn0 : g.nm.length = 0 := by
      have h : g.nm = [] := (grp_of (HGE.out.trans HN.out)).1
      rw [h]; rfl
    have hnb : ((g.nm.length : Int) == 0) = true := by rw [hn0]; rfl
    clear hk hn0
    generalize noticeW L s t = T at *
    go_wp2_with fail
    rw [HW2.out]
    have hS2 : W2.cell? ⟨G, 0, none⟩ = some (.slice g.na g.nm.length g.nc) ∧ W2.cell? ⟨G, 1, none⟩ = some (.slice g.ra g.ru.length g.rc) ∧ W2.cell? ⟨G, 2, none⟩ = some (.int .i64 g.wait) := ⟨HX2.out.cell 0 rfl, HX2.out.cell 1 rfl, HX2.out.cell 2 rfl⟩
    go_region_held_law (fun w' => w'.cell? ⟨G, 0, none⟩ = some (.slice g.na g.nm.length g.nc) ∧ w'.cell? ⟨G, 1, none⟩ = some (.slice g.ra g.ru.length g.rc) ∧ w'.cell? ⟨G, 2, none⟩ = some (.int .i64 g.wait)) (first | go_keep | exact hS3 | exact hS4)
      ((first
      | (go_at_call 14
         refine (HSP.out W2.drew (HI2.out.keep fun _ _ => rfl)).mono ?_
         rintro e w3 ⟨x3, rfl, hh, hho, hb0⟩
         have hb3 : Below W2.heap.size W2 w3 := ((Below.refl _ W2).drew).trans hb0
         have HE3 : Hid (Below w.heap.size w w3) := HE2.out.trans (hb3.mono HE2.out.size)
         have HX3 : Hid (Bx 29 w3 G #[.slice g.na g.nm.length g.nc, .slice g.ra g.ru.length g.rc, .int .i64 g.wait]) := HX2.out.keep fun k hk => hb3.block k hk
         have HGA3 : Hid (GrAt w3 g) := HGA2.out.below hb3
         have HI3 : Hid (IsRows FPg w3 a1 c1 L) := HI2.out.below hb3
         have hS3 : w3.cell? ⟨G, 0, none⟩ = some (.slice g.na g.nm.length g.nc) ∧ w3.cell? ⟨G, 1, none⟩ = some (.slice g.ra g.ru.length g.rc) ∧ w3.cell? ⟨G, 2, none⟩ = some (.int .i64 g.wait) := ⟨HX3.out.cell 0 rfl, HX3.out.cell 1 rfl, HX3.out.cell 2 rfl⟩
         have HHA : Hid (GrAt w3 x3) := hho.at
         have hgh : grp g = grp x3 := HGE.out.trans hh.symm
         have HH1 : Hid (g.nm = x3.nm) := (grp_of hgh).1
         have HH2 : Hid (g.ru = x3.ru) := (grp_of hgh).2.1
         have HH3 : Hid (g.wait = x3.wait) := (grp_of hgh).2.2
         clear hh hho hb0 hb3 hgh)
      | (go_at_call 13
         refine (group_same g x3 w3 HGA3.out HHA.out HH1.out HH2.out HH3.out HGZ.out.1 HGZ.out.2).mono ?_
         rintro e w4 ⟨rfl, hb4⟩
         have HE4 : Hid (Below w.heap.size w w4) := HE3.out.trans (hb4.mono HE3.out.size)
         have HX4 : Hid (Bx 29 w4 G #[.slice g.na g.nm.length g.nc, .slice g.ra g.ru.length g.rc, .int .i64 g.wait]) := HX3.out.keep fun k hk => hb4.block k hk
         have HGA4 : Hid (GrAt w4 g) := HGA3.out.below hb4
         have HI4 : Hid (IsRows FPg w4 a1 c1 L) := HI3.out.below hb4
         have hS4 : w4.cell? ⟨G, 0, none⟩ = some (.slice g.na g.nm.length g.nc) ∧ w4.cell? ⟨G, 1, none⟩ = some (.slice g.ra g.ru.length g.rc) ∧ w4.cell? ⟨G, 2, none⟩ = some (.int .i64 g.wait) := ⟨HX4.out.cell 0 rfl, HX4.out.cell 1 rfl, HX4.out.cell 2 rfl⟩
         clear hb4)
      | fail))
    all_goals
      obtain ⟨x0, x1, x2⟩ := hS4
      go_wp2_with fail
      go_region_held_law (fun w' => w'.cell? ⟨G, 0, none⟩ = some (.slice g.na g.nm.length g.nc) ∧ w'.cell? ⟨G, 1, none⟩ = some (.slice g.ra g.ru.length g.rc) ∧ w'.cell? ⟨G, 2, none⟩ = some (.int .i64 g.wait)) (first | go_keep | exact hS5 | exact hS6)
        ((first
        | (go_at_call 14
           refine (HSP.out w4.drew (HI4.out.keep fun _ _ => rfl)).mono ?_
           rintro e w5 ⟨x5, rfl, hh, hho, hb0⟩
           have hb5 : Below w4.heap.size w4 w5 := ((Below.refl _ w4).drew).trans hb0
           have HE5 : Hid (Below w.heap.size w w5) := HE4.out.trans (hb5.mono HE4.out.size)
           have HX5 : Hid (Bx 29 w5 G #[.slice g.na g.nm.length g.nc, .slice g.ra g.ru.length g.rc, .int .i64 g.wait]) := HX4.out.keep fun k hk => hb5.block k hk
           have HGA5 : Hid (GrAt w5 g) := HGA4.out.below hb5
           have HI5 : Hid (IsRows FPg w5 a1 c1 L) := HI4.out.below hb5
           have hS5 : w5.cell? ⟨G, 0, none⟩ = some (.slice g.na g.nm.length g.nc) ∧ w5.cell? ⟨G, 1, none⟩ = some (.slice g.ra g.ru.length g.rc) ∧ w5.cell? ⟨G, 2, none⟩ = some (.int .i64 g.wait) := ⟨HX5.out.cell 0 rfl, HX5.out.cell 1 rfl, HX5.out.cell 2 rfl⟩
           have HHA : Hid (GrAt w5 x5) := hho.at
           have hgh : grp g = grp x5 := HGE.out.trans hh.symm
           have HH1 : Hid (g.nm = x5.nm) := (grp_of hgh).1
           have HH2 : Hid (g.ru = x5.ru) := (grp_of hgh).2.1
           have HH3 : Hid (g.wait = x5.wait) := (grp_of hgh).2.2
           clear hh hho hb0 hb5 hgh)
        | (go_at_call 13
           refine (group_same g x5 w5 HGA5.out HHA.out HH1.out HH2.out HH3.out HGZ.out.1 HGZ.out.2).mono ?_
           rintro e w6 ⟨rfl, hb6⟩
           have HE6 : Hid (Below w.heap.size w w6) := HE5.out.trans (hb6.mono HE5.out.size)
           have HX6 : Hid (Bx 29 w6 G #[.slice g.na g.nm.length g.nc, .slice g.ra g.ru.length g.rc, .int .i64 g.wait]) := HX5.out.keep fun k hk => hb6.block k hk
           have HGA6 : Hid (GrAt w6 g) := HGA5.out.below hb6
           have HI6 : Hid (IsRows FPg w6 a1 c1 L) := HI5.out.below hb6
           have hS6 : w6.cell? ⟨G, 0, none⟩ = some (.slice g.na g.nm.length g.nc) ∧ w6.cell? ⟨G, 1, none⟩ = some (.slice g.ra g.ru.length g.rc) ∧ w6.cell? ⟨G, 2, none⟩ = some (.int .i64 g.wait) := ⟨HX6.out.cell 0 rfl, HX6.out.cell 1 rfl, HX6.out.cell 2 rfl⟩
           clear hb6)
        | fail))
      all_goals
        go_wp2
        go_ret
        exact ⟨rfl, HE6.out⟩
  | true =>
    have hk1 : wOk L = true ∧ houseB s = true := by
      simp only [Bool.and_eq_true] at hk
      exact hk.1
    have HN : Hid (noticeW L s t = saysG (kindF L (doorS s) 2) t) := HYE.out hk1.1 hk1.2 HTB.out
    have hgk := HGK.out hk1.1
    rw [hgk] at HGT
    have hnn : g.nm.length = 1 := by
      have h : g.nm = (saysG (kindF L (doorS s) 2) t).1 := (grp_of (HGE.out.trans HN.out)).1
      rw [h, says_size]; rfl
    have hnb : ((g.nm.length : Int) == 0) = false := by rw [hnn]; rfl
    have HGS : Hid (grp g = saysG (kindF L (doorS s) 2) t) := HGE.out.trans HN.out
    clear hk hk1 hgk hnn HGK HNO HYE HN
    generalize noticeW L s t = T at *
    generalize kindF L (doorS s) 2 = K at *
    obtain ⟨k, txt⟩ := K
    dsimp only at *
    go_wp2_with fail
    rw [HW2.out]
    have hS2 : W2.cell? ⟨G, 0, none⟩ = some (.slice g.na g.nm.length g.nc) ∧ W2.cell? ⟨G, 1, none⟩ = some (.slice g.ra g.ru.length g.rc) ∧ W2.cell? ⟨G, 2, none⟩ = some (.int .i64 g.wait) := ⟨HX2.out.cell 0 rfl, HX2.out.cell 1 rfl, HX2.out.cell 2 rfl⟩
    obtain ⟨x0, x1, x2⟩ := hS2
    go_region_held_law (fun w' => w'.cell? ⟨G, 0, none⟩ = some (.slice g.na g.nm.length g.nc) ∧ w'.cell? ⟨G, 1, none⟩ = some (.slice g.ra g.ru.length g.rc) ∧ w'.cell? ⟨G, 2, none⟩ = some (.int .i64 g.wait)) (first | go_keep | exact hS3 | exact hS4)
      ((first
      | (go_at_call 14
         refine (HSP.out W2.drew (HI2.out.keep fun _ _ => rfl)).mono ?_
         rintro e w3 ⟨x3, rfl, hh, hho, hb0⟩
         have hb3 : Below W2.heap.size W2 w3 := ((Below.refl _ W2).drew).trans hb0
         have HE3 : Hid (Below w.heap.size w w3) := HE2.out.trans (hb3.mono HE2.out.size)
         have HX3 : Hid (Bx 29 w3 G #[.slice g.na g.nm.length g.nc, .slice g.ra g.ru.length g.rc, .int .i64 g.wait]) := HX2.out.keep fun k hk => hb3.block k hk
         have HGA3 : Hid (GrAt w3 g) := HGA2.out.below hb3
         have HI3 : Hid (IsRows FPg w3 a1 c1 L) := HI2.out.below hb3
         have hS3 : w3.cell? ⟨G, 0, none⟩ = some (.slice g.na g.nm.length g.nc) ∧ w3.cell? ⟨G, 1, none⟩ = some (.slice g.ra g.ru.length g.rc) ∧ w3.cell? ⟨G, 2, none⟩ = some (.int .i64 g.wait) := ⟨HX3.out.cell 0 rfl, HX3.out.cell 1 rfl, HX3.out.cell 2 rfl⟩
         have HHA : Hid (GrAt w3 x3) := hho.at
         have hgh : grp g = grp x3 := HGE.out.trans hh.symm
         have HH1 : Hid (g.nm = x3.nm) := (grp_of hgh).1
         have HH2 : Hid (g.ru = x3.ru) := (grp_of hgh).2.1
         have HH3 : Hid (g.wait = x3.wait) := (grp_of hgh).2.2
         clear hh hho hb0 hb3 hgh)
      | (go_at_call 13
         refine (group_same g x3 w3 HGA3.out HHA.out HH1.out HH2.out HH3.out HGZ.out.1 HGZ.out.2).mono ?_
         rintro e w4 ⟨rfl, hb4⟩
         have HE4 : Hid (Below w.heap.size w w4) := HE3.out.trans (hb4.mono HE3.out.size)
         have HX4 : Hid (Bx 29 w4 G #[.slice g.na g.nm.length g.nc, .slice g.ra g.ru.length g.rc, .int .i64 g.wait]) := HX3.out.keep fun k hk => hb4.block k hk
         have HGA4 : Hid (GrAt w4 g) := HGA3.out.below hb4
         have HI4 : Hid (IsRows FPg w4 a1 c1 L) := HI3.out.below hb4
         have hS4 : w4.cell? ⟨G, 0, none⟩ = some (.slice g.na g.nm.length g.nc) ∧ w4.cell? ⟨G, 1, none⟩ = some (.slice g.ra g.ru.length g.rc) ∧ w4.cell? ⟨G, 2, none⟩ = some (.int .i64 g.wait) := ⟨HX4.out.cell 0 rfl, HX4.out.cell 1 rfl, HX4.out.cell 2 rfl⟩
         clear hb4)
      | fail))
    all_goals
      obtain ⟨y0, y1, y2⟩ := hS4
      go_wp2_with fail
      refine (HGT.out w4 (HM.out.below HE4.out) HI4.out).mono ?_
      rintro e w5 ⟨rfl, hb5⟩
      have HE5 : Hid (Below w.heap.size w w5) := HE4.out.trans (hb5.mono HE4.out.size)
      have HX5 : Hid (Bx 29 w5 G #[.slice g.na g.nm.length g.nc, .slice g.ra g.ru.length g.rc, .int .i64 g.wait]) := HX4.out.keep fun k hk => hb5.block k hk
      have HGA5 : Hid (GrAt w5 g) := HGA4.out.below hb5
      have HI5 : Hid (IsRows FPg w5 a1 c1 L) := HI4.out.below hb5
      have hS5 : w5.cell? ⟨G, 0, none⟩ = some (.slice g.na g.nm.length g.nc) ∧ w5.cell? ⟨G, 1, none⟩ = some (.slice g.ra g.ru.length g.rc) ∧ w5.cell? ⟨G, 2, none⟩ = some (.int .i64 g.wait) := ⟨HX5.out.cell 0 rfl, HX5.out.cell 1 rfl, HX5.out.cell 2 rfl⟩
      clear hb5
      obtain ⟨u0, u1, u2⟩ := hS5
      by_cases h1 : k = 1
      · subst h1
        have htz2 := HKR.out 1 rfl rfl
        go_wp2_with fail
        go_region_held_law (fun w' => w'.cell? ⟨G, 0, none⟩ = some (.slice g.na g.nm.length g.nc) ∧ w'.cell? ⟨G, 1, none⟩ = some (.slice g.ra g.ru.length g.rc) ∧ w'.cell? ⟨G, 2, none⟩ = some (.int .i64 g.wait)) (first | go_keep | exact hS6 | exact hS7 | exact hS8)
          ((first
          | (go_at_call 17
             refine (NiP.implRead_notice txt w5.drew ((HM.out.below HE5.out).keep fun _ _ => rfl) htz2).mono ?_
             rintro e w6 ⟨v6, B, rfl, hgB, hmB, hb0⟩
             obtain ⟨aa, ca, hv6, hIB, hAB⟩ := hgB.at
             subst hv6
             have hbds := notice_bd hmB
             have HMB : Hid (B.map grp = noticeF txt) := hmB
             have HFB : Hid _ := implFor_any aa ca B t w6 hIB hAB (fun g hg => (hbds.2 g hg).1) (by have := hbds.1; omega) (fun g hg => (hbds.2 g hg).2.1) (fun g hg => by have := (hbds.2 g hg).2.2; omega)
             have hb6 : Below w5.heap.size w5 w6 := ((Below.refl _ w5).drew).trans hb0
             have HE6 : Hid (Below w.heap.size w w6) := HE5.out.trans (hb6.mono HE5.out.size)
             have HX6 : Hid (Bx 29 w6 G #[.slice g.na g.nm.length g.nc, .slice g.ra g.ru.length g.rc, .int .i64 g.wait]) := HX5.out.keep fun k hk => hb6.block k hk
             have HGA6 : Hid (GrAt w6 g) := HGA5.out.below hb6
             have HI6 : Hid (IsRows FPg w6 a1 c1 L) := HI5.out.below hb6
             have hS6 : w6.cell? ⟨G, 0, none⟩ = some (.slice g.na g.nm.length g.nc) ∧ w6.cell? ⟨G, 1, none⟩ = some (.slice g.ra g.ru.length g.rc) ∧ w6.cell? ⟨G, 2, none⟩ = some (.int .i64 g.wait) := ⟨HX6.out.cell 0 rfl, HX6.out.cell 1 rfl, HX6.out.cell 2 rfl⟩
             clear hb6 hb0 hgB hmB hIB hAB hbds)
          | (go_at_call 16
             refine Calls.mono HFB.out ?_
             intro e w7 hs7
             obtain ⟨x7, he7, hx, hxo, hb7⟩ := said_of hs7 HMB.out
             subst he7
             have HE7 : Hid (Below w.heap.size w w7) := HE6.out.trans (hb7.mono HE6.out.size)
             have HX7 : Hid (Bx 29 w7 G #[.slice g.na g.nm.length g.nc, .slice g.ra g.ru.length g.rc, .int .i64 g.wait]) := HX6.out.keep fun k hk => hb7.block k hk
             have HGA7 : Hid (GrAt w7 g) := HGA6.out.below hb7
             have HI7 : Hid (IsRows FPg w7 a1 c1 L) := HI6.out.below hb7
             have hS7 : w7.cell? ⟨G, 0, none⟩ = some (.slice g.na g.nm.length g.nc) ∧ w7.cell? ⟨G, 1, none⟩ = some (.slice g.ra g.ru.length g.rc) ∧ w7.cell? ⟨G, 2, none⟩ = some (.int .i64 g.wait) := ⟨HX7.out.cell 0 rfl, HX7.out.cell 1 rfl, HX7.out.cell 2 rfl⟩
             have HHA : Hid (GrAt w7 x7) := hxo.at
             have hgh : grp g = grp x7 := (HGS.out.trans (says_page txt t)).trans hx.symm
             have HH1 : Hid (g.nm = x7.nm) := (grp_of hgh).1
             have HH2 : Hid (g.ru = x7.ru) := (grp_of hgh).2.1
             have HH3 : Hid (g.wait = x7.wait) := (grp_of hgh).2.2
             clear hs7 hx hxo hb7 hgh)
          | (go_at_call 13
             refine (group_same g x7 w7 HGA7.out HHA.out HH1.out HH2.out HH3.out HGZ.out.1 HGZ.out.2).mono ?_
             rintro e w8 ⟨rfl, hb8⟩
             have HE8 : Hid (Below w.heap.size w w8) := HE7.out.trans (hb8.mono HE7.out.size)
             have HX8 : Hid (Bx 29 w8 G #[.slice g.na g.nm.length g.nc, .slice g.ra g.ru.length g.rc, .int .i64 g.wait]) := HX7.out.keep fun k hk => hb8.block k hk
             have HGA8 : Hid (GrAt w8 g) := HGA7.out.below hb8
             have HI8 : Hid (IsRows FPg w8 a1 c1 L) := HI7.out.below hb8
             have hS8 : w8.cell? ⟨G, 0, none⟩ = some (.slice g.na g.nm.length g.nc) ∧ w8.cell? ⟨G, 1, none⟩ = some (.slice g.ra g.ru.length g.rc) ∧ w8.cell? ⟨G, 2, none⟩ = some (.int .i64 g.wait) := ⟨HX8.out.cell 0 rfl, HX8.out.cell 1 rfl, HX8.out.cell 2 rfl⟩
             clear hb8)
          | fail))
        all_goals
          go_wp2
          go_ret
          exact ⟨rfl, HE8.out⟩
      · have e1 : (k == 1) = false := by simpa using h1
        by_cases h3 : k = 3
        · subst h3
          have hru : g.ru = [⟨false, ⟨#[47]⟩⟩] := (grp_of (HGS.out.trans (says_fail txt t))).2.1
          have HLB : Hid (∀ W, Im.Mx W → GrAt W g → (Calls Tryz.prog 18 #[.slice g.ra g.ru.length g.rc, .string ⟨#[47]⟩] W fun e w' => e = .returned (.bool false) ∧ Below W.heap.size W w') ∧ (Calls Tryz.prog 18 #[.slice g.ra g.ru.length g.rc, .string ⟨#[47, 97, 47, 98]⟩] W fun e w' => e = .returned (.bool false) ∧ Below W.heap.size W w')) := fun W hM hW => by
            have hz : ∀ r ∈ g.ru, r.path.size ≤ maxLen := by rw [hru]; intro r hr; simp at hr; subst hr; decide
            refine ⟨(Le.implLets_any g.ra g.rc g.ru ⟨#[47]⟩ W hM hW.2 (by rw [hru]; decide) hz (by decide)).mono ?_, (Le.implLets_any g.ra g.rc g.ru ⟨#[47, 97, 47, 98]⟩ W hM hW.2 (by rw [hru]; decide) hz (by decide)).mono ?_⟩
            · rintro e w' ⟨rfl, hb⟩
              exact ⟨by rw [hru]; exact ret_bool lets_bar.1, hb⟩
            · rintro e w' ⟨rfl, hb⟩
              exact ⟨by rw [hru]; exact ret_bool lets_bar.2, hb⟩
          clear hru
          go_wp2_with fail
          refine (HLB.out w5 (HM.out.below HE5.out) HGA5.out).1.mono ?_
          rintro e w6 ⟨rfl, hb6⟩
          have HE6 : Hid (Below w.heap.size w w6) := HE5.out.trans (hb6.mono HE5.out.size)
          have HX6 : Hid (Bx 29 w6 G #[.slice g.na g.nm.length g.nc, .slice g.ra g.ru.length g.rc, .int .i64 g.wait]) := HX5.out.keep fun k hk => hb6.block k hk
          have HGA6 : Hid (GrAt w6 g) := HGA5.out.below hb6
          have HI6 : Hid (IsRows FPg w6 a1 c1 L) := HI5.out.below hb6
          have hS6 : w6.cell? ⟨G, 0, none⟩ = some (.slice g.na g.nm.length g.nc) ∧ w6.cell? ⟨G, 1, none⟩ = some (.slice g.ra g.ru.length g.rc) ∧ w6.cell? ⟨G, 2, none⟩ = some (.int .i64 g.wait) := ⟨HX6.out.cell 0 rfl, HX6.out.cell 1 rfl, HX6.out.cell 2 rfl⟩
          clear hb6
          obtain ⟨v0, v1, v2⟩ := hS6
          go_wp2_with fail
          refine (HLB.out w6 (HM.out.below HE6.out) HGA6.out).2.mono ?_
          rintro e w7 ⟨rfl, hb7⟩
          have HE7 : Hid (Below w.heap.size w w7) := HE6.out.trans (hb7.mono HE6.out.size)
          clear hb7
          go_wp2
          go_ret
          exact ⟨rfl, HE7.out⟩
        · have e3 : (k == 3) = false := by simpa using h3
          have hsg := HGS.out.trans (says_else txt t h1 h3)
          have hr0 : g.ru = [] := (grp_of hsg).2.1
          have hw0 : g.wait = 0 := (grp_of hsg).2.2
          have hrb : ((g.ru.length : Int) == 0) = true := by rw [hr0]; rfl
          have hwb : (g.wait == 0) = true := by rw [hw0]; rfl
          clear hsg hr0 hw0
          go_wp2
          go_ret
          exact ⟨rfl, HE5.out⟩
end Go.Proofs.YtmgcdfmgmpnonaaGreatDoor.fnWorldNotice
