/- FnWorldOk: the walk. -/
import Derived.Test.YtcohaalgefcjnaaGreatDoorRows
import Derived.WalkKit
import Derived.ProofKit
import Derived.OpenShut
import Derived.ShutString
import Derived.ChangeOld
import Derived.Below
import Derived.Test.YtcohaalgefcjnaaGreatDoorCards
import Derived.Test.YtcohaalgefcjnaaGreatDoorDrawWPk
import Derived.Test.YtcohaalgefcjnaaGreatDoorWdLaws
import Derived.Deep.RegionHeldLaw
import Derived.Test.YtcohaalgefcjnaaGreatDoorWd1Pk
import Derived.Shelf.Vars
import Derived.Lay
import Derived.LaidOnce
import Derived.SevenTiedAt
namespace Go.Proofs.YtcohaalgefcjnaaGreatDoor.fnWorldOk
open Go.ChangeShapes Go.WideShapes Go.ChangeAt Go.RowKit
open Go.ChangeMaps (open_string shut_string)
set_option linter.unusedVariables false
open Go.Proofs.YtcohaalgefcjnaaGreatDoor.AddrM Go.Proofs.YtcohaalgefcjnaaGreatDoor.ReadM Go.Proofs.YtcohaalgefcjnaaGreatDoor.Ad1 Go.Proofs.YtcohaalgefcjnaaGreatDoor.Rd1 Go.Proofs.YtcohaalgefcjnaaGreatDoor.RdA Go.Proofs.YtcohaalgefcjnaaGreatDoor.EscL Go.Proofs.YtcohaalgefcjnaaGreatDoor.EscM Go.Proofs.YtcohaalgefcjnaaGreatDoor.St Go.Proofs.YtcohaalgefcjnaaGreatDoor.RR Go.Proofs.YtcohaalgefcjnaaGreatDoor.RoPg Go.Proofs.YtcohaalgefcjnaaGreatDoor.WdM Go.Proofs.YtcohaalgefcjnaaGreatDoor.Wd Go.Proofs.YtcohaalgefcjnaaGreatDoor.Dr

theorem mx_of {w : World} (h : w.ShapedOpen Tryz.prog) : Im.Mx w :=
  cell_of_shapedOpen_int (g := 0) (t := 3) (zero := #[.int .i64 0]) (k := .i64) h (of_decide_eq_true (by kernel_rfl)) (by kernel_rfl) rfl (by kernel_rfl) (by kernel_rfl) Tryz.underlying3

theorem bd_sz {L : List Pg} (h : PgsBd L) : PgSz L := fun p hp => by obtain ⟨h1, h2, h3, _⟩ := h p hp; omega
theorem rowsP_from {α : Type} {F : Frm α} {w : World} {b o cap : Nat} {L : List α} (h : IsRows F w (some ⟨b, o, none⟩) cap L) (n : Nat) (hn : n ≤ L.length) : IsRows F w (some ⟨b, o + n * F.k, none⟩) (cap - n) (L.drop n) := by
  obtain ⟨h1, h2, h3, h4⟩ := h
  refine ⟨by simp; omega, by omega, (fun e => by cases e), fun hne => ?_⟩
  obtain ⟨b2, off, e, hc⟩ := h4 (by intro e; subst e; simp at hne)
  injection e with e; injection e with e1 e2 _
  subst e1; subst e2
  refine ⟨b, o + n * F.k, rfl, fun j u hu => ?_⟩
  have e3 : F.cells L = F.cells (L.take n) ++ F.cells (L.drop n) := by rw [← F.cells_append, List.take_append_drop]
  have e4 : (F.cells (L.take n)).length = n * F.k := by rw [F.cells_len, List.length_take, Nat.min_eq_left hn]
  have := hc (n * F.k + j) u (by rw [e3, List.getElem?_append_right (by omega), e4]; simpa using hu)
  rw [show o + n * F.k + j = o + (n * F.k + j) by omega]; exact this
theorem ok_n (a0 : Option Addr) (cap n : Nat) (L : List Pg) (w : World) (hn : L.length = n) (hM : Im.Mx w) (hI : IsRows FPg w a0 cap L) (hS : PgSz L) (hk : wOk L = true) :
    Calls Tryz.prog 10 #[.slice a0 n cap] w fun e w' => e = .returned (.bool true) ∧ Below w.heap.size w w' := by
  subst hn
  refine (implWorldOk_any a0 cap L w hM hI hS (fun _ _ => ⟨trivial, trivial⟩)).mono ?_
  rintro e w' ⟨rfl, hb⟩
  exact ⟨by rw [hk], hb⟩

set_option maxRecDepth 100000 in
set_option maxHeartbeats 6400000 in
theorem walk (a0 : Option Addr) (len0 cap0 : Nat) (z0 : List Int) (w : World) (w0 : Dr.IsRow .u8 w a0 len0 cap0 z0) (hL : laidMetH Tryz.prog Rows.fnWorldOkRow.laid w) (hsh : w.ShapedOpen Tryz.prog) :
    Calls Tryz.prog 3 #[.slice a0 len0 cap0] w fun e w' => e = .returned (.bool true) ∧ Below w.heap.size w w' := by
  have HM : Hid (Im.Mx w) := mx_of hsh
  clear hsh hL
  by_cases hlong : (1048576 : Int) < len0
  · go_enter Tryz.func3, Tryz.ntmps3
    go_wp2
    go_ret
    exact ⟨rfl, Below.refl _ _⟩
  go_enter Tryz.func3, Tryz.ntmps3
  go_wp2_with fail
  refine (drawWOk_any a0 len0 cap0 z0 w w0).mono ?_
  rintro e w1 ⟨L, a1, c1, rfl, hI, hl, hL, hb1⟩
  have HI1 : Hid (IsRows FPg w1 a1 c1 L) := hI
  have HL : Hid (PgSz L) := bd_sz hL
  have HA : Hid (PgAs L) := fun _ _ => ⟨trivial, trivial⟩
  have HB1 : Hid (Below w.heap.size w w1) := hb1
  clear hI hL hb1 w0
  go_wp2_with fail
  refine (implWorldOk_any a1 c1 L _ (HM.out.below HB1.out) HI1.out HL.out HA.out).mono ?_
  rintro e w2 ⟨rfl, hb2⟩
  have HB2 : Hid (Below w.heap.size w w2) := HB1.out.trans (hb2.mono HB1.out.size)
  have HI2 : Hid (IsRows FPg w2 a1 c1 L) := IsRows.below HI1.out hb2
  clear hb2 HI1 HB1
  go_wp2_with fail
  refine (specWorldOk_any a1 c1 L _ HI2.out HL.out).mono ?_
  rintro e w3 ⟨rfl, hb3⟩
  have HB3 : Hid (Below w.heap.size w w3) := HB2.out.trans (hb3.mono HB2.out.size)
  have HI3 : Hid (IsRows FPg w3 a1 c1 L) := IsRows.below HI2.out hb3
  clear hb3 HI2 HB2
  cases hw : wOk L with
  | false =>
    go_wp2_with fail
    refine (specWorldOk_any a1 c1 L _ HI3.out HL.out).mono ?_
    rintro e w4 ⟨rfl, hb4⟩
    have HB4 : Hid (Below w.heap.size w w4) := HB3.out.trans (hb4.mono HB3.out.size)
    rw [hw]
    clear hb4 hw
    go_wp2
    go_ret
    exact ⟨rfl, HB4.out⟩
  | true =>
  have HW : Hid (wOk L = true) := hw
  have h12 : L.length ≤ 12 := ((wOk_iff L).1 hw).2
  clear hw
  go_wp2
  go_loopw [5] (fun i wr => ∃ k : Nat, k ≤ L.length ∧ i = .int .i64 (k : Int) ∧ Hid (Below w3.heap.size w3 wr)) (fun i _ => L.length - (intOf i).toNat)
  case atStart => exact ⟨0, Nat.zero_le _, rfl, Below.refl _ _⟩
  case round =>
    obtain ⟨k, hk, rfl, HB⟩ := hrel
    have HBw : Hid (Below w.heap.size w wr) := HB3.out.trans (HB.out.mono HB3.out.size)
    by_cases hlt : k < L.length
    · have HIr : Hid (IsRows FPg wr a1 c1 L) := IsRows.below HI3.out HB.out
      obtain ⟨b, off, e1, k0, _, _, _⟩ := pg_at HIr.out hlt
      subst e1
      have hcap : L.length ≤ c1 := HI3.out.1
      have hcm : c1 ≤ maxLen := HI3.out.2.1
      unfold maxLen at hcm
      obtain ⟨A, hA, hT⟩ := norm_read (wOk_norm HW.out hlt)
      have hsz := (HL.out L[k] (List.getElem_mem _)).1
      have HRD : Hid _ := fun W hW => implRead_all L[k].addr W hW hsz trivial
      have HID : Hid (wOk (L.drop k) = true) := wOk_drop HW.out k
      have HIT : Hid (wOk (L.take k) = true) := wOk_take HW.out k
      have HSD : Hid (PgSz (L.drop k)) := fun p hp => HL.out p (List.mem_of_mem_drop hp)
      have HST : Hid (PgSz (L.take k)) := fun p hp => HL.out p (List.mem_of_mem_take hp)
      have hld : (L.drop k).length = L.length - k := by simp
      have hlt2 : (L.take k).length = k := by simp; omega
      have HTX : Hid ((textF A).toList == L[k].addr.toList) := hT
      have hbk : bulkA A ≤ 70 := OB.ok_bulk (OB.read_ok hA)
      rw [hA] at HRD
      generalize L[k].addr = ad at *
      clear hA hT
      go_wp2_with fail
      refine (HRD.out _ (HM.out.below HBw.out)).mono ?_
      rintro e w4 ⟨A', ok, x1, y1, rfl, hans, hO, hb4⟩
      obtain ⟨rfl, rfl⟩ : A' = A ∧ ok = true := by
        rcases hans with ⟨h1, h2⟩ | ⟨_, h2, _⟩
        · exact ⟨(Option.some.inj h2).symm, h1⟩
        · cases h2
      have hz4 := hb4.size
      have HX5 : Hid (MkA.Bs 28 (w4.alloc (.cells #[.string A'.house, .slice x1 A'.parts.length y1, .bool A'.asks, .string A'.ask] 28)) w4.heap.size #[.string A'.house, .slice x1 A'.parts.length y1, .bool A'.asks, .string A'.ask]) := MkA.Bs.new _ _ _
      have HO5 : Hid (IsStrs (w4.alloc (.cells #[.string A'.house, .slice x1 A'.parts.length y1, .bool A'.asks, .string A'.ask] 28)) x1 y1 A'.parts) := hO.strsOf.keep (alloc_keep _ _)
      have HB5 : Hid (Below w3.heap.size w3 (w4.alloc (.cells #[.string A'.house, .slice x1 A'.parts.length y1, .bool A'.asks, .string A'.ask] 28))) := (HB.out.trans (hb4.mono HB.out.size)).alloc (Nat.le_trans HB.out.size hz4) _
      have k5 : (w4.alloc (.cells #[.string A'.house, .slice x1 A'.parts.length y1, .bool A'.asks, .string A'.ask] 28)).cell? ⟨b, off + k * 4, none⟩ = some (.string ad) := (World.cell?_of_block (alloc_keep _ _ _ (Nat.lt_of_lt_of_le (St.cell_block k0) hz4))).trans ((hb4.cell (St.cell_block k0)).trans k0)
      go_wp2
      generalize hW5 : w4.alloc (.cells #[.string A'.house, .slice x1 A'.parts.length y1, .bool A'.asks, .string A'.ask] 28) = W5 at *
      generalize w4.heap.size = G at *
      have HSEE : Hid (∀ W, Below W5.heap.size W5 W → W.cell? ⟨G, 0, none⟩ = some (.string A'.house) ∧ W.cell? ⟨G, 1, none⟩ = some (.slice x1 A'.parts.length y1) ∧ W.cell? ⟨G, 2, none⟩ = some (.bool A'.asks) ∧ W.cell? ⟨G, 3, none⟩ = some (.string A'.ask) ∧ W.cell? ⟨b, off + k * 4, none⟩ = some (.string ad)) := fun W h => by
        have hx := HX5.out.below h
        exact ⟨hx.cell 0 rfl, hx.cell 1 rfl, hx.cell 2 rfl, hx.cell 3 rfl, (h.cell (St.cell_block k5)).trans k5⟩
      have HGO : Hid (∀ W, Below W5.heap.size W5 W → Below w3.heap.size w3 W) := fun W h => HB5.out.trans (h.mono HB5.out.size)
      have hS5 := HSEE.out W5.drew ((Below.refl _ _).drew)
      have hS5' := hS5
      obtain ⟨s0, s1, s2, s3, s4⟩ := hS5
      have hk1 : (k : Int) < (L.length : Int) := by omega
      have hk0 : (0 : Int) ≤ (k : Int) := by omega
      have hkl : (k : Int) ≤ (L.length : Int) := by omega
      have hlc : (L.length : Int) ≤ (c1 : Int) := by omega
      have hkc : (k : Int) ≤ (c1 : Int) := by omega
      have hcn : ¬ c1 = k := by omega
      have hckI : ((c1 : Int) - (k : Int) == 0) = false := by rw [beq_eq_false_iff_ne]; omega
      have hckN : ¬ c1 - k = 0 := by omega
      clear HRD hans hO hb4 k0 k5 HX5 HIr HB5 hW5
      have htx := HTX.out
      go_region_held_law (fun w' => w'.cell? ⟨G, 0, none⟩ = some (.string A'.house) ∧ w'.cell? ⟨G, 1, none⟩ = some (.slice x1 A'.parts.length y1) ∧ w'.cell? ⟨G, 2, none⟩ = some (.bool A'.asks) ∧ w'.cell? ⟨G, 3, none⟩ = some (.string A'.ask) ∧ w'.cell? ⟨b, off + k * 4, none⟩ = some (.string ad)) (first | go_keep | exact hS5' | exact hS6 | exact hS7 | exact hS8)
        ((first
        | (go_at_call 13
           refine (implAddrText_any A' x1 y1 W5.drew (HO5.out.keep (fun _ _ => rfl)) (by omega)).mono ?_
           rintro e w6 ⟨rfl, hb6⟩
           have HD6 : Hid (Below W5.heap.size W5 w6) := ((Below.refl _ W5).drew).trans hb6
           have hS6 := HSEE.out w6 HD6.out
           clear hb6)
        | (go_at_call 10
           first
            | (refine (ok_n (some ⟨b, off, none⟩) c1 k (L.take k) w7 hlt2 (HM.out.below (HB3.out.trans ((HGO.out _ HD7.out).mono HB3.out.size))) ((IsRows.below HI3.out (HGO.out _ HD7.out)).cut k) HST.out HIT.out).mono ?_
               rintro e w8 ⟨rfl, hb8⟩
               have HD8 : Hid (Below W5.heap.size W5 w8) := HD7.out.trans (hb8.mono HD7.out.size)
               have hS8 := HSEE.out w8 HD8.out
               clear hb8)
            | (refine (ok_n (some ⟨b, off + k * 4, none⟩) (c1 - k) (L.length - k) (L.drop k) w6 hld (HM.out.below (HB3.out.trans ((HGO.out _ HD6.out).mono HB3.out.size))) (rowsP_from (IsRows.below HI3.out (HGO.out _ HD6.out)) k hk) HSD.out HID.out).mono ?_
               rintro e w7 ⟨rfl, hb7⟩
               have HD7 : Hid (Below W5.heap.size W5 w7) := HD6.out.trans (hb7.mono HD6.out.size)
               have hS7 := HSEE.out w7 HD7.out
               clear hb7)
            | fail)
        | fail))
      all_goals
        have HB8 : Hid (Below w3.heap.size w3 w8) := HGO.out _ HD8.out
        go_wp2
        go_roundw
        case rel => exact ⟨k + 1, by omega, by go_num, HB8⟩
        case measure => simp [intOf]; omega
    · have hl12 : (L.length : Int) ≤ 12 := by omega
      go_wp2
      go_ret
      exact ⟨by first | rfl | exact ret_bool (decide_eq_true hl12), HBw.out⟩

end Go.Proofs.YtcohaalgefcjnaaGreatDoor.fnWorldOk
