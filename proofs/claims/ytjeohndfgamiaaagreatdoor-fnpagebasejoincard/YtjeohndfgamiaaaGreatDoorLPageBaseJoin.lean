/- FnPageBaseJoin: for every two codes, with the text of the address drawn of the second, if it is ok, as its base a page drawn of the first leads as if one were there. The card ties two tables of unicode/utf8 to the program's text; no other condition. -/
import Derived.Test.YtjeohndfgamiaaaGreatDoorRows
import Derived.WalkKit
import Derived.ProofKit
import Derived.OpenShut
import Derived.ShutString
import Derived.ChangeOld
import Derived.Below
import Derived.Test.YtjeohndfgamiaaaGreatDoorCards
import Derived.Test.YtjeohndfgamiaaaGreatDoorTie
import Derived.Test.YtjeohndfgamiaaaGreatDoorDraw10
import Derived.Lay
import Derived.LaidOnce
import Derived.SevenTiedAt
import Derived.Test.YtjeohndfgamiaaaGreatDoorDraw13
import Derived.Test.YtjeohndfgamiaaaGreatDoorPgA2Pk
import Derived.Test.YtjeohndfgamiaaaGreatDoorPgA5
import Derived.Test.YtjeohndfgamiaaaGreatDoorPgBase
import Derived.Deep.RegionHeldLaw
namespace Go.Proofs.YtjeohndfgamiaaaGreatDoor.fnPageBaseJoin
open Go.ChangeShapes Go.WideShapes Go.ChangeAt Go.RowKit
open Go.ChangeMaps (open_string shut_string)
set_option linter.unusedVariables false
open Go.Proofs.YtjeohndfgamiaaaGreatDoor.EscM Go.Proofs.YtjeohndfgamiaaaGreatDoor.St Go.Proofs.YtjeohndfgamiaaaGreatDoor.AddrM Go.Proofs.YtjeohndfgamiaaaGreatDoor.ReadM Go.Proofs.YtjeohndfgamiaaaGreatDoor.EscL Go.Proofs.YtjeohndfgamiaaaGreatDoor.Ad1 Go.Proofs.YtjeohndfgamiaaaGreatDoor.Dr Go.Proofs.YtjeohndfgamiaaaGreatDoor.Tw Go.Proofs.YtjeohndfgamiaaaGreatDoor.RB Go.Proofs.YtjeohndfgamiaaaGreatDoor.Im Go.Proofs.YtjeohndfgamiaaaGreatDoor.Rd1 Go.Proofs.YtjeohndfgamiaaaGreatDoor.Door Go.Proofs.YtjeohndfgamiaaaGreatDoor.JnM Go.Proofs.YtjeohndfgamiaaaGreatDoor.Jn
open Go.Proofs.YtjeohndfgamiaaaGreatDoor.PgA Go.Proofs.YtjeohndfgamiaaaGreatDoor.PgM Go.Proofs.YtjeohndfgamiaaaGreatDoor.Pg

theorem texts_same (a0 : Option Addr) (cap : Nat) (L : List ByteArray) (b0 : Option Addr) (dap : Nat) (w : World) (hA : IsStrs w a0 cap L) (hB : IsStrs w b0 dap L) (hl : L.length ≤ 4194304) :
    Calls Tryz.prog 8 #[.slice a0 L.length cap, .slice b0 L.length dap] w fun e w' => e = .returned (.bool true) ∧ ∃ n, w' = w.drewN n := by
  refine (texts_any a0 cap L b0 dap L w hA hB hl hl).mono ?_
  rintro e w1 ⟨rfl, h⟩
  exact ⟨by rw [decide_eq_true rfl], h⟩

theorem sees {w w' : World} {F J : Nat} {P T : Ad} {p1 t1 : Option Addr} {q1 s1 : Nat} (hp : At w w' F P p1 q1) (ht : At w w' J T t1 s1) : w'.cell? ⟨F, 0, none⟩ = some (.string P.house) ∧ w'.cell? ⟨F, 1, none⟩ = some (.slice p1 P.parts.length q1) ∧ w'.cell? ⟨F, 2, none⟩ = some (.bool P.asks) ∧ w'.cell? ⟨F, 3, none⟩ = some (.string P.ask) ∧ w'.cell? ⟨J, 0, none⟩ = some (.string T.house) ∧ w'.cell? ⟨J, 1, none⟩ = some (.slice t1 T.parts.length s1) ∧ w'.cell? ⟨J, 2, none⟩ = some (.bool T.asks) ∧ w'.cell? ⟨J, 3, none⟩ = some (.string T.ask) :=
  ⟨hp.cells.1, hp.cells.2.1, hp.cells.2.2.1, hp.cells.2.2.2, ht.cells.1, ht.cells.2.1, ht.cells.2.2.1, ht.cells.2.2.2⟩
theorem page_is (A : Ad) (t : ByteArray) (a0 : Option Addr) (cap : Nat) (w : World) (hM : Mx w) (hS : IsStrs w a0 cap A.parts) (hB : bulkA A ≤ 1000) (ht : t.size ≤ 4194304) (ha : asciiB t = true) (R : List ByteArray) (hR : pageF A t = R) :
    Calls Tryz.prog 7 #[.agg #[.string A.house, .slice a0 A.parts.length cap, .bool A.asks, .string A.ask], .string t] w fun e w' => ∃ a1 c1, e = .returned (.slice a1 R.length c1) ∧ IsStrs w' a1 c1 R ∧ Below w.heap.size w w' := by
  refine (implPage_any A t a0 cap w hM hS hB ht ha).mono ?_
  rintro e w1 ⟨v, rfl, hO, hb⟩
  rw [hR] at hO
  obtain ⟨a1, c1, hv, hs⟩ := hO.strs
  exact ⟨a1, c1, by rw [hv], hs, hb⟩

set_option maxRecDepth 100000 in
set_option maxHeartbeats 25600000 in
theorem walk (a0 : Option Addr) (len0 cap0 : Nat) (z0 : List Int) (a1 : Option Addr) (len1 cap1 : Nat) (z1 : List Int) (w : World) (w0 : Dr.IsRow .u8 w a0 len0 cap0 z0) (w1 : Dr.IsRow .u8 w a1 len1 cap1 z1) (hL : laidMetH Tryz.prog Rows.fnPageBaseJoinRow.laid w) (hsh : w.ShapedOpen Tryz.prog) :
    Calls Tryz.prog 5 #[.slice a0 len0 cap0, .slice a1 len1 cap1] w fun e w' => e = .returned (.bool true) ∧ Below w.heap.size w w' := by
  have HM : Hid (Mx w) := mx_of hsh
  have HR1 : Hid (Dr.IsRow .u8 w a1 len1 cap1 z1) := w1
  clear hsh hL w1
  by_cases hlong : (1048576 : Int) < len0
  · go_enter Tryz.func5, Tryz.ntmps5
    go_wp2
    go_ret
    exact ⟨rfl, Below.refl _ _⟩
  by_cases hlong1 : (1048576 : Int) < len1
  · go_enter Tryz.func5, Tryz.ntmps5
    go_wp2
    go_ret
    exact ⟨rfl, Below.refl _ _⟩
  go_enter Tryz.func5, Tryz.ntmps5
  go_wp2_with fail
  refine (Dr.drawPage_any a0 len0 cap0 z0 w w0).mono ?_
  rintro e wa ⟨P, p1, q1, t, rfl, hO, hbk, hts, hta, hb⟩
  have HTA : Hid _ := hta
  have hba := hb.alloc hb.size (.cells #[.string P.house, .slice p1 P.parts.length q1, .bool P.asks, .string P.ask] 25)
  have HB1 : Hid (Below w.heap.size w (wa.alloc (.cells #[.string P.house, .slice p1 P.parts.length q1, .bool P.asks, .string P.ask] 25))) := hba
  have HP1 : Hid (At w (wa.alloc (.cells #[.string P.house, .slice p1 P.parts.length q1, .bool P.asks, .string P.ask] 25)) wa.heap.size P p1 q1) := At.new hO (Nat.le_refl _)
  have HM1 : Hid (Mx (wa.alloc (.cells #[.string P.house, .slice p1 P.parts.length q1, .bool P.asks, .string P.ask] 25))) := HM.out.below hba
  obtain ⟨F, hF⟩ : ∃ F, wa.heap.size = F := ⟨_, rfl⟩
  rw [hF] at HP1
  have ht4 : t.size ≤ 4194304 := by omega
  have hbk4 : bulkA P ≤ 4194304 := by omega
  clear hb hba hO hta HM
  go_wp2_with fail
  refine (Dr.drawDrawAddrText_any a1 len1 cap1 z1 _ (HR1.out.below HB1.out)).mono ?_
  rintro e wb ⟨T, t1, s1, rfl, hO, htk, hb⟩
  have htk4 : bulkA T ≤ 4194304 := by omega
  have hba := hb.alloc hb.size (.cells #[.string T.house, .slice t1 T.parts.length s1, .bool T.asks, .string T.ask] 25)
  have HP2 : Hid (At w (wb.alloc (.cells #[.string T.house, .slice t1 T.parts.length s1, .bool T.asks, .string T.ask] 25)) F P p1 q1) := HP1.out.below hba
  have HB2 : Hid (Below w.heap.size w (wb.alloc (.cells #[.string T.house, .slice t1 T.parts.length s1, .bool T.asks, .string T.ask] 25))) := HB1.out.trans (hba.mono HB1.out.size)
  have HT2 : Hid (At w (wb.alloc (.cells #[.string T.house, .slice t1 T.parts.length s1, .bool T.asks, .string T.ask] 25)) wb.heap.size T t1 s1) := At.new hO HB1.out.size
  have HM2 : Hid (Mx (wb.alloc (.cells #[.string T.house, .slice t1 T.parts.length s1, .bool T.asks, .string T.ask] 25))) := HM1.out.below hba
  obtain ⟨J, hJ⟩ : ∃ J, wb.heap.size = J := ⟨_, rfl⟩
  rw [hJ] at HT2
  clear hb hba hO HB1 HM1 HP1
  have hpp := HP2.out
  obtain ⟨f0, f1, f2, f3⟩ := hpp.cells
  clear hpp
  have hpl := page_len P t
  go_wp2_with fail
  refine (implPage_any P t p1 q1 _ HM2.out HP2.out.strs hbk ht4 HTA.out).mono ?_
  rintro e w3 ⟨v3, rfl, hO3, hb⟩
  obtain ⟨l1, m1, hv3, hS3⟩ := hO3.strs
  subst hv3
  have HL3 : Hid (IsStrs w3 l1 m1 (pageF P t)) := hS3
  have HP3 : Hid (At w w3 F P p1 q1) := HP2.out.below hb
  have HT3 : Hid (At w w3 J T t1 s1) := HT2.out.below hb
  have HB3 : Hid (Below w.heap.size w w3) := HB2.out.trans (hb.mono HB2.out.size)
  have HM3 : Hid (Mx w3) := HM2.out.below hb
  clear hb hO3 hS3 HP2 HT2 HB2 HM2 f0 f1 f2 f3
  go_wp2_with fail
  refine (specBase_any t _ ht4).mono ?_
  rintro e w4 ⟨rfl, hb⟩
  have HL4 : Hid (IsStrs w4 l1 m1 (pageF P t)) := HL3.out.below hb
  have HP4 : Hid (At w w4 F P p1 q1) := HP3.out.below hb
  have HT4 : Hid (At w w4 J T t1 s1) := HT3.out.below hb
  have HB4 : Hid (Below w.heap.size w w4) := HB3.out.trans (hb.mono HB3.out.size)
  have HM4 : Hid (Mx w4) := HM3.out.below hb
  clear hb HL3 HP3 HT3 HB3 HM3
  have hpp := HP4.out
  obtain ⟨f0, f1, f2, f3⟩ := hpp.cells
  clear hpp
  go_wp2_with fail
  refine (specPage_any P t p1 q1 _ HP4.out.strs hbk ht4).mono ?_
  rintro e w5 ⟨v5, rfl, hO5, hb⟩
  obtain ⟨r1, y1, hv5, hS5⟩ := hO5.strs
  subst hv5
  have HL5 : Hid (IsStrs w5 l1 m1 (pageF P t)) := HL4.out.below hb
  have HP5 : Hid (At w w5 F P p1 q1) := HP4.out.below hb
  have HT5 : Hid (At w w5 J T t1 s1) := HT4.out.below hb
  have HB5 : Hid (Below w.heap.size w w5) := HB4.out.trans (hb.mono HB4.out.size)
  have HM5 : Hid (Mx w5) := HM4.out.below hb
  have HR5 : Hid (IsStrs w5 r1 y1 (pageF P t)) := hS5
  clear hb hO5 hS5 HL4 HP4 HT4 HB4 HM4 f0 f1 f2 f3
  go_wp2_with fail
  refine (texts_same l1 m1 (pageF P t) r1 y1 _ HL5.out HR5.out (by omega)).mono ?_
  rintro e w6 ⟨rfl, n6, hw6⟩
  have HL6 : Hid (IsStrs w6 l1 m1 (pageF P t)) := by rw [hw6]; exact IsStrs.drewN HL5.out n6
  have hb : Below w5.heap.size w5 w6 := by rw [hw6]; exact below_drewN (Below.refl _ _) n6
  have HP6 : Hid (At w w6 F P p1 q1) := HP5.out.below hb
  have HT6 : Hid (At w w6 J T t1 s1) := HT5.out.below hb
  have HB6 : Hid (Below w.heap.size w w6) := HB5.out.trans (hb.mono HB5.out.size)
  have HM6 : Hid (Mx w6) := HM5.out.below hb
  clear hb hw6 HL5 HP5 HT5 HB5 HM5 HR5
  have hpp := HP6.out
  obtain ⟨f0, f1, f2, f3⟩ := hpp.cells
  clear hpp
  have hpp := HT6.out
  obtain ⟨g0, g1, g2, g3⟩ := hpp.cells
  clear hpp
  cases hok : okB P with
  | false =>
    have HOK : Hid _ := hok
    clear hok
    go_wp2_with fail
    refine (specOk_any P p1 q1 _ HP6.out.strs hbk4).mono ?_
    rintro e w7 ⟨rfl, hb⟩
    rw [HOK.out]
    have HL7 : Hid (IsStrs w7 l1 m1 (pageF P t)) := HL6.out.below hb
    have HP7 : Hid (At w w7 F P p1 q1) := HP6.out.below hb
    have HT7 : Hid (At w w7 J T t1 s1) := HT6.out.below hb
    have HB7 : Hid (Below w.heap.size w w7) := HB6.out.trans (hb.mono HB6.out.size)
    have HM7 : Hid (Mx w7) := HM6.out.below hb
    clear hb f0 f1 f2 f3 g0 g1 g2 g3
    have hpp := HP7.out
    obtain ⟨f0, f1, f2, f3⟩ := hpp.cells
    clear hpp
    have hpp := HT7.out
    obtain ⟨g0, g1, g2, g3⟩ := hpp.cells
    clear hpp
    go_wp2_with fail
    refine (specPage_any P t p1 q1 _ HP7.out.strs hbk ht4).mono ?_
    rintro e w8 ⟨v, rfl, hO, hb⟩
    obtain ⟨r1, y1, hv, hS⟩ := hO.strs
    subst hv
    have HL8 : Hid (IsStrs w8 l1 m1 (pageF P t)) := HL7.out.below hb
    have HR8 : Hid (IsStrs w8 r1 y1 (pageF P t)) := hS
    have HB8 : Hid (Below w.heap.size w w8) := HB7.out.trans (hb.mono HB7.out.size)
    clear hb hO hS
    go_wp2_with fail
    refine (texts_same l1 m1 (pageF P t) r1 y1 _ HL8.out HR8.out (by omega)).mono ?_
    rintro e w9 ⟨rfl, n, rfl⟩
    go_wp2
    go_ret
    exact ⟨rfl, below_drewN HB8.out n⟩
  | true =>
    have HOK : Hid _ := hok
    clear hok
    go_wp2_with fail
    refine (specOk_any P p1 q1 _ HP6.out.strs hbk4).mono ?_
    rintro e w7 ⟨rfl, hb⟩
    rw [HOK.out]
    have HL7 : Hid (IsStrs w7 l1 m1 (pageF P t)) := HL6.out.below hb
    have HP7 : Hid (At w w7 F P p1 q1) := HP6.out.below hb
    have HT7 : Hid (At w w7 J T t1 s1) := HT6.out.below hb
    have HB7 : Hid (Below w.heap.size w w7) := HB6.out.trans (hb.mono HB6.out.size)
    have HM7 : Hid (Mx w7) := HM6.out.below hb
    clear hb f0 f1 f2 f3 g0 g1 g2 g3
    have hpp := HP7.out
    obtain ⟨f0, f1, f2, f3⟩ := hpp.cells
    clear hpp
    have hpp := HT7.out
    obtain ⟨g0, g1, g2, g3⟩ := hpp.cells
    clear hpp
    cases hot : okB T with
    | false =>
      have HOT : Hid _ := hot
      clear hot
      go_wp2_with fail
      refine (specOk_any T t1 s1 _ HT7.out.strs htk4).mono ?_
      rintro e w8 ⟨rfl, hb⟩
      rw [HOT.out]
      have HL8 : Hid (IsStrs w8 l1 m1 (pageF P t)) := HL7.out.below hb
      have HP8 : Hid (At w w8 F P p1 q1) := HP7.out.below hb
      have HT8 : Hid (At w w8 J T t1 s1) := HT7.out.below hb
      have HB8 : Hid (Below w.heap.size w w8) := HB7.out.trans (hb.mono HB7.out.size)
      have HM8 : Hid (Mx w8) := HM7.out.below hb
      clear hb f0 f1 f2 f3 g0 g1 g2 g3
      have hpp := HP8.out
      obtain ⟨f0, f1, f2, f3⟩ := hpp.cells
      clear hpp
      have hpp := HT8.out
      obtain ⟨g0, g1, g2, g3⟩ := hpp.cells
      clear hpp
      go_wp2_with fail
      refine (specPage_any P t p1 q1 _ HP8.out.strs hbk ht4).mono ?_
      rintro e w9 ⟨v, rfl, hO, hb⟩
      obtain ⟨r1, y1, hv, hS⟩ := hO.strs
      subst hv
      have HL9 : Hid (IsStrs w9 l1 m1 (pageF P t)) := HL8.out.below hb
      have HR9 : Hid (IsStrs w9 r1 y1 (pageF P t)) := hS
      have HB9 : Hid (Below w.heap.size w w9) := HB8.out.trans (hb.mono HB8.out.size)
      clear hb hO hS
      go_wp2_with fail
      refine (texts_same l1 m1 (pageF P t) r1 y1 _ HL9.out HR9.out (by omega)).mono ?_
      rintro e w10 ⟨rfl, n, rfl⟩
      go_wp2
      go_ret
      exact ⟨rfl, below_drewN HB9.out n⟩
    | true =>
      have HOT : Hid _ := hot
      clear hot
      go_wp2_with fail
      refine (specOk_any T t1 s1 _ HT7.out.strs htk4).mono ?_
      rintro e w8 ⟨rfl, hb⟩
      rw [HOT.out]
      have HL8 : Hid (IsStrs w8 l1 m1 (pageF P t)) := HL7.out.below hb
      have HP8 : Hid (At w w8 F P p1 q1) := HP7.out.below hb
      have HT8 : Hid (At w w8 J T t1 s1) := HT7.out.below hb
      have HB8 : Hid (Below w.heap.size w w8) := HB7.out.trans (hb.mono HB7.out.size)
      have HM8 : Hid (Mx w8) := HM7.out.below hb
      clear hb f0 f1 f2 f3 g0 g1 g2 g3
      have hpp := HP8.out
      obtain ⟨f0, f1, f2, f3⟩ := hpp.cells
      clear hpp
      have hpp := HT8.out
      obtain ⟨g0, g1, g2, g3⟩ := hpp.cells
      clear hpp
      cases hbt : (baseF t).2 with
      | true =>
        go_wp2_with fail
        refine (specPage_any P t p1 q1 _ HP8.out.strs hbk ht4).mono ?_
        rintro e w9 ⟨v, rfl, hO, hb⟩
        obtain ⟨r1, y1, hv, hS⟩ := hO.strs
        subst hv
        have HL9 : Hid (IsStrs w9 l1 m1 (pageF P t)) := HL8.out.below hb
        have HR9 : Hid (IsStrs w9 r1 y1 (pageF P t)) := hS
        have HB9 : Hid (Below w.heap.size w w9) := HB8.out.trans (hb.mono HB8.out.size)
        clear hb hO hS
        go_wp2_with fail
        refine (texts_same l1 m1 (pageF P t) r1 y1 _ HL9.out HR9.out (by omega)).mono ?_
        rintro e w10 ⟨rfl, n, rfl⟩
        go_wp2
        go_ret
        exact ⟨rfl, below_drewN HB9.out n⟩
      | false =>
        by_cases h70 : t.size + 70 ≤ 300
        · have h70' : ¬ (300 : Int) < (t.size : Int) + 70 := by omega
          have HEQ : Hid (pageF P (basedS T t) = pageF T t) := based_page HOK.out HOT.out h70 hbt
          have HBA : Hid _ := based_ascii T HTA.out
          have hbz := based_size T t
          have htz := textF_size T
          have HBD : Hid (((⟨#[60, 64]⟩ : ByteArray) ++ textF T) ++ (⟨#[62]⟩ : ByteArray) ++ t = basedS T t) := rfl
          have hpl2 := page_len T t
          clear hbt
          have hcat1 : ¬ 9223372036854775807 < (⟨#[60, 64]⟩ : ByteArray).size + (textF T).size := by show ¬ _ < 2 + _; omega
          have hcat2 : ¬ 9223372036854775807 < ((⟨#[60, 64]⟩ : ByteArray) ++ textF T).size + (⟨#[62]⟩ : ByteArray).size := by rw [ByteArray.size_append]; show ¬ _ < 2 + _ + 1; omega
          have hcat3 : ¬ 9223372036854775807 < ((⟨#[60, 64]⟩ : ByteArray) ++ textF T ++ (⟨#[62]⟩ : ByteArray)).size + t.size := by rw [ByteArray.size_append, ByteArray.size_append]; show ¬ _ < 2 + _ + 1 + _; omega
          have HBA2 : Hid (asciiB ((⟨#[60, 64]⟩ : ByteArray) ++ textF T ++ (⟨#[62]⟩ : ByteArray) ++ t) = true) := HBA
          have HEQ2 : Hid (pageF P ((⟨#[60, 64]⟩ : ByteArray) ++ textF T ++ (⟨#[62]⟩ : ByteArray) ++ t) = pageF T t) := HEQ
          have hbz2 : ((⟨#[60, 64]⟩ : ByteArray) ++ textF T ++ (⟨#[62]⟩ : ByteArray) ++ t).size ≤ 4194304 := by rw [ByteArray.size_append, ByteArray.size_append, ByteArray.size_append]; show 2 + _ + 1 + _ ≤ _; omega
          clear HBA HEQ HBD hbz
          go_wp2
          go_region_held_law (fun w' => w'.cell? ⟨F, 0, none⟩ = some (.string P.house) ∧ w'.cell? ⟨F, 1, none⟩ = some (.slice p1 P.parts.length q1) ∧ w'.cell? ⟨F, 2, none⟩ = some (.bool P.asks) ∧ w'.cell? ⟨F, 3, none⟩ = some (.string P.ask) ∧ w'.cell? ⟨J, 0, none⟩ = some (.string T.house) ∧ w'.cell? ⟨J, 1, none⟩ = some (.slice t1 T.parts.length s1) ∧ w'.cell? ⟨J, 2, none⟩ = some (.bool T.asks) ∧ w'.cell? ⟨J, 3, none⟩ = some (.string T.ask)) (first | go_keep | exact hS9 | exact hS10 | exact hS11 | exact hS12)
            ((first
            | (go_at_call 11
               refine (implAddrText_any T t1 s1 w8.drew (HT8.out.strs.keep fun _ _ => rfl) htk4).mono ?_
               rintro e w9 ⟨rfl, hb9⟩
               have hbd : Below w8.heap.size w8 w9 := Below.trans ((Below.refl _ w8).drew) (hb9.mono (by simp))
               have HP9 : Hid (At w w9 F P p1 q1) := HP8.out.below hbd
               have HT9 : Hid (At w w9 J T t1 s1) := HT8.out.below hbd
               have HM9 : Hid (Mx w9) := HM8.out.below hbd
               have HB9 : Hid (Below w.heap.size w w9) := HB8.out.trans (hbd.mono HB8.out.size)
               have hS9 : w9.cell? ⟨F, 0, none⟩ = some (.string P.house) ∧ w9.cell? ⟨F, 1, none⟩ = some (.slice p1 P.parts.length q1) ∧ w9.cell? ⟨F, 2, none⟩ = some (.bool P.asks) ∧ w9.cell? ⟨F, 3, none⟩ = some (.string P.ask) ∧ w9.cell? ⟨J, 0, none⟩ = some (.string T.house) ∧ w9.cell? ⟨J, 1, none⟩ = some (.slice t1 T.parts.length s1) ∧ w9.cell? ⟨J, 2, none⟩ = some (.bool T.asks) ∧ w9.cell? ⟨J, 3, none⟩ = some (.string T.ask) := sees HP9.out HT9.out
               clear hb9 hbd)
            | (go_at_call 7
               first
                | (refine (page_is T t t1 s1 w10 HM10.out HT10.out.strs htk ht4 HTA.out (pageF T t) rfl).mono ?_
                   rintro e w11 ⟨x11, y11, rfl, hS11', hb11⟩
                   have HL11 : Hid (IsStrs w11 x10 y10 (pageF T t)) := HL10.out.below hb11
                   have HR11 : Hid (IsStrs w11 x11 y11 (pageF T t)) := hS11'
                   have HB11 : Hid (Below w.heap.size w w11) := HB10.out.trans (hb11.mono HB10.out.size)
                   have HP11 : Hid (At w w11 F P p1 q1) := HP10.out.below hb11
                   have HT11 : Hid (At w w11 J T t1 s1) := HT10.out.below hb11
                   have hS11 : w11.cell? ⟨F, 0, none⟩ = some (.string P.house) ∧ w11.cell? ⟨F, 1, none⟩ = some (.slice p1 P.parts.length q1) ∧ w11.cell? ⟨F, 2, none⟩ = some (.bool P.asks) ∧ w11.cell? ⟨F, 3, none⟩ = some (.string P.ask) ∧ w11.cell? ⟨J, 0, none⟩ = some (.string T.house) ∧ w11.cell? ⟨J, 1, none⟩ = some (.slice t1 T.parts.length s1) ∧ w11.cell? ⟨J, 2, none⟩ = some (.bool T.asks) ∧ w11.cell? ⟨J, 3, none⟩ = some (.string T.ask) := sees HP11.out HT11.out
                   clear hb11 hS11')
                | (refine (page_is P ((⟨#[60, 64]⟩ : ByteArray) ++ textF T ++ (⟨#[62]⟩ : ByteArray) ++ t) p1 q1 w9 HM9.out HP9.out.strs hbk hbz2 HBA2.out (pageF T t) HEQ2.out).mono ?_
                   rintro e w10 ⟨x10, y10, rfl, hS10', hb10⟩
                   have HL10 : Hid (IsStrs w10 x10 y10 (pageF T t)) := hS10'
                   have HP10 : Hid (At w w10 F P p1 q1) := HP9.out.below hb10
                   have HT10 : Hid (At w w10 J T t1 s1) := HT9.out.below hb10
                   have HM10 : Hid (Mx w10) := HM9.out.below hb10
                   have HB10 : Hid (Below w.heap.size w w10) := HB9.out.trans (hb10.mono HB9.out.size)
                   have hS10 : w10.cell? ⟨F, 0, none⟩ = some (.string P.house) ∧ w10.cell? ⟨F, 1, none⟩ = some (.slice p1 P.parts.length q1) ∧ w10.cell? ⟨F, 2, none⟩ = some (.bool P.asks) ∧ w10.cell? ⟨F, 3, none⟩ = some (.string P.ask) ∧ w10.cell? ⟨J, 0, none⟩ = some (.string T.house) ∧ w10.cell? ⟨J, 1, none⟩ = some (.slice t1 T.parts.length s1) ∧ w10.cell? ⟨J, 2, none⟩ = some (.bool T.asks) ∧ w10.cell? ⟨J, 3, none⟩ = some (.string T.ask) := sees HP10.out HT10.out
                   clear hb10 hS10')
                | fail)
            | (go_at_call 8
               refine (texts_same x10 y10 (pageF T t) x11 y11 w11 HL11.out HR11.out (by omega)).mono ?_
               rintro e w12 ⟨rfl, n12, hw12⟩
               have hb12 : Below w11.heap.size w11 w12 := by rw [hw12]; exact below_drewN (Below.refl _ _) n12
               have HB12 : Hid (Below w.heap.size w w12) := HB11.out.trans (hb12.mono HB11.out.size)
               have hS12 : w12.cell? ⟨F, 0, none⟩ = some (.string P.house) ∧ w12.cell? ⟨F, 1, none⟩ = some (.slice p1 P.parts.length q1) ∧ w12.cell? ⟨F, 2, none⟩ = some (.bool P.asks) ∧ w12.cell? ⟨F, 3, none⟩ = some (.string P.ask) ∧ w12.cell? ⟨J, 0, none⟩ = some (.string T.house) ∧ w12.cell? ⟨J, 1, none⟩ = some (.slice t1 T.parts.length s1) ∧ w12.cell? ⟨J, 2, none⟩ = some (.bool T.asks) ∧ w12.cell? ⟨J, 3, none⟩ = some (.string T.ask) := sees (HP11.out.below hb12) (HT11.out.below hb12)
               clear hw12 hb12)
            | fail))
          all_goals
            go_wp2
            go_ret
            exact ⟨rfl, HB12.out⟩
        · have h70' : (300 : Int) < (t.size : Int) + 70 := by omega
          go_wp2_with fail
          refine (specPage_any P t p1 q1 _ HP8.out.strs hbk ht4).mono ?_
          rintro e w9 ⟨v, rfl, hO, hb⟩
          obtain ⟨r1, y1, hv, hS⟩ := hO.strs
          subst hv
          have HL9 : Hid (IsStrs w9 l1 m1 (pageF P t)) := HL8.out.below hb
          have HR9 : Hid (IsStrs w9 r1 y1 (pageF P t)) := hS
          have HB9 : Hid (Below w.heap.size w w9) := HB8.out.trans (hb.mono HB8.out.size)
          clear hb hO hS
          go_wp2_with fail
          refine (texts_same l1 m1 (pageF P t) r1 y1 _ HL9.out HR9.out (by omega)).mono ?_
          rintro e w10 ⟨rfl, n, rfl⟩
          go_wp2
          go_ret
          exact ⟨rfl, below_drewN HB9.out n⟩

theorem own : ownKnob Tryz.prog.godebug = none := by kernel_rfl
theorem laidOut : laidOutB Tryz.prog = true := by kernel_rfl

/-! ### THE ROW's STEP -/
set_option maxRecDepth 100000 in
theorem lifted (os : Os) (started : os.Started) (H : Type) (enc : TypeId × Value → H) :
    ReturnsInHanded {} Tryz.checked os 5 .any (fun w args => (Rows.fnPageBaseJoinSpec.pre enc Tryz.prog Tryz.f5 [] false w args ∧ laidMetH Tryz.prog Rows.fnPageBaseJoinRow.laid w) ∧ sizedMet enc Tryz.prog Tryz.f5 (OpenSpec.ofChange Rows.fnPageBaseJoinSpec) false w args)
      (Rows.fnPageBaseJoinSpec.post enc Tryz.prog Tryz.f5 false true false false) := by
  refine returnsInHanded_of_calls own started (by kernel_rfl)
    (ChangeSpec.witness_shaped (enc := enc) (C := Tryz.checked) (os := os) (X := fun w _ => laidMetH Tryz.prog Rows.fnPageBaseJoinRow.laid w) false (World.laidAll Tryz.prog os Rows.fnPageBaseJoinRow.laid) #[.slice none 0 0, .slice none 0 0] 8 (World.laidAll_os _ _ _)
      (World.shaped_of_ZipB (by kernel_rfl) (by kernel_rfl)) (by kernel_rfl) (by kernel_rfl) (by kernel_rfl)
      (by rw [MakeChecks.laidMetH_plain _ _ _ (by kernel_rfl)]; exact laidMet_laidAll _ (by kernel_rfl) (by kernel_rfl))) ?_
  intro w tape i _ hsh _ hok hpre _
  obtain ⟨_, _, _, fn', hfn', _, _, _, _, hval1⟩ := hok
  obtain rfl : fn' = Tryz.f5 := Option.some.inj (hfn'.symm.trans Tryz.func5)
  obtain ⟨⟨⟨ds, gs, before, hw, _⟩, hL0⟩, _⟩ := hpre
  have hW := DataW.Whole.of_heap (w' := w.forCall tape i) (by rfl) hw
  have hL : laidMetH Tryz.prog Rows.fnPageBaseJoinRow.laid (w.forCall tape i) := hL0.of_heap (by rfl)
  have hb : ∃ base, ∀ (j : Nat) t v, Tryz.f5.params[j]? = some t → i.args[j]? = some v → Value.okWide Tryz.prog (w.forCall tape i) .any base t v := ⟨_, hval1⟩
  clear hval1 hfn' hL0 hw
  suffices h : Calls Tryz.checked.prog 5 i.args (w.forCall tape i) fun e W' => ∃ v, e = .returned v ∧ Rows.fnPageBaseJoinSpec.post enc Tryz.checked.prog Tryz.f5 false true false false (w.forCall tape i) i.args v W' from
    h.mono fun e W' ⟨v, he, hp⟩ => by subst he; exact ChangeSpec.post_blind hp
  generalize hWe : w.forCall tape i = W at *
  generalize i.args = args at *
  clear hWe
  obtain ⟨base, hval⟩ := hb
  have hW' := hW
  obtain ⟨p, q, hA0, hV, rfl, hfz, hnd⟩ := hW
  have hA : DataW.TrodAll enc Tryz.prog W 0 (fun _ => true) true Tryz.f5.params.toList args.toList ds p := hA0
  rw [Tryz.params5] at hA hval
  obtain ⟨v0, vs0, d0, ds0, p0, q0, hargs, rfl, rfl, h0, r0⟩ := trodAll_cons hA
  obtain ⟨v1, vs1, d1, ds1, p1, q1, rfl, rfl, rfl, h1, r1⟩ := trodAll_cons r0
  obtain ⟨rfl, rfl, rfl⟩ := trodAll_nil r1
  obtain rfl : args = #[v0, v1] := by cases args; simp_all
  obtain ⟨rfl, rfl⟩ := trodVars_none hV
  obtain ⟨a0, len0, cap0, rfl⟩ := okWide_slice Tryz.underlying22 (hval 0 22 v0 rfl rfl)
  have k0 := h0
  have lt0 : ∀ x ∈ p0, x.block < W.heap.size := by obtain ⟨m, hm⟩ := k0; exact DataW.trod_lt m _ _ _ hm
  obtain ⟨z0, w0⟩ : ∃ zs, Dr.IsRow .u8 W a0 len0 cap0 zs := by
    obtain ⟨fuel, hf⟩ := h0
    rcases open_ints Tryz.underlying22 Tryz.underlying5 (by kernel_rfl) hf with ⟨hcs, _⟩ | ⟨x, l, c, zs, hcs, _, hl, hm, hz, _, hcell, hwz⟩
    · simp [Value.cells] at hcs
      obtain ⟨rfl, rfl, rfl⟩ := hcs
      exact ⟨[], .inl ⟨rfl, rfl, rfl, rfl⟩⟩
    · simp [Value.cells] at hcs
      obtain ⟨rfl, rfl, rfl⟩ := hcs
      exact ⟨zs, .inr ⟨_, rfl, hl, hm, by simpa using hz, hcell, hwz⟩⟩
  obtain ⟨a1, len1, cap1, rfl⟩ := okWide_slice Tryz.underlying22 (hval 1 22 v1 rfl rfl)
  have k1 := h1
  have lt1 : ∀ x ∈ p1, x.block < W.heap.size := by obtain ⟨m, hm⟩ := k1; exact DataW.trod_lt m _ _ _ hm
  obtain ⟨z1, w1⟩ : ∃ zs, Dr.IsRow .u8 W a1 len1 cap1 zs := by
    obtain ⟨fuel, hf⟩ := h1
    rcases open_ints Tryz.underlying22 Tryz.underlying5 (by kernel_rfl) hf with ⟨hcs, _⟩ | ⟨x, l, c, zs, hcs, _, hl, hm, hz, _, hcell, hwz⟩
    · simp [Value.cells] at hcs
      obtain ⟨rfl, rfl, rfl⟩ := hcs
      exact ⟨[], .inl ⟨rfl, rfl, rfl, rfl⟩⟩
    · simp [Value.cells] at hcs
      obtain ⟨rfl, rfl, rfl⟩ := hcs
      exact ⟨zs, .inr ⟨_, rfl, hl, hm, by simpa using hz, hcell, hwz⟩⟩
  clear hA0
  refine (walk a0 len0 cap0 z0 a1 len1 cap1 z1 W w0 w1 hL hsh).mono fun e W' ⟨he, bel⟩ => ?_
  subst he
  exact ⟨_, rfl, _, _, _, [], _, [], hW', trodAll_mk1 (shut_bool Tryz.underlying4 _), (trodAll_cons_mk (Below.trod laidOut (by kernel_rfl) (of_decide_eq_true (by kernel_rfl)) k0 bel lt0) (trodAll_cons_mk (Below.trod laidOut (by kernel_rfl) (of_decide_eq_true (by kernel_rfl)) k1 bel lt1) trodAll_mk0)), rfl, bel.frame _, fun h => by cases h⟩

theorem over : Rows.fnPageBaseJoinRow.holds Tryz.pinned (OpenSpec.ofChange Rows.fnPageBaseJoinSpec) :=
  OpenClaim.holds_of_wide 5 Tryz.f5 rfl rfl rfl rfl rfl rfl rfl ⟨rfl, rfl, rfl, rfl, rfl⟩ rfl rfl rfl rfl rfl (by kernel_rfl) Tryz.func5 (by kernel_rfl)
    (of_decide_eq_true (by kernel_rfl)) (by unfold Func.isWrapper; first | (rw [if_pos (by decide +kernel)]; kernel_rfl) | (rw [if_neg (by decide +kernel)]; exact ⟨rfl, rfl⟩))
    (fun os started H enc _ => lifted os started H enc)

theorem proved : Rows.FnPageBaseJoinCardSaid :=
  Claim7.holds_tied_plain_at .later [] [.data, .pinned] true _ false over (fun _ h => by cases h) (by kernel_rfl) (fun _ h => by cases h) fnPageBaseJoin_row_tie rfl ⟨rfl, rfl⟩ (by kernel_rfl) rfl
    (fun f fn hf hfn => by
      obtain rfl : f = 5 := Option.some.inj ((show Tryz.prog.funcNamed "loop.example/pedlar/laws.FnPageBaseJoin" = some 5 by kernel_rfl).symm.trans hf) |>.symm
      obtain rfl : fn = Tryz.f5 := (Option.some.inj (Tryz.func5.symm.trans hfn)).symm
      exact ⟨by kernel_rfl, fun j t ht => by
        rw [Tryz.params5] at ht
        have hm : t ∈ [22, 22] := by simpa using Array.mem_of_getElem? ht
        have hall : ([22, 22].all fun u => !Tryz.prog.wantsStandIn u) = true := by kernel_rfl
        exact (show Tryz.prog.wantsStandIn t = false by simpa using List.all_eq_true.1 hall t hm)⟩)
    (by kernel_rfl)
end Go.Proofs.YtjeohndfgamiaaaGreatDoor.fnPageBaseJoin
