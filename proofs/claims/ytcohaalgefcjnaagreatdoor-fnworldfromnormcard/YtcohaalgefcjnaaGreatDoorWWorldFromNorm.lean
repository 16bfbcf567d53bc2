/- FnWorldFromNorm: the walk. -/
import Derived.Test.YtcohaalgefcjnaaGreatDoorRows
import Derived.WalkKit
import Derived.ProofKit
import Derived.OpenShut
import Derived.ShutString
import Derived.ChangeOld
import Derived.Below
import Derived.Test.YtcohaalgefcjnaaGreatDoorCards
import Derived.Test.YtcohaalgefcjnaaGreatDoorDrawW5
import Derived.Test.YtcohaalgefcjnaaGreatDoorPgA1Pk
import Derived.Test.YtcohaalgefcjnaaGreatDoorDraw1Pk
import Derived.Shelf.Vars
import Derived.Lay
import Derived.LaidOnce
import Derived.SevenTiedAt
namespace Go.Proofs.YtcohaalgefcjnaaGreatDoor.fnWorldFromNorm
open Go.ChangeShapes Go.WideShapes Go.ChangeAt Go.RowKit
open Go.ChangeMaps (open_string shut_string)
set_option linter.unusedVariables false
open Go.Proofs.YtcohaalgefcjnaaGreatDoor.EscL Go.Proofs.YtcohaalgefcjnaaGreatDoor.EscM Go.Proofs.YtcohaalgefcjnaaGreatDoor.St Go.Proofs.YtcohaalgefcjnaaGreatDoor.RR Go.Proofs.YtcohaalgefcjnaaGreatDoor.RoPg Go.Proofs.YtcohaalgefcjnaaGreatDoor.WdM Go.Proofs.YtcohaalgefcjnaaGreatDoor.Wd Go.Proofs.YtcohaalgefcjnaaGreatDoor.Dr Go.Proofs.YtcohaalgefcjnaaGreatDoor.AddrM Go.Proofs.YtcohaalgefcjnaaGreatDoor.ReadM Go.Proofs.YtcohaalgefcjnaaGreatDoor.Rd1 Go.Proofs.YtcohaalgefcjnaaGreatDoor.PgA Go.Proofs.YtcohaalgefcjnaaGreatDoor.Ad1 Go.Proofs.YtcohaalgefcjnaaGreatDoor.RdA

theorem mx_of {w : World} (h : w.ShapedOpen Tryz.prog) : Im.Mx w :=
  cell_of_shapedOpen_int (g := 0) (t := 3) (zero := #[.int .i64 0]) (k := .i64) h (of_decide_eq_true (by kernel_rfl)) (by kernel_rfl) rfl (by kernel_rfl) (by kernel_rfl) Tryz.underlying3
theorem bd_sz {L : List Pg} (h : PgsBd L) : PgSz L := fun p hp => by obtain ⟨h1, h2, h3, _⟩ := h p hp; omega
theorem texts_same (a0 : Option Addr) (cap : Nat) (b0 : Option Addr) (dap : Nat) (A : List ByteArray) (w : World) (hA : IsStrs w a0 cap A) (hB : IsStrs w b0 dap A) (hl : A.length ≤ 4194304) :
    Calls Tryz.prog 19 #[.slice a0 A.length cap, .slice b0 A.length dap] w fun e w' => e = .returned (.bool true) ∧ Below w.heap.size w w' := by
  refine (lpTexts_any a0 cap A b0 dap A w hA hB hl hl).mono ?_
  rintro e w1 ⟨rfl, n, rfl⟩
  exact ⟨by simp, below_drewN (Below.refl _ _) n⟩

set_option maxRecDepth 100000 in
set_option maxHeartbeats 6400000 in
theorem walk (a0 : Option Addr) (len0 cap0 : Nat) (z0 : List Int) (w : World) (w0 : Dr.IsRow .u8 w a0 len0 cap0 z0) (hL : laidMetH Tryz.prog Rows.fnWorldFromNormRow.laid w) (hsh : w.ShapedOpen Tryz.prog) :
    Calls Tryz.prog 7 #[.slice a0 len0 cap0] w fun e w' => e = .returned (.bool true) ∧ Below w.heap.size w w' := by
  have HM : Hid (Im.Mx w) := mx_of hsh
  clear hsh hL
  by_cases hlong : (1048576 : Int) < len0
  · go_enter Tryz.func7, Tryz.ntmps7
    go_wp2
    go_ret
    exact ⟨rfl, Below.refl _ _⟩
  go_enter Tryz.func7, Tryz.ntmps7
  go_wp2_with fail
  refine (drawFrom_any a0 len0 cap0 z0 w w0).mono ?_
  rintro e w1 ⟨P, a1, c1, s, rfl, hI, hl, hL, hs, hb1⟩
  have HI1 : Hid (IsRows FPg w1 a1 c1 P) := hI
  have HL : Hid (PgSz P) := bd_sz hL
  have HA : Hid (PgAs P) := fun _ _ => ⟨trivial, trivial⟩
  have HT : Hid (PgTx P) := fun _ _ => trivial
  have HB1 : Hid (Below w.heap.size w w1) := hb1
  have hs4 : s.size ≤ 4194304 := by omega
  have HSF : Hid _ := fun W hW => specFrom_any a1 c1 P s W hW HL.out hs4
  have HIF : Hid _ := fun W hM hW => implFrom_any a1 c1 P s W hM hW HL.out HA.out HT.out hs4 trivial
  have HEa : Hid (∀ y ∈ fromW P s, ∃ C, readF y.data.toList = some C ∧ textF C = y ∧ bulkA C ≤ 1000 ∧ y.size ≤ 60) := fun y hy => from_each hy
  have HNd : Hid _ := from_nodup P s
  have hF := from_len P s
  clear hI hL hb1 w0
  generalize fromW P s = L at *
  go_wp2_with fail
  refine (HIF.out _ (HM.out.below HB1.out) HI1.out).mono ?_
  rintro e w2 ⟨v2, rfl, hO2, hb2⟩
  obtain ⟨s2, d2, hv2, hS2⟩ := hO2.strs
  subst hv2
  have HS2 : Hid (IsStrs w2 s2 d2 L) := hS2
  have HB2 : Hid (Below w.heap.size w w2) := HB1.out.trans (hb2.mono HB1.out.size)
  have HI2 : Hid (IsRows FPg w2 a1 c1 P) := HI1.out.below hb2
  clear hO2 hS2 hb2 HI1 HB1
  go_wp2_with fail
  refine (HSF.out _ HI2.out).mono ?_
  rintro e w3 ⟨v3, rfl, hO3, hb3⟩
  obtain ⟨s3, d3, hv3, hS3⟩ := hO3.strs
  subst hv3
  have HR3 : Hid (IsStrs w3 s3 d3 L) := hS3
  have HS3 : Hid (IsStrs w3 s2 d2 L) := HS2.out.below hb3
  have HB3 : Hid (Below w.heap.size w w3) := HB2.out.trans (hb3.mono HB2.out.size)
  clear hO3 hS3 hb3 HI2 HB2 HS2
  go_wp2_with fail
  refine (texts_same s2 d2 s3 d3 L _ HS3.out HR3.out (by omega)).mono ?_
  rintro e w4 ⟨rfl, hb4⟩
  have HL4 : Hid (IsStrs w4 s2 d2 L) := HS3.out.below hb4
  have HB4 : Hid (Below w.heap.size w w4) := HB3.out.trans (hb4.mono HB3.out.size)
  have HM4 : Hid (Im.Mx w4) := HM.out.below HB4.out
  clear hb4 HB3 HS3 HR3 HSF HIF
  go_wp2
  go_loopw [6] (fun i wr => ∃ k : Nat, k ≤ L.length ∧ i = .int .i64 (k : Int) ∧ Hid (Below w4.heap.size w4 wr)) (fun i _ => L.length - (intOf i).toNat)
  case atStart => exact ⟨0, Nat.zero_le _, rfl, Below.refl _ _⟩
  case round =>
    obtain ⟨k, hk, rfl, HB⟩ := hrel
    by_cases hlt : k < L.length
    · obtain ⟨lb, lo, e1, cl⟩ := (HL4.out.below HB.out).at hlt
      subst e1
      obtain ⟨C, hC, hTX, hCb0, hLz⟩ := HEa.out L[k] (List.getElem_mem _)
      have HRA : Hid _ := fun W hW => implRead_all L[k] W hW (by omega) trivial
      rw [hC] at HRA
      have HTX : Hid (L[k] = textF C) := hTX.symm
      have hCb : bulkA C ≤ 4194304 := by omega
      clear hC hTX
      go_wp2_with fail
      refine (HRA.out _ (HM4.out.below HB.out)).mono ?_
      rintro e w5 ⟨D, ok, x1, y1, rfl, hans, hOC, hb⟩
      have hDC : ok = true ∧ D = C := by
        rcases hans with ⟨h0, h⟩ | ⟨_, h, _⟩
        · injection h with h; exact ⟨h0, h.symm⟩
        · cases h
      obtain ⟨hok, hDC⟩ := hDC
      subst hok
      subst hDC
      have hba := hb.alloc hb.size (.cells #[.string D.house, .slice x1 D.parts.length y1, .bool D.asks, .string D.ask] 28)
      have HSC : Hid (IsStrs (w5.alloc (.cells #[.string D.house, .slice x1 D.parts.length y1, .bool D.asks, .string D.ask] 28)) x1 y1 D.parts) := (Owns.strsOf hOC).keep (alloc_keep _ _)
      have HL5 : Hid (IsStrs (w5.alloc (.cells #[.string D.house, .slice x1 D.parts.length y1, .bool D.asks, .string D.ask] 28)) (some ⟨lb, lo, none⟩) d2 L) := (HL4.out.below HB.out).below hba
      have HB5 : Hid (Below w4.heap.size w4 (w5.alloc (.cells #[.string D.house, .slice x1 D.parts.length y1, .bool D.asks, .string D.ask] 28))) := HB.out.trans (hba.mono HB.out.size)
      clear hans hOC hb hba cl HRA
      have cl5 : (w5.alloc (.cells #[.string D.house, .slice x1 D.parts.length y1, .bool D.asks, .string D.ask] 28)).cell? ⟨lb, lo + k, none⟩ = some (.string L[k]) := by
        obtain ⟨lb', lo', e2, c⟩ := HL5.out.at hlt
        injection e2 with e2
        injection e2 with e3 e4 _
        subst e3 e4
        exact c
      have HXC : Hid (Dr.Box (w5.alloc (.cells #[.string D.house, .slice x1 D.parts.length y1, .bool D.asks, .string D.ask] 28)) w5.heap.size (.string D.house) (.slice x1 D.parts.length y1) (.bool D.asks) (.string D.ask)) := Dr.heap_new w5 _
      have hx := HXC.out
      obtain ⟨⟨c0, c1, c2, c3⟩, _⟩ := hx.cells
      clear hx HXC
      have hcmp : ((textF D).toList == L[k].toList) = true := by rw [← HTX.out]; simp
      have n0 : (w5.alloc (.cells #[.string D.house, .slice x1 D.parts.length y1, .bool D.asks, .string D.ask] 28)).drew.cell? ⟨w5.heap.size, 0, none⟩ = some (.string D.house) := c0
      have n1 : (w5.alloc (.cells #[.string D.house, .slice x1 D.parts.length y1, .bool D.asks, .string D.ask] 28)).drew.cell? ⟨w5.heap.size, 1, none⟩ = some (.slice x1 D.parts.length y1) := c1
      have n2 : (w5.alloc (.cells #[.string D.house, .slice x1 D.parts.length y1, .bool D.asks, .string D.ask] 28)).drew.cell? ⟨w5.heap.size, 2, none⟩ = some (.bool D.asks) := c2
      have n3 : (w5.alloc (.cells #[.string D.house, .slice x1 D.parts.length y1, .bool D.asks, .string D.ask] 28)).drew.cell? ⟨w5.heap.size, 3, none⟩ = some (.string D.ask) := c3
      have nl : (w5.alloc (.cells #[.string D.house, .slice x1 D.parts.length y1, .bool D.asks, .string D.ask] 28)).drew.cell? ⟨lb, lo + k, none⟩ = some (.string L[k]) := cl5
      go_wp2
      go_region_with (go_at_call 13; refine (implAddrText_any D x1 y1 (w5.alloc (.cells #[.string D.house, .slice x1 D.parts.length y1, .bool D.asks, .string D.ask] 28)).drew (HSC.out.keep fun _ _ => rfl) hCb).mono ?_; rintro e w6 ⟨rfl, hb6⟩; have cl6 : w6.cell? ⟨lb, lo + k, none⟩ = some (.string L[k]) := (hb6.cell (St.cell_block nl)).trans nl)
      all_goals
        have HB6 : Hid (Below w4.heap.size w4 w6) := HB5.out.trans ((((Below.refl _ (w5.alloc (.cells #[.string D.house, .slice x1 D.parts.length y1, .bool D.asks, .string D.ask] 28))).drew).trans hb6).mono HB5.out.size)
        clear hb6
        go_wp2
        go_roundw
        case rel => exact ⟨k + 1, by omega, by go_num, HB6⟩
        case measure => simp [intOf]; omega
    · go_wp2_with fail
      refine (once_any s2 d2 L _ (HL4.out.below HB.out) (by omega) HNd.out).mono ?_
      rintro e w5 ⟨rfl, n5, rfl⟩
      go_wp2
      go_ret
      exact ⟨rfl, below_drewN (HB4.out.trans (HB.out.mono HB4.out.size)) n5⟩
end Go.Proofs.YtcohaalgefcjnaaGreatDoor.fnWorldFromNorm
