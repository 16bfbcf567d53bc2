/- FnAddrGreat: for every code, great letters of the house change nothing of what is read of the text drawn of it. The card ties two tables of unicode/utf8 to the program's text; no other condition. -/
import Derived.Test.YtbfiopcdclcdhaaDoorRows
import Derived.WalkKit
import Derived.ProofKit
import Derived.OpenShut
import Derived.ShutString
import Derived.ChangeOld
import Derived.Below
import Derived.Test.YtbfiopcdclcdhaaDoorCards
import Derived.Test.YtbfiopcdclcdhaaDoorTie
import Derived.Test.YtbfiopcdclcdhaaDoorDoor
import Derived.Test.YtbfiopcdclcdhaaDoorGreatMath
import Derived.Lay
import Derived.LaidOnce
import Derived.SevenTiedAt
namespace Go.Proofs.YtbfiopcdclcdhaaDoor.fnAddrGreat
open Go.ChangeShapes Go.WideShapes Go.ChangeAt Go.RowKit
open Go.ChangeMaps (open_string shut_string)
set_option linter.unusedVariables false
open Go.Proofs.YtbfiopcdclcdhaaDoor.EscM Go.Proofs.YtbfiopcdclcdhaaDoor.St Go.Proofs.YtbfiopcdclcdhaaDoor.AddrM Go.Proofs.YtbfiopcdclcdhaaDoor.ReadM Go.Proofs.YtbfiopcdclcdhaaDoor.EscL Go.Proofs.YtbfiopcdclcdhaaDoor.Ad1 Go.Proofs.YtbfiopcdclcdhaaDoor.Dr Go.Proofs.YtbfiopcdclcdhaaDoor.Tw Go.Proofs.YtbfiopcdclcdhaaDoor.RB Go.Proofs.YtbfiopcdclcdhaaDoor.Im Go.Proofs.YtbfiopcdclcdhaaDoor.Rd1 Go.Proofs.YtbfiopcdclcdhaaDoor.Door
open Go.Proofs.YtbfiopcdclcdhaaDoor.RL (upAt upZ goes3 greatL)

theorem at_list {s : ByteArray} {r : List UInt8} (h : s.data.toList = 47 :: 47 :: r) {i : Nat} {hi : i + 2 < s.size} : (s[i + 2]'hi) = r[i]'(by have := congrArg List.length h; simp at this; omega) := by
  have hl : i + 2 < s.data.toList.length := by simpa using hi
  have e : (s[i + 2]'hi) = s.data.toList[i + 2]'hl := rfl
  rw [e]
  simp only [h, List.getElem_cons_succ]
/-- the cells of the loop behind k places -/
def Cells (s : ByteArray) (w : World) (B k : Nat) : Prop := ∀ j (h : j < s.size), w.cell? ⟨B, j, none⟩ = some (.int .u8 (if 2 ≤ j ∧ j < k then upZ (s[j]'h).toNat else ((s[j]'h).toNat : Int)))
theorem cells_keep {s : ByteArray} {w : World} {B k : Nat} (hlt : k < s.size) (h : Cells s w B k) (he : upZ (s[k]'hlt).toNat = ((s[k]'hlt).toNat : Int)) : Cells s w B (k + 1) := by
  intro j hj
  rw [h j hj]
  by_cases e : j = k
  · subst e
    by_cases h2 : 2 ≤ j
    · rw [if_neg (by omega), if_pos (by omega), he]
    · rw [if_neg (by omega), if_neg (by omega)]
  · by_cases e2 : 2 ≤ j ∧ j < k
    · rw [if_pos e2, if_pos (by omega)]
    · rw [if_neg e2, if_neg (by omega)]
theorem cells_set {s : ByteArray} {w : World} {B k : Nat} {v : Int} (hlt : k < s.size) (h2 : 2 ≤ k) (h : Cells s w B k) (he : upZ (s[k]'hlt).toNat = v) : Cells s (w.setCell ⟨B, k, none⟩ (.int .u8 v)) B (k + 1) := by
  intro j hj
  by_cases e : j = k
  · subst e
    rw [World.cell?_setCell_same w _ _ (h j hj), if_pos (by omega), he]
  · rw [World.cell?_setCell_other _ _ _ _ (by intro e'; injection e' with _ e'' _; exact e e''.symm), h j hj]
    by_cases e2 : 2 ≤ j ∧ j < k
    · rw [if_pos e2, if_pos (by omega)]
    · rw [if_neg e2, if_neg (by omega)]
theorem great_str {s : ByteArray} {w : World} {B k cap : Nat} (h : Cells s w B k) : (convert 22 9 (.slice (some ⟨B, 0, none⟩) s.size cap)).run Tryd.prog w = .ok (.string (bs (upAt s.data.toList k))) w := by
  have hl : (upAt s.data.toList k).length = s.size := by rw [RL.upAt_len]; simp
  have := run_convert_bytes_back (P := Tryd.prog) w 22 9 5 ⟨B, 0, none⟩ cap (upAt s.data.toList k) Tryd.underlying22 Tryd.underlying5 Tryd.underlying9 ?_
  · rw [hl] at this; exact this
  · intro j hj
    have hj' : j < s.size := by omega
    rw [add_mk, Nat.zero_add, h j hj', RL.upAt_get]
    have e : s.data.toList[j]'(by simpa using hj') = s[j]'hj' := rfl
    by_cases h2 : 2 ≤ j ∧ j < k
    · rw [if_pos h2, if_pos h2, e, RL.up_val]
    · rw [if_neg h2, if_neg h2, e]
theorem great_ascii {s : ByteArray} (h : ascii s) (k : Nat) : ascii (bs (upAt s.data.toList k)) := by
  rw [ascii_mem, bs_list]
  rw [ascii_mem] at h
  intro b hb
  obtain ⟨j, hj, rfl⟩ := List.getElem_of_mem hb
  rw [RL.upAt_get]
  split
  · exact RL.up_ascii _ (h _ (List.getElem_mem _))
  · exact h _ (List.getElem_mem _)
theorem goes_yes {b : UInt8} (h1 : ¬ (b.toNat : Int) = 47) (h2 : ¬ (b.toNat : Int) = 63) (h3 : ¬ (b.toNat : Int) = 35) : goes3 b = true := by
  unfold goes3
  simp
  omega
theorem goes_more {s : ByteArray} {k : Nat} (hlt : k < s.size) (h : ∀ j, 2 ≤ j → ∀ hj : j < k, ∀ h : j < s.size, goes3 (s[j]'h) = true) (hk : goes3 (s[k]'hlt) = true) : ∀ j, 2 ≤ j → ∀ hj : j < k + 1, ∀ h : j < s.size, goes3 (s[j]'h) = true := by
  intro j h2 hj hs
  by_cases e : j = k
  · subst e; exact hk
  · exact h j h2 (by omega) hs

theorem great_end {s : ByteArray} {r : List UInt8} {k : Nat} (h : s.data.toList = 47 :: 47 :: r) (h2 : 2 ≤ k) (hk : k ≤ s.size) (hgo : ∀ j, 2 ≤ j → ∀ hj : j < k, ∀ h : j < s.size, goes3 (s[j]'h) = true) (hstop : ∀ h : k < s.size, goes3 (s[k]'h) = false) : upAt s.data.toList k = 47 :: 47 :: greatL r := by
  obtain ⟨m, rfl⟩ : ∃ m, k = m + 2 := ⟨k - 2, by omega⟩
  have hl : r.length + 2 = s.size := by have := congrArg List.length h; simp at this; omega
  rw [h]
  refine RL.upAt_great (by omega) (fun i hi => ?_) (fun hm => ?_)
  · have h1 := hgo (i + 2) (by omega) (by omega) (by omega)
    rw [at_list h] at h1
    exact h1
  · have h1 := hstop (by omega)
    rw [at_list h] at h1
    exact h1

set_option maxRecDepth 100000 in
set_option maxHeartbeats 6400000 in
theorem walk (a0 : Option Addr) (len0 cap0 : Nat) (z0 : List Int) (w : World) (w0 : Dr.IsRow .u8 w a0 len0 cap0 z0) (hL : laidMetH Tryd.prog Rows.fnAddrGreatRow.laid w) (hsh : w.ShapedOpen Tryd.prog) :
    Calls Tryd.prog 5 #[.slice a0 len0 cap0] w fun e w' => e = .returned (.bool true) ∧ Below w.heap.size w w' := by
  have HM : Hid (Mx w) := mx_of hsh
  clear hsh hL
  by_cases hlong : (1048576 : Int) < len0
  · go_enter Tryd.func5, Tryd.ntmps5
    go_wp2
    go_ret
    exact ⟨rfl, Below.refl _ _⟩
  · go_enter Tryd.func5, Tryd.ntmps5
    go_wp2_with fail
    refine (Dr.drawRead_any a0 len0 cap0 z0 w w0).mono ?_
    rintro e w1 ⟨raw, rfl, hrs, hra, hb1⟩
    have HA : Hid (ascii raw) := ascii_of hra
    have HB1 : Hid (Below w.heap.size w w1) := hb1
    clear hb1 hra
    go_wp2_with fail
    refine (specRead_any raw _ (by omega)).mono ?_
    rintro e w2 ⟨A, told, a1, c1, rfl, hans, hO, hb2⟩
    have HANS : Hid (Ans (readF raw.data.toList) A told) := hans
    have HX2 : Hid (Dr.Box (w2.alloc (.cells #[.string A.house, .slice a1 A.parts.length c1, .bool A.asks, .string A.ask] 25)) w2.heap.size (.string A.house) (.slice a1 A.parts.length c1) (.bool A.asks) (.string A.ask)) := Dr.heap_new w2 _
    have HO2 : Hid (Owns (w2.alloc (.cells #[.string A.house, .slice a1 A.parts.length c1, .bool A.asks, .string A.ask] 25)) w.heap.size (.slice a1 A.parts.length c1) A.parts) := Owns.mono (Owns.keep hO (alloc_keep w2 _)) HB1.out.size
    have hb2w := HB1.out.trans (hb2.mono HB1.out.size)
    have HB2 : Hid (Below w.heap.size w (w2.alloc (.cells #[.string A.house, .slice a1 A.parts.length c1, .bool A.asks, .string A.ask] 25))) := hb2w.alloc hb2w.size _
    have HM2 : Hid (Mx (w2.alloc (.cells #[.string A.house, .slice a1 A.parts.length c1, .bool A.asks, .string A.ask] 25))) := HM.out.keep fun k hk => HB2.out.block k hk
    obtain ⟨G, hG⟩ : ∃ G, w2.heap.size = G := ⟨_, rfl⟩
    rw [hG] at HX2
    clear hb2 hO hans HB1 hb2w
    go_wp2_with fail
    refine (implRead_ascii raw _ HM2.out (by omega) HA.out).mono ?_
    rintro e w3 ⟨A', ok, b1, d1, rfl, hans, hO, hb3⟩
    obtain ⟨hA', hok'⟩ := ans_same HANS.out hans
    subst hA' hok'
    clear hans
    have HX3 : Hid (Dr.Box w3 G (.string A'.house) (.slice a1 A'.parts.length c1) (.bool A'.asks) (.string A'.ask)) := HX2.out.grown (grown_of_below none hb3) (by simp)
    have HO3 : Hid (Owns w3 w.heap.size (.slice a1 A'.parts.length c1) A'.parts) := Owns.below HO2.out hb3
    have HP3 : Hid (Owns w3 w.heap.size (.slice b1 A'.parts.length d1) A'.parts) := Owns.mono hO HB2.out.size
    have HB3 : Hid (Below w.heap.size w w3) := HB2.out.trans (hb3.mono HB2.out.size)
    clear hb3 hO HX2 HO2 HM2 HB2 hG
    have HT : Hid (Tw.Two w (w3.alloc (.cells #[.string A'.house, .slice b1 A'.parts.length d1, .bool A'.asks, .string A'.ask] 25)) G w3.heap.size A' A' a1 c1 b1 d1) :=
      ⟨HX3.out.grown (grown_alloc w3 _ none) (by simp), Dr.heap_new w3 _, Owns.keep HO3.out (alloc_keep w3 _), Owns.keep HP3.out (alloc_keep w3 _), HB3.out.alloc HB3.out.size _⟩
    obtain ⟨H, hH⟩ : ∃ H, w3.heap.size = H := ⟨_, rfl⟩
    rw [hH] at HT
    have hb5 : A'.parts.length ≤ 4194304 ∧ bulkA A' ≤ 4194304 := ans_bulk HANS.out
    obtain ⟨hl4, hk4⟩ := hb5
    clear HX3 HO3 HP3 HB3
    have hT := HT.out
    obtain ⟨⟨c0, c1', c2, c3⟩, d0, d1', d2, d3⟩ := hT.cells
    clear hT
    go_wp2_with fail
    refine (lpAddr_any A' A' b1 d1 a1 c1 _ HT.out.strs2 HT.out.strs1 hl4 hl4).mono ?_
    rintro e w5 ⟨rfl, hb5⟩
    rw [same_self]
    have HT5 : Hid _ := HT.out.below hb5
    have HM5 : Hid (Mx w5) := HM.out.keep fun k hk => HT5.out.low.block k hk
    clear HT hb5 hH c0 c1' c2 c3 d0 d1' d2 d3
    have hT := HT5.out
    obtain ⟨⟨c0, c1', c2, c3⟩, d0, d1', d2, d3⟩ := hT.cells
    clear hT
    cases ok with
    | false =>
      go_wp2_with fail
      refine (lpAddr_any A' A' b1 d1 a1 c1 _ HT5.out.strs2 HT5.out.strs1 hl4 hl4).mono ?_
      rintro e w6 ⟨rfl, hb6⟩
      rw [same_self]
      have HT6 : Hid _ := HT5.out.below hb6
      clear hb6
      go_wp2
      go_ret
      exact ⟨rfl, HT6.out.low⟩
    | true =>
      have HR : Hid (readF raw.data.toList = some A') := ans_yes HANS.out rfl
      obtain ⟨r, hr⟩ := RL.read_two HR.out
      have HRW : Hid (raw.data.toList = 47 :: 47 :: r) := hr
      have hsz2 : 2 ≤ raw.size := by have := congrArg List.length hr; simp at this; omega
      clear hr HANS
      obtain ⟨cap, wm, hrun, hcap, hcell, hfz, hbm⟩ := bytes_of raw w5
      have HC0 : Hid (Cells raw wm w5.heap.size 2) := by
        intro j hj
        rw [hcell j hj, if_neg (by omega)]
      have HF0 : Hid _ := hfz
      have HB0 : Hid _ := hbm
      clear hcell hfz hbm
      go_wp2
      go_loopw [9] (fun i wr => ∃ k : Nat, 2 ≤ k ∧ k ≤ raw.size ∧ i = .int .i64 (k : Int) ∧ Hid (Cells raw wr w5.heap.size k) ∧ Hid (∀ j, j < raw.size → wr.frozen? ⟨w5.heap.size, j, none⟩ = false) ∧ Hid (∀ j, 2 ≤ j → ∀ hj : j < k, ∀ h : j < raw.size, goes3 (raw[j]'h) = true) ∧ Hid (Below w5.heap.size w5 wr)) (fun i _ => raw.size - (intOf i).toNat)
      case atStart => exact ⟨2, Nat.le_refl _, hsz2, rfl, HC0, HF0, (fun j h2 hj => absurd hj (by omega)), HB0⟩
      case round =>
        obtain ⟨k, hk2, hk, rfl, HK, HZ, HGO, HBR⟩ := hrel
        clear hrun c0 c1' c2 c3 d0 d1' d2 d3
        by_cases hlt : k < raw.size
        · have ck := HK.out k hlt
          rw [if_neg (by omega)] at ck
          have zk := HZ.out k hlt
          have hble := byte_le (raw[k]'hlt)
          by_cases h47 : ((raw[k]'hlt).toNat : Int) = 47
          · have HST : Hid (upAt raw.data.toList k = 47 :: 47 :: greatL r) := great_end HRW.out hk2 hk HGO.out (fun _ => by unfold goes3; rw [h47]; rfl)
            have hstr : (convert 22 9 (.slice (some ⟨w5.heap.size, 0, none⟩) raw.size cap)).run Tryd.prog wr = .ok (.string (bs (upAt raw.data.toList k))) wr := great_str HK.out
            have HGS : Hid (readF (bs (upAt raw.data.toList k)).data.toList = some A') := by show _ = _; rw [bs_list, HST.out, RL.read_great, ← HRW.out]; exact HR.out
            have hgz : (bs (upAt raw.data.toList k)).size ≤ 60 := by rw [bs_size, RL.upAt_len]; simp; omega
            have HGA : Hid (ascii (bs (upAt raw.data.toList k))) := great_ascii HA.out k
            have HTR : Hid _ := HT5.out.below HBR.out
            have HMR : Hid (Mx wr) := HM5.out.below HBR.out
            clear HST
            generalize bs (upAt raw.data.toList k) = gs at *
            go_wp2_with fail
            refine (implRead_ascii gs _ HMR.out hgz HGA.out).mono ?_
            rintro e w7 ⟨B, ok2, x7, e7, rfl, hans, hO7, hb7⟩
            obtain ⟨hok2, hB⟩ := ans_is hans HGS.out
            subst hok2 hB
            clear hans hstr
            have hb8 : Below wr.heap.size wr (w7.alloc (.cells #[.string B.house, .slice x7 B.parts.length e7, .bool B.asks, .string B.ask] 25)) := hb7.alloc hb7.size _
            have HT8 : Hid _ := HTR.out.below hb8
            have HX8 : Hid (At wr (w7.alloc (.cells #[.string B.house, .slice x7 B.parts.length e7, .bool B.asks, .string B.ask] 25)) w7.heap.size B x7 e7) := At.new hO7 (Nat.le_refl _)
            obtain ⟨J, hJ⟩ : ∃ J, w7.heap.size = J := ⟨_, rfl⟩
            rw [hJ] at HX8
            clear hb7 hO7 hb8 HTR HMR
            have hT := HT8.out
            obtain ⟨⟨c0, c1', c2, c3⟩, d0, d1', d2, d3⟩ := hT.cells
            clear hT
            have hx := HX8.out
            obtain ⟨x0, x1, x2, x3⟩ := hx.cells
            clear hx
            go_wp2_with fail
            refine (lpAddr_any B B x7 e7 b1 d1 _ HX8.out.strs HT8.out.strs2 hl4 hl4).mono ?_
            rintro e w10 ⟨rfl, hb10⟩
            rw [same_self]
            have HT10 : Hid _ := HT8.out.below hb10
            clear hb10
            go_wp2
            go_ret
            exact ⟨rfl, HT10.out.low⟩
          by_cases h63 : ((raw[k]'hlt).toNat : Int) = 63
          · have HST : Hid (upAt raw.data.toList k = 47 :: 47 :: greatL r) := great_end HRW.out hk2 hk HGO.out (fun _ => by unfold goes3; rw [h63]; rfl)
            have hstr : (convert 22 9 (.slice (some ⟨w5.heap.size, 0, none⟩) raw.size cap)).run Tryd.prog wr = .ok (.string (bs (upAt raw.data.toList k))) wr := great_str HK.out
            have HGS : Hid (readF (bs (upAt raw.data.toList k)).data.toList = some A') := by show _ = _; rw [bs_list, HST.out, RL.read_great, ← HRW.out]; exact HR.out
            have hgz : (bs (upAt raw.data.toList k)).size ≤ 60 := by rw [bs_size, RL.upAt_len]; simp; omega
            have HGA : Hid (ascii (bs (upAt raw.data.toList k))) := great_ascii HA.out k
            have HTR : Hid _ := HT5.out.below HBR.out
            have HMR : Hid (Mx wr) := HM5.out.below HBR.out
            clear HST
            generalize bs (upAt raw.data.toList k) = gs at *
            go_wp2_with fail
            refine (implRead_ascii gs _ HMR.out hgz HGA.out).mono ?_
            rintro e w7 ⟨B, ok2, x7, e7, rfl, hans, hO7, hb7⟩
            obtain ⟨hok2, hB⟩ := ans_is hans HGS.out
            subst hok2 hB
            clear hans hstr
            have hb8 : Below wr.heap.size wr (w7.alloc (.cells #[.string B.house, .slice x7 B.parts.length e7, .bool B.asks, .string B.ask] 25)) := hb7.alloc hb7.size _
            have HT8 : Hid _ := HTR.out.below hb8
            have HX8 : Hid (At wr (w7.alloc (.cells #[.string B.house, .slice x7 B.parts.length e7, .bool B.asks, .string B.ask] 25)) w7.heap.size B x7 e7) := At.new hO7 (Nat.le_refl _)
            obtain ⟨J, hJ⟩ : ∃ J, w7.heap.size = J := ⟨_, rfl⟩
            rw [hJ] at HX8
            clear hb7 hO7 hb8 HTR HMR
            have hT := HT8.out
            obtain ⟨⟨c0, c1', c2, c3⟩, d0, d1', d2, d3⟩ := hT.cells
            clear hT
            have hx := HX8.out
            obtain ⟨x0, x1, x2, x3⟩ := hx.cells
            clear hx
            go_wp2_with fail
            refine (lpAddr_any B B x7 e7 b1 d1 _ HX8.out.strs HT8.out.strs2 hl4 hl4).mono ?_
            rintro e w10 ⟨rfl, hb10⟩
            rw [same_self]
            have HT10 : Hid _ := HT8.out.below hb10
            clear hb10
            go_wp2
            go_ret
            exact ⟨rfl, HT10.out.low⟩
          by_cases h35 : ((raw[k]'hlt).toNat : Int) = 35
          · have HST : Hid (upAt raw.data.toList k = 47 :: 47 :: greatL r) := great_end HRW.out hk2 hk HGO.out (fun _ => by unfold goes3; rw [h35]; rfl)
            have hstr : (convert 22 9 (.slice (some ⟨w5.heap.size, 0, none⟩) raw.size cap)).run Tryd.prog wr = .ok (.string (bs (upAt raw.data.toList k))) wr := great_str HK.out
            have HGS : Hid (readF (bs (upAt raw.data.toList k)).data.toList = some A') := by show _ = _; rw [bs_list, HST.out, RL.read_great, ← HRW.out]; exact HR.out
            have hgz : (bs (upAt raw.data.toList k)).size ≤ 60 := by rw [bs_size, RL.upAt_len]; simp; omega
            have HGA : Hid (ascii (bs (upAt raw.data.toList k))) := great_ascii HA.out k
            have HTR : Hid _ := HT5.out.below HBR.out
            have HMR : Hid (Mx wr) := HM5.out.below HBR.out
            clear HST
            generalize bs (upAt raw.data.toList k) = gs at *
            go_wp2_with fail
            refine (implRead_ascii gs _ HMR.out hgz HGA.out).mono ?_
            rintro e w7 ⟨B, ok2, x7, e7, rfl, hans, hO7, hb7⟩
            obtain ⟨hok2, hB⟩ := ans_is hans HGS.out
            subst hok2 hB
            clear hans hstr
            have hb8 : Below wr.heap.size wr (w7.alloc (.cells #[.string B.house, .slice x7 B.parts.length e7, .bool B.asks, .string B.ask] 25)) := hb7.alloc hb7.size _
            have HT8 : Hid _ := HTR.out.below hb8
            have HX8 : Hid (At wr (w7.alloc (.cells #[.string B.house, .slice x7 B.parts.length e7, .bool B.asks, .string B.ask] 25)) w7.heap.size B x7 e7) := At.new hO7 (Nat.le_refl _)
            obtain ⟨J, hJ⟩ : ∃ J, w7.heap.size = J := ⟨_, rfl⟩
            rw [hJ] at HX8
            clear hb7 hO7 hb8 HTR HMR
            have hT := HT8.out
            obtain ⟨⟨c0, c1', c2, c3⟩, d0, d1', d2, d3⟩ := hT.cells
            clear hT
            have hx := HX8.out
            obtain ⟨x0, x1, x2, x3⟩ := hx.cells
            clear hx
            go_wp2_with fail
            refine (lpAddr_any B B x7 e7 b1 d1 _ HX8.out.strs HT8.out.strs2 hl4 hl4).mono ?_
            rintro e w10 ⟨rfl, hb10⟩
            rw [same_self]
            have HT10 : Hid _ := HT8.out.below hb10
            clear hb10
            go_wp2
            go_ret
            exact ⟨rfl, HT10.out.low⟩
          have e47 : (((raw[k]'hlt).toNat : Int) == 47) = false := beq_false_of_ne h47
          have e63 : (((raw[k]'hlt).toNat : Int) == 63) = false := beq_false_of_ne h63
          have e35 : (((raw[k]'hlt).toNat : Int) == 35) = false := beq_false_of_ne h35
          have n47 : (((raw[k]'hlt).toNat : Int) != 47) = true := by simp [h47]
          have n63 : (((raw[k]'hlt).toNat : Int) != 63) = true := by simp [h63]
          have n35 : (((raw[k]'hlt).toNat : Int) != 35) = true := by simp [h35]
          have HGO2 : Hid _ := goes_more hlt HGO.out (goes_yes h47 h63 h35)
          have HUP : Hid (upZ (raw[k]'hlt).toNat = if 97 ≤ ((raw[k]'hlt).toNat : Int) ∧ ((raw[k]'hlt).toNat : Int) ≤ 122 then ((raw[k]'hlt).toNat : Int) - 32 else ((raw[k]'hlt).toNat : Int)) := rfl
          by_cases h97 : 97 ≤ ((raw[k]'hlt).toNat : Int)
          · by_cases h122 : ((raw[k]'hlt).toNat : Int) ≤ 122
            · have HN : Hid _ := cells_set (v := ((raw[k]'hlt).toNat : Int) - 32) hlt hk2 HK.out (by rw [HUP.out, if_pos ⟨h97, h122⟩])
              have HW : Hid (Below w5.heap.size w5 (wr.setCell ⟨w5.heap.size, k, none⟩ (.int .u8 (((raw[k]'hlt).toNat : Int) - 32)))) := Below.setCell HBR.out (Nat.le_refl _) _
              go_wp2
              go_roundw
              case rel => exact ⟨k + 1, by omega, by omega, by go_num, HN.out, (by intro j h; rw [World.frozen?_setCell]; exact HZ.out j h), HGO2.out, HW.out⟩
              case measure => simp [intOf]; omega
            · have HN : Hid _ := cells_keep hlt HK.out (by rw [HUP.out, if_neg (by omega)])
              go_wp2
              go_roundw
              case rel => exact ⟨k + 1, by omega, by omega, by go_num, HN.out, HZ, HGO2.out, HBR⟩
              case measure => simp [intOf]; omega
          · have HN : Hid _ := cells_keep hlt HK.out (by rw [HUP.out, if_neg (by omega)])
            go_wp2
            go_roundw
            case rel => exact ⟨k + 1, by omega, by omega, by go_num, HN.out, HZ, HGO2.out, HBR⟩
            case measure => simp [intOf]; omega
        · have HST : Hid (upAt raw.data.toList k = 47 :: 47 :: greatL r) := great_end HRW.out hk2 hk HGO.out (fun h => absurd h hlt)
          have hstr : (convert 22 9 (.slice (some ⟨w5.heap.size, 0, none⟩) raw.size cap)).run Tryd.prog wr = .ok (.string (bs (upAt raw.data.toList k))) wr := great_str HK.out
          have HGS : Hid (readF (bs (upAt raw.data.toList k)).data.toList = some A') := by show _ = _; rw [bs_list, HST.out, RL.read_great, ← HRW.out]; exact HR.out
          have hgz : (bs (upAt raw.data.toList k)).size ≤ 60 := by rw [bs_size, RL.upAt_len]; simp; omega
          have HGA : Hid (ascii (bs (upAt raw.data.toList k))) := great_ascii HA.out k
          have HTR : Hid _ := HT5.out.below HBR.out
          have HMR : Hid (Mx wr) := HM5.out.below HBR.out
          clear HST
          generalize bs (upAt raw.data.toList k) = gs at *
          go_wp2_with fail
          refine (implRead_ascii gs _ HMR.out hgz HGA.out).mono ?_
          rintro e w7 ⟨B, ok2, x7, e7, rfl, hans, hO7, hb7⟩
          obtain ⟨hok2, hB⟩ := ans_is hans HGS.out
          subst hok2 hB
          clear hans hstr
          have hb8 : Below wr.heap.size wr (w7.alloc (.cells #[.string B.house, .slice x7 B.parts.length e7, .bool B.asks, .string B.ask] 25)) := hb7.alloc hb7.size _
          have HT8 : Hid _ := HTR.out.below hb8
          have HX8 : Hid (At wr (w7.alloc (.cells #[.string B.house, .slice x7 B.parts.length e7, .bool B.asks, .string B.ask] 25)) w7.heap.size B x7 e7) := At.new hO7 (Nat.le_refl _)
          obtain ⟨J, hJ⟩ : ∃ J, w7.heap.size = J := ⟨_, rfl⟩
          rw [hJ] at HX8
          clear hb7 hO7 hb8 HTR HMR
          have hT := HT8.out
          obtain ⟨⟨c0, c1', c2, c3⟩, d0, d1', d2, d3⟩ := hT.cells
          clear hT
          have hx := HX8.out
          obtain ⟨x0, x1, x2, x3⟩ := hx.cells
          clear hx
          go_wp2_with fail
          refine (lpAddr_any B B x7 e7 b1 d1 _ HX8.out.strs HT8.out.strs2 hl4 hl4).mono ?_
          rintro e w10 ⟨rfl, hb10⟩
          rw [same_self]
          have HT10 : Hid _ := HT8.out.below hb10
          clear hb10
          go_wp2
          go_ret
          exact ⟨rfl, HT10.out.low⟩

theorem own : ownKnob Tryd.prog.godebug = none := by kernel_rfl
theorem laidOut : laidOutB Tryd.prog = true := by kernel_rfl

/-! ### THE ROW's STEP -/
set_option maxRecDepth 100000 in
theorem lifted (os : Os) (started : os.Started) (H : Type) (enc : TypeId × Value → H) :
    ReturnsInHanded {} Tryd.checked os 5 .any (fun w args => (Rows.fnAddrGreatSpec.pre enc Tryd.prog Tryd.f5 [] false w args ∧ laidMetH Tryd.prog Rows.fnAddrGreatRow.laid w) ∧ sizedMet enc Tryd.prog Tryd.f5 (OpenSpec.ofChange Rows.fnAddrGreatSpec) false w args)
      (Rows.fnAddrGreatSpec.post enc Tryd.prog Tryd.f5 false true false false) := by
  refine returnsInHanded_of_calls own started (by kernel_rfl)
    (ChangeSpec.witness_shaped (enc := enc) (C := Tryd.checked) (os := os) (X := fun w _ => laidMetH Tryd.prog Rows.fnAddrGreatRow.laid w) false (World.laidAll Tryd.prog os Rows.fnAddrGreatRow.laid) #[.slice none 0 0] 8 (World.laidAll_os _ _ _)
      (World.shaped_of_ZipB (by kernel_rfl) (by kernel_rfl)) (by kernel_rfl) (by kernel_rfl) (by kernel_rfl)
      (by rw [MakeChecks.laidMetH_plain _ _ _ (by kernel_rfl)]; exact laidMet_laidAll _ (by kernel_rfl) (by kernel_rfl))) ?_
  intro w tape i _ hsh _ hok hpre _
  obtain ⟨_, _, _, fn', hfn', _, _, _, _, hval1⟩ := hok
  obtain rfl : fn' = Tryd.f5 := Option.some.inj (hfn'.symm.trans Tryd.func5)
  obtain ⟨⟨⟨ds, gs, before, hw, _⟩, hL0⟩, _⟩ := hpre
  have hW := DataW.Whole.of_heap (w' := w.forCall tape i) (by rfl) hw
  have hL : laidMetH Tryd.prog Rows.fnAddrGreatRow.laid (w.forCall tape i) := hL0.of_heap (by rfl)
  have hb : ∃ base, ∀ (j : Nat) t v, Tryd.f5.params[j]? = some t → i.args[j]? = some v → Value.okWide Tryd.prog (w.forCall tape i) .any base t v := ⟨_, hval1⟩
  clear hval1 hfn' hL0 hw
  suffices h : Calls Tryd.checked.prog 5 i.args (w.forCall tape i) fun e W' => ∃ v, e = .returned v ∧ Rows.fnAddrGreatSpec.post enc Tryd.checked.prog Tryd.f5 false true false false (w.forCall tape i) i.args v W' from
    h.mono fun e W' ⟨v, he, hp⟩ => by subst he; exact ChangeSpec.post_blind hp
  generalize hWe : w.forCall tape i = W at *
  generalize i.args = args at *
  clear hWe
  obtain ⟨base, hval⟩ := hb
  have hW' := hW
  obtain ⟨p, q, hA0, hV, rfl, hfz, hnd⟩ := hW
  have hA : DataW.TrodAll enc Tryd.prog W 0 (fun _ => true) true Tryd.f5.params.toList args.toList ds p := hA0
  rw [Tryd.params5] at hA hval
  obtain ⟨v0, vs0, d0, ds0, p0, q0, hargs, rfl, rfl, h0, r0⟩ := trodAll_cons hA
  obtain ⟨rfl, rfl, rfl⟩ := trodAll_nil r0
  obtain rfl : args = #[v0] := by cases args; simp_all
  obtain ⟨rfl, rfl⟩ := trodVars_none hV
  obtain ⟨a0, len0, cap0, rfl⟩ := okWide_slice Tryd.underlying22 (hval 0 22 v0 rfl rfl)
  have k0 := h0
  have lt0 : ∀ x ∈ p0, x.block < W.heap.size := by obtain ⟨m, hm⟩ := k0; exact DataW.trod_lt m _ _ _ hm
  obtain ⟨z0, w0⟩ : ∃ zs, Dr.IsRow .u8 W a0 len0 cap0 zs := by
    obtain ⟨fuel, hf⟩ := h0
    rcases open_ints Tryd.underlying22 Tryd.underlying5 (by kernel_rfl) hf with ⟨hcs, _⟩ | ⟨x, l, c, zs, hcs, _, hl, hm, hz, _, hcell, hwz⟩
    · simp [Value.cells] at hcs
      obtain ⟨rfl, rfl, rfl⟩ := hcs
      exact ⟨[], .inl ⟨rfl, rfl, rfl, rfl⟩⟩
    · simp [Value.cells] at hcs
      obtain ⟨rfl, rfl, rfl⟩ := hcs
      exact ⟨zs, .inr ⟨_, rfl, hl, hm, by simpa using hz, hcell, hwz⟩⟩
  clear hA0
  refine (walk a0 len0 cap0 z0 W w0 hL hsh).mono fun e W' ⟨he, bel⟩ => ?_
  subst he
  exact ⟨_, rfl, _, _, _, [], _, [], hW', trodAll_mk1 (shut_bool Tryd.underlying4 _), (trodAll_cons_mk (Below.trod laidOut (by kernel_rfl) (of_decide_eq_true (by kernel_rfl)) k0 bel lt0) trodAll_mk0), rfl, bel.frame _, fun h => by cases h⟩

theorem over : Rows.fnAddrGreatRow.holds Tryd.pinned (OpenSpec.ofChange Rows.fnAddrGreatSpec) :=
  OpenClaim.holds_of_wide 5 Tryd.f5 rfl rfl rfl rfl rfl rfl rfl ⟨rfl, rfl, rfl, rfl, rfl⟩ rfl rfl rfl rfl rfl (by kernel_rfl) Tryd.func5 (by kernel_rfl)
    (of_decide_eq_true (by kernel_rfl)) (by unfold Func.isWrapper; first | (rw [if_pos (by decide +kernel)]; kernel_rfl) | (rw [if_neg (by decide +kernel)]; exact ⟨rfl, rfl⟩))
    (fun os started H enc _ => lifted os started H enc)

theorem proved : Rows.FnAddrGreatCardSaid :=
  Claim7.holds_tied_plain_at .later [] [.data, .pinned] true _ false over (fun _ h => by cases h) (by kernel_rfl) (fun _ h => by cases h) fnAddrGreat_row_tie rfl ⟨rfl, rfl⟩ (by kernel_rfl) rfl
    (fun f fn hf hfn => by
      obtain rfl : f = 5 := Option.some.inj ((show Tryd.prog.funcNamed "loop.example/pedlar/laws.FnAddrGreat" = some 5 by kernel_rfl).symm.trans hf) |>.symm
      obtain rfl : fn = Tryd.f5 := (Option.some.inj (Tryd.func5.symm.trans hfn)).symm
      exact ⟨by kernel_rfl, fun j t ht => by
        rw [Tryd.params5] at ht
        have hm : t ∈ [22] := by simpa using Array.mem_of_getElem? ht
        have hall : ([22].all fun u => !Tryd.prog.wantsStandIn u) = true := by kernel_rfl
        exact (show Tryd.prog.wantsStandIn t = false by simpa using List.all_eq_true.1 hall t hm)⟩)
    (by kernel_rfl)
end Go.Proofs.YtbfiopcdclcdhaaDoor.fnAddrGreat
