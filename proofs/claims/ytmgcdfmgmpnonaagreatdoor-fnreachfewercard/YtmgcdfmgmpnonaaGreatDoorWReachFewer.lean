/- FnReachFewer: the walk. -/
import Derived.Test.YtmgcdfmgmpnonaaGreatDoorRows
import Derived.WalkKit
import Derived.ProofKit
import Derived.OpenShut
import Derived.ShutString
import Derived.ChangeOld
import Derived.Below
import Derived.Test.YtmgcdfmgmpnonaaGreatDoorCards
import Derived.Test.YtmgcdfmgmpnonaaGreatDoorReL
import Derived.Test.YtmgcdfmgmpnonaaGreatDoorEscLeafPk
import Derived.Test.YtmgcdfmgmpnonaaGreatDoorReFewW
import Derived.Deep.RegionHeldLaw
import Derived.Shelf.Vars
import Derived.Lay
import Derived.LaidOnce
import Derived.SevenTiedAt
namespace Go.Proofs.YtmgcdfmgmpnonaaGreatDoor.fnReachFewer
open Go.ChangeShapes Go.WideShapes Go.ChangeAt Go.RowKit
open Go.ChangeMaps (open_string shut_string)
set_option linter.unusedVariables false
open Go.Proofs.YtmgcdfmgmpnonaaGreatDoor.AddrM Go.Proofs.YtmgcdfmgmpnonaaGreatDoor.Ad1 Go.Proofs.YtmgcdfmgmpnonaaGreatDoor.Rd1 Go.Proofs.YtmgcdfmgmpnonaaGreatDoor.RdA Go.Proofs.YtmgcdfmgmpnonaaGreatDoor.MkA Go.Proofs.YtmgcdfmgmpnonaaGreatDoor.Mp Go.Proofs.YtmgcdfmgmpnonaaGreatDoor.EscL Go.Proofs.YtmgcdfmgmpnonaaGreatDoor.EscM Go.Proofs.YtmgcdfmgmpnonaaGreatDoor.ReadM Go.Proofs.YtmgcdfmgmpnonaaGreatDoor.RuleM Go.Proofs.YtmgcdfmgmpnonaaGreatDoor.St Go.Proofs.YtmgcdfmgmpnonaaGreatDoor.RR Go.Proofs.YtmgcdfmgmpnonaaGreatDoor.RoPg Go.Proofs.YtmgcdfmgmpnonaaGreatDoor.LetM Go.Proofs.YtmgcdfmgmpnonaaGreatDoor.Nm Go.Proofs.YtmgcdfmgmpnonaaGreatDoor.GrM Go.Proofs.YtmgcdfmgmpnonaaGreatDoor.WdM Go.Proofs.YtmgcdfmgmpnonaaGreatDoor.Wd Go.Proofs.YtmgcdfmgmpnonaaGreatDoor.WdN Go.Proofs.YtmgcdfmgmpnonaaGreatDoor.PgM Go.Proofs.YtmgcdfmgmpnonaaGreatDoor.PgA Go.Proofs.YtmgcdfmgmpnonaaGreatDoor.ReM

theorem mx_of {w : World} (h : w.ShapedOpen Tryz.prog) : Im.Mx w :=
  cell_of_shapedOpen_int (g := 0) (t := 3) (zero := #[.int .i64 0]) (k := .i64) h (of_decide_eq_true (by kernel_rfl)) (by kernel_rfl) rfl (by kernel_rfl) (by kernel_rfl) Tryz.underlying3
theorem rowsP_from {α : Type} {F : Frm α} {w : World} {b o cap : Nat} {L : List α} (h : IsRows F w (some ⟨b, o, none⟩) cap L) (n : Nat) (hn : n ≤ L.length) : IsRows F w (some ⟨b, o + n * F.k, none⟩) (cap - n) (L.drop n) := by
  obtain ⟨h1, h2, h3, h4⟩ := h
  refine ⟨by simp; omega, by omega, (fun e => by cases e), fun hne => ?_⟩
  obtain ⟨b2, off, e, hc⟩ := h4 (by intro e; subst e; simp at hne)
  injection e with e; injection e with e1 e2 _
  subst e1; subst e2
  refine ⟨b, o + n * F.k, rfl, fun j u hu => ?_⟩
  have e3 : F.cells L = F.cells (L.take n) ++ F.cells (L.drop n) := by rw [← F.cells_append, List.take_append_drop]
  have e4 : (F.cells (L.take n)).length = n * F.k := by rw [F.cells_len, List.length_take, Nat.min_eq_left hn]
  have := hc (n * F.k + j) u (by rw [e3, List.getElem?_append_right (by omega), e4]; simpa using hu)
  rw [show o + n * F.k + j = o + (n * F.k + j) by omega]; exact this
theorem page_norm {L : List Pg} (h : wOk L = true) {k : Nat} (hk : k < L.length) : ∃ B, normA L[k].addr = some B := by
  have h2 := wOk_norm h hk
  rw [normT_eq] at h2
  exact Option.isSome_iff_exists.1 h2

set_option maxRecDepth 100000 in
set_option maxHeartbeats 6400000 in
theorem walk (a0 : Option Addr) (len0 cap0 : Nat) (z0 : List Int) (b0 : Option Addr) (len1 cap1 : Nat) (z1 : List Int) (w : World) (w0 : Dr.IsRow .u8 w a0 len0 cap0 z0) (w9 : Dr.IsRow .u8 w b0 len1 cap1 z1) (hL : laidMetH Tryz.prog Rows.fnReachFewerRow.laid w) (hsh : w.ShapedOpen Tryz.prog) :
    Calls Tryz.prog 10 #[.slice a0 len0 cap0, .slice b0 len1 cap1] w fun e w' => e = .returned (.bool true) ∧ Below w.heap.size w w' := by
  have HM : Hid (Im.Mx w) := mx_of hsh
  clear hsh hL w9
  by_cases hlong : (1048576 : Int) < len0
  · go_enter Tryz.func10, Tryz.ntmps10
    go_wp2
    go_ret
    exact ⟨rfl, Below.refl _ _⟩
  by_cases hlong1 : (1048576 : Int) < len1
  · go_enter Tryz.func10, Tryz.ntmps10
    go_wp2
    go_ret
    exact ⟨rfl, Below.refl _ _⟩
  go_enter Tryz.func10, Tryz.ntmps10
  go_wp2_with fail
  refine (Dr.drawReach_any a0 len0 cap0 z0 w w0).mono ?_
  rintro e w1 ⟨L, a1, cc, s, S, a2, c2, rfl, hI, hl, hL, hs, hSt, hSl, hSz, hb1⟩
  have HI1 : Hid (IsRows FPg w1 a1 cc L) := hI
  have HL : Hid (PgSz L) := bd_sz hL
  have HR : Hid (PgRd L) := bd_rd hL
  have HBD : Hid (Dr.PgsBd L) := hL
  have HST1 : Hid (IsStrs w1 a2 c2 S) := hSt
  have HSZ : Hid (∀ x ∈ S, x.size ≤ 1000) := fun x hx => Nat.le_trans (hSz x hx) (by decide)
  have HN : Hid (nameB s = true) := hs
  have hsz := nameB_size hs
  have HB1 : Hid (Below w.heap.size w w1) := hb1
  clear hI hL hSt hSz hs hb1 w0
  go_wp2_with fail
  refine (implReach_any a1 cc L s a2 c2 S _ (HM.out.below HB1.out) HI1.out HL.out (all_asc L) HR.out (all_tx L) (by omega) HST1.out HSZ.out (by omega)).mono ?_
  rintro e w2 ⟨v2, rfl, hO2, hb2⟩
  have HB2 : Hid (Below w.heap.size w w2) := HB1.out.trans (hb2.mono HB1.out.size)
  have HI2 : Hid (IsRows FPg w2 a1 cc L) := HI1.out.below hb2
  have HST2 : Hid (IsStrs w2 a2 c2 S) := HST1.out.below hb2
  obtain ⟨a3, c3, hv2, hS2⟩ := hO2.strs
  subst hv2
  have HS2 : Hid (IsStrs w2 a3 c3 (reachW L s S)) := hS2
  clear hO2 hb2 hS2 HB1 HI1 HST1
  go_wp2_with fail
  refine (specReach_any a1 cc L s a2 c2 S _ HI2.out HL.out HR.out (by omega) HST2.out HSZ.out (by omega)).mono ?_
  rintro e w3 ⟨v3, rfl, hO3, hb3⟩
  have HB3 : Hid (Below w.heap.size w w3) := HB2.out.trans (hb3.mono HB2.out.size)
  have HI3 : Hid (IsRows FPg w3 a1 cc L) := HI2.out.below hb3
  have HST3 : Hid (IsStrs w3 a2 c2 S) := HST2.out.below hb3
  have HS3 : Hid (IsStrs w3 a3 c3 (reachW L s S)) := HS2.out.below hb3
  obtain ⟨a4, c4, hv3, hS3⟩ := hO3.strs
  subst hv3
  have HSM : Hid (IsStrs w3 a4 c4 (reachW L s S)) := hS3
  have hrl := reach_len L s S
  have HRZ : Hid (∀ x ∈ reachW L s S, x.size ≤ 1000) := fun x hx => reach_small HSZ.out hx
  clear hO3 hb3 hS3 HB2 HI2 HST2 HS2
  obtain ⟨R, hR⟩ : ∃ R, reachW L s S = R := ⟨_, rfl⟩
  have HRE : Hid (reachW L s S = R) := hR
  rw [hR] at HS3 HSM hrl HRZ
  rw [hR]
  clear hR
  go_wp2_with fail
  refine (texts_n a3 _ c3 R a4 _ c4 R _ rfl rfl HS3.out HSM.out (by omega) (by omega)).mono ?_
  rintro e w4 ⟨rfl, n4, hw4⟩
  have HB4 : Hid (Below w.heap.size w w4) := by rw [hw4]; exact below_drew HB3.out _
  have HI4 : Hid (IsRows FPg w4 a1 cc L) := by rw [hw4]; exact HI3.out.keep fun _ _ => rfl
  have HST4 : Hid (IsStrs w4 a2 c2 S) := by rw [hw4]; exact HST3.out.drewN _
  have HS4 : Hid (IsStrs w4 a3 c3 R) := by rw [hw4]; exact HS3.out.drewN _
  rw [show decide (R = R) = true from decide_eq_true rfl]
  clear hw4 HSM HS3 HB3 HI3 HST3
  have HSW : Hid (∀ W : World, IsRows FPg W a1 cc L → IsStrs W a2 c2 S → Calls Tryz.prog 28 #[.slice a1 L.length cc, .string s, .slice a2 S.length c2] W fun e w' => ∃ v, e = .returned v ∧ Owns w' W.heap.size v R ∧ Below W.heap.size W w') := fun W hI hX => by rw [← HRE.out]; exact specReach_any a1 cc L s a2 c2 S W hI HL.out HR.out (by omega) hX HSZ.out (by omega)
  go_wp2_with fail
  refine (specWorldOk_any a1 cc L _ HI4.out HL.out).mono ?_
  rintro e w5 ⟨rfl, hb5⟩
  have HB5 : Hid (Below w.heap.size w w5) := HB4.out.trans (hb5.mono HB4.out.size)
  have HI5 : Hid (IsRows FPg w5 a1 cc L) := HI4.out.below hb5
  have HST5 : Hid (IsStrs w5 a2 c2 S) := HST4.out.below hb5
  have HS5 : Hid (IsStrs w5 a3 c3 R) := HS4.out.below hb5
  clear hb5 HB4 HI4 HST4 HS4
  have HEND : Hid (∀ (K : Act → World → Prop), True) := fun _ => trivial
  clear HEND
  cases hw : wOk L with
  | false =>
    clear hw
    go_wp2_with fail
    refine (HSW.out _ HI5.out HST5.out).mono ?_
    rintro e w6 ⟨v6, rfl, hO6, hb6⟩
    obtain ⟨a6, c6, hv6, hS6⟩ := hO6.strs
    subst hv6
    have HB6 : Hid (Below w.heap.size w w6) := HB5.out.trans (hb6.mono HB5.out.size)
    have HS6 : Hid (IsStrs w6 a6 c6 R) := hS6
    have HT6 : Hid (IsStrs w6 a3 c3 R) := HS5.out.below hb6
    clear hO6 hS6 hb6
    go_wp2_with fail
    refine (texts_n a3 _ c3 R a6 _ c6 R _ rfl rfl HT6.out HS6.out (by omega) (by omega)).mono ?_
    rintro e w7 ⟨rfl, n7, hw7⟩
    have HB7 : Hid (Below w.heap.size w w7) := by rw [hw7]; exact below_drew HB6.out _
    rw [show decide (R = R) = true from decide_eq_true rfl]
    clear hw7
    go_wp2
    go_ret
    exact ⟨rfl, HB7.out⟩
  | true =>
  have HW : Hid (wOk L = true) := hw
  clear hw
  by_cases h0 : L.length = 0
  · have hb : ((L.length : Int) == 0) = true := by simp [h0]
    have HL0 : Hid (L.length = 0) := h0
    clear h0
    go_wp2_with fail
    refine (HSW.out _ HI5.out HST5.out).mono ?_
    rintro e w6 ⟨v6, rfl, hO6, hb6⟩
    obtain ⟨a6, c6, hv6, hS6⟩ := hO6.strs
    subst hv6
    have HB6 : Hid (Below w.heap.size w w6) := HB5.out.trans (hb6.mono HB5.out.size)
    have HS6 : Hid (IsStrs w6 a6 c6 R) := hS6
    have HT6 : Hid (IsStrs w6 a3 c3 R) := HS5.out.below hb6
    clear hO6 hS6 hb6
    go_wp2_with fail
    refine (texts_n a3 _ c3 R a6 _ c6 R _ rfl rfl HT6.out HS6.out (by omega) (by omega)).mono ?_
    rintro e w7 ⟨rfl, n7, hw7⟩
    have HB7 : Hid (Below w.heap.size w w7) := by rw [hw7]; exact below_drew HB6.out _
    rw [show decide (R = R) = true from decide_eq_true rfl]
    clear hw7
    go_wp2
    go_ret
    exact ⟨rfl, HB7.out⟩
  have hb0 : ((L.length : Int) == 0) = false := by rw [beq_eq_false_iff_ne]; omega
  have hn0 : ¬ ((L.length : Int) = 0) := by omega
  obtain ⟨k, hke⟩ : ∃ k, len1 % L.length = k := ⟨_, rfl⟩
  have hkl : k < L.length := by rw [← hke]; exact Nat.mod_lt _ (by omega)
  have hkm : (len1 : Int).tmod (L.length : Int) = (k : Int) := by rw [← hke]; rfl
  obtain ⟨b1, o1, e1, hpc0, hpc1, hpc2, hpc3⟩ := pg_at HI5.out hkl
  obtain ⟨B, hB⟩ : ∃ B, normA L[k].addr = some B := page_norm HW.out hkl
  have hrd : readF L[k].addr.data.toList = some B := (norm_some hB).1
  have haz : L[k].addr.size ≤ 4194304 := (HL.out _ (List.getElem_mem hkl)).1
  have HFEW : Hid (pathF B ≠ ⟨#[47, 110, 111, 116, 105, 99, 101]⟩ → L[k].fails < 3 → hasB L[k].addr R = false → reachW (fewL L k) s S = R) := fun hp hf hz => by
    rw [reach_few HW.out hkl hB hp hf s S (fun h => by rw [HRE.out] at h; rw [has_mem.2 h] at hz; cases hz), HRE.out]
  have HFL : Hid (fewL L k = L.take k ++ L.drop (k + 1)) := rfl
  have hbk : bulkA B ≤ 4194304 := Nat.le_trans (read_le hrd) (by decide)
  have HRD : Hid (readF L[k].addr.data.toList = some B) := hrd
  clear hke hrd hB
  have e1' := e1
  subst e1'
  generalize L[k] = p at *
  go_wp2_with fail
  refine (RdA.implRead_all p.addr _ (HM.out.below HB5.out) haz trivial).mono ?_
  rintro e w6 ⟨A, ok, a6, c6, rfl, hans, hO6, hb6⟩
  have hAB : A = B ∧ ok = true := by
    rw [HRD.out] at hans
    rcases hans with ⟨h1, h2⟩ | ⟨_, h2, _⟩
    · exact ⟨(Option.some.inj h2).symm, h1⟩
    · cases h2
  obtain ⟨rfl, rfl⟩ := hAB
  have hb7 : Below w5.heap.size w5 (w6.alloc (.cells #[.string A.house, .slice a6 A.parts.length c6, .bool A.asks, .string A.ask] 41)) := hb6.alloc hb6.size _
  have HX7 : Hid (Bs 41 (w6.alloc (.cells #[.string A.house, .slice a6 A.parts.length c6, .bool A.asks, .string A.ask] 41)) w6.heap.size #[.string A.house, .slice a6 A.parts.length c6, .bool A.asks, .string A.ask]) := Bs.new _ _ _
  have HS7 : Hid (IsStrs (w6.alloc (.cells #[.string A.house, .slice a6 A.parts.length c6, .bool A.asks, .string A.ask] 41)) a6 c6 A.parts) := (Owns.strsOf hO6).keep (alloc_keep _ _)
  have HW7 : Hid (Below w5.heap.size w5 (w6.alloc (.cells #[.string A.house, .slice a6 A.parts.length c6, .bool A.asks, .string A.ask] 41))) := hb7
  have HB7 : Hid (Below w.heap.size w (w6.alloc (.cells #[.string A.house, .slice a6 A.parts.length c6, .bool A.asks, .string A.ask] 41))) := HB5.out.trans (hb7.mono HB5.out.size)
  have x0 := (hb7.cell (St.cell_block hpc0)).trans hpc0
  have x3 := (hb7.cell (St.cell_block hpc3)).trans hpc3
  clear hans hO6 hb6 hb7 hpc0 hpc1 hpc2 hpc3 HRD
  go_wp2_with fail
  refine (has_n a3 c3 _ R p.addr _ rfl (HS5.out.below HW7.out) (by omega)).mono ?_
  rintro e w8 ⟨rfl, e8⟩
  have e9 := e8.symm
  subst e9
  cases hh : hasB p.addr R with
  | true =>
    clear HFEW
    go_wp2
    go_ret
    exact ⟨rfl, HB7.out⟩
  | false =>
  have HH : Hid (hasB p.addr R = false) := hh
  clear hh
  by_cases h3 : (3 : Int) ≤ p.fails
  · have hd3 : decide ((3 : Int) ≤ p.fails) = true := decide_eq_true h3
    clear HFEW
    go_wp2
    go_ret
    exact ⟨rfl, HB7.out⟩
  have hd3 : decide ((3 : Int) ≤ p.fails) = false := decide_eq_false h3
  have HF3 : Hid (p.fails < 3) := by show _ < _; omega
  clear h3
  have HPA : Hid (∀ W, IsStrs W a6 c6 A.parts → Calls Tryz.prog 24 #[.agg #[.string A.house, .slice a6 A.parts.length c6, .bool A.asks, .string A.ask]] W fun e w' => e = .returned (.string (pathF A)) ∧ Below W.heap.size W w') := fun W hW => implAddrPath_any A a6 c6 W hW hbk
  go_wp2_with fail
  refine (HPA.out _ HS7.out).mono ?_
  rintro e w9 ⟨rfl, hb9⟩
  have HW9 : Hid (Below w5.heap.size w5 w9) := HW7.out.trans (hb9.mono HW7.out.size)
  have HB9 : Hid (Below w.heap.size w w9) := HB7.out.trans (hb9.mono HB7.out.size)
  have HI9 : Hid (IsRows FPg w9 (some ⟨b1, o1, none⟩) cc L) := HI5.out.below HW9.out
  clear hb9 x0 x3
  generalize pathF A = pt at *
  cases he : (pt.toList == [47, 110, 111, 116, 105, 99, 101]) with
  | true =>
    clear HFEW HF3 HH
    go_wp2
    go_ret
    exact ⟨rfl, HB9.out⟩
  | false =>
  have hpne : pt ≠ ⟨#[47, 110, 111, 116, 105, 99, 101]⟩ := fun e => by rw [e] at he; revert he; decide +kernel
  have HFE : Hid (reachW (fewL L k) s S = R) := HFEW.out hpne HF3.out HH.out
  clear hpne HFEW HF3 HH
  obtain ⟨i0, hi, hz0, hz1, hz2⟩ := Dr.info_page
  have hcL : L.length ≤ cc := HI9.out.1
  have hcM : cc ≤ maxLen := HI9.out.2.1
  obtain ⟨ad2, had2⟩ : ∃ ad2, (if cc = k + 1 then (⟨b1, o1, none⟩ : Addr) else ⟨b1, o1 + (k + 1) * 4, none⟩) = ad2 := ⟨_, rfl⟩
  have hk0 : (0 : Int) ≤ (k : Int) := by omega
  have hk1 : (k : Int) ≤ (cc : Int) := by omega
  have hkw : IntKind.i64.wrap ((k : Int) + 1) = (k : Int) + 1 := IntWalk.i64_in _ (by unfold maxLen at hcM; omega)
  have hsl1 : ∀ W : World, (Instr.sliceAt 23 (.slice (some ⟨b1, o1, none⟩) L.length cc) none (some (.int .i64 (k : Int))) none).run Tryz.prog W = .ok (.slice (some ⟨b1, o1, none⟩) k cc) W := fun W => by
    have hz : cc = 0 → k = 0 := by omega
    by_cases hc : cc = 0
    · have h1 := hz hc
      clear hz
      subst h1; subst hc; go_simp
    · clear hz; go_simp
  have hsl2 : ∀ W : World, (Instr.sliceAt 23 (.slice (some ⟨b1, o1, none⟩) L.length cc) (some (.int .i64 ((k : Int) + 1))) none none).run Tryz.prog W = .ok (.slice (some ad2) (L.length - (k + 1)) (cc - (k + 1))) W := fun W => by
    rw [← had2]
    have h1 : (0 : Int) ≤ (k : Int) + 1 := by omega
    have h2 : (k : Int) + 1 ≤ (L.length : Int) := by omega
    have h3 : ((k : Int) + 1).toNat = k + 1 := by omega
    by_cases hc : cc = k + 1
    · rw [if_pos hc]; clear hsl1; go_simp
    · rw [if_neg hc]; clear hsl1; go_simp
  have hdl : (L.drop (k + 1)).length = L.length - (k + 1) := List.length_drop
  have htl : (L.take k).length = k := by rw [List.length_take]; omega
  have HDR : Hid (IsRows FPg w9 (some ad2) (cc - (k + 1)) (L.drop (k + 1))) := by
    rw [← had2]
    by_cases hc : cc = k + 1
    · rw [if_pos hc]
      have : L.drop (k + 1) = [] := List.eq_nil_of_length_eq_zero (by omega)
      rw [this]
      exact ⟨Nat.zero_le _, by omega, (fun e => by cases e), fun h => absurd rfl h⟩
    · rw [if_neg hc]
      exact rowsP_from HI9.out (k + 1) (by omega)
  have HTK : Hid (IsRows FPg w9 (some ⟨b1, o1, none⟩) cc (L.take k)) := HI9.out.cut k
  have HDL : Hid ((L.drop (k + 1)).length = L.length - (k + 1)) := hdl
  have HTL : Hid ((L.take k).length = k) := htl
  have HC24 : Hid (L.length ≤ 24) := hl
  have HE0 : Hid (OwnsR FPg 55 (w9.drew.alloc (.cells #[] 55)) w9.heap.size (.slice (some ⟨w9.heap.size, 0, none⟩) 0 0) ([] : List Pg)) := OwnsR.empty FPg 55 w9.drew w9.heap.size (Nat.le_refl _)
  have HBe : Hid (Below w9.heap.size w9 (w9.drew.alloc (.cells #[] 55))) := ((Below.refl _ w9).drew).alloc (Nat.le_refl _) _
  clear hdl htl had2
  go_wp2_with fail
  refine wp_region_held_drew (S := fun _ => True) (by kernel_rfl) trivial (fun hHeld => ?_)
  refine wpAnyH_take (i := 1) (oi := ({ dst := some 89, op := Go.Op.move (Go.Operand.tmp 5), type := 23, pos := "laws.go:2105", after := #[], guard := none } : Oper)) (v := ?_) rfl (by kernel_rfl) (by kernel_rfl) (by kernel_rfl) (fun _ _ _ h => h) (Or.inl ⟨by rfl, ?_⟩) hHeld ?_
  rotate_left
  · (intro w hSw; (try dsimp only at hSw); go_simp; try with_reducible rfl)
  try simp only [Act.put, List.setIfInBounds_toArray, List.set_cons_zero, List.set_cons_succ]
  refine wpAnyH_take (i := 2) (oi := ({ dst := some 90, op := Go.Op.move (Go.Operand.tmp 9), type := 3, pos := "laws.go:2105", after := #[], guard := none } : Oper)) (v := ?_) rfl (by kernel_rfl) (by kernel_rfl) (by kernel_rfl) (fun _ _ _ h => h) (Or.inl ⟨by rfl, ?_⟩) hHeld ?_
  rotate_left
  · (intro w hSw; (try dsimp only at hSw); go_simp; try with_reducible rfl)
  try simp only [Act.put, List.setIfInBounds_toArray, List.set_cons_zero, List.set_cons_succ]
  refine wpAnyH_take (i := 3) (oi := ({ dst := some 91, op := Go.Op.slice 23 (Go.Operand.tmp 89) none (some (Go.Operand.tmp 90)) none, type := 23, pos := "laws.go:2105", after := #[{ on := 1, ground := Go.Ground.data }, { on := 2, ground := Go.Ground.data }], guard := none } : Oper)) (v := ?_) rfl (by kernel_rfl) (by kernel_rfl) (by kernel_rfl) (fun _ _ _ h => h) (Or.inl ⟨by rfl, ?_⟩) hHeld ?_
  rotate_left
  · (intro w hSw; (try dsimp only at hSw); go_simp; try with_reducible rfl)
  try simp only [Act.put, List.setIfInBounds_toArray, List.set_cons_zero, List.set_cons_succ]
  refine wpAnyH_take (i := 5) (oi := ({ dst := some 93, op := Go.Op.move (Go.Operand.tmp 5), type := 23, pos := "laws.go:2105", after := #[], guard := none } : Oper)) (v := ?_) rfl (by kernel_rfl) (by kernel_rfl) (by kernel_rfl) (fun _ _ _ h => h) (Or.inl ⟨by rfl, ?_⟩) hHeld ?_
  rotate_left
  · (intro w hSw; (try dsimp only at hSw); go_simp; try with_reducible rfl)
  try simp only [Act.put, List.setIfInBounds_toArray, List.set_cons_zero, List.set_cons_succ]
  refine wpAnyH_take (i := 6) (oi := ({ dst := some 94, op := Go.Op.move (Go.Operand.tmp 9), type := 3, pos := "laws.go:2105", after := #[], guard := none } : Oper)) (v := ?_) rfl (by kernel_rfl) (by kernel_rfl) (by kernel_rfl) (fun _ _ _ h => h) (Or.inl ⟨by rfl, ?_⟩) hHeld ?_
  rotate_left
  · (intro w hSw; (try dsimp only at hSw); go_simp; try with_reducible rfl)
  try simp only [Act.put, List.setIfInBounds_toArray, List.set_cons_zero, List.set_cons_succ]
  refine wpAnyH_take (i := 7) (oi := ({ dst := some 95, op := Go.Op.binOp Go.BinOp.add 3 (Go.Operand.tmp 94) (Go.Operand.const (Go.Value.int Go.IntKind.i64 1)) 3, type := 3, pos := "laws.go:2105", after := #[{ on := 6, ground := Go.Ground.data }], guard := none } : Oper)) (v := ?_) rfl (by kernel_rfl) (by kernel_rfl) (by kernel_rfl) (fun _ _ _ h => h) (Or.inl ⟨by rfl, ?_⟩) hHeld ?_
  rotate_left
  · (intro w hSw; (try dsimp only at hSw); go_simp; try with_reducible rfl)
  try simp only [Act.put, List.setIfInBounds_toArray, List.set_cons_zero, List.set_cons_succ]
  refine wpAnyH_take (i := 8) (oi := ({ dst := some 96, op := Go.Op.slice 23 (Go.Operand.tmp 93) (some (Go.Operand.tmp 95)) none none, type := 23, pos := "laws.go:2105", after := #[{ on := 5, ground := Go.Ground.data }, { on := 7, ground := Go.Ground.data }], guard := none } : Oper)) (v := ?_) rfl (by kernel_rfl) (by kernel_rfl) (by kernel_rfl) (fun _ _ _ h => h) (Or.inl ⟨by rfl, ?_⟩) hHeld ?_
  rotate_left
  · (intro w hSw; (try dsimp only at hSw); go_simp; try with_reducible rfl)
  try simp only [Act.put, List.setIfInBounds_toArray, List.set_cons_zero, List.set_cons_succ]
  refine wpAnyH_ready (rs := [0]) (by kernel_rfl) (by simp) ?_
  refine AllReadyH.cons rfl (fun K hK => ?_) AllReadyH.nil
  go_simp
  refine hK.out _ _ trivial (fun hHeld => ?_)
  clear hK K
  refine wpAnyH_ready (rs := [4]) (by kernel_rfl) (by simp) ?_
  refine AllReadyH.cons rfl (fun K hK => ?_) AllReadyH.nil
  refine step_append_own rfl _ _ 23 rfl w9.heap.size 55 i0 (.agg #[.string ⟨#[]⟩, .string ⟨#[]⟩, .string ⟨#[]⟩, .int .i64 0]) 4 56 Tryz.underlying23 hi hz0 hz1 hz2 rfl (by decide) _ 0 [] rfl HE0.out ⟨b1, o1, none⟩ k cc (FPg.cells (L.take k)) rfl (by rw [FPg.cells_len, HTL.out]; rfl) (HTK.out.news (fun j hj => HBe.out.block j hj)) (FPg.cells_one _) (by have h24 := HC24.out; unfold maxLen; omega) (by have h24 := HC24.out; omega) (by simp) ?_
  intro v10 w10 ho10 hg10
  have HO10 : Hid (OwnsR FPg 55 w10 w9.heap.size v10 (L.take k)) := OwnsR.of_row (F := FPg) ho10 (by rw [HTL.out, Nat.zero_add]) (by rw [List.nil_append])
  have HB10 : Hid (Below w9.heap.size w9 w10) := HBe.out.trans (Dr.grown_any _ hg10 (by simp) (fun j hj => (by have e : w9.heap.size = j := Option.some.inj hj; omega)))
  clear ho10 hg10
  refine hK.out _ _ trivial (fun hHeld => ?_)
  clear hK K
  refine wpAnyH_ready (rs := [9]) (by kernel_rfl) (by simp) ?_
  refine AllReadyH.cons rfl (fun K hK => ?_) AllReadyH.nil
  refine step_append_own rfl _ _ 23 rfl w9.heap.size 55 i0 (.agg #[.string ⟨#[]⟩, .string ⟨#[]⟩, .string ⟨#[]⟩, .int .i64 0]) 4 56 Tryz.underlying23 hi hz0 hz1 hz2 rfl (by decide) v10 _ (FPg.cells (L.take k)) rfl HO10.out ad2 (L.length - (k + 1)) (cc - (k + 1)) (FPg.cells (L.drop (k + 1))) rfl (by rw [FPg.cells_len, HDL.out]; rfl) (HDR.out.newsAny (fun j hj => HB10.out.block j hj) _ rfl) (FPg.cells_one _) (by have h24 := HC24.out; rw [HTL.out]; unfold maxLen; omega) (by have h24 := HC24.out; rw [HTL.out]; omega) HB10.out.size ?_
  intro v11 w11 ho11 hg11
  have hO11 : OwnsR FPg 55 w11 w9.heap.size v11 (fewL L k) := OwnsR.of_row (F := FPg) ho11 (by rw [HFL.out, List.length_append, HDL.out]) (by rw [HFL.out, FPg.cells_append])
  have HB11 : Hid (Below w9.heap.size w9 w11) := HB10.out.trans (Dr.grown_any _ hg11 HB10.out.size (fun j hj => OwnsR.block HO10.out j hj))
  obtain ⟨a11, c11, hv11, hI11⟩ := hO11.rows
  subst hv11
  have HI11 : Hid (IsRows FPg w11 a11 c11 (fewL L k)) := hI11
  clear hO11 hI11 ho11 hg11
  refine hK.out _ _ trivial (fun hHeld => ?_)
  clear hK K
  refine wpAnyH_take (i := 10) (oi := ({ dst := some 12, op := Go.Op.assign (Go.Operand.tmp 97), type := 23, pos := "laws.go:2105", after := #[{ on := 9, ground := Go.Ground.data }, { on := 9, ground := Go.Ground.chain }, { on := 0, ground := Go.Ground.phase }, { on := 1, ground := Go.Ground.phase }, { on := 2, ground := Go.Ground.phase }, { on := 3, ground := Go.Ground.phase }, { on := 4, ground := Go.Ground.phase }, { on := 5, ground := Go.Ground.phase }, { on := 6, ground := Go.Ground.phase }, { on := 7, ground := Go.Ground.phase }, { on := 8, ground := Go.Ground.phase }, { on := 9, ground := Go.Ground.phase }], guard := none } : Oper)) (v := ?_) rfl (by kernel_rfl) (by kernel_rfl) (by kernel_rfl) (fun _ _ _ h => h) (Or.inl ⟨by rfl, ?_⟩) hHeld ?_
  rotate_left
  · (intro w hSw; (try dsimp only at hSw); go_simp; try with_reducible rfl)
  try simp only [Act.put, List.setIfInBounds_toArray]
  refine wpAnyH_done (by kernel_rfl) ?_ _
  have HMB : Hid (∀ q ∈ fewL L k, q ∈ L) := fun q hq => by
    rw [HFL.out] at hq
    rcases List.mem_append.1 hq with hq | hq
    · exact List.mem_of_mem_take hq
    · exact List.mem_of_mem_drop hq
  have HL2 : Hid (PgSz (fewL L k)) := fun q hq => HL.out q (HMB.out q hq)
  have HR2 : Hid (PgRd (fewL L k)) := fun q hq => HR.out q (HMB.out q hq)
  have HST11 : Hid (IsStrs w11 a2 c2 S) := (HST5.out.below HW9.out).below HB11.out
  have HSR11 : Hid (IsStrs w11 a3 c3 R) := (HS5.out.below HW9.out).below HB11.out
  have HF11 : Hid (Below w.heap.size w w11) := HB9.out.trans (HB11.out.mono HB9.out.size)
  clear HFL HDR HTK HDL HTL HE0 HBe HO10 HB10 hsl1 hsl2
  generalize fewL L k = Fw at *
  go_wp2_with fail
  refine (implReach_any a11 c11 Fw s a2 c2 S _ (HM.out.below HF11.out) HI11.out HL2.out (all_asc _) HR2.out (all_tx _) (by omega) HST11.out HSZ.out (by omega)).mono ?_
  rintro e w12 ⟨v12, rfl, hO12, hb12⟩
  rw [HFE.out] at hO12
  obtain ⟨a12, c12, hv12, hS12⟩ := hO12.strs
  subst hv12
  have HS12 : Hid (IsStrs w12 a12 c12 R) := hS12
  have HSR12 : Hid (IsStrs w12 a3 c3 R) := HSR11.out.below hb12
  have HF12 : Hid (Below w.heap.size w w12) := HF11.out.trans (hb12.mono HF11.out.size)
  clear hO12 hS12 hb12
  go_wp2_with fail
  refine (texts_n a12 _ c12 R a3 _ c3 R _ rfl rfl HS12.out HSR12.out (by omega) (by omega)).mono ?_
  rintro e w13 ⟨rfl, n13, hw13⟩
  have HF13 : Hid (Below w.heap.size w w13) := by rw [hw13]; exact below_drew HF12.out _
  rw [show decide (R = R) = true from decide_eq_true rfl]
  clear hw13
  go_wp2
  go_ret
  exact ⟨rfl, HF13.out⟩
end Go.Proofs.YtmgcdfmgmpnonaaGreatDoor.fnReachFewer
