/- FnReachSeeds: the walk. -/
import Derived.Test.YtmgcdfmgmpnonaaGreatDoorRows
import Derived.WalkKit
import Derived.ProofKit
import Derived.OpenShut
import Derived.ShutString
import Derived.ChangeOld
import Derived.Below
import Derived.Test.YtmgcdfmgmpnonaaGreatDoorCards
import Derived.Test.YtmgcdfmgmpnonaaGreatDoorReL
import Derived.Test.YtmgcdfmgmpnonaaGreatDoorEscLeafPk
import Derived.Deep.RegionHeldLaw
import Derived.Shelf.Vars
import Derived.Lay
import Derived.LaidOnce
import Derived.SevenTiedAt
namespace Go.Proofs.YtmgcdfmgmpnonaaGreatDoor.fnReachSeeds
open Go.ChangeShapes Go.WideShapes Go.ChangeAt Go.RowKit
open Go.ChangeMaps (open_string shut_string)
set_option linter.unusedVariables false
open Go.Proofs.YtmgcdfmgmpnonaaGreatDoor.AddrM Go.Proofs.YtmgcdfmgmpnonaaGreatDoor.Ad1 Go.Proofs.YtmgcdfmgmpnonaaGreatDoor.Rd1 Go.Proofs.YtmgcdfmgmpnonaaGreatDoor.RdA Go.Proofs.YtmgcdfmgmpnonaaGreatDoor.MkA Go.Proofs.YtmgcdfmgmpnonaaGreatDoor.Mp Go.Proofs.YtmgcdfmgmpnonaaGreatDoor.EscL Go.Proofs.YtmgcdfmgmpnonaaGreatDoor.EscM Go.Proofs.YtmgcdfmgmpnonaaGreatDoor.ReadM Go.Proofs.YtmgcdfmgmpnonaaGreatDoor.RuleM Go.Proofs.YtmgcdfmgmpnonaaGreatDoor.St Go.Proofs.YtmgcdfmgmpnonaaGreatDoor.RR Go.Proofs.YtmgcdfmgmpnonaaGreatDoor.RoPg Go.Proofs.YtmgcdfmgmpnonaaGreatDoor.LetM Go.Proofs.YtmgcdfmgmpnonaaGreatDoor.Nm Go.Proofs.YtmgcdfmgmpnonaaGreatDoor.GrM Go.Proofs.YtmgcdfmgmpnonaaGreatDoor.WdM Go.Proofs.YtmgcdfmgmpnonaaGreatDoor.Wd Go.Proofs.YtmgcdfmgmpnonaaGreatDoor.WdN Go.Proofs.YtmgcdfmgmpnonaaGreatDoor.PgM Go.Proofs.YtmgcdfmgmpnonaaGreatDoor.PgA Go.Proofs.YtmgcdfmgmpnonaaGreatDoor.ReM

theorem mx_of {w : World} (h : w.ShapedOpen Tryz.prog) : Im.Mx w :=
  cell_of_shapedOpen_int (g := 0) (t := 3) (zero := #[.int .i64 0]) (k := .i64) h (of_decide_eq_true (by kernel_rfl)) (by kernel_rfl) rfl (by kernel_rfl) (by kernel_rfl) Tryz.underlying3
theorem seeds_just {L : List Pg} {name : ByteArray} {S R : List ByteArray} (hR : reachW L name S = R) (h1 : wOk L = true) (h2 : nameB name = true) (h3 : S.length ≤ 12) {x : ByteArray} (hx : x ∈ S) (hn : nR x = true) : hasB x R = (letsW L name x && !(decide ((getF L x 2).1 = 3))) := by
  subst hR
  rw [get_two h1, Bool.eq_iff_iff, has_mem]
  constructor
  · intro h
    obtain ⟨_, _, _, h4⟩ := reach_each h
    obtain ⟨_, h5, h6⟩ := ok_parts3 h4
    rw [h6, decide_eq_false h5]; rfl
  · intro h
    simp only [Bool.and_eq_true, Bool.not_eq_true', decide_eq_false_iff_not] at h
    exact reach_seed h1 h2 h3 hx (ok_three hn h.2 h.1)
theorem reach_nil (L : List Pg) (name : ByteArray) : reachW L name [] = [] := by
  cases h : reachW L name [] with
  | nil => rfl
  | cons x r =>
    have hi : 0 < (reachW L name []).length := by rw [h]; simp
    rcases reach_least hi with h1 | ⟨k, _, h1, _⟩
    · cases h1
    · omega

set_option maxRecDepth 100000 in
set_option maxHeartbeats 6400000 in
theorem walk (a0 : Option Addr) (len0 cap0 : Nat) (z0 : List Int) (w : World) (w0 : Dr.IsRow .u8 w a0 len0 cap0 z0) (hL : laidMetH Tryz.prog Rows.fnReachSeedsRow.laid w) (hsh : w.ShapedOpen Tryz.prog) :
    Calls Tryz.prog 6 #[.slice a0 len0 cap0] w fun e w' => e = .returned (.bool true) ∧ Below w.heap.size w w' := by
  have HM : Hid (Im.Mx w) := mx_of hsh
  clear hsh hL
  by_cases hlong : (1048576 : Int) < len0
  · go_enter Tryz.func6, Tryz.ntmps6
    go_wp2
    go_ret
    exact ⟨rfl, Below.refl _ _⟩
  go_enter Tryz.func6, Tryz.ntmps6
  go_wp2_with fail
  refine (Dr.drawReach_any a0 len0 cap0 z0 w w0).mono ?_
  rintro e w1 ⟨L, a1, cc, s, S, a2, c2, rfl, hI, hl, hL, hs, hSt, hSl, hSz, hb1⟩
  have HI1 : Hid (IsRows FPg w1 a1 cc L) := hI
  have HL : Hid (PgSz L) := bd_sz hL
  have HR : Hid (PgRd L) := bd_rd hL
  have HBD : Hid (Dr.PgsBd L) := hL
  have HST1 : Hid (IsStrs w1 a2 c2 S) := hSt
  have HSZ : Hid (∀ x ∈ S, x.size ≤ 1000) := fun x hx => Nat.le_trans (hSz x hx) (by decide)
  have HN : Hid (nameB s = true) := hs
  have hsz := nameB_size hs
  have HB1 : Hid (Below w.heap.size w w1) := hb1
  clear hI hL hSt hSz hs hb1 w0
  go_wp2_with fail
  refine (implReach_any a1 cc L s a2 c2 S _ (HM.out.below HB1.out) HI1.out HL.out (all_asc L) HR.out (all_tx L) (by omega) HST1.out HSZ.out (by omega)).mono ?_
  rintro e w2 ⟨v2, rfl, hO2, hb2⟩
  have HB2 : Hid (Below w.heap.size w w2) := HB1.out.trans (hb2.mono HB1.out.size)
  have HI2 : Hid (IsRows FPg w2 a1 cc L) := HI1.out.below hb2
  have HST2 : Hid (IsStrs w2 a2 c2 S) := HST1.out.below hb2
  obtain ⟨a3, c3, hv2, hS2⟩ := hO2.strs
  subst hv2
  have HS2 : Hid (IsStrs w2 a3 c3 (reachW L s S)) := hS2
  clear hO2 hb2 hS2 HB1 HI1 HST1
  go_wp2_with fail
  refine (specReach_any a1 cc L s a2 c2 S _ HI2.out HL.out HR.out (by omega) HST2.out HSZ.out (by omega)).mono ?_
  rintro e w3 ⟨v3, rfl, hO3, hb3⟩
  have HB3 : Hid (Below w.heap.size w w3) := HB2.out.trans (hb3.mono HB2.out.size)
  have HI3 : Hid (IsRows FPg w3 a1 cc L) := HI2.out.below hb3
  have HST3 : Hid (IsStrs w3 a2 c2 S) := HST2.out.below hb3
  have HS3 : Hid (IsStrs w3 a3 c3 (reachW L s S)) := HS2.out.below hb3
  obtain ⟨a4, c4, hv3, hS3⟩ := hO3.strs
  subst hv3
  have HSM : Hid (IsStrs w3 a4 c4 (reachW L s S)) := hS3
  have hrl := reach_len L s S
  have HRZ : Hid (∀ x ∈ reachW L s S, x.size ≤ 1000) := fun x hx => reach_small HSZ.out hx
  clear hO3 hb3 hS3 HB2 HI2 HST2 HS2
  obtain ⟨R, hR⟩ : ∃ R, reachW L s S = R := ⟨_, rfl⟩
  have HRE : Hid (reachW L s S = R) := hR
  rw [hR] at HS3 HSM hrl HRZ
  rw [hR]
  clear hR
  go_wp2_with fail
  refine (texts_n a3 _ c3 R a4 _ c4 R _ rfl rfl HS3.out HSM.out (by omega) (by omega)).mono ?_
  rintro e w4 ⟨rfl, n4, hw4⟩
  have HB4 : Hid (Below w.heap.size w w4) := by rw [hw4]; exact below_drew HB3.out _
  have HI4 : Hid (IsRows FPg w4 a1 cc L) := by rw [hw4]; exact HI3.out.keep fun _ _ => rfl
  have HST4 : Hid (IsStrs w4 a2 c2 S) := by rw [hw4]; exact HST3.out.drewN _
  have HS4 : Hid (IsStrs w4 a3 c3 R) := by rw [hw4]; exact HS3.out.drewN _
  rw [show decide (R = R) = true from decide_eq_true rfl]
  clear hw4 HSM HS3 HB3 HI3 HST3
  have HNR : Hid (reachW L s [] = []) := reach_nil L s
  have HSW : Hid (∀ W : World, IsRows FPg W a1 cc L → IsStrs W a2 c2 S → Calls Tryz.prog 28 #[.slice a1 L.length cc, .string s, .slice a2 S.length c2] W fun e w' => ∃ v, e = .returned v ∧ Owns w' W.heap.size v R ∧ Below W.heap.size W w') := fun W hI hX => by rw [← HRE.out]; exact specReach_any a1 cc L s a2 c2 S W hI HL.out HR.out (by omega) hX HSZ.out (by omega)
  go_wp2_with fail
  refine (specWorldOk_any a1 cc L _ HI4.out HL.out).mono ?_
  rintro e w5 ⟨rfl, hb5⟩
  have HB5 : Hid (Below w.heap.size w w5) := HB4.out.trans (hb5.mono HB4.out.size)
  have HI5 : Hid (IsRows FPg w5 a1 cc L) := HI4.out.below hb5
  have HST5 : Hid (IsStrs w5 a2 c2 S) := HST4.out.below hb5
  have HS5 : Hid (IsStrs w5 a3 c3 R) := HS4.out.below hb5
  clear hb5 HB4 HI4 HST4 HS4
  cases hw : wOk L with
  | false =>
    clear hw
    go_wp2_with fail
    refine (HSW.out _ HI5.out HST5.out).mono ?_
    rintro e w6 ⟨v6, rfl, hO6, hb6⟩
    obtain ⟨a6, c6, hv6, hS6⟩ := hO6.strs
    subst hv6
    have HB6 : Hid (Below w.heap.size w w6) := HB5.out.trans (hb6.mono HB5.out.size)
    have HS6 : Hid (IsStrs w6 a6 c6 R) := hS6
    have HT6 : Hid (IsStrs w6 a3 c3 R) := HS5.out.below hb6
    clear hO6 hS6 hb6
    go_wp2_with fail
    refine (texts_n a3 _ c3 R a6 _ c6 R _ rfl rfl HT6.out HS6.out (by omega) (by omega)).mono ?_
    rintro e w7 ⟨rfl, n7, hw7⟩
    have HB7 : Hid (Below w.heap.size w w7) := by rw [hw7]; exact below_drew HB6.out _
    rw [show decide (R = R) = true from decide_eq_true rfl]
    clear hw7
    go_wp2
    go_ret
    exact ⟨rfl, HB7.out⟩
  | true =>
  have HSJ : Hid (∀ x ∈ S, nR x = true → hasB x R = (letsW L s x && !(decide ((getF L x 2).1 = 3)))) := fun x hx hn => seeds_just HRE.out hw HN.out (by omega) hx hn
  clear hw
  go_wp2
  go_loopw [7] (fun i wr => ∃ k : Nat, k ≤ S.length ∧ i = .int .i64 (k : Int) ∧ Hid (Below w5.heap.size w5 wr)) (fun i _ => S.length - (intOf i).toNat)
  case atStart => exact ⟨0, Nat.zero_le _, rfl, Below.refl _ _⟩
  case round =>
    obtain ⟨k, hk, rfl, HW⟩ := hrel
    have HBW : Hid (Below w.heap.size w wr) := HB5.out.trans (HW.out.mono HB5.out.size)
    by_cases hlt : k < S.length
    · obtain ⟨b1, o1, e1, c1⟩ := (HST5.out.below HW.out).at hlt
      have HJX : Hid (nR S[k] = true → hasB S[k] R = (letsW L s S[k] && !(decide ((getF L S[k] 2).1 = 3)))) := HSJ.out _ (List.getElem_mem hlt)
      have hxz := HSZ.out _ (List.getElem_mem hlt)
      have e1' := e1
      subst e1'
      generalize S[k] = x at *
      generalize wr = wo at *
      go_wp2_with fail
      refine (RdA.implRead_all x _ (HM.out.below HBW.out) (by omega) trivial).mono ?_
      rintro e w6 ⟨A, ok, a6, c6, rfl, hans, hO6, hb6⟩
      have hb7 : Below wo.heap.size wo (w6.alloc (.cells #[.string A.house, .slice a6 A.parts.length c6, .bool A.asks, .string A.ask] 41)) := hb6.alloc hb6.size _
      have HX7 : Hid (Bs 41 (w6.alloc (.cells #[.string A.house, .slice a6 A.parts.length c6, .bool A.asks, .string A.ask] 41)) w6.heap.size #[.string A.house, .slice a6 A.parts.length c6, .bool A.asks, .string A.ask]) := Bs.new _ _ _
      have HS7 : Hid (IsStrs (w6.alloc (.cells #[.string A.house, .slice a6 A.parts.length c6, .bool A.asks, .string A.ask] 41)) a6 c6 A.parts) := (Owns.strsOf hO6).keep (alloc_keep _ _)
      have HW7 : Hid (Below w5.heap.size w5 (w6.alloc (.cells #[.string A.house, .slice a6 A.parts.length c6, .bool A.asks, .string A.ask] 41))) := HW.out.trans (hb7.mono HW.out.size)
      have HB7 : Hid (Below w.heap.size w (w6.alloc (.cells #[.string A.house, .slice a6 A.parts.length c6, .bool A.asks, .string A.ask] 41))) := HBW.out.trans (hb7.mono HBW.out.size)
      have c7 := (hb7.cell (St.cell_block c1)).trans c1
      have HANS : Hid _ := hans
      have HG6 : Hid (w6.heap.size = w6.heap.size) := rfl
      clear hans hO6 hb6 hb7 c1 HW HBW HG6
      obtain ⟨G, hG⟩ : ∃ G, w6.heap.size = G := ⟨_, rfl⟩
      rw [hG] at HX7
      have HGG : Hid (w6.heap.size = G) := hG
      clear hG
      go_wp2_with fail
      rw [HGG.out]
      generalize w6.alloc (.cells #[.string A.house, .slice a6 A.parts.length c6, .bool A.asks, .string A.ask] 41) = w7 at *
      refine (implGet_any a1 cc L x 2 _ (HM.out.below HB7.out) (HI5.out.below HW7.out) HL.out (all_asc L)).mono ?_
      rintro e w8 ⟨rfl, hb8⟩
      have HW8 : Hid (Below w5.heap.size w5 w8) := HW7.out.trans (hb8.mono HW7.out.size)
      have HB8 : Hid (Below w.heap.size w w8) := HB7.out.trans (hb8.mono HB7.out.size)
      have HX8 : Hid (Bs 41 w8 G #[.string A.house, .slice a6 A.parts.length c6, .bool A.asks, .string A.ask]) := HX7.out.keep fun k hk => hb8.block k hk
      have HS8 : Hid (IsStrs w8 a6 c6 A.parts) := HS7.out.below hb8
      have c8 := (hb8.cell (St.cell_block c7)).trans c7
      clear hb8 c7 HW7 HB7 HX7 HS7 HGG
      generalize hK : getF L x 2 = K at *
      obtain ⟨kd, tx⟩ := K
      dsimp only at HJX
      clear hK
      have d0 := HX8.out.cell 0 rfl
      have d1 := HX8.out.cell 1 rfl
      have d2 := HX8.out.cell 2 rfl
      have d3 := HX8.out.cell 3 rfl
      have hk0 : (0 : Int) ≤ (k : Int) := by omega
      have hk1 : (k : Int) < (S.length : Int) := by omega
      cases ok with
      | false =>
        clear HANS HJX
        go_wp2_with fail
        refine wp_region_held_drew (S := (fun w' => w'.cell? ⟨G, 0, none⟩ = some (.string A.house) ∧ w'.cell? ⟨G, 1, none⟩ = some (.slice a6 A.parts.length c6) ∧ w'.cell? ⟨G, 2, none⟩ = some (.bool A.asks) ∧ w'.cell? ⟨G, 3, none⟩ = some (.string A.ask) ∧ w'.cell? ⟨b1, o1 + k, none⟩ = some (.string x))) (by kernel_rfl) ⟨d0, d1, d2, d3, c8⟩ (fun hHeld => ?_)
        refine wpAnyH_take (i := 0) (oi := ({ dst := some 66, op := Go.Op.move (Go.Operand.tmp 9), type := 4, pos := "laws.go:1065", after := #[], guard := none } : Oper)) (v := ?_) rfl (by kernel_rfl) (by kernel_rfl) (by kernel_rfl) (fun _ _ _ h => h) (Or.inl ⟨by rfl, ?_⟩) hHeld ?_
        rotate_left
        · (intro w hSw; (try dsimp only at hSw); go_simp; try with_reducible rfl)
        try simp only [Act.put, List.setIfInBounds_toArray, List.set_cons_zero, List.set_cons_succ]
        refine wpAnyH_take (i := 1) (oi := ({ dst := some 67, op := Go.Op.move (Go.Operand.tmp 66), type := 4, pos := "laws.go:1065", after := #[{ on := 0, ground := Go.Ground.data }], guard := none } : Oper)) (v := ?_) rfl (by kernel_rfl) (by kernel_rfl) (by kernel_rfl) (fun _ _ _ h => h) (Or.inl ⟨by rfl, ?_⟩) hHeld ?_
        rotate_left
        · (intro w hSw; (try dsimp only at hSw); go_simp; try with_reducible rfl)
        try simp only [Act.put, List.setIfInBounds_toArray, List.set_cons_zero, List.set_cons_succ]
        refine wpAnyH_take (i := 2) (oi := ({ dst := some 68, op := Go.Op.load 41 (Go.Operand.tmp 8), type := 41, pos := "laws.go:1065", after := #[{ on := 1, ground := Go.Ground.guard }], guard := some (1, true) } : Oper)) (v := undef) rfl (by kernel_rfl) (by kernel_rfl) (by kernel_rfl) (fun _ _ _ h => h) (Or.inr ⟨by rfl, rfl⟩) hHeld ?_
        try simp only [Act.put, List.setIfInBounds_toArray, List.set_cons_zero, List.set_cons_succ]
        refine wpAnyH_take (i := 3) (oi := ({ dst := some 69, op := Go.Op.call { callee := Go.Callee.value (Go.Operand.func 30), args := #[Go.Operand.tmp 68], argTypes := #[41] }, type := 9, pos := "laws.go:1065", after := #[{ on := 2, ground := Go.Ground.data }, { on := 1, ground := Go.Ground.chain }, { on := 1, ground := Go.Ground.guard }], guard := some (1, true) } : Oper)) (v := undef) rfl (by kernel_rfl) (by kernel_rfl) (by kernel_rfl) (fun _ _ _ h => h) (Or.inr ⟨by rfl, rfl⟩) hHeld ?_
        try simp only [Act.put, List.setIfInBounds_toArray, List.set_cons_zero, List.set_cons_succ]
        refine wpAnyH_take (i := 4) (oi := ({ dst := some 70, op := Go.Op.move (Go.Operand.tmp 5), type := 26, pos := "laws.go:1065", after := #[{ on := 1, ground := Go.Ground.guard }], guard := some (1, true) } : Oper)) (v := undef) rfl (by kernel_rfl) (by kernel_rfl) (by kernel_rfl) (fun _ _ _ h => h) (Or.inr ⟨by rfl, rfl⟩) hHeld ?_
        try simp only [Act.put, List.setIfInBounds_toArray, List.set_cons_zero, List.set_cons_succ]
        refine wpAnyH_take (i := 5) (oi := ({ dst := some 71, op := Go.Op.move (Go.Operand.tmp 7), type := 3, pos := "laws.go:1065", after := #[{ on := 1, ground := Go.Ground.guard }], guard := some (1, true) } : Oper)) (v := undef) rfl (by kernel_rfl) (by kernel_rfl) (by kernel_rfl) (fun _ _ _ h => h) (Or.inr ⟨by rfl, rfl⟩) hHeld ?_
        try simp only [Act.put, List.setIfInBounds_toArray, List.set_cons_zero, List.set_cons_succ]
        refine wpAnyH_take (i := 6) (oi := ({ dst := some 72, op := Go.Op.indexAddr 26 (Go.Operand.tmp 70) (Go.Operand.tmp 71), type := 0, pos := "laws.go:1065", after := #[{ on := 4, ground := Go.Ground.data }, { on := 5, ground := Go.Ground.data }, { on := 1, ground := Go.Ground.guard }], guard := some (1, true) } : Oper)) (v := undef) rfl (by kernel_rfl) (by kernel_rfl) (by kernel_rfl) (fun _ _ _ h => h) (Or.inr ⟨by rfl, rfl⟩) hHeld ?_
        try simp only [Act.put, List.setIfInBounds_toArray, List.set_cons_zero, List.set_cons_succ]
        refine wpAnyH_take (i := 7) (oi := ({ dst := some 73, op := Go.Op.load 9 (Go.Operand.tmp 72), type := 9, pos := "laws.go:1065", after := #[{ on := 6, ground := Go.Ground.data }, { on := 1, ground := Go.Ground.guard }], guard := some (1, true) } : Oper)) (v := undef) rfl (by kernel_rfl) (by kernel_rfl) (by kernel_rfl) (fun _ _ _ h => h) (Or.inr ⟨by rfl, rfl⟩) hHeld ?_
        try simp only [Act.put, List.setIfInBounds_toArray, List.set_cons_zero, List.set_cons_succ]
        refine wpAnyH_take (i := 8) (oi := ({ dst := some 74, op := Go.Op.binOp Go.BinOp.eql 9 (Go.Operand.tmp 69) (Go.Operand.tmp 73) 9, type := 4, pos := "laws.go:1065", after := #[{ on := 3, ground := Go.Ground.data }, { on := 7, ground := Go.Ground.data }, { on := 1, ground := Go.Ground.guard }], guard := some (1, true) } : Oper)) (v := undef) rfl (by kernel_rfl) (by kernel_rfl) (by kernel_rfl) (fun _ _ _ h => h) (Or.inr ⟨by rfl, rfl⟩) hHeld ?_
        try simp only [Act.put, List.setIfInBounds_toArray, List.set_cons_zero, List.set_cons_succ]
        refine wpAnyH_take (i := 9) (oi := ({ dst := some 75, op := Go.Op.pick (Go.Operand.tmp 67) (Go.Operand.tmp 74) (Go.Operand.const (Go.Value.bool false)), type := 4, pos := "laws.go:1065", after := #[{ on := 1, ground := Go.Ground.data }, { on := 8, ground := Go.Ground.data }], guard := none } : Oper)) (v := ?_) rfl (by kernel_rfl) (by kernel_rfl) (by kernel_rfl) (fun _ _ _ h => h) (Or.inl ⟨by rfl, ?_⟩) hHeld ?_
        rotate_left
        · (intro w hSw; (try dsimp only at hSw); go_simp; try with_reducible rfl)
        try simp only [Act.put, List.setIfInBounds_toArray, List.set_cons_zero, List.set_cons_succ]
        refine wpAnyH_take (i := 10) (oi := ({ dst := some 76, op := Go.Op.move (Go.Operand.tmp 75), type := 4, pos := "laws.go:1065", after := #[{ on := 9, ground := Go.Ground.data }, { on := 3, ground := Go.Ground.chain }], guard := none } : Oper)) (v := ?_) rfl (by kernel_rfl) (by kernel_rfl) (by kernel_rfl) (fun _ _ _ h => h) (Or.inl ⟨by rfl, ?_⟩) hHeld ?_
        rotate_left
        · (intro w hSw; (try dsimp only at hSw); go_simp; try with_reducible rfl)
        try simp only [Act.put, List.setIfInBounds_toArray, List.set_cons_zero, List.set_cons_succ]
        refine wpAnyH_take (i := 11) (oi := ({ dst := some 77, op := Go.Op.move (Go.Operand.tmp 6), type := 26, pos := "laws.go:1065", after := #[{ on := 10, ground := Go.Ground.guard }], guard := some (10, true) } : Oper)) (v := undef) rfl (by kernel_rfl) (by kernel_rfl) (by kernel_rfl) (fun _ _ _ h => h) (Or.inr ⟨by rfl, rfl⟩) hHeld ?_
        try simp only [Act.put, List.setIfInBounds_toArray, List.set_cons_zero, List.set_cons_succ]
        refine wpAnyH_take (i := 12) (oi := ({ dst := some 78, op := Go.Op.move (Go.Operand.tmp 5), type := 26, pos := "laws.go:1065", after := #[{ on := 10, ground := Go.Ground.guard }], guard := some (10, true) } : Oper)) (v := undef) rfl (by kernel_rfl) (by kernel_rfl) (by kernel_rfl) (fun _ _ _ h => h) (Or.inr ⟨by rfl, rfl⟩) hHeld ?_
        try simp only [Act.put, List.setIfInBounds_toArray, List.set_cons_zero, List.set_cons_succ]
        refine wpAnyH_take (i := 13) (oi := ({ dst := some 79, op := Go.Op.move (Go.Operand.tmp 7), type := 3, pos := "laws.go:1065", after := #[{ on := 10, ground := Go.Ground.guard }], guard := some (10, true) } : Oper)) (v := undef) rfl (by kernel_rfl) (by kernel_rfl) (by kernel_rfl) (fun _ _ _ h => h) (Or.inr ⟨by rfl, rfl⟩) hHeld ?_
        try simp only [Act.put, List.setIfInBounds_toArray, List.set_cons_zero, List.set_cons_succ]
        refine wpAnyH_take (i := 14) (oi := ({ dst := some 80, op := Go.Op.indexAddr 26 (Go.Operand.tmp 78) (Go.Operand.tmp 79), type := 0, pos := "laws.go:1065", after := #[{ on := 12, ground := Go.Ground.data }, { on := 13, ground := Go.Ground.data }, { on := 10, ground := Go.Ground.guard }], guard := some (10, true) } : Oper)) (v := undef) rfl (by kernel_rfl) (by kernel_rfl) (by kernel_rfl) (fun _ _ _ h => h) (Or.inr ⟨by rfl, rfl⟩) hHeld ?_
        try simp only [Act.put, List.setIfInBounds_toArray, List.set_cons_zero, List.set_cons_succ]
        refine wpAnyH_take (i := 15) (oi := ({ dst := some 81, op := Go.Op.load 9 (Go.Operand.tmp 80), type := 9, pos := "laws.go:1065", after := #[{ on := 14, ground := Go.Ground.data }, { on := 10, ground := Go.Ground.guard }], guard := some (10, true) } : Oper)) (v := undef) rfl (by kernel_rfl) (by kernel_rfl) (by kernel_rfl) (fun _ _ _ h => h) (Or.inr ⟨by rfl, rfl⟩) hHeld ?_
        try simp only [Act.put, List.setIfInBounds_toArray, List.set_cons_zero, List.set_cons_succ]
        refine wpAnyH_take (i := 16) (oi := ({ dst := some 82, op := Go.Op.call { callee := Go.Callee.value (Go.Operand.func 31), args := #[Go.Operand.tmp 77, Go.Operand.tmp 81], argTypes := #[26, 9] }, type := 4, pos := "laws.go:1065", after := #[{ on := 11, ground := Go.Ground.data }, { on := 15, ground := Go.Ground.data }, { on := 10, ground := Go.Ground.chain }, { on := 10, ground := Go.Ground.guard }], guard := some (10, true) } : Oper)) (v := undef) rfl (by kernel_rfl) (by kernel_rfl) (by kernel_rfl) (fun _ _ _ h => h) (Or.inr ⟨by rfl, rfl⟩) hHeld ?_
        try simp only [Act.put, List.setIfInBounds_toArray, List.set_cons_zero, List.set_cons_succ]
        refine wpAnyH_take (i := 17) (oi := ({ dst := some 83, op := Go.Op.move (Go.Operand.tmp 3), type := 23, pos := "laws.go:1065", after := #[{ on := 10, ground := Go.Ground.guard }], guard := some (10, true) } : Oper)) (v := undef) rfl (by kernel_rfl) (by kernel_rfl) (by kernel_rfl) (fun _ _ _ h => h) (Or.inr ⟨by rfl, rfl⟩) hHeld ?_
        try simp only [Act.put, List.setIfInBounds_toArray, List.set_cons_zero, List.set_cons_succ]
        refine wpAnyH_take (i := 18) (oi := ({ dst := some 84, op := Go.Op.move (Go.Operand.tmp 4), type := 9, pos := "laws.go:1065", after := #[{ on := 10, ground := Go.Ground.guard }], guard := some (10, true) } : Oper)) (v := undef) rfl (by kernel_rfl) (by kernel_rfl) (by kernel_rfl) (fun _ _ _ h => h) (Or.inr ⟨by rfl, rfl⟩) hHeld ?_
        try simp only [Act.put, List.setIfInBounds_toArray, List.set_cons_zero, List.set_cons_succ]
        refine wpAnyH_take (i := 19) (oi := ({ dst := some 85, op := Go.Op.move (Go.Operand.tmp 5), type := 26, pos := "laws.go:1065", after := #[{ on := 10, ground := Go.Ground.guard }], guard := some (10, true) } : Oper)) (v := undef) rfl (by kernel_rfl) (by kernel_rfl) (by kernel_rfl) (fun _ _ _ h => h) (Or.inr ⟨by rfl, rfl⟩) hHeld ?_
        try simp only [Act.put, List.setIfInBounds_toArray, List.set_cons_zero, List.set_cons_succ]
        refine wpAnyH_take (i := 20) (oi := ({ dst := some 86, op := Go.Op.move (Go.Operand.tmp 7), type := 3, pos := "laws.go:1065", after := #[{ on := 10, ground := Go.Ground.guard }], guard := some (10, true) } : Oper)) (v := undef) rfl (by kernel_rfl) (by kernel_rfl) (by kernel_rfl) (fun _ _ _ h => h) (Or.inr ⟨by rfl, rfl⟩) hHeld ?_
        try simp only [Act.put, List.setIfInBounds_toArray, List.set_cons_zero, List.set_cons_succ]
        refine wpAnyH_take (i := 21) (oi := ({ dst := some 87, op := Go.Op.indexAddr 26 (Go.Operand.tmp 85) (Go.Operand.tmp 86), type := 0, pos := "laws.go:1065", after := #[{ on := 19, ground := Go.Ground.data }, { on := 20, ground := Go.Ground.data }, { on := 10, ground := Go.Ground.guard }], guard := some (10, true) } : Oper)) (v := undef) rfl (by kernel_rfl) (by kernel_rfl) (by kernel_rfl) (fun _ _ _ h => h) (Or.inr ⟨by rfl, rfl⟩) hHeld ?_
        try simp only [Act.put, List.setIfInBounds_toArray, List.set_cons_zero, List.set_cons_succ]
        refine wpAnyH_take (i := 22) (oi := ({ dst := some 88, op := Go.Op.load 9 (Go.Operand.tmp 87), type := 9, pos := "laws.go:1065", after := #[{ on := 21, ground := Go.Ground.data }, { on := 10, ground := Go.Ground.guard }], guard := some (10, true) } : Oper)) (v := undef) rfl (by kernel_rfl) (by kernel_rfl) (by kernel_rfl) (fun _ _ _ h => h) (Or.inr ⟨by rfl, rfl⟩) hHeld ?_
        try simp only [Act.put, List.setIfInBounds_toArray, List.set_cons_zero, List.set_cons_succ]
        refine wpAnyH_take (i := 23) (oi := ({ dst := some 89, op := Go.Op.call { callee := Go.Callee.value (Go.Operand.func 20), args := #[Go.Operand.tmp 83, Go.Operand.tmp 84, Go.Operand.tmp 88], argTypes := #[23, 9, 9] }, type := 4, pos := "laws.go:1065", after := #[{ on := 17, ground := Go.Ground.data }, { on := 18, ground := Go.Ground.data }, { on := 22, ground := Go.Ground.data }, { on := 16, ground := Go.Ground.chain }, { on := 10, ground := Go.Ground.guard }], guard := some (10, true) } : Oper)) (v := undef) rfl (by kernel_rfl) (by kernel_rfl) (by kernel_rfl) (fun _ _ _ h => h) (Or.inr ⟨by rfl, rfl⟩) hHeld ?_
        try simp only [Act.put, List.setIfInBounds_toArray, List.set_cons_zero, List.set_cons_succ]
        refine wpAnyH_take (i := 24) (oi := ({ dst := some 90, op := Go.Op.move (Go.Operand.tmp 89), type := 4, pos := "laws.go:1065", after := #[{ on := 23, ground := Go.Ground.data }, { on := 23, ground := Go.Ground.chain }, { on := 10, ground := Go.Ground.guard }], guard := some (10, true) } : Oper)) (v := undef) rfl (by kernel_rfl) (by kernel_rfl) (by kernel_rfl) (fun _ _ _ h => h) (Or.inr ⟨by rfl, rfl⟩) hHeld ?_
        try simp only [Act.put, List.setIfInBounds_toArray, List.set_cons_zero, List.set_cons_succ]
        refine wpAnyH_take (i := 25) (oi := ({ dst := some 91, op := Go.Op.move (Go.Operand.tmp 10), type := 3, pos := "laws.go:1065", after := #[{ on := 24, ground := Go.Ground.guard }], guard := some (24, true) } : Oper)) (v := undef) rfl (by kernel_rfl) (by kernel_rfl) (by kernel_rfl) (fun _ _ _ h => h) (Or.inr ⟨by rfl, rfl⟩) hHeld ?_
        try simp only [Act.put, List.setIfInBounds_toArray, List.set_cons_zero, List.set_cons_succ]
        refine wpAnyH_take (i := 26) (oi := ({ dst := some 92, op := Go.Op.binOp Go.BinOp.neq 3 (Go.Operand.tmp 91) (Go.Operand.const (Go.Value.int Go.IntKind.i64 3)) 3, type := 4, pos := "laws.go:1065", after := #[{ on := 25, ground := Go.Ground.data }, { on := 24, ground := Go.Ground.guard }], guard := some (24, true) } : Oper)) (v := undef) rfl (by kernel_rfl) (by kernel_rfl) (by kernel_rfl) (fun _ _ _ h => h) (Or.inr ⟨by rfl, rfl⟩) hHeld ?_
        try simp only [Act.put, List.setIfInBounds_toArray, List.set_cons_zero, List.set_cons_succ]
        refine wpAnyH_take (i := 27) (oi := ({ dst := some 93, op := Go.Op.pick (Go.Operand.tmp 90) (Go.Operand.tmp 92) (Go.Operand.const (Go.Value.bool false)), type := 4, pos := "laws.go:1065", after := #[{ on := 24, ground := Go.Ground.data }, { on := 26, ground := Go.Ground.data }, { on := 10, ground := Go.Ground.guard }], guard := some (10, true) } : Oper)) (v := undef) rfl (by kernel_rfl) (by kernel_rfl) (by kernel_rfl) (fun _ _ _ h => h) (Or.inr ⟨by rfl, rfl⟩) hHeld ?_
        try simp only [Act.put, List.setIfInBounds_toArray, List.set_cons_zero, List.set_cons_succ]
        refine wpAnyH_take (i := 28) (oi := ({ dst := some 94, op := Go.Op.binOp Go.BinOp.neq 4 (Go.Operand.tmp 82) (Go.Operand.tmp 93) 4, type := 4, pos := "laws.go:1065", after := #[{ on := 16, ground := Go.Ground.data }, { on := 27, ground := Go.Ground.data }, { on := 10, ground := Go.Ground.guard }], guard := some (10, true) } : Oper)) (v := undef) rfl (by kernel_rfl) (by kernel_rfl) (by kernel_rfl) (fun _ _ _ h => h) (Or.inr ⟨by rfl, rfl⟩) hHeld ?_
        try simp only [Act.put, List.setIfInBounds_toArray, List.set_cons_zero, List.set_cons_succ]
        refine wpAnyH_take (i := 29) (oi := ({ dst := some 95, op := Go.Op.pick (Go.Operand.tmp 76) (Go.Operand.tmp 94) (Go.Operand.const (Go.Value.bool false)), type := 4, pos := "laws.go:1065", after := #[{ on := 10, ground := Go.Ground.data }, { on := 28, ground := Go.Ground.data }], guard := none } : Oper)) (v := ?_) rfl (by kernel_rfl) (by kernel_rfl) (by kernel_rfl) (fun _ _ _ h => h) (Or.inl ⟨by rfl, ?_⟩) hHeld ?_
        rotate_left
        · (intro w hSw; (try dsimp only at hSw); go_simp; try with_reducible rfl)
        try simp only [Act.put, List.setIfInBounds_toArray, List.set_cons_zero, List.set_cons_succ]
        refine wpAnyH_done (by kernel_rfl) ?_ _
        go_wp2
        go_roundw
        case rel => exact ⟨k + 1, by omega, by go_num, HW8.out.drew⟩
        case measure => simp [intOf]; omega
      | true =>
        have hrd : readF x.data.toList = some A := by
          rcases HANS.out with ⟨_, h⟩ | ⟨h, _⟩
          · exact h
          · cases h
        have HTX : Hid (∀ W, IsStrs W a6 c6 A.parts → Calls Tryz.prog 30 #[.agg #[.string A.house, .slice a6 A.parts.length c6, .bool A.asks, .string A.ask]] W fun e w' => e = .returned (.string (textF A)) ∧ Below W.heap.size W w') := fun W hW => implAddrText_any A a6 c6 W hW (Nat.le_trans (read_le hrd) (by decide))
        have HNR2 : Hid (((textF A).toList == x.toList) = true → nR x = true) := fun h => by unfold nR; rw [normA_yes hrd h]; rfl
        clear hrd HANS
        generalize textF A = tx0 at *
        cases he : (tx0.toList == x.toList) with
        | false =>
          clear HJX HNR2
          go_wp2_with fail
          refine wp_region_held_drew (S := (fun w' => w'.cell? ⟨G, 0, none⟩ = some (.string A.house) ∧ w'.cell? ⟨G, 1, none⟩ = some (.slice a6 A.parts.length c6) ∧ w'.cell? ⟨G, 2, none⟩ = some (.bool A.asks) ∧ w'.cell? ⟨G, 3, none⟩ = some (.string A.ask) ∧ w'.cell? ⟨b1, o1 + k, none⟩ = some (.string x))) (by kernel_rfl) ⟨d0, d1, d2, d3, c8⟩ (fun hHeld => ?_)
          refine wpAnyH_take (i := 0) (oi := ({ dst := some 66, op := Go.Op.move (Go.Operand.tmp 9), type := 4, pos := "laws.go:1065", after := #[], guard := none } : Oper)) (v := ?_) rfl (by kernel_rfl) (by kernel_rfl) (by kernel_rfl) (fun _ _ _ h => h) (Or.inl ⟨by rfl, ?_⟩) hHeld ?_
          rotate_left
          · (intro w hSw; (try dsimp only at hSw); go_simp; try with_reducible rfl)
          try simp only [Act.put, List.setIfInBounds_toArray, List.set_cons_zero, List.set_cons_succ]
          refine wpAnyH_take (i := 1) (oi := ({ dst := some 67, op := Go.Op.move (Go.Operand.tmp 66), type := 4, pos := "laws.go:1065", after := #[{ on := 0, ground := Go.Ground.data }], guard := none } : Oper)) (v := ?_) rfl (by kernel_rfl) (by kernel_rfl) (by kernel_rfl) (fun _ _ _ h => h) (Or.inl ⟨by rfl, ?_⟩) hHeld ?_
          rotate_left
          · (intro w hSw; (try dsimp only at hSw); go_simp; try with_reducible rfl)
          try simp only [Act.put, List.setIfInBounds_toArray, List.set_cons_zero, List.set_cons_succ]
          refine wpAnyH_take (i := 2) (oi := ({ dst := some 68, op := Go.Op.load 41 (Go.Operand.tmp 8), type := 41, pos := "laws.go:1065", after := #[{ on := 1, ground := Go.Ground.guard }], guard := some (1, true) } : Oper)) (v := ?_) rfl (by kernel_rfl) (by kernel_rfl) (by kernel_rfl) (fun _ _ _ h => h) (Or.inl ⟨by rfl, ?_⟩) hHeld ?_
          rotate_left
          · (intro w hSw; (try dsimp only at hSw); go_simp; try with_reducible rfl)
          try simp only [Act.put, List.setIfInBounds_toArray, List.set_cons_zero, List.set_cons_succ]
          refine wpAnyH_take (i := 4) (oi := ({ dst := some 70, op := Go.Op.move (Go.Operand.tmp 5), type := 26, pos := "laws.go:1065", after := #[{ on := 1, ground := Go.Ground.guard }], guard := some (1, true) } : Oper)) (v := ?_) rfl (by kernel_rfl) (by kernel_rfl) (by kernel_rfl) (fun _ _ _ h => h) (Or.inl ⟨by rfl, ?_⟩) hHeld ?_
          rotate_left
          · (intro w hSw; (try dsimp only at hSw); go_simp; try with_reducible rfl)
          try simp only [Act.put, List.setIfInBounds_toArray, List.set_cons_zero, List.set_cons_succ]
          refine wpAnyH_take (i := 5) (oi := ({ dst := some 71, op := Go.Op.move (Go.Operand.tmp 7), type := 3, pos := "laws.go:1065", after := #[{ on := 1, ground := Go.Ground.guard }], guard := some (1, true) } : Oper)) (v := ?_) rfl (by kernel_rfl) (by kernel_rfl) (by kernel_rfl) (fun _ _ _ h => h) (Or.inl ⟨by rfl, ?_⟩) hHeld ?_
          rotate_left
          · (intro w hSw; (try dsimp only at hSw); go_simp; try with_reducible rfl)
          try simp only [Act.put, List.setIfInBounds_toArray, List.set_cons_zero, List.set_cons_succ]
          refine wpAnyH_take (i := 6) (oi := ({ dst := some 72, op := Go.Op.indexAddr 26 (Go.Operand.tmp 70) (Go.Operand.tmp 71), type := 0, pos := "laws.go:1065", after := #[{ on := 4, ground := Go.Ground.data }, { on := 5, ground := Go.Ground.data }, { on := 1, ground := Go.Ground.guard }], guard := some (1, true) } : Oper)) (v := ?_) rfl (by kernel_rfl) (by kernel_rfl) (by kernel_rfl) (fun _ _ _ h => h) (Or.inl ⟨by rfl, ?_⟩) hHeld ?_
          rotate_left
          · (intro w hSw; (try dsimp only at hSw); go_simp; try with_reducible rfl)
          try simp only [Act.put, List.setIfInBounds_toArray, List.set_cons_zero, List.set_cons_succ]
          refine wpAnyH_take (i := 7) (oi := ({ dst := some 73, op := Go.Op.load 9 (Go.Operand.tmp 72), type := 9, pos := "laws.go:1065", after := #[{ on := 6, ground := Go.Ground.data }, { on := 1, ground := Go.Ground.guard }], guard := some (1, true) } : Oper)) (v := ?_) rfl (by kernel_rfl) (by kernel_rfl) (by kernel_rfl) (fun _ _ _ h => h) (Or.inl ⟨by rfl, ?_⟩) hHeld ?_
          rotate_left
          · (intro w hSw; (try dsimp only at hSw); go_simp; try with_reducible rfl)
          try simp only [Act.put, List.setIfInBounds_toArray, List.set_cons_zero, List.set_cons_succ]
          refine wpAnyH_ready (rs := [3]) (by kernel_rfl) (by simp) ?_
          refine AllReadyH.cons rfl (fun K hK => ?_) AllReadyH.nil
          go_simp
          refine (HTX.out w8.drew (HS8.out.keep fun _ _ => rfl)).mono ?_
          rintro e w9 ⟨rfl, hb9⟩
          have hbd : Below w8.heap.size w8 w9 := Below.trans ((Below.refl _ w8).drew) (hb9.mono (by simp))
          have HW9 : Hid (Below w5.heap.size w5 w9) := HW8.out.trans (hbd.mono HW8.out.size)
          have HB9 : Hid (Below w.heap.size w w9) := HB8.out.trans (hbd.mono HB8.out.size)
          have HX9 : Hid (Bs 41 w9 G #[.string A.house, .slice a6 A.parts.length c6, .bool A.asks, .string A.ask]) := HX8.out.keep fun k hk => hbd.block k hk
          have HC9 : Hid (w9.cell? ⟨b1, o1 + k, none⟩ = some (.string x)) := (hbd.cell (St.cell_block c8)).trans c8
          refine hK.out _ _ ?_ (fun hHeld => ?_)
          · exact ⟨HX9.out.cell 0 rfl, HX9.out.cell 1 rfl, HX9.out.cell 2 rfl, HX9.out.cell 3 rfl, HC9.out⟩
          clear hK K hb9 hbd
          refine wpAnyH_take (i := 8) (oi := ({ dst := some 74, op := Go.Op.binOp Go.BinOp.eql 9 (Go.Operand.tmp 69) (Go.Operand.tmp 73) 9, type := 4, pos := "laws.go:1065", after := #[{ on := 3, ground := Go.Ground.data }, { on := 7, ground := Go.Ground.data }, { on := 1, ground := Go.Ground.guard }], guard := some (1, true) } : Oper)) (v := ?_) rfl (by kernel_rfl) (by kernel_rfl) (by kernel_rfl) (fun _ _ _ h => h) (Or.inl ⟨by rfl, ?_⟩) hHeld ?_
          rotate_left
          · (intro w hSw; (try dsimp only at hSw); go_simp; try with_reducible rfl)
          try simp only [Act.put, List.setIfInBounds_toArray, List.set_cons_zero, List.set_cons_succ]
          refine wpAnyH_take (i := 9) (oi := ({ dst := some 75, op := Go.Op.pick (Go.Operand.tmp 67) (Go.Operand.tmp 74) (Go.Operand.const (Go.Value.bool false)), type := 4, pos := "laws.go:1065", after := #[{ on := 1, ground := Go.Ground.data }, { on := 8, ground := Go.Ground.data }], guard := none } : Oper)) (v := ?_) rfl (by kernel_rfl) (by kernel_rfl) (by kernel_rfl) (fun _ _ _ h => h) (Or.inl ⟨by rfl, ?_⟩) hHeld ?_
          rotate_left
          · (intro w hSw; (try dsimp only at hSw); go_simp; try with_reducible rfl)
          try simp only [Act.put, List.setIfInBounds_toArray, List.set_cons_zero, List.set_cons_succ]
          refine wpAnyH_take (i := 10) (oi := ({ dst := some 76, op := Go.Op.move (Go.Operand.tmp 75), type := 4, pos := "laws.go:1065", after := #[{ on := 9, ground := Go.Ground.data }, { on := 3, ground := Go.Ground.chain }], guard := none } : Oper)) (v := ?_) rfl (by kernel_rfl) (by kernel_rfl) (by kernel_rfl) (fun _ _ _ h => h) (Or.inl ⟨by rfl, ?_⟩) hHeld ?_
          rotate_left
          · (intro w hSw; (try dsimp only at hSw); go_simp; try with_reducible rfl)
          try simp only [Act.put, List.setIfInBounds_toArray, List.set_cons_zero, List.set_cons_succ]
          refine wpAnyH_take (i := 11) (oi := ({ dst := some 77, op := Go.Op.move (Go.Operand.tmp 6), type := 26, pos := "laws.go:1065", after := #[{ on := 10, ground := Go.Ground.guard }], guard := some (10, true) } : Oper)) (v := undef) rfl (by kernel_rfl) (by kernel_rfl) (by kernel_rfl) (fun _ _ _ h => h) (Or.inr ⟨by rfl, rfl⟩) hHeld ?_
          try simp only [Act.put, List.setIfInBounds_toArray, List.set_cons_zero, List.set_cons_succ]
          refine wpAnyH_take (i := 12) (oi := ({ dst := some 78, op := Go.Op.move (Go.Operand.tmp 5), type := 26, pos := "laws.go:1065", after := #[{ on := 10, ground := Go.Ground.guard }], guard := some (10, true) } : Oper)) (v := undef) rfl (by kernel_rfl) (by kernel_rfl) (by kernel_rfl) (fun _ _ _ h => h) (Or.inr ⟨by rfl, rfl⟩) hHeld ?_
          try simp only [Act.put, List.setIfInBounds_toArray, List.set_cons_zero, List.set_cons_succ]
          refine wpAnyH_take (i := 13) (oi := ({ dst := some 79, op := Go.Op.move (Go.Operand.tmp 7), type := 3, pos := "laws.go:1065", after := #[{ on := 10, ground := Go.Ground.guard }], guard := some (10, true) } : Oper)) (v := undef) rfl (by kernel_rfl) (by kernel_rfl) (by kernel_rfl) (fun _ _ _ h => h) (Or.inr ⟨by rfl, rfl⟩) hHeld ?_
          try simp only [Act.put, List.setIfInBounds_toArray, List.set_cons_zero, List.set_cons_succ]
          refine wpAnyH_take (i := 14) (oi := ({ dst := some 80, op := Go.Op.indexAddr 26 (Go.Operand.tmp 78) (Go.Operand.tmp 79), type := 0, pos := "laws.go:1065", after := #[{ on := 12, ground := Go.Ground.data }, { on := 13, ground := Go.Ground.data }, { on := 10, ground := Go.Ground.guard }], guard := some (10, true) } : Oper)) (v := undef) rfl (by kernel_rfl) (by kernel_rfl) (by kernel_rfl) (fun _ _ _ h => h) (Or.inr ⟨by rfl, rfl⟩) hHeld ?_
          try simp only [Act.put, List.setIfInBounds_toArray, List.set_cons_zero, List.set_cons_succ]
          refine wpAnyH_take (i := 15) (oi := ({ dst := some 81, op := Go.Op.load 9 (Go.Operand.tmp 80), type := 9, pos := "laws.go:1065", after := #[{ on := 14, ground := Go.Ground.data }, { on := 10, ground := Go.Ground.guard }], guard := some (10, true) } : Oper)) (v := undef) rfl (by kernel_rfl) (by kernel_rfl) (by kernel_rfl) (fun _ _ _ h => h) (Or.inr ⟨by rfl, rfl⟩) hHeld ?_
          try simp only [Act.put, List.setIfInBounds_toArray, List.set_cons_zero, List.set_cons_succ]
          refine wpAnyH_take (i := 16) (oi := ({ dst := some 82, op := Go.Op.call { callee := Go.Callee.value (Go.Operand.func 31), args := #[Go.Operand.tmp 77, Go.Operand.tmp 81], argTypes := #[26, 9] }, type := 4, pos := "laws.go:1065", after := #[{ on := 11, ground := Go.Ground.data }, { on := 15, ground := Go.Ground.data }, { on := 10, ground := Go.Ground.chain }, { on := 10, ground := Go.Ground.guard }], guard := some (10, true) } : Oper)) (v := undef) rfl (by kernel_rfl) (by kernel_rfl) (by kernel_rfl) (fun _ _ _ h => h) (Or.inr ⟨by rfl, rfl⟩) hHeld ?_
          try simp only [Act.put, List.setIfInBounds_toArray, List.set_cons_zero, List.set_cons_succ]
          refine wpAnyH_take (i := 17) (oi := ({ dst := some 83, op := Go.Op.move (Go.Operand.tmp 3), type := 23, pos := "laws.go:1065", after := #[{ on := 10, ground := Go.Ground.guard }], guard := some (10, true) } : Oper)) (v := undef) rfl (by kernel_rfl) (by kernel_rfl) (by kernel_rfl) (fun _ _ _ h => h) (Or.inr ⟨by rfl, rfl⟩) hHeld ?_
          try simp only [Act.put, List.setIfInBounds_toArray, List.set_cons_zero, List.set_cons_succ]
          refine wpAnyH_take (i := 18) (oi := ({ dst := some 84, op := Go.Op.move (Go.Operand.tmp 4), type := 9, pos := "laws.go:1065", after := #[{ on := 10, ground := Go.Ground.guard }], guard := some (10, true) } : Oper)) (v := undef) rfl (by kernel_rfl) (by kernel_rfl) (by kernel_rfl) (fun _ _ _ h => h) (Or.inr ⟨by rfl, rfl⟩) hHeld ?_
          try simp only [Act.put, List.setIfInBounds_toArray, List.set_cons_zero, List.set_cons_succ]
          refine wpAnyH_take (i := 19) (oi := ({ dst := some 85, op := Go.Op.move (Go.Operand.tmp 5), type := 26, pos := "laws.go:1065", after := #[{ on := 10, ground := Go.Ground.guard }], guard := some (10, true) } : Oper)) (v := undef) rfl (by kernel_rfl) (by kernel_rfl) (by kernel_rfl) (fun _ _ _ h => h) (Or.inr ⟨by rfl, rfl⟩) hHeld ?_
          try simp only [Act.put, List.setIfInBounds_toArray, List.set_cons_zero, List.set_cons_succ]
          refine wpAnyH_take (i := 20) (oi := ({ dst := some 86, op := Go.Op.move (Go.Operand.tmp 7), type := 3, pos := "laws.go:1065", after := #[{ on := 10, ground := Go.Ground.guard }], guard := some (10, true) } : Oper)) (v := undef) rfl (by kernel_rfl) (by kernel_rfl) (by kernel_rfl) (fun _ _ _ h => h) (Or.inr ⟨by rfl, rfl⟩) hHeld ?_
          try simp only [Act.put, List.setIfInBounds_toArray, List.set_cons_zero, List.set_cons_succ]
          refine wpAnyH_take (i := 21) (oi := ({ dst := some 87, op := Go.Op.indexAddr 26 (Go.Operand.tmp 85) (Go.Operand.tmp 86), type := 0, pos := "laws.go:1065", after := #[{ on := 19, ground := Go.Ground.data }, { on := 20, ground := Go.Ground.data }, { on := 10, ground := Go.Ground.guard }], guard := some (10, true) } : Oper)) (v := undef) rfl (by kernel_rfl) (by kernel_rfl) (by kernel_rfl) (fun _ _ _ h => h) (Or.inr ⟨by rfl, rfl⟩) hHeld ?_
          try simp only [Act.put, List.setIfInBounds_toArray, List.set_cons_zero, List.set_cons_succ]
          refine wpAnyH_take (i := 22) (oi := ({ dst := some 88, op := Go.Op.load 9 (Go.Operand.tmp 87), type := 9, pos := "laws.go:1065", after := #[{ on := 21, ground := Go.Ground.data }, { on := 10, ground := Go.Ground.guard }], guard := some (10, true) } : Oper)) (v := undef) rfl (by kernel_rfl) (by kernel_rfl) (by kernel_rfl) (fun _ _ _ h => h) (Or.inr ⟨by rfl, rfl⟩) hHeld ?_
          try simp only [Act.put, List.setIfInBounds_toArray, List.set_cons_zero, List.set_cons_succ]
          refine wpAnyH_take (i := 23) (oi := ({ dst := some 89, op := Go.Op.call { callee := Go.Callee.value (Go.Operand.func 20), args := #[Go.Operand.tmp 83, Go.Operand.tmp 84, Go.Operand.tmp 88], argTypes := #[23, 9, 9] }, type := 4, pos := "laws.go:1065", after := #[{ on := 17, ground := Go.Ground.data }, { on := 18, ground := Go.Ground.data }, { on := 22, ground := Go.Ground.data }, { on := 16, ground := Go.Ground.chain }, { on := 10, ground := Go.Ground.guard }], guard := some (10, true) } : Oper)) (v := undef) rfl (by kernel_rfl) (by kernel_rfl) (by kernel_rfl) (fun _ _ _ h => h) (Or.inr ⟨by rfl, rfl⟩) hHeld ?_
          try simp only [Act.put, List.setIfInBounds_toArray, List.set_cons_zero, List.set_cons_succ]
          refine wpAnyH_take (i := 24) (oi := ({ dst := some 90, op := Go.Op.move (Go.Operand.tmp 89), type := 4, pos := "laws.go:1065", after := #[{ on := 23, ground := Go.Ground.data }, { on := 23, ground := Go.Ground.chain }, { on := 10, ground := Go.Ground.guard }], guard := some (10, true) } : Oper)) (v := undef) rfl (by kernel_rfl) (by kernel_rfl) (by kernel_rfl) (fun _ _ _ h => h) (Or.inr ⟨by rfl, rfl⟩) hHeld ?_
          try simp only [Act.put, List.setIfInBounds_toArray, List.set_cons_zero, List.set_cons_succ]
          refine wpAnyH_take (i := 25) (oi := ({ dst := some 91, op := Go.Op.move (Go.Operand.tmp 10), type := 3, pos := "laws.go:1065", after := #[{ on := 24, ground := Go.Ground.guard }], guard := some (24, true) } : Oper)) (v := undef) rfl (by kernel_rfl) (by kernel_rfl) (by kernel_rfl) (fun _ _ _ h => h) (Or.inr ⟨by rfl, rfl⟩) hHeld ?_
          try simp only [Act.put, List.setIfInBounds_toArray, List.set_cons_zero, List.set_cons_succ]
          refine wpAnyH_take (i := 26) (oi := ({ dst := some 92, op := Go.Op.binOp Go.BinOp.neq 3 (Go.Operand.tmp 91) (Go.Operand.const (Go.Value.int Go.IntKind.i64 3)) 3, type := 4, pos := "laws.go:1065", after := #[{ on := 25, ground := Go.Ground.data }, { on := 24, ground := Go.Ground.guard }], guard := some (24, true) } : Oper)) (v := undef) rfl (by kernel_rfl) (by kernel_rfl) (by kernel_rfl) (fun _ _ _ h => h) (Or.inr ⟨by rfl, rfl⟩) hHeld ?_
          try simp only [Act.put, List.setIfInBounds_toArray, List.set_cons_zero, List.set_cons_succ]
          refine wpAnyH_take (i := 27) (oi := ({ dst := some 93, op := Go.Op.pick (Go.Operand.tmp 90) (Go.Operand.tmp 92) (Go.Operand.const (Go.Value.bool false)), type := 4, pos := "laws.go:1065", after := #[{ on := 24, ground := Go.Ground.data }, { on := 26, ground := Go.Ground.data }, { on := 10, ground := Go.Ground.guard }], guard := some (10, true) } : Oper)) (v := undef) rfl (by kernel_rfl) (by kernel_rfl) (by kernel_rfl) (fun _ _ _ h => h) (Or.inr ⟨by rfl, rfl⟩) hHeld ?_
          try simp only [Act.put, List.setIfInBounds_toArray, List.set_cons_zero, List.set_cons_succ]
          refine wpAnyH_take (i := 28) (oi := ({ dst := some 94, op := Go.Op.binOp Go.BinOp.neq 4 (Go.Operand.tmp 82) (Go.Operand.tmp 93) 4, type := 4, pos := "laws.go:1065", after := #[{ on := 16, ground := Go.Ground.data }, { on := 27, ground := Go.Ground.data }, { on := 10, ground := Go.Ground.guard }], guard := some (10, true) } : Oper)) (v := undef) rfl (by kernel_rfl) (by kernel_rfl) (by kernel_rfl) (fun _ _ _ h => h) (Or.inr ⟨by rfl, rfl⟩) hHeld ?_
          try simp only [Act.put, List.setIfInBounds_toArray, List.set_cons_zero, List.set_cons_succ]
          refine wpAnyH_take (i := 29) (oi := ({ dst := some 95, op := Go.Op.pick (Go.Operand.tmp 76) (Go.Operand.tmp 94) (Go.Operand.const (Go.Value.bool false)), type := 4, pos := "laws.go:1065", after := #[{ on := 10, ground := Go.Ground.data }, { on := 28, ground := Go.Ground.data }], guard := none } : Oper)) (v := ?_) rfl (by kernel_rfl) (by kernel_rfl) (by kernel_rfl) (fun _ _ _ h => h) (Or.inl ⟨by rfl, ?_⟩) hHeld ?_
          rotate_left
          · (intro w hSw; (try dsimp only at hSw); go_simp; try with_reducible rfl)
          try simp only [Act.put, List.setIfInBounds_toArray, List.set_cons_zero, List.set_cons_succ]
          refine wpAnyH_done (by kernel_rfl) ?_ _
          go_wp2
          go_roundw
          case rel => exact ⟨k + 1, by omega, by go_num, HW9⟩
          case measure => simp [intOf]; omega
        | true =>
          have HJ0 : Hid (hasB x R = (letsW L s x && !(decide (kd = 3)))) := HJX.out (HNR2.out he)
          clear HJX HNR2
          cases hV : letsW L s x with
          | false =>
            have HV : Hid (letsW L s x = false) := hV
            have HJ : Hid (hasB x R = false) := by show _ = _; rw [HJ0.out, hV]; rfl
            clear hV HJ0
            go_wp2_with fail
            refine wp_region_held_drew (S := (fun w' => w'.cell? ⟨G, 0, none⟩ = some (.string A.house) ∧ w'.cell? ⟨G, 1, none⟩ = some (.slice a6 A.parts.length c6) ∧ w'.cell? ⟨G, 2, none⟩ = some (.bool A.asks) ∧ w'.cell? ⟨G, 3, none⟩ = some (.string A.ask) ∧ w'.cell? ⟨b1, o1 + k, none⟩ = some (.string x))) (by kernel_rfl) ⟨d0, d1, d2, d3, c8⟩ (fun hHeld => ?_)
            refine wpAnyH_take (i := 0) (oi := ({ dst := some 66, op := Go.Op.move (Go.Operand.tmp 9), type := 4, pos := "laws.go:1065", after := #[], guard := none } : Oper)) (v := ?_) rfl (by kernel_rfl) (by kernel_rfl) (by kernel_rfl) (fun _ _ _ h => h) (Or.inl ⟨by rfl, ?_⟩) hHeld ?_
            rotate_left
            · (intro w hSw; (try dsimp only at hSw); go_simp; try with_reducible rfl)
            try simp only [Act.put, List.setIfInBounds_toArray, List.set_cons_zero, List.set_cons_succ]
            refine wpAnyH_take (i := 1) (oi := ({ dst := some 67, op := Go.Op.move (Go.Operand.tmp 66), type := 4, pos := "laws.go:1065", after := #[{ on := 0, ground := Go.Ground.data }], guard := none } : Oper)) (v := ?_) rfl (by kernel_rfl) (by kernel_rfl) (by kernel_rfl) (fun _ _ _ h => h) (Or.inl ⟨by rfl, ?_⟩) hHeld ?_
            rotate_left
            · (intro w hSw; (try dsimp only at hSw); go_simp; try with_reducible rfl)
            try simp only [Act.put, List.setIfInBounds_toArray, List.set_cons_zero, List.set_cons_succ]
            refine wpAnyH_take (i := 2) (oi := ({ dst := some 68, op := Go.Op.load 41 (Go.Operand.tmp 8), type := 41, pos := "laws.go:1065", after := #[{ on := 1, ground := Go.Ground.guard }], guard := some (1, true) } : Oper)) (v := ?_) rfl (by kernel_rfl) (by kernel_rfl) (by kernel_rfl) (fun _ _ _ h => h) (Or.inl ⟨by rfl, ?_⟩) hHeld ?_
            rotate_left
            · (intro w hSw; (try dsimp only at hSw); go_simp; try with_reducible rfl)
            try simp only [Act.put, List.setIfInBounds_toArray, List.set_cons_zero, List.set_cons_succ]
            refine wpAnyH_take (i := 4) (oi := ({ dst := some 70, op := Go.Op.move (Go.Operand.tmp 5), type := 26, pos := "laws.go:1065", after := #[{ on := 1, ground := Go.Ground.guard }], guard := some (1, true) } : Oper)) (v := ?_) rfl (by kernel_rfl) (by kernel_rfl) (by kernel_rfl) (fun _ _ _ h => h) (Or.inl ⟨by rfl, ?_⟩) hHeld ?_
            rotate_left
            · (intro w hSw; (try dsimp only at hSw); go_simp; try with_reducible rfl)
            try simp only [Act.put, List.setIfInBounds_toArray, List.set_cons_zero, List.set_cons_succ]
            refine wpAnyH_take (i := 5) (oi := ({ dst := some 71, op := Go.Op.move (Go.Operand.tmp 7), type := 3, pos := "laws.go:1065", after := #[{ on := 1, ground := Go.Ground.guard }], guard := some (1, true) } : Oper)) (v := ?_) rfl (by kernel_rfl) (by kernel_rfl) (by kernel_rfl) (fun _ _ _ h => h) (Or.inl ⟨by rfl, ?_⟩) hHeld ?_
            rotate_left
            · (intro w hSw; (try dsimp only at hSw); go_simp; try with_reducible rfl)
            try simp only [Act.put, List.setIfInBounds_toArray, List.set_cons_zero, List.set_cons_succ]
            refine wpAnyH_take (i := 6) (oi := ({ dst := some 72, op := Go.Op.indexAddr 26 (Go.Operand.tmp 70) (Go.Operand.tmp 71), type := 0, pos := "laws.go:1065", after := #[{ on := 4, ground := Go.Ground.data }, { on := 5, ground := Go.Ground.data }, { on := 1, ground := Go.Ground.guard }], guard := some (1, true) } : Oper)) (v := ?_) rfl (by kernel_rfl) (by kernel_rfl) (by kernel_rfl) (fun _ _ _ h => h) (Or.inl ⟨by rfl, ?_⟩) hHeld ?_
            rotate_left
            · (intro w hSw; (try dsimp only at hSw); go_simp; try with_reducible rfl)
            try simp only [Act.put, List.setIfInBounds_toArray, List.set_cons_zero, List.set_cons_succ]
            refine wpAnyH_take (i := 7) (oi := ({ dst := some 73, op := Go.Op.load 9 (Go.Operand.tmp 72), type := 9, pos := "laws.go:1065", after := #[{ on := 6, ground := Go.Ground.data }, { on := 1, ground := Go.Ground.guard }], guard := some (1, true) } : Oper)) (v := ?_) rfl (by kernel_rfl) (by kernel_rfl) (by kernel_rfl) (fun _ _ _ h => h) (Or.inl ⟨by rfl, ?_⟩) hHeld ?_
            rotate_left
            · (intro w hSw; (try dsimp only at hSw); go_simp; try with_reducible rfl)
            try simp only [Act.put, List.setIfInBounds_toArray, List.set_cons_zero, List.set_cons_succ]
            refine wpAnyH_ready (rs := [3]) (by kernel_rfl) (by simp) ?_
            refine AllReadyH.cons rfl (fun K hK => ?_) AllReadyH.nil
            go_simp
            refine (HTX.out w8.drew (HS8.out.keep fun _ _ => rfl)).mono ?_
            rintro e w9 ⟨rfl, hb9⟩
            have hbd : Below w8.heap.size w8 w9 := Below.trans ((Below.refl _ w8).drew) (hb9.mono (by simp))
            have HW9 : Hid (Below w5.heap.size w5 w9) := HW8.out.trans (hbd.mono HW8.out.size)
            have HB9 : Hid (Below w.heap.size w w9) := HB8.out.trans (hbd.mono HB8.out.size)
            have HX9 : Hid (Bs 41 w9 G #[.string A.house, .slice a6 A.parts.length c6, .bool A.asks, .string A.ask]) := HX8.out.keep fun k hk => hbd.block k hk
            have HC9 : Hid (w9.cell? ⟨b1, o1 + k, none⟩ = some (.string x)) := (hbd.cell (St.cell_block c8)).trans c8
            refine hK.out _ _ ?_ (fun hHeld => ?_)
            · exact ⟨HX9.out.cell 0 rfl, HX9.out.cell 1 rfl, HX9.out.cell 2 rfl, HX9.out.cell 3 rfl, HC9.out⟩
            clear hK K hb9 hbd
            refine wpAnyH_take (i := 8) (oi := ({ dst := some 74, op := Go.Op.binOp Go.BinOp.eql 9 (Go.Operand.tmp 69) (Go.Operand.tmp 73) 9, type := 4, pos := "laws.go:1065", after := #[{ on := 3, ground := Go.Ground.data }, { on := 7, ground := Go.Ground.data }, { on := 1, ground := Go.Ground.guard }], guard := some (1, true) } : Oper)) (v := ?_) rfl (by kernel_rfl) (by kernel_rfl) (by kernel_rfl) (fun _ _ _ h => h) (Or.inl ⟨by rfl, ?_⟩) hHeld ?_
            rotate_left
            · (intro w hSw; (try dsimp only at hSw); go_simp; try with_reducible rfl)
            try simp only [Act.put, List.setIfInBounds_toArray, List.set_cons_zero, List.set_cons_succ]
            refine wpAnyH_take (i := 9) (oi := ({ dst := some 75, op := Go.Op.pick (Go.Operand.tmp 67) (Go.Operand.tmp 74) (Go.Operand.const (Go.Value.bool false)), type := 4, pos := "laws.go:1065", after := #[{ on := 1, ground := Go.Ground.data }, { on := 8, ground := Go.Ground.data }], guard := none } : Oper)) (v := ?_) rfl (by kernel_rfl) (by kernel_rfl) (by kernel_rfl) (fun _ _ _ h => h) (Or.inl ⟨by rfl, ?_⟩) hHeld ?_
            rotate_left
            · (intro w hSw; (try dsimp only at hSw); go_simp; try with_reducible rfl)
            try simp only [Act.put, List.setIfInBounds_toArray, List.set_cons_zero, List.set_cons_succ]
            refine wpAnyH_take (i := 10) (oi := ({ dst := some 76, op := Go.Op.move (Go.Operand.tmp 75), type := 4, pos := "laws.go:1065", after := #[{ on := 9, ground := Go.Ground.data }, { on := 3, ground := Go.Ground.chain }], guard := none } : Oper)) (v := ?_) rfl (by kernel_rfl) (by kernel_rfl) (by kernel_rfl) (fun _ _ _ h => h) (Or.inl ⟨by rfl, ?_⟩) hHeld ?_
            rotate_left
            · (intro w hSw; (try dsimp only at hSw); go_simp; try with_reducible rfl)
            try simp only [Act.put, List.setIfInBounds_toArray, List.set_cons_zero, List.set_cons_succ]
            refine wpAnyH_take (i := 11) (oi := ({ dst := some 77, op := Go.Op.move (Go.Operand.tmp 6), type := 26, pos := "laws.go:1065", after := #[{ on := 10, ground := Go.Ground.guard }], guard := some (10, true) } : Oper)) (v := ?_) rfl (by kernel_rfl) (by kernel_rfl) (by kernel_rfl) (fun _ _ _ h => h) (Or.inl ⟨by rfl, ?_⟩) hHeld ?_
            rotate_left
            · (intro w hSw; (try dsimp only at hSw); go_simp; try with_reducible rfl)
            try simp only [Act.put, List.setIfInBounds_toArray, List.set_cons_zero, List.set_cons_succ]
            refine wpAnyH_take (i := 12) (oi := ({ dst := some 78, op := Go.Op.move (Go.Operand.tmp 5), type := 26, pos := "laws.go:1065", after := #[{ on := 10, ground := Go.Ground.guard }], guard := some (10, true) } : Oper)) (v := ?_) rfl (by kernel_rfl) (by kernel_rfl) (by kernel_rfl) (fun _ _ _ h => h) (Or.inl ⟨by rfl, ?_⟩) hHeld ?_
            rotate_left
            · (intro w hSw; (try dsimp only at hSw); go_simp; try with_reducible rfl)
            try simp only [Act.put, List.setIfInBounds_toArray, List.set_cons_zero, List.set_cons_succ]
            refine wpAnyH_take (i := 13) (oi := ({ dst := some 79, op := Go.Op.move (Go.Operand.tmp 7), type := 3, pos := "laws.go:1065", after := #[{ on := 10, ground := Go.Ground.guard }], guard := some (10, true) } : Oper)) (v := ?_) rfl (by kernel_rfl) (by kernel_rfl) (by kernel_rfl) (fun _ _ _ h => h) (Or.inl ⟨by rfl, ?_⟩) hHeld ?_
            rotate_left
            · (intro w hSw; (try dsimp only at hSw); go_simp; try with_reducible rfl)
            try simp only [Act.put, List.setIfInBounds_toArray, List.set_cons_zero, List.set_cons_succ]
            refine wpAnyH_take (i := 14) (oi := ({ dst := some 80, op := Go.Op.indexAddr 26 (Go.Operand.tmp 78) (Go.Operand.tmp 79), type := 0, pos := "laws.go:1065", after := #[{ on := 12, ground := Go.Ground.data }, { on := 13, ground := Go.Ground.data }, { on := 10, ground := Go.Ground.guard }], guard := some (10, true) } : Oper)) (v := ?_) rfl (by kernel_rfl) (by kernel_rfl) (by kernel_rfl) (fun _ _ _ h => h) (Or.inl ⟨by rfl, ?_⟩) hHeld ?_
            rotate_left
            · (intro w hSw; (try dsimp only at hSw); go_simp; try with_reducible rfl)
            try simp only [Act.put, List.setIfInBounds_toArray, List.set_cons_zero, List.set_cons_succ]
            refine wpAnyH_take (i := 15) (oi := ({ dst := some 81, op := Go.Op.load 9 (Go.Operand.tmp 80), type := 9, pos := "laws.go:1065", after := #[{ on := 14, ground := Go.Ground.data }, { on := 10, ground := Go.Ground.guard }], guard := some (10, true) } : Oper)) (v := ?_) rfl (by kernel_rfl) (by kernel_rfl) (by kernel_rfl) (fun _ _ _ h => h) (Or.inl ⟨by rfl, ?_⟩) hHeld ?_
            rotate_left
            · (intro w hSw; (try dsimp only at hSw); go_simp; try with_reducible rfl)
            try simp only [Act.put, List.setIfInBounds_toArray, List.set_cons_zero, List.set_cons_succ]
            refine wpAnyH_take (i := 17) (oi := ({ dst := some 83, op := Go.Op.move (Go.Operand.tmp 3), type := 23, pos := "laws.go:1065", after := #[{ on := 10, ground := Go.Ground.guard }], guard := some (10, true) } : Oper)) (v := ?_) rfl (by kernel_rfl) (by kernel_rfl) (by kernel_rfl) (fun _ _ _ h => h) (Or.inl ⟨by rfl, ?_⟩) hHeld ?_
            rotate_left
            · (intro w hSw; (try dsimp only at hSw); go_simp; try with_reducible rfl)
            try simp only [Act.put, List.setIfInBounds_toArray, List.set_cons_zero, List.set_cons_succ]
            refine wpAnyH_take (i := 18) (oi := ({ dst := some 84, op := Go.Op.move (Go.Operand.tmp 4), type := 9, pos := "laws.go:1065", after := #[{ on := 10, ground := Go.Ground.guard }], guard := some (10, true) } : Oper)) (v := ?_) rfl (by kernel_rfl) (by kernel_rfl) (by kernel_rfl) (fun _ _ _ h => h) (Or.inl ⟨by rfl, ?_⟩) hHeld ?_
            rotate_left
            · (intro w hSw; (try dsimp only at hSw); go_simp; try with_reducible rfl)
            try simp only [Act.put, List.setIfInBounds_toArray, List.set_cons_zero, List.set_cons_succ]
            refine wpAnyH_take (i := 19) (oi := ({ dst := some 85, op := Go.Op.move (Go.Operand.tmp 5), type := 26, pos := "laws.go:1065", after := #[{ on := 10, ground := Go.Ground.guard }], guard := some (10, true) } : Oper)) (v := ?_) rfl (by kernel_rfl) (by kernel_rfl) (by kernel_rfl) (fun _ _ _ h => h) (Or.inl ⟨by rfl, ?_⟩) hHeld ?_
            rotate_left
            · (intro w hSw; (try dsimp only at hSw); go_simp; try with_reducible rfl)
            try simp only [Act.put, List.setIfInBounds_toArray, List.set_cons_zero, List.set_cons_succ]
            refine wpAnyH_take (i := 20) (oi := ({ dst := some 86, op := Go.Op.move (Go.Operand.tmp 7), type := 3, pos := "laws.go:1065", after := #[{ on := 10, ground := Go.Ground.guard }], guard := some (10, true) } : Oper)) (v := ?_) rfl (by kernel_rfl) (by kernel_rfl) (by kernel_rfl) (fun _ _ _ h => h) (Or.inl ⟨by rfl, ?_⟩) hHeld ?_
            rotate_left
            · (intro w hSw; (try dsimp only at hSw); go_simp; try with_reducible rfl)
            try simp only [Act.put, List.setIfInBounds_toArray, List.set_cons_zero, List.set_cons_succ]
            refine wpAnyH_take (i := 21) (oi := ({ dst := some 87, op := Go.Op.indexAddr 26 (Go.Operand.tmp 85) (Go.Operand.tmp 86), type := 0, pos := "laws.go:1065", after := #[{ on := 19, ground := Go.Ground.data }, { on := 20, ground := Go.Ground.data }, { on := 10, ground := Go.Ground.guard }], guard := some (10, true) } : Oper)) (v := ?_) rfl (by kernel_rfl) (by kernel_rfl) (by kernel_rfl) (fun _ _ _ h => h) (Or.inl ⟨by rfl, ?_⟩) hHeld ?_
            rotate_left
            · (intro w hSw; (try dsimp only at hSw); go_simp; try with_reducible rfl)
            try simp only [Act.put, List.setIfInBounds_toArray, List.set_cons_zero, List.set_cons_succ]
            refine wpAnyH_take (i := 22) (oi := ({ dst := some 88, op := Go.Op.load 9 (Go.Operand.tmp 87), type := 9, pos := "laws.go:1065", after := #[{ on := 21, ground := Go.Ground.data }, { on := 10, ground := Go.Ground.guard }], guard := some (10, true) } : Oper)) (v := ?_) rfl (by kernel_rfl) (by kernel_rfl) (by kernel_rfl) (fun _ _ _ h => h) (Or.inl ⟨by rfl, ?_⟩) hHeld ?_
            rotate_left
            · (intro w hSw; (try dsimp only at hSw); go_simp; try with_reducible rfl)
            try simp only [Act.put, List.setIfInBounds_toArray, List.set_cons_zero, List.set_cons_succ]
            refine wpAnyH_ready (rs := [16]) (by kernel_rfl) (by simp) ?_
            refine AllReadyH.cons rfl (fun K hK => ?_) AllReadyH.nil
            go_simp
            refine (has_n a3 c3 _ R x w9 rfl (HS5.out.below HW9.out) (by omega)).mono ?_
            rintro e w10 ⟨rfl, e10⟩
            have e11 := e10.symm
            subst e11
            rw [HJ.out]
            refine hK.out _ _ ?_ (fun hHeld => ?_)
            · exact ⟨HX9.out.cell 0 rfl, HX9.out.cell 1 rfl, HX9.out.cell 2 rfl, HX9.out.cell 3 rfl, HC9.out⟩
            clear hK K
            refine wpAnyH_ready (rs := [23]) (by kernel_rfl) (by simp) ?_
            refine AllReadyH.cons rfl (fun K hK => ?_) AllReadyH.nil
            go_simp
            refine (implWLets_any a1 cc L s x _ (HM.out.below HB9.out) (HI5.out.below HW9.out) HL.out (all_asc L) HR.out (by unfold maxLen; omega) (by omega) trivial).mono ?_
            rintro e w12 ⟨rfl, hb12⟩
            rw [HV.out]
            have HW12 : Hid (Below w5.heap.size w5 w12) := HW9.out.trans (hb12.mono HW9.out.size)
            have HX12 : Hid (Bs 41 w12 G #[.string A.house, .slice a6 A.parts.length c6, .bool A.asks, .string A.ask]) := HX9.out.keep fun k hk => hb12.block k hk
            have HC12 : Hid (w12.cell? ⟨b1, o1 + k, none⟩ = some (.string x)) := (hb12.cell (St.cell_block HC9.out)).trans HC9.out
            refine hK.out _ _ ?_ (fun hHeld => ?_)
            · exact ⟨HX12.out.cell 0 rfl, HX12.out.cell 1 rfl, HX12.out.cell 2 rfl, HX12.out.cell 3 rfl, HC12.out⟩
            clear hK K hb12
            refine wpAnyH_take (i := 24) (oi := ({ dst := some 90, op := Go.Op.move (Go.Operand.tmp 89), type := 4, pos := "laws.go:1065", after := #[{ on := 23, ground := Go.Ground.data }, { on := 23, ground := Go.Ground.chain }, { on := 10, ground := Go.Ground.guard }], guard := some (10, true) } : Oper)) (v := ?_) rfl (by kernel_rfl) (by kernel_rfl) (by kernel_rfl) (fun _ _ _ h => h) (Or.inl ⟨by rfl, ?_⟩) hHeld ?_
            rotate_left
            · (intro w hSw; (try dsimp only at hSw); go_simp; try with_reducible rfl)
            try simp only [Act.put, List.setIfInBounds_toArray, List.set_cons_zero, List.set_cons_succ]
            refine wpAnyH_take (i := 25) (oi := ({ dst := some 91, op := Go.Op.move (Go.Operand.tmp 10), type := 3, pos := "laws.go:1065", after := #[{ on := 24, ground := Go.Ground.guard }], guard := some (24, true) } : Oper)) (v := undef) rfl (by kernel_rfl) (by kernel_rfl) (by kernel_rfl) (fun _ _ _ h => h) (Or.inr ⟨by rfl, rfl⟩) hHeld ?_
            try simp only [Act.put, List.setIfInBounds_toArray, List.set_cons_zero, List.set_cons_succ]
            refine wpAnyH_take (i := 26) (oi := ({ dst := some 92, op := Go.Op.binOp Go.BinOp.neq 3 (Go.Operand.tmp 91) (Go.Operand.const (Go.Value.int Go.IntKind.i64 3)) 3, type := 4, pos := "laws.go:1065", after := #[{ on := 25, ground := Go.Ground.data }, { on := 24, ground := Go.Ground.guard }], guard := some (24, true) } : Oper)) (v := undef) rfl (by kernel_rfl) (by kernel_rfl) (by kernel_rfl) (fun _ _ _ h => h) (Or.inr ⟨by rfl, rfl⟩) hHeld ?_
            try simp only [Act.put, List.setIfInBounds_toArray, List.set_cons_zero, List.set_cons_succ]
            refine wpAnyH_take (i := 27) (oi := ({ dst := some 93, op := Go.Op.pick (Go.Operand.tmp 90) (Go.Operand.tmp 92) (Go.Operand.const (Go.Value.bool false)), type := 4, pos := "laws.go:1065", after := #[{ on := 24, ground := Go.Ground.data }, { on := 26, ground := Go.Ground.data }, { on := 10, ground := Go.Ground.guard }], guard := some (10, true) } : Oper)) (v := ?_) rfl (by kernel_rfl) (by kernel_rfl) (by kernel_rfl) (fun _ _ _ h => h) (Or.inl ⟨by rfl, ?_⟩) hHeld ?_
            rotate_left
            · (intro w hSw; (try dsimp only at hSw); go_simp; try with_reducible rfl)
            try simp only [Act.put, List.setIfInBounds_toArray, List.set_cons_zero, List.set_cons_succ]
            refine wpAnyH_take (i := 28) (oi := ({ dst := some 94, op := Go.Op.binOp Go.BinOp.neq 4 (Go.Operand.tmp 82) (Go.Operand.tmp 93) 4, type := 4, pos := "laws.go:1065", after := #[{ on := 16, ground := Go.Ground.data }, { on := 27, ground := Go.Ground.data }, { on := 10, ground := Go.Ground.guard }], guard := some (10, true) } : Oper)) (v := ?_) rfl (by kernel_rfl) (by kernel_rfl) (by kernel_rfl) (fun _ _ _ h => h) (Or.inl ⟨by rfl, ?_⟩) hHeld ?_
            rotate_left
            · (intro w hSw; (try dsimp only at hSw); go_simp; try with_reducible rfl)
            try simp only [Act.put, List.setIfInBounds_toArray, List.set_cons_zero, List.set_cons_succ]
            refine wpAnyH_take (i := 29) (oi := ({ dst := some 95, op := Go.Op.pick (Go.Operand.tmp 76) (Go.Operand.tmp 94) (Go.Operand.const (Go.Value.bool false)), type := 4, pos := "laws.go:1065", after := #[{ on := 10, ground := Go.Ground.data }, { on := 28, ground := Go.Ground.data }], guard := none } : Oper)) (v := ?_) rfl (by kernel_rfl) (by kernel_rfl) (by kernel_rfl) (fun _ _ _ h => h) (Or.inl ⟨by rfl, ?_⟩) hHeld ?_
            rotate_left
            · (intro w hSw; (try dsimp only at hSw); go_simp; try with_reducible rfl)
            try simp only [Act.put, List.setIfInBounds_toArray, List.set_cons_zero, List.set_cons_succ]
            refine wpAnyH_done (by kernel_rfl) ?_ _
            go_wp2
            go_roundw
            case rel => exact ⟨k + 1, by omega, by go_num, HW12⟩
            case measure => simp [intOf]; omega
          | true =>
            have HV : Hid (letsW L s x = true) := hV
            by_cases h3 : kd = 3
            · have HJ : Hid (hasB x R = false) := by show _ = _; rw [HJ0.out, hV, decide_eq_true h3]; rfl
              clear hV HJ0
              subst h3
              go_wp2_with fail
              refine wp_region_held_drew (S := (fun w' => w'.cell? ⟨G, 0, none⟩ = some (.string A.house) ∧ w'.cell? ⟨G, 1, none⟩ = some (.slice a6 A.parts.length c6) ∧ w'.cell? ⟨G, 2, none⟩ = some (.bool A.asks) ∧ w'.cell? ⟨G, 3, none⟩ = some (.string A.ask) ∧ w'.cell? ⟨b1, o1 + k, none⟩ = some (.string x))) (by kernel_rfl) ⟨d0, d1, d2, d3, c8⟩ (fun hHeld => ?_)
              refine wpAnyH_take (i := 0) (oi := ({ dst := some 66, op := Go.Op.move (Go.Operand.tmp 9), type := 4, pos := "laws.go:1065", after := #[], guard := none } : Oper)) (v := ?_) rfl (by kernel_rfl) (by kernel_rfl) (by kernel_rfl) (fun _ _ _ h => h) (Or.inl ⟨by rfl, ?_⟩) hHeld ?_
              rotate_left
              · (intro w hSw; (try dsimp only at hSw); go_simp; try with_reducible rfl)
              try simp only [Act.put, List.setIfInBounds_toArray, List.set_cons_zero, List.set_cons_succ]
              refine wpAnyH_take (i := 1) (oi := ({ dst := some 67, op := Go.Op.move (Go.Operand.tmp 66), type := 4, pos := "laws.go:1065", after := #[{ on := 0, ground := Go.Ground.data }], guard := none } : Oper)) (v := ?_) rfl (by kernel_rfl) (by kernel_rfl) (by kernel_rfl) (fun _ _ _ h => h) (Or.inl ⟨by rfl, ?_⟩) hHeld ?_
              rotate_left
              · (intro w hSw; (try dsimp only at hSw); go_simp; try with_reducible rfl)
              try simp only [Act.put, List.setIfInBounds_toArray, List.set_cons_zero, List.set_cons_succ]
              refine wpAnyH_take (i := 2) (oi := ({ dst := some 68, op := Go.Op.load 41 (Go.Operand.tmp 8), type := 41, pos := "laws.go:1065", after := #[{ on := 1, ground := Go.Ground.guard }], guard := some (1, true) } : Oper)) (v := ?_) rfl (by kernel_rfl) (by kernel_rfl) (by kernel_rfl) (fun _ _ _ h => h) (Or.inl ⟨by rfl, ?_⟩) hHeld ?_
              rotate_left
              · (intro w hSw; (try dsimp only at hSw); go_simp; try with_reducible rfl)
              try simp only [Act.put, List.setIfInBounds_toArray, List.set_cons_zero, List.set_cons_succ]
              refine wpAnyH_take (i := 4) (oi := ({ dst := some 70, op := Go.Op.move (Go.Operand.tmp 5), type := 26, pos := "laws.go:1065", after := #[{ on := 1, ground := Go.Ground.guard }], guard := some (1, true) } : Oper)) (v := ?_) rfl (by kernel_rfl) (by kernel_rfl) (by kernel_rfl) (fun _ _ _ h => h) (Or.inl ⟨by rfl, ?_⟩) hHeld ?_
              rotate_left
              · (intro w hSw; (try dsimp only at hSw); go_simp; try with_reducible rfl)
              try simp only [Act.put, List.setIfInBounds_toArray, List.set_cons_zero, List.set_cons_succ]
              refine wpAnyH_take (i := 5) (oi := ({ dst := some 71, op := Go.Op.move (Go.Operand.tmp 7), type := 3, pos := "laws.go:1065", after := #[{ on := 1, ground := Go.Ground.guard }], guard := some (1, true) } : Oper)) (v := ?_) rfl (by kernel_rfl) (by kernel_rfl) (by kernel_rfl) (fun _ _ _ h => h) (Or.inl ⟨by rfl, ?_⟩) hHeld ?_
              rotate_left
              · (intro w hSw; (try dsimp only at hSw); go_simp; try with_reducible rfl)
              try simp only [Act.put, List.setIfInBounds_toArray, List.set_cons_zero, List.set_cons_succ]
              refine wpAnyH_take (i := 6) (oi := ({ dst := some 72, op := Go.Op.indexAddr 26 (Go.Operand.tmp 70) (Go.Operand.tmp 71), type := 0, pos := "laws.go:1065", after := #[{ on := 4, ground := Go.Ground.data }, { on := 5, ground := Go.Ground.data }, { on := 1, ground := Go.Ground.guard }], guard := some (1, true) } : Oper)) (v := ?_) rfl (by kernel_rfl) (by kernel_rfl) (by kernel_rfl) (fun _ _ _ h => h) (Or.inl ⟨by rfl, ?_⟩) hHeld ?_
              rotate_left
              · (intro w hSw; (try dsimp only at hSw); go_simp; try with_reducible rfl)
              try simp only [Act.put, List.setIfInBounds_toArray, List.set_cons_zero, List.set_cons_succ]
              refine wpAnyH_take (i := 7) (oi := ({ dst := some 73, op := Go.Op.load 9 (Go.Operand.tmp 72), type := 9, pos := "laws.go:1065", after := #[{ on := 6, ground := Go.Ground.data }, { on := 1, ground := Go.Ground.guard }], guard := some (1, true) } : Oper)) (v := ?_) rfl (by kernel_rfl) (by kernel_rfl) (by kernel_rfl) (fun _ _ _ h => h) (Or.inl ⟨by rfl, ?_⟩) hHeld ?_
              rotate_left
              · (intro w hSw; (try dsimp only at hSw); go_simp; try with_reducible rfl)
              try simp only [Act.put, List.setIfInBounds_toArray, List.set_cons_zero, List.set_cons_succ]
              refine wpAnyH_ready (rs := [3]) (by kernel_rfl) (by simp) ?_
              refine AllReadyH.cons rfl (fun K hK => ?_) AllReadyH.nil
              go_simp
              refine (HTX.out w8.drew (HS8.out.keep fun _ _ => rfl)).mono ?_
              rintro e w9 ⟨rfl, hb9⟩
              have hbd : Below w8.heap.size w8 w9 := Below.trans ((Below.refl _ w8).drew) (hb9.mono (by simp))
              have HW9 : Hid (Below w5.heap.size w5 w9) := HW8.out.trans (hbd.mono HW8.out.size)
              have HB9 : Hid (Below w.heap.size w w9) := HB8.out.trans (hbd.mono HB8.out.size)
              have HX9 : Hid (Bs 41 w9 G #[.string A.house, .slice a6 A.parts.length c6, .bool A.asks, .string A.ask]) := HX8.out.keep fun k hk => hbd.block k hk
              have HC9 : Hid (w9.cell? ⟨b1, o1 + k, none⟩ = some (.string x)) := (hbd.cell (St.cell_block c8)).trans c8
              refine hK.out _ _ ?_ (fun hHeld => ?_)
              · exact ⟨HX9.out.cell 0 rfl, HX9.out.cell 1 rfl, HX9.out.cell 2 rfl, HX9.out.cell 3 rfl, HC9.out⟩
              clear hK K hb9 hbd
              refine wpAnyH_take (i := 8) (oi := ({ dst := some 74, op := Go.Op.binOp Go.BinOp.eql 9 (Go.Operand.tmp 69) (Go.Operand.tmp 73) 9, type := 4, pos := "laws.go:1065", after := #[{ on := 3, ground := Go.Ground.data }, { on := 7, ground := Go.Ground.data }, { on := 1, ground := Go.Ground.guard }], guard := some (1, true) } : Oper)) (v := ?_) rfl (by kernel_rfl) (by kernel_rfl) (by kernel_rfl) (fun _ _ _ h => h) (Or.inl ⟨by rfl, ?_⟩) hHeld ?_
              rotate_left
              · (intro w hSw; (try dsimp only at hSw); go_simp; try with_reducible rfl)
              try simp only [Act.put, List.setIfInBounds_toArray, List.set_cons_zero, List.set_cons_succ]
              refine wpAnyH_take (i := 9) (oi := ({ dst := some 75, op := Go.Op.pick (Go.Operand.tmp 67) (Go.Operand.tmp 74) (Go.Operand.const (Go.Value.bool false)), type := 4, pos := "laws.go:1065", after := #[{ on := 1, ground := Go.Ground.data }, { on := 8, ground := Go.Ground.data }], guard := none } : Oper)) (v := ?_) rfl (by kernel_rfl) (by kernel_rfl) (by kernel_rfl) (fun _ _ _ h => h) (Or.inl ⟨by rfl, ?_⟩) hHeld ?_
              rotate_left
              · (intro w hSw; (try dsimp only at hSw); go_simp; try with_reducible rfl)
              try simp only [Act.put, List.setIfInBounds_toArray, List.set_cons_zero, List.set_cons_succ]
              refine wpAnyH_take (i := 10) (oi := ({ dst := some 76, op := Go.Op.move (Go.Operand.tmp 75), type := 4, pos := "laws.go:1065", after := #[{ on := 9, ground := Go.Ground.data }, { on := 3, ground := Go.Ground.chain }], guard := none } : Oper)) (v := ?_) rfl (by kernel_rfl) (by kernel_rfl) (by kernel_rfl) (fun _ _ _ h => h) (Or.inl ⟨by rfl, ?_⟩) hHeld ?_
              rotate_left
              · (intro w hSw; (try dsimp only at hSw); go_simp; try with_reducible rfl)
              try simp only [Act.put, List.setIfInBounds_toArray, List.set_cons_zero, List.set_cons_succ]
              refine wpAnyH_take (i := 11) (oi := ({ dst := some 77, op := Go.Op.move (Go.Operand.tmp 6), type := 26, pos := "laws.go:1065", after := #[{ on := 10, ground := Go.Ground.guard }], guard := some (10, true) } : Oper)) (v := ?_) rfl (by kernel_rfl) (by kernel_rfl) (by kernel_rfl) (fun _ _ _ h => h) (Or.inl ⟨by rfl, ?_⟩) hHeld ?_
              rotate_left
              · (intro w hSw; (try dsimp only at hSw); go_simp; try with_reducible rfl)
              try simp only [Act.put, List.setIfInBounds_toArray, List.set_cons_zero, List.set_cons_succ]
              refine wpAnyH_take (i := 12) (oi := ({ dst := some 78, op := Go.Op.move (Go.Operand.tmp 5), type := 26, pos := "laws.go:1065", after := #[{ on := 10, ground := Go.Ground.guard }], guard := some (10, true) } : Oper)) (v := ?_) rfl (by kernel_rfl) (by kernel_rfl) (by kernel_rfl) (fun _ _ _ h => h) (Or.inl ⟨by rfl, ?_⟩) hHeld ?_
              rotate_left
              · (intro w hSw; (try dsimp only at hSw); go_simp; try with_reducible rfl)
              try simp only [Act.put, List.setIfInBounds_toArray, List.set_cons_zero, List.set_cons_succ]
              refine wpAnyH_take (i := 13) (oi := ({ dst := some 79, op := Go.Op.move (Go.Operand.tmp 7), type := 3, pos := "laws.go:1065", after := #[{ on := 10, ground := Go.Ground.guard }], guard := some (10, true) } : Oper)) (v := ?_) rfl (by kernel_rfl) (by kernel_rfl) (by kernel_rfl) (fun _ _ _ h => h) (Or.inl ⟨by rfl, ?_⟩) hHeld ?_
              rotate_left
              · (intro w hSw; (try dsimp only at hSw); go_simp; try with_reducible rfl)
              try simp only [Act.put, List.setIfInBounds_toArray, List.set_cons_zero, List.set_cons_succ]
              refine wpAnyH_take (i := 14) (oi := ({ dst := some 80, op := Go.Op.indexAddr 26 (Go.Operand.tmp 78) (Go.Operand.tmp 79), type := 0, pos := "laws.go:1065", after := #[{ on := 12, ground := Go.Ground.data }, { on := 13, ground := Go.Ground.data }, { on := 10, ground := Go.Ground.guard }], guard := some (10, true) } : Oper)) (v := ?_) rfl (by kernel_rfl) (by kernel_rfl) (by kernel_rfl) (fun _ _ _ h => h) (Or.inl ⟨by rfl, ?_⟩) hHeld ?_
              rotate_left
              · (intro w hSw; (try dsimp only at hSw); go_simp; try with_reducible rfl)
              try simp only [Act.put, List.setIfInBounds_toArray, List.set_cons_zero, List.set_cons_succ]
              refine wpAnyH_take (i := 15) (oi := ({ dst := some 81, op := Go.Op.load 9 (Go.Operand.tmp 80), type := 9, pos := "laws.go:1065", after := #[{ on := 14, ground := Go.Ground.data }, { on := 10, ground := Go.Ground.guard }], guard := some (10, true) } : Oper)) (v := ?_) rfl (by kernel_rfl) (by kernel_rfl) (by kernel_rfl) (fun _ _ _ h => h) (Or.inl ⟨by rfl, ?_⟩) hHeld ?_
              rotate_left
              · (intro w hSw; (try dsimp only at hSw); go_simp; try with_reducible rfl)
              try simp only [Act.put, List.setIfInBounds_toArray, List.set_cons_zero, List.set_cons_succ]
              refine wpAnyH_take (i := 17) (oi := ({ dst := some 83, op := Go.Op.move (Go.Operand.tmp 3), type := 23, pos := "laws.go:1065", after := #[{ on := 10, ground := Go.Ground.guard }], guard := some (10, true) } : Oper)) (v := ?_) rfl (by kernel_rfl) (by kernel_rfl) (by kernel_rfl) (fun _ _ _ h => h) (Or.inl ⟨by rfl, ?_⟩) hHeld ?_
              rotate_left
              · (intro w hSw; (try dsimp only at hSw); go_simp; try with_reducible rfl)
              try simp only [Act.put, List.setIfInBounds_toArray, List.set_cons_zero, List.set_cons_succ]
              refine wpAnyH_take (i := 18) (oi := ({ dst := some 84, op := Go.Op.move (Go.Operand.tmp 4), type := 9, pos := "laws.go:1065", after := #[{ on := 10, ground := Go.Ground.guard }], guard := some (10, true) } : Oper)) (v := ?_) rfl (by kernel_rfl) (by kernel_rfl) (by kernel_rfl) (fun _ _ _ h => h) (Or.inl ⟨by rfl, ?_⟩) hHeld ?_
              rotate_left
              · (intro w hSw; (try dsimp only at hSw); go_simp; try with_reducible rfl)
              try simp only [Act.put, List.setIfInBounds_toArray, List.set_cons_zero, List.set_cons_succ]
              refine wpAnyH_take (i := 19) (oi := ({ dst := some 85, op := Go.Op.move (Go.Operand.tmp 5), type := 26, pos := "laws.go:1065", after := #[{ on := 10, ground := Go.Ground.guard }], guard := some (10, true) } : Oper)) (v := ?_) rfl (by kernel_rfl) (by kernel_rfl) (by kernel_rfl) (fun _ _ _ h => h) (Or.inl ⟨by rfl, ?_⟩) hHeld ?_
              rotate_left
              · (intro w hSw; (try dsimp only at hSw); go_simp; try with_reducible rfl)
              try simp only [Act.put, List.setIfInBounds_toArray, List.set_cons_zero, List.set_cons_succ]
              refine wpAnyH_take (i := 20) (oi := ({ dst := some 86, op := Go.Op.move (Go.Operand.tmp 7), type := 3, pos := "laws.go:1065", after := #[{ on := 10, ground := Go.Ground.guard }], guard := some (10, true) } : Oper)) (v := ?_) rfl (by kernel_rfl) (by kernel_rfl) (by kernel_rfl) (fun _ _ _ h => h) (Or.inl ⟨by rfl, ?_⟩) hHeld ?_
              rotate_left
              · (intro w hSw; (try dsimp only at hSw); go_simp; try with_reducible rfl)
              try simp only [Act.put, List.setIfInBounds_toArray, List.set_cons_zero, List.set_cons_succ]
              refine wpAnyH_take (i := 21) (oi := ({ dst := some 87, op := Go.Op.indexAddr 26 (Go.Operand.tmp 85) (Go.Operand.tmp 86), type := 0, pos := "laws.go:1065", after := #[{ on := 19, ground := Go.Ground.data }, { on := 20, ground := Go.Ground.data }, { on := 10, ground := Go.Ground.guard }], guard := some (10, true) } : Oper)) (v := ?_) rfl (by kernel_rfl) (by kernel_rfl) (by kernel_rfl) (fun _ _ _ h => h) (Or.inl ⟨by rfl, ?_⟩) hHeld ?_
              rotate_left
              · (intro w hSw; (try dsimp only at hSw); go_simp; try with_reducible rfl)
              try simp only [Act.put, List.setIfInBounds_toArray, List.set_cons_zero, List.set_cons_succ]
              refine wpAnyH_take (i := 22) (oi := ({ dst := some 88, op := Go.Op.load 9 (Go.Operand.tmp 87), type := 9, pos := "laws.go:1065", after := #[{ on := 21, ground := Go.Ground.data }, { on := 10, ground := Go.Ground.guard }], guard := some (10, true) } : Oper)) (v := ?_) rfl (by kernel_rfl) (by kernel_rfl) (by kernel_rfl) (fun _ _ _ h => h) (Or.inl ⟨by rfl, ?_⟩) hHeld ?_
              rotate_left
              · (intro w hSw; (try dsimp only at hSw); go_simp; try with_reducible rfl)
              try simp only [Act.put, List.setIfInBounds_toArray, List.set_cons_zero, List.set_cons_succ]
              refine wpAnyH_ready (rs := [16]) (by kernel_rfl) (by simp) ?_
              refine AllReadyH.cons rfl (fun K hK => ?_) AllReadyH.nil
              go_simp
              refine (has_n a3 c3 _ R x w9 rfl (HS5.out.below HW9.out) (by omega)).mono ?_
              rintro e w10 ⟨rfl, e10⟩
              have e11 := e10.symm
              subst e11
              rw [HJ.out]
              refine hK.out _ _ ?_ (fun hHeld => ?_)
              · exact ⟨HX9.out.cell 0 rfl, HX9.out.cell 1 rfl, HX9.out.cell 2 rfl, HX9.out.cell 3 rfl, HC9.out⟩
              clear hK K
              refine wpAnyH_ready (rs := [23]) (by kernel_rfl) (by simp) ?_
              refine AllReadyH.cons rfl (fun K hK => ?_) AllReadyH.nil
              go_simp
              refine (implWLets_any a1 cc L s x _ (HM.out.below HB9.out) (HI5.out.below HW9.out) HL.out (all_asc L) HR.out (by unfold maxLen; omega) (by omega) trivial).mono ?_
              rintro e w12 ⟨rfl, hb12⟩
              rw [HV.out]
              have HW12 : Hid (Below w5.heap.size w5 w12) := HW9.out.trans (hb12.mono HW9.out.size)
              have HX12 : Hid (Bs 41 w12 G #[.string A.house, .slice a6 A.parts.length c6, .bool A.asks, .string A.ask]) := HX9.out.keep fun k hk => hb12.block k hk
              have HC12 : Hid (w12.cell? ⟨b1, o1 + k, none⟩ = some (.string x)) := (hb12.cell (St.cell_block HC9.out)).trans HC9.out
              refine hK.out _ _ ?_ (fun hHeld => ?_)
              · exact ⟨HX12.out.cell 0 rfl, HX12.out.cell 1 rfl, HX12.out.cell 2 rfl, HX12.out.cell 3 rfl, HC12.out⟩
              clear hK K hb12
              refine wpAnyH_take (i := 24) (oi := ({ dst := some 90, op := Go.Op.move (Go.Operand.tmp 89), type := 4, pos := "laws.go:1065", after := #[{ on := 23, ground := Go.Ground.data }, { on := 23, ground := Go.Ground.chain }, { on := 10, ground := Go.Ground.guard }], guard := some (10, true) } : Oper)) (v := ?_) rfl (by kernel_rfl) (by kernel_rfl) (by kernel_rfl) (fun _ _ _ h => h) (Or.inl ⟨by rfl, ?_⟩) hHeld ?_
              rotate_left
              · (intro w hSw; (try dsimp only at hSw); go_simp; try with_reducible rfl)
              try simp only [Act.put, List.setIfInBounds_toArray, List.set_cons_zero, List.set_cons_succ]
              refine wpAnyH_take (i := 25) (oi := ({ dst := some 91, op := Go.Op.move (Go.Operand.tmp 10), type := 3, pos := "laws.go:1065", after := #[{ on := 24, ground := Go.Ground.guard }], guard := some (24, true) } : Oper)) (v := ?_) rfl (by kernel_rfl) (by kernel_rfl) (by kernel_rfl) (fun _ _ _ h => h) (Or.inl ⟨by rfl, ?_⟩) hHeld ?_
              rotate_left
              · (intro w hSw; (try dsimp only at hSw); go_simp; try with_reducible rfl)
              try simp only [Act.put, List.setIfInBounds_toArray, List.set_cons_zero, List.set_cons_succ]
              refine wpAnyH_take (i := 26) (oi := ({ dst := some 92, op := Go.Op.binOp Go.BinOp.neq 3 (Go.Operand.tmp 91) (Go.Operand.const (Go.Value.int Go.IntKind.i64 3)) 3, type := 4, pos := "laws.go:1065", after := #[{ on := 25, ground := Go.Ground.data }, { on := 24, ground := Go.Ground.guard }], guard := some (24, true) } : Oper)) (v := ?_) rfl (by kernel_rfl) (by kernel_rfl) (by kernel_rfl) (fun _ _ _ h => h) (Or.inl ⟨by rfl, ?_⟩) hHeld ?_
              rotate_left
              · (intro w hSw; (try dsimp only at hSw); go_simp; try with_reducible rfl)
              try simp only [Act.put, List.setIfInBounds_toArray, List.set_cons_zero, List.set_cons_succ]
              refine wpAnyH_take (i := 27) (oi := ({ dst := some 93, op := Go.Op.pick (Go.Operand.tmp 90) (Go.Operand.tmp 92) (Go.Operand.const (Go.Value.bool false)), type := 4, pos := "laws.go:1065", after := #[{ on := 24, ground := Go.Ground.data }, { on := 26, ground := Go.Ground.data }, { on := 10, ground := Go.Ground.guard }], guard := some (10, true) } : Oper)) (v := ?_) rfl (by kernel_rfl) (by kernel_rfl) (by kernel_rfl) (fun _ _ _ h => h) (Or.inl ⟨by rfl, ?_⟩) hHeld ?_
              rotate_left
              · (intro w hSw; (try dsimp only at hSw); go_simp; try with_reducible rfl)
              try simp only [Act.put, List.setIfInBounds_toArray, List.set_cons_zero, List.set_cons_succ]
              refine wpAnyH_take (i := 28) (oi := ({ dst := some 94, op := Go.Op.binOp Go.BinOp.neq 4 (Go.Operand.tmp 82) (Go.Operand.tmp 93) 4, type := 4, pos := "laws.go:1065", after := #[{ on := 16, ground := Go.Ground.data }, { on := 27, ground := Go.Ground.data }, { on := 10, ground := Go.Ground.guard }], guard := some (10, true) } : Oper)) (v := ?_) rfl (by kernel_rfl) (by kernel_rfl) (by kernel_rfl) (fun _ _ _ h => h) (Or.inl ⟨by rfl, ?_⟩) hHeld ?_
              rotate_left
              · (intro w hSw; (try dsimp only at hSw); go_simp; try with_reducible rfl)
              try simp only [Act.put, List.setIfInBounds_toArray, List.set_cons_zero, List.set_cons_succ]
              refine wpAnyH_take (i := 29) (oi := ({ dst := some 95, op := Go.Op.pick (Go.Operand.tmp 76) (Go.Operand.tmp 94) (Go.Operand.const (Go.Value.bool false)), type := 4, pos := "laws.go:1065", after := #[{ on := 10, ground := Go.Ground.data }, { on := 28, ground := Go.Ground.data }], guard := none } : Oper)) (v := ?_) rfl (by kernel_rfl) (by kernel_rfl) (by kernel_rfl) (fun _ _ _ h => h) (Or.inl ⟨by rfl, ?_⟩) hHeld ?_
              rotate_left
              · (intro w hSw; (try dsimp only at hSw); go_simp; try with_reducible rfl)
              try simp only [Act.put, List.setIfInBounds_toArray, List.set_cons_zero, List.set_cons_succ]
              refine wpAnyH_done (by kernel_rfl) ?_ _
              go_wp2
              go_roundw
              case rel => exact ⟨k + 1, by omega, by go_num, HW12⟩
              case measure => simp [intOf]; omega
            · have HJ : Hid (hasB x R = true) := by show _ = _; rw [HJ0.out, hV, decide_eq_false h3]; rfl
              have e3 : (kd != 3) = true := by simpa using h3
              have e4 : (kd == 3) = false := by simpa using h3
              clear hV HJ0 h3
              go_wp2_with fail
              refine wp_region_held_drew (S := (fun w' => w'.cell? ⟨G, 0, none⟩ = some (.string A.house) ∧ w'.cell? ⟨G, 1, none⟩ = some (.slice a6 A.parts.length c6) ∧ w'.cell? ⟨G, 2, none⟩ = some (.bool A.asks) ∧ w'.cell? ⟨G, 3, none⟩ = some (.string A.ask) ∧ w'.cell? ⟨b1, o1 + k, none⟩ = some (.string x))) (by kernel_rfl) ⟨d0, d1, d2, d3, c8⟩ (fun hHeld => ?_)
              refine wpAnyH_take (i := 0) (oi := ({ dst := some 66, op := Go.Op.move (Go.Operand.tmp 9), type := 4, pos := "laws.go:1065", after := #[], guard := none } : Oper)) (v := ?_) rfl (by kernel_rfl) (by kernel_rfl) (by kernel_rfl) (fun _ _ _ h => h) (Or.inl ⟨by rfl, ?_⟩) hHeld ?_
              rotate_left
              · (intro w hSw; (try dsimp only at hSw); go_simp; try with_reducible rfl)
              try simp only [Act.put, List.setIfInBounds_toArray, List.set_cons_zero, List.set_cons_succ]
              refine wpAnyH_take (i := 1) (oi := ({ dst := some 67, op := Go.Op.move (Go.Operand.tmp 66), type := 4, pos := "laws.go:1065", after := #[{ on := 0, ground := Go.Ground.data }], guard := none } : Oper)) (v := ?_) rfl (by kernel_rfl) (by kernel_rfl) (by kernel_rfl) (fun _ _ _ h => h) (Or.inl ⟨by rfl, ?_⟩) hHeld ?_
              rotate_left
              · (intro w hSw; (try dsimp only at hSw); go_simp; try with_reducible rfl)
              try simp only [Act.put, List.setIfInBounds_toArray, List.set_cons_zero, List.set_cons_succ]
              refine wpAnyH_take (i := 2) (oi := ({ dst := some 68, op := Go.Op.load 41 (Go.Operand.tmp 8), type := 41, pos := "laws.go:1065", after := #[{ on := 1, ground := Go.Ground.guard }], guard := some (1, true) } : Oper)) (v := ?_) rfl (by kernel_rfl) (by kernel_rfl) (by kernel_rfl) (fun _ _ _ h => h) (Or.inl ⟨by rfl, ?_⟩) hHeld ?_
              rotate_left
              · (intro w hSw; (try dsimp only at hSw); go_simp; try with_reducible rfl)
              try simp only [Act.put, List.setIfInBounds_toArray, List.set_cons_zero, List.set_cons_succ]
              refine wpAnyH_take (i := 4) (oi := ({ dst := some 70, op := Go.Op.move (Go.Operand.tmp 5), type := 26, pos := "laws.go:1065", after := #[{ on := 1, ground := Go.Ground.guard }], guard := some (1, true) } : Oper)) (v := ?_) rfl (by kernel_rfl) (by kernel_rfl) (by kernel_rfl) (fun _ _ _ h => h) (Or.inl ⟨by rfl, ?_⟩) hHeld ?_
              rotate_left
              · (intro w hSw; (try dsimp only at hSw); go_simp; try with_reducible rfl)
              try simp only [Act.put, List.setIfInBounds_toArray, List.set_cons_zero, List.set_cons_succ]
              refine wpAnyH_take (i := 5) (oi := ({ dst := some 71, op := Go.Op.move (Go.Operand.tmp 7), type := 3, pos := "laws.go:1065", after := #[{ on := 1, ground := Go.Ground.guard }], guard := some (1, true) } : Oper)) (v := ?_) rfl (by kernel_rfl) (by kernel_rfl) (by kernel_rfl) (fun _ _ _ h => h) (Or.inl ⟨by rfl, ?_⟩) hHeld ?_
              rotate_left
              · (intro w hSw; (try dsimp only at hSw); go_simp; try with_reducible rfl)
              try simp only [Act.put, List.setIfInBounds_toArray, List.set_cons_zero, List.set_cons_succ]
              refine wpAnyH_take (i := 6) (oi := ({ dst := some 72, op := Go.Op.indexAddr 26 (Go.Operand.tmp 70) (Go.Operand.tmp 71), type := 0, pos := "laws.go:1065", after := #[{ on := 4, ground := Go.Ground.data }, { on := 5, ground := Go.Ground.data }, { on := 1, ground := Go.Ground.guard }], guard := some (1, true) } : Oper)) (v := ?_) rfl (by kernel_rfl) (by kernel_rfl) (by kernel_rfl) (fun _ _ _ h => h) (Or.inl ⟨by rfl, ?_⟩) hHeld ?_
              rotate_left
              · (intro w hSw; (try dsimp only at hSw); go_simp; try with_reducible rfl)
              try simp only [Act.put, List.setIfInBounds_toArray, List.set_cons_zero, List.set_cons_succ]
              refine wpAnyH_take (i := 7) (oi := ({ dst := some 73, op := Go.Op.load 9 (Go.Operand.tmp 72), type := 9, pos := "laws.go:1065", after := #[{ on := 6, ground := Go.Ground.data }, { on := 1, ground := Go.Ground.guard }], guard := some (1, true) } : Oper)) (v := ?_) rfl (by kernel_rfl) (by kernel_rfl) (by kernel_rfl) (fun _ _ _ h => h) (Or.inl ⟨by rfl, ?_⟩) hHeld ?_
              rotate_left
              · (intro w hSw; (try dsimp only at hSw); go_simp; try with_reducible rfl)
              try simp only [Act.put, List.setIfInBounds_toArray, List.set_cons_zero, List.set_cons_succ]
              refine wpAnyH_ready (rs := [3]) (by kernel_rfl) (by simp) ?_
              refine AllReadyH.cons rfl (fun K hK => ?_) AllReadyH.nil
              go_simp
              refine (HTX.out w8.drew (HS8.out.keep fun _ _ => rfl)).mono ?_
              rintro e w9 ⟨rfl, hb9⟩
              have hbd : Below w8.heap.size w8 w9 := Below.trans ((Below.refl _ w8).drew) (hb9.mono (by simp))
              have HW9 : Hid (Below w5.heap.size w5 w9) := HW8.out.trans (hbd.mono HW8.out.size)
              have HB9 : Hid (Below w.heap.size w w9) := HB8.out.trans (hbd.mono HB8.out.size)
              have HX9 : Hid (Bs 41 w9 G #[.string A.house, .slice a6 A.parts.length c6, .bool A.asks, .string A.ask]) := HX8.out.keep fun k hk => hbd.block k hk
              have HC9 : Hid (w9.cell? ⟨b1, o1 + k, none⟩ = some (.string x)) := (hbd.cell (St.cell_block c8)).trans c8
              refine hK.out _ _ ?_ (fun hHeld => ?_)
              · exact ⟨HX9.out.cell 0 rfl, HX9.out.cell 1 rfl, HX9.out.cell 2 rfl, HX9.out.cell 3 rfl, HC9.out⟩
              clear hK K hb9 hbd
              refine wpAnyH_take (i := 8) (oi := ({ dst := some 74, op := Go.Op.binOp Go.BinOp.eql 9 (Go.Operand.tmp 69) (Go.Operand.tmp 73) 9, type := 4, pos := "laws.go:1065", after := #[{ on := 3, ground := Go.Ground.data }, { on := 7, ground := Go.Ground.data }, { on := 1, ground := Go.Ground.guard }], guard := some (1, true) } : Oper)) (v := ?_) rfl (by kernel_rfl) (by kernel_rfl) (by kernel_rfl) (fun _ _ _ h => h) (Or.inl ⟨by rfl, ?_⟩) hHeld ?_
              rotate_left
              · (intro w hSw; (try dsimp only at hSw); go_simp; try with_reducible rfl)
              try simp only [Act.put, List.setIfInBounds_toArray, List.set_cons_zero, List.set_cons_succ]
              refine wpAnyH_take (i := 9) (oi := ({ dst := some 75, op := Go.Op.pick (Go.Operand.tmp 67) (Go.Operand.tmp 74) (Go.Operand.const (Go.Value.bool false)), type := 4, pos := "laws.go:1065", after := #[{ on := 1, ground := Go.Ground.data }, { on := 8, ground := Go.Ground.data }], guard := none } : Oper)) (v := ?_) rfl (by kernel_rfl) (by kernel_rfl) (by kernel_rfl) (fun _ _ _ h => h) (Or.inl ⟨by rfl, ?_⟩) hHeld ?_
              rotate_left
              · (intro w hSw; (try dsimp only at hSw); go_simp; try with_reducible rfl)
              try simp only [Act.put, List.setIfInBounds_toArray, List.set_cons_zero, List.set_cons_succ]
              refine wpAnyH_take (i := 10) (oi := ({ dst := some 76, op := Go.Op.move (Go.Operand.tmp 75), type := 4, pos := "laws.go:1065", after := #[{ on := 9, ground := Go.Ground.data }, { on := 3, ground := Go.Ground.chain }], guard := none } : Oper)) (v := ?_) rfl (by kernel_rfl) (by kernel_rfl) (by kernel_rfl) (fun _ _ _ h => h) (Or.inl ⟨by rfl, ?_⟩) hHeld ?_
              rotate_left
              · (intro w hSw; (try dsimp only at hSw); go_simp; try with_reducible rfl)
              try simp only [Act.put, List.setIfInBounds_toArray, List.set_cons_zero, List.set_cons_succ]
              refine wpAnyH_take (i := 11) (oi := ({ dst := some 77, op := Go.Op.move (Go.Operand.tmp 6), type := 26, pos := "laws.go:1065", after := #[{ on := 10, ground := Go.Ground.guard }], guard := some (10, true) } : Oper)) (v := ?_) rfl (by kernel_rfl) (by kernel_rfl) (by kernel_rfl) (fun _ _ _ h => h) (Or.inl ⟨by rfl, ?_⟩) hHeld ?_
              rotate_left
              · (intro w hSw; (try dsimp only at hSw); go_simp; try with_reducible rfl)
              try simp only [Act.put, List.setIfInBounds_toArray, List.set_cons_zero, List.set_cons_succ]
              refine wpAnyH_take (i := 12) (oi := ({ dst := some 78, op := Go.Op.move (Go.Operand.tmp 5), type := 26, pos := "laws.go:1065", after := #[{ on := 10, ground := Go.Ground.guard }], guard := some (10, true) } : Oper)) (v := ?_) rfl (by kernel_rfl) (by kernel_rfl) (by kernel_rfl) (fun _ _ _ h => h) (Or.inl ⟨by rfl, ?_⟩) hHeld ?_
              rotate_left
              · (intro w hSw; (try dsimp only at hSw); go_simp; try with_reducible rfl)
              try simp only [Act.put, List.setIfInBounds_toArray, List.set_cons_zero, List.set_cons_succ]
              refine wpAnyH_take (i := 13) (oi := ({ dst := some 79, op := Go.Op.move (Go.Operand.tmp 7), type := 3, pos := "laws.go:1065", after := #[{ on := 10, ground := Go.Ground.guard }], guard := some (10, true) } : Oper)) (v := ?_) rfl (by kernel_rfl) (by kernel_rfl) (by kernel_rfl) (fun _ _ _ h => h) (Or.inl ⟨by rfl, ?_⟩) hHeld ?_
              rotate_left
              · (intro w hSw; (try dsimp only at hSw); go_simp; try with_reducible rfl)
              try simp only [Act.put, List.setIfInBounds_toArray, List.set_cons_zero, List.set_cons_succ]
              refine wpAnyH_take (i := 14) (oi := ({ dst := some 80, op := Go.Op.indexAddr 26 (Go.Operand.tmp 78) (Go.Operand.tmp 79), type := 0, pos := "laws.go:1065", after := #[{ on := 12, ground := Go.Ground.data }, { on := 13, ground := Go.Ground.data }, { on := 10, ground := Go.Ground.guard }], guard := some (10, true) } : Oper)) (v := ?_) rfl (by kernel_rfl) (by kernel_rfl) (by kernel_rfl) (fun _ _ _ h => h) (Or.inl ⟨by rfl, ?_⟩) hHeld ?_
              rotate_left
              · (intro w hSw; (try dsimp only at hSw); go_simp; try with_reducible rfl)
              try simp only [Act.put, List.setIfInBounds_toArray, List.set_cons_zero, List.set_cons_succ]
              refine wpAnyH_take (i := 15) (oi := ({ dst := some 81, op := Go.Op.load 9 (Go.Operand.tmp 80), type := 9, pos := "laws.go:1065", after := #[{ on := 14, ground := Go.Ground.data }, { on := 10, ground := Go.Ground.guard }], guard := some (10, true) } : Oper)) (v := ?_) rfl (by kernel_rfl) (by kernel_rfl) (by kernel_rfl) (fun _ _ _ h => h) (Or.inl ⟨by rfl, ?_⟩) hHeld ?_
              rotate_left
              · (intro w hSw; (try dsimp only at hSw); go_simp; try with_reducible rfl)
              try simp only [Act.put, List.setIfInBounds_toArray, List.set_cons_zero, List.set_cons_succ]
              refine wpAnyH_take (i := 17) (oi := ({ dst := some 83, op := Go.Op.move (Go.Operand.tmp 3), type := 23, pos := "laws.go:1065", after := #[{ on := 10, ground := Go.Ground.guard }], guard := some (10, true) } : Oper)) (v := ?_) rfl (by kernel_rfl) (by kernel_rfl) (by kernel_rfl) (fun _ _ _ h => h) (Or.inl ⟨by rfl, ?_⟩) hHeld ?_
              rotate_left
              · (intro w hSw; (try dsimp only at hSw); go_simp; try with_reducible rfl)
              try simp only [Act.put, List.setIfInBounds_toArray, List.set_cons_zero, List.set_cons_succ]
              refine wpAnyH_take (i := 18) (oi := ({ dst := some 84, op := Go.Op.move (Go.Operand.tmp 4), type := 9, pos := "laws.go:1065", after := #[{ on := 10, ground := Go.Ground.guard }], guard := some (10, true) } : Oper)) (v := ?_) rfl (by kernel_rfl) (by kernel_rfl) (by kernel_rfl) (fun _ _ _ h => h) (Or.inl ⟨by rfl, ?_⟩) hHeld ?_
              rotate_left
              · (intro w hSw; (try dsimp only at hSw); go_simp; try with_reducible rfl)
              try simp only [Act.put, List.setIfInBounds_toArray, List.set_cons_zero, List.set_cons_succ]
              refine wpAnyH_take (i := 19) (oi := ({ dst := some 85, op := Go.Op.move (Go.Operand.tmp 5), type := 26, pos := "laws.go:1065", after := #[{ on := 10, ground := Go.Ground.guard }], guard := some (10, true) } : Oper)) (v := ?_) rfl (by kernel_rfl) (by kernel_rfl) (by kernel_rfl) (fun _ _ _ h => h) (Or.inl ⟨by rfl, ?_⟩) hHeld ?_
              rotate_left
              · (intro w hSw; (try dsimp only at hSw); go_simp; try with_reducible rfl)
              try simp only [Act.put, List.setIfInBounds_toArray, List.set_cons_zero, List.set_cons_succ]
              refine wpAnyH_take (i := 20) (oi := ({ dst := some 86, op := Go.Op.move (Go.Operand.tmp 7), type := 3, pos := "laws.go:1065", after := #[{ on := 10, ground := Go.Ground.guard }], guard := some (10, true) } : Oper)) (v := ?_) rfl (by kernel_rfl) (by kernel_rfl) (by kernel_rfl) (fun _ _ _ h => h) (Or.inl ⟨by rfl, ?_⟩) hHeld ?_
              rotate_left
              · (intro w hSw; (try dsimp only at hSw); go_simp; try with_reducible rfl)
              try simp only [Act.put, List.setIfInBounds_toArray, List.set_cons_zero, List.set_cons_succ]
              refine wpAnyH_take (i := 21) (oi := ({ dst := some 87, op := Go.Op.indexAddr 26 (Go.Operand.tmp 85) (Go.Operand.tmp 86), type := 0, pos := "laws.go:1065", after := #[{ on := 19, ground := Go.Ground.data }, { on := 20, ground := Go.Ground.data }, { on := 10, ground := Go.Ground.guard }], guard := some (10, true) } : Oper)) (v := ?_) rfl (by kernel_rfl) (by kernel_rfl) (by kernel_rfl) (fun _ _ _ h => h) (Or.inl ⟨by rfl, ?_⟩) hHeld ?_
              rotate_left
              · (intro w hSw; (try dsimp only at hSw); go_simp; try with_reducible rfl)
              try simp only [Act.put, List.setIfInBounds_toArray, List.set_cons_zero, List.set_cons_succ]
              refine wpAnyH_take (i := 22) (oi := ({ dst := some 88, op := Go.Op.load 9 (Go.Operand.tmp 87), type := 9, pos := "laws.go:1065", after := #[{ on := 21, ground := Go.Ground.data }, { on := 10, ground := Go.Ground.guard }], guard := some (10, true) } : Oper)) (v := ?_) rfl (by kernel_rfl) (by kernel_rfl) (by kernel_rfl) (fun _ _ _ h => h) (Or.inl ⟨by rfl, ?_⟩) hHeld ?_
              rotate_left
              · (intro w hSw; (try dsimp only at hSw); go_simp; try with_reducible rfl)
              try simp only [Act.put, List.setIfInBounds_toArray, List.set_cons_zero, List.set_cons_succ]
              refine wpAnyH_ready (rs := [16]) (by kernel_rfl) (by simp) ?_
              refine AllReadyH.cons rfl (fun K hK => ?_) AllReadyH.nil
              go_simp
              refine (has_n a3 c3 _ R x w9 rfl (HS5.out.below HW9.out) (by omega)).mono ?_
              rintro e w10 ⟨rfl, e10⟩
              have e11 := e10.symm
              subst e11
              rw [HJ.out]
              refine hK.out _ _ ?_ (fun hHeld => ?_)
              · exact ⟨HX9.out.cell 0 rfl, HX9.out.cell 1 rfl, HX9.out.cell 2 rfl, HX9.out.cell 3 rfl, HC9.out⟩
              clear hK K
              refine wpAnyH_ready (rs := [23]) (by kernel_rfl) (by simp) ?_
              refine AllReadyH.cons rfl (fun K hK => ?_) AllReadyH.nil
              go_simp
              refine (implWLets_any a1 cc L s x _ (HM.out.below HB9.out) (HI5.out.below HW9.out) HL.out (all_asc L) HR.out (by unfold maxLen; omega) (by omega) trivial).mono ?_
              rintro e w12 ⟨rfl, hb12⟩
              rw [HV.out]
              have HW12 : Hid (Below w5.heap.size w5 w12) := HW9.out.trans (hb12.mono HW9.out.size)
              have HX12 : Hid (Bs 41 w12 G #[.string A.house, .slice a6 A.parts.length c6, .bool A.asks, .string A.ask]) := HX9.out.keep fun k hk => hb12.block k hk
              have HC12 : Hid (w12.cell? ⟨b1, o1 + k, none⟩ = some (.string x)) := (hb12.cell (St.cell_block HC9.out)).trans HC9.out
              refine hK.out _ _ ?_ (fun hHeld => ?_)
              · exact ⟨HX12.out.cell 0 rfl, HX12.out.cell 1 rfl, HX12.out.cell 2 rfl, HX12.out.cell 3 rfl, HC12.out⟩
              clear hK K hb12
              refine wpAnyH_take (i := 24) (oi := ({ dst := some 90, op := Go.Op.move (Go.Operand.tmp 89), type := 4, pos := "laws.go:1065", after := #[{ on := 23, ground := Go.Ground.data }, { on := 23, ground := Go.Ground.chain }, { on := 10, ground := Go.Ground.guard }], guard := some (10, true) } : Oper)) (v := ?_) rfl (by kernel_rfl) (by kernel_rfl) (by kernel_rfl) (fun _ _ _ h => h) (Or.inl ⟨by rfl, ?_⟩) hHeld ?_
              rotate_left
              · (intro w hSw; (try dsimp only at hSw); go_simp; try with_reducible rfl)
              try simp only [Act.put, List.setIfInBounds_toArray, List.set_cons_zero, List.set_cons_succ]
              refine wpAnyH_take (i := 25) (oi := ({ dst := some 91, op := Go.Op.move (Go.Operand.tmp 10), type := 3, pos := "laws.go:1065", after := #[{ on := 24, ground := Go.Ground.guard }], guard := some (24, true) } : Oper)) (v := ?_) rfl (by kernel_rfl) (by kernel_rfl) (by kernel_rfl) (fun _ _ _ h => h) (Or.inl ⟨by rfl, ?_⟩) hHeld ?_
              rotate_left
              · (intro w hSw; (try dsimp only at hSw); go_simp; try with_reducible rfl)
              try simp only [Act.put, List.setIfInBounds_toArray, List.set_cons_zero, List.set_cons_succ]
              refine wpAnyH_take (i := 26) (oi := ({ dst := some 92, op := Go.Op.binOp Go.BinOp.neq 3 (Go.Operand.tmp 91) (Go.Operand.const (Go.Value.int Go.IntKind.i64 3)) 3, type := 4, pos := "laws.go:1065", after := #[{ on := 25, ground := Go.Ground.data }, { on := 24, ground := Go.Ground.guard }], guard := some (24, true) } : Oper)) (v := ?_) rfl (by kernel_rfl) (by kernel_rfl) (by kernel_rfl) (fun _ _ _ h => h) (Or.inl ⟨by rfl, ?_⟩) hHeld ?_
              rotate_left
              · (intro w hSw; (try dsimp only at hSw); go_simp; try with_reducible rfl)
              try simp only [Act.put, List.setIfInBounds_toArray, List.set_cons_zero, List.set_cons_succ]
              refine wpAnyH_take (i := 27) (oi := ({ dst := some 93, op := Go.Op.pick (Go.Operand.tmp 90) (Go.Operand.tmp 92) (Go.Operand.const (Go.Value.bool false)), type := 4, pos := "laws.go:1065", after := #[{ on := 24, ground := Go.Ground.data }, { on := 26, ground := Go.Ground.data }, { on := 10, ground := Go.Ground.guard }], guard := some (10, true) } : Oper)) (v := ?_) rfl (by kernel_rfl) (by kernel_rfl) (by kernel_rfl) (fun _ _ _ h => h) (Or.inl ⟨by rfl, ?_⟩) hHeld ?_
              rotate_left
              · (intro w hSw; (try dsimp only at hSw); go_simp; try with_reducible rfl)
              try simp only [Act.put, List.setIfInBounds_toArray, List.set_cons_zero, List.set_cons_succ]
              refine wpAnyH_take (i := 28) (oi := ({ dst := some 94, op := Go.Op.binOp Go.BinOp.neq 4 (Go.Operand.tmp 82) (Go.Operand.tmp 93) 4, type := 4, pos := "laws.go:1065", after := #[{ on := 16, ground := Go.Ground.data }, { on := 27, ground := Go.Ground.data }, { on := 10, ground := Go.Ground.guard }], guard := some (10, true) } : Oper)) (v := ?_) rfl (by kernel_rfl) (by kernel_rfl) (by kernel_rfl) (fun _ _ _ h => h) (Or.inl ⟨by rfl, ?_⟩) hHeld ?_
              rotate_left
              · (intro w hSw; (try dsimp only at hSw); go_simp; try with_reducible rfl)
              try simp only [Act.put, List.setIfInBounds_toArray, List.set_cons_zero, List.set_cons_succ]
              refine wpAnyH_take (i := 29) (oi := ({ dst := some 95, op := Go.Op.pick (Go.Operand.tmp 76) (Go.Operand.tmp 94) (Go.Operand.const (Go.Value.bool false)), type := 4, pos := "laws.go:1065", after := #[{ on := 10, ground := Go.Ground.data }, { on := 28, ground := Go.Ground.data }], guard := none } : Oper)) (v := ?_) rfl (by kernel_rfl) (by kernel_rfl) (by kernel_rfl) (fun _ _ _ h => h) (Or.inl ⟨by rfl, ?_⟩) hHeld ?_
              rotate_left
              · (intro w hSw; (try dsimp only at hSw); go_simp; try with_reducible rfl)
              try simp only [Act.put, List.setIfInBounds_toArray, List.set_cons_zero, List.set_cons_succ]
              refine wpAnyH_done (by kernel_rfl) ?_ _
              go_wp2
              go_roundw
              case rel => exact ⟨k + 1, by omega, by go_num, HW12⟩
              case measure => simp [intOf]; omega
    · go_wp2_with fail
      refine (implReach_any a1 cc L s none 0 [] _ (HM.out.below HBW.out) (HI5.out.below HW.out) HL.out (all_asc L) HR.out (all_tx L) (by omega) ⟨Nat.le_refl _, Nat.zero_le _, fun _ => rfl, fun h => absurd rfl h⟩ (fun _ h => by cases h) (by decide)).mono ?_
      rintro e w6 ⟨v6, rfl, hO6, hb6⟩
      rw [HNR.out] at hO6
      obtain ⟨a6, c6, hv6, _⟩ := hO6.strs
      subst hv6
      have HB6 : Hid (Below w.heap.size w w6) := HBW.out.trans (hb6.mono HBW.out.size)
      clear hO6 hb6
      go_wp2
      go_ret
      exact ⟨rfl, HB6.out⟩
end Go.Proofs.YtmgcdfmgmpnonaaGreatDoor.fnReachSeeds
