/- FnReachMore: the walk. -/
import Derived.Test.YtmgcdfmgmpnonaaGreatDoorRows
import Derived.WalkKit
import Derived.ProofKit
import Derived.OpenShut
import Derived.ShutString
import Derived.ChangeOld
import Derived.Below
import Derived.Test.YtmgcdfmgmpnonaaGreatDoorCards
import Derived.Test.YtmgcdfmgmpnonaaGreatDoorReL
import Derived.Test.YtmgcdfmgmpnonaaGreatDoorEscLeafPk
import Derived.Deep.RegionHeldLaw
import Derived.Shelf.Vars
import Derived.Lay
import Derived.LaidOnce
import Derived.SevenTiedAt
namespace Go.Proofs.YtmgcdfmgmpnonaaGreatDoor.fnReachMore
open Go.ChangeShapes Go.WideShapes Go.ChangeAt Go.RowKit
open Go.ChangeMaps (open_string shut_string)
set_option linter.unusedVariables false
open Go.Proofs.YtmgcdfmgmpnonaaGreatDoor.AddrM Go.Proofs.YtmgcdfmgmpnonaaGreatDoor.Ad1 Go.Proofs.YtmgcdfmgmpnonaaGreatDoor.Rd1 Go.Proofs.YtmgcdfmgmpnonaaGreatDoor.RdA Go.Proofs.YtmgcdfmgmpnonaaGreatDoor.MkA Go.Proofs.YtmgcdfmgmpnonaaGreatDoor.Mp Go.Proofs.YtmgcdfmgmpnonaaGreatDoor.EscL Go.Proofs.YtmgcdfmgmpnonaaGreatDoor.EscM Go.Proofs.YtmgcdfmgmpnonaaGreatDoor.ReadM Go.Proofs.YtmgcdfmgmpnonaaGreatDoor.RuleM Go.Proofs.YtmgcdfmgmpnonaaGreatDoor.St Go.Proofs.YtmgcdfmgmpnonaaGreatDoor.RR Go.Proofs.YtmgcdfmgmpnonaaGreatDoor.RoPg Go.Proofs.YtmgcdfmgmpnonaaGreatDoor.LetM Go.Proofs.YtmgcdfmgmpnonaaGreatDoor.Nm Go.Proofs.YtmgcdfmgmpnonaaGreatDoor.GrM Go.Proofs.YtmgcdfmgmpnonaaGreatDoor.WdM Go.Proofs.YtmgcdfmgmpnonaaGreatDoor.Wd Go.Proofs.YtmgcdfmgmpnonaaGreatDoor.WdN Go.Proofs.YtmgcdfmgmpnonaaGreatDoor.PgM Go.Proofs.YtmgcdfmgmpnonaaGreatDoor.PgA Go.Proofs.YtmgcdfmgmpnonaaGreatDoor.ReM

theorem mx_of {w : World} (h : w.ShapedOpen Tryz.prog) : Im.Mx w :=
  cell_of_shapedOpen_int (g := 0) (t := 3) (zero := #[.int .i64 0]) (k := .i64) h (of_decide_eq_true (by kernel_rfl)) (by kernel_rfl) rfl (by kernel_rfl) (by kernel_rfl) Tryz.underlying3
theorem isq_empty (w : World) (base g : Nat) : IsQ w base none (.slice (some ⟨g, 0, none⟩) 0 0) [] := ⟨_, 0, 0, rfl, Nat.le_refl _, Nat.zero_le _, Or.inl ⟨rfl, rfl⟩⟩

/-- the append of a queue, at an operation that is guarded -/
theorem wp_append_qg {ops : Array Oper} {rest : List Oper} {o : Oper} {ac : Act} {Q : Exit → Act → World → Prop} {w : World} {base : Nat} {row : Option Nat} {v : Value} {L : List ByteArray} (hw : Region.wanted o (yielded ops ac.tmps) = true) (s x : Operand)
    (ho : o.op = .call { callee := .builtin .append, args := #[s, x], argTypes := #[26, 26] })
    {a : Option Addr} {c : Nat} {F : List ByteArray} (hv : ac.eval s = v) (h : IsQ w base row v L) (hx : ac.eval x = .slice a F.length c) (hs : IsStrs w a c F) (hb : base ≤ w.heap.size) (hl : L.length + F.length ≤ 4194304)
    (hK : ∀ v' w' row', IsQ w' base row' v' (L ++ F) → w.grownBy w' row → (row' = row ∨ ∃ g, row' = some g ∧ w.heap.size ≤ g) → wpList Tryz.prog ops Q rest (ac.put o.dst v') w') : wpList Tryz.prog ops Q (o :: rest) ac w := by
  have e : wpList Tryz.prog ops Q (o :: rest) ac w = (if Region.wanted o (yielded ops ac.tmps) then o.wp Tryz.prog ac w (wpList Tryz.prog ops Q rest) Q ∨ (o.asks Tryz.prog ac w ∧ LetsOut Q) else wpList Tryz.prog ops Q rest (ac.put o.dst undef) w) := rfl
  rw [e, if_pos hw]
  left
  obtain ⟨v', w', row', hrun, r1, r2, r3⟩ := run_append_q o.type h hs hb hl
  have hK2 := hK v' w' row' r1 r2 r3
  generalize wpList Tryz.prog ops Q rest = K at *
  unfold Oper.wp
  simp [execOp, ho, resolve, invoke, builtin, hv, hx, hrun, Result.andThen]
  exact hK2

set_option maxRecDepth 100000 in
set_option maxHeartbeats 6400000 in
theorem walk (a0 : Option Addr) (len0 cap0 : Nat) (z0 : List Int) (b0 : Option Addr) (len1 cap1 : Nat) (z1 : List Int) (w : World) (w0 : Dr.IsRow .u8 w a0 len0 cap0 z0) (w9 : Dr.IsRow .u8 w b0 len1 cap1 z1) (hL : laidMetH Tryz.prog Rows.fnReachMoreRow.laid w) (hsh : w.ShapedOpen Tryz.prog) :
    Calls Tryz.prog 9 #[.slice a0 len0 cap0, .slice b0 len1 cap1] w fun e w' => e = .returned (.bool true) ∧ Below w.heap.size w w' := by
  have HM : Hid (Im.Mx w) := mx_of hsh
  have HR9 : Hid (Dr.IsRow .u8 w b0 len1 cap1 z1) := w9
  clear hsh hL w9
  by_cases hlong : (1048576 : Int) < len0
  · go_enter Tryz.func9, Tryz.ntmps9
    go_wp2
    go_ret
    exact ⟨rfl, Below.refl _ _⟩
  by_cases hlong1 : (1048576 : Int) < len1
  · go_enter Tryz.func9, Tryz.ntmps9
    go_wp2
    go_ret
    exact ⟨rfl, Below.refl _ _⟩
  go_enter Tryz.func9, Tryz.ntmps9
  go_wp2_with fail
  refine (Dr.drawReach_any a0 len0 cap0 z0 w w0).mono ?_
  rintro e w1 ⟨L, a1, cc, s, S, a2, c2, rfl, hI, hl, hL, hs, hSt, hSl, hSz, hb1⟩
  have HI1 : Hid (IsRows FPg w1 a1 cc L) := hI
  have HL : Hid (PgSz L) := bd_sz hL
  have HR : Hid (PgRd L) := bd_rd hL
  have HST1 : Hid (IsStrs w1 a2 c2 S) := hSt
  have HSZ : Hid (∀ x ∈ S, x.size ≤ 1000) := fun x hx => Nat.le_trans (hSz x hx) (by decide)
  have hsz := nameB_size hs
  have HB1 : Hid (Below w.heap.size w w1) := hb1
  clear hI hL hSt hSz hs hb1 w0
  go_wp2_with fail
  refine (Dr.drawReach_any b0 len1 cap1 z1 _ (HR9.out.below HB1.out)).mono ?_
  rintro e w2 ⟨L', a1', cc', s', O, ao, co, rfl, _, _, _, _, hOt, hOl, hOz, hb2⟩
  have HI2 : Hid (IsRows FPg w2 a1 cc L) := HI1.out.below hb2
  have HST2 : Hid (IsStrs w2 a2 c2 S) := HST1.out.below hb2
  have HOT2 : Hid (IsStrs w2 ao co O) := hOt
  have HOZ : Hid (∀ x ∈ O, x.size ≤ 1000) := fun x hx => Nat.le_trans (hOz x hx) (by decide)
  have HB2 : Hid (Below w.heap.size w w2) := HB1.out.trans (hb2.mono HB1.out.size)
  clear hOt hOz hb2 HB1 HI1 HST1 HR9
  -- what is asked of the answers
  have HRL : Hid ((reachW L s S).length ≤ 4000) := reach_len L s S
  have HAL : Hid ((reachW L s (S ++ O)).length ≤ 4000) := reach_len L s (S ++ O)
  have HBL : Hid ((reachW L s O).length ≤ 4000) := reach_len L s O
  have H1 : Hid (∀ x ∈ reachW L s S, x ∈ reachW L s (S ++ O)) := fun x hx => reach_more (by rw [List.length_append]; omega) (fun y hy => List.mem_append_left _ hy) hx
  have H2 : Hid (∀ x ∈ reachW L s O, x ∈ reachW L s (S ++ O)) := fun x hx => reach_more (by rw [List.length_append]; omega) (fun y hy => List.mem_append_right _ hy) hx
  have H3 : Hid (∀ x ∈ reachW L s (S ++ O), x ∈ reachW L s S ++ reachW L s O) := fun x hx => List.mem_append.2 (reach_both (by rw [List.length_append]; omega) hx)
  have HIM : Hid (∀ (X : List ByteArray) (a : Option Addr) (c : Nat) (W : World), Im.Mx W → IsRows FPg W a1 cc L → IsStrs W a c X → (∀ x ∈ X, x.size ≤ 1000) → X.length ≤ 1000 → Calls Tryz.prog 26 #[.slice a1 L.length cc, .string s, .slice a X.length c] W fun e w' => ∃ v, e = .returned v ∧ Owns w' W.heap.size v (reachW L s X) ∧ Below W.heap.size W w') := fun X a c W hM hI hX hz hl => implReach_any a1 cc L s a c X W hM hI HL.out (all_asc L) HR.out (all_tx L) (by omega) hX hz hl
  have HSM : Hid (∀ W : World, IsRows FPg W a1 cc L → IsStrs W a2 c2 S → Calls Tryz.prog 28 #[.slice a1 L.length cc, .string s, .slice a2 S.length c2] W fun e w' => ∃ v, e = .returned v ∧ Owns w' W.heap.size v (reachW L s S) ∧ Below W.heap.size W w') := fun W hI hX => specReach_any a1 cc L s a2 c2 S W hI HL.out HR.out (by omega) hX HSZ.out (by omega)
  obtain ⟨X, hX⟩ : ∃ X, S ++ O = X := ⟨_, rfl⟩
  have HX : Hid (S ++ O = X) := hX
  have HXZ : Hid (∀ x ∈ X, x.size ≤ 1000) := by
    rw [← hX]
    intro x hx
    rcases List.mem_append.1 hx with hx | hx
    · exact HSZ.out x hx
    · exact HOZ.out x hx
  have hXl : X.length = S.length + O.length := by rw [← hX, List.length_append]
  rw [hX] at HAL H1 H2 H3
  have HXL : Hid (X.length = S.length + O.length) := hXl
  clear hX hXl HL HR
  generalize hRR : reachW L s S = R at *
  generalize hRA : reachW L s X = A at *
  generalize hRB : reachW L s O = B at *
  have HRR : Hid (reachW L s S = R) := hRR
  have HRA : Hid (reachW L s X = A) := hRA
  have HRB : Hid (reachW L s O = B) := hRB
  clear hRR hRA hRB
  go_wp2_with fail
  refine (HIM.out S a2 c2 _ (HM.out.below HB2.out) HI2.out HST2.out HSZ.out (by omega)).mono ?_
  rintro e w3 ⟨v3, rfl, hO3, hb3⟩
  rw [HRR.out] at hO3
  obtain ⟨a3, c3, hv3, hS3⟩ := hO3.strs
  subst hv3
  have HS3 : Hid (IsStrs w3 a3 c3 R) := hS3
  have HI3 : Hid (IsRows FPg w3 a1 cc L) := HI2.out.below hb3
  have HST3 : Hid (IsStrs w3 a2 c2 S) := HST2.out.below hb3
  have HOT3 : Hid (IsStrs w3 ao co O) := HOT2.out.below hb3
  have HB3 : Hid (Below w.heap.size w w3) := HB2.out.trans (hb3.mono HB2.out.size)
  clear hO3 hS3 hb3 HI2 HST2 HOT2 HB2
  go_wp2_with fail
  refine (HSM.out _ HI3.out HST3.out).mono ?_
  rintro e w4 ⟨v4, rfl, hO4, hb4⟩
  obtain ⟨a4, c4, hv4, hS4⟩ := hO4.strs
  subst hv4
  have HSP : Hid (IsStrs w4 a4 c4 R) := hS4
  have HS4 : Hid (IsStrs w4 a3 c3 R) := HS3.out.below hb4
  have HI4 : Hid (IsRows FPg w4 a1 cc L) := HI3.out.below hb4
  have HST4 : Hid (IsStrs w4 a2 c2 S) := HST3.out.below hb4
  have HOT4 : Hid (IsStrs w4 ao co O) := HOT3.out.below hb4
  have HB4 : Hid (Below w.heap.size w w4) := HB3.out.trans (hb4.mono HB3.out.size)
  clear hO4 hS4 hb4 HI3 HST3 HOT3 HB3 HS3
  go_wp2_with fail
  refine (texts_n a3 _ c3 R a4 _ c4 R _ rfl rfl HS4.out HSP.out (Nat.le_trans HRL.out (by decide)) (Nat.le_trans HRL.out (by decide))).mono ?_
  rintro e w5 ⟨rfl, n5, hw5⟩
  have hb5 : Below w4.heap.size w4 w5 := by rw [hw5]; exact below_drew (Below.refl _ _) _
  rw [show decide (R = R) = true from decide_eq_true rfl]
  have HS5 : Hid (IsStrs w5 a3 c3 R) := HS4.out.below hb5
  have HI5 : Hid (IsRows FPg w5 a1 cc L) := HI4.out.below hb5
  have HST5 : Hid (IsStrs w5 a2 c2 S) := HST4.out.below hb5
  have HOT5 : Hid (IsStrs w5 ao co O) := HOT4.out.below hb5
  have HB5 : Hid (Below w.heap.size w w5) := HB4.out.trans (hb5.mono HB4.out.size)
  clear hw5 hb5 HI4 HST4 HOT4 HB4 HS4 HSP
  have hbe : Below w5.heap.size w5 (w5.alloc (.cells #[] 9)) := (Below.refl _ w5).alloc (Nat.le_refl _) _
  have HSTe : Hid (IsStrs (w5.alloc (.cells #[] 9)) a2 c2 S) := HST5.out.below hbe
  have HQe : Hid (IsQ (w5.alloc (.cells #[] 9)) w5.heap.size none (.slice (some ⟨w5.heap.size, 0, none⟩) 0 0) []) := isq_empty _ _ _
  have hse : w5.heap.size ≤ (w5.alloc (.cells #[] 9)).heap.size := by simp
  have HHE : Hid (w5.heap.size ≤ (w5.alloc (.cells #[] 9)).heap.size) := hse
  have HBE : Hid (Below w5.heap.size w5 (w5.alloc (.cells #[] 9))) := hbe
  clear hbe hse
  go_wp2_with (first
    | (at_builtin
       refine wp_append_q rfl _ _ rfl rfl HQe.out rfl HSTe.out HHE.out (by simp; omega) ?_
       intro v6 w6 row6 hq6 hg6 hn6
       have HQ6 : Hid (IsQ w6 w5.heap.size row6 v6 ([] ++ S)) := hq6
       have HB6 : Hid (Below w5.heap.size w5 w6) := HBE.out.trans (Dr.grown_any _ hg6 HHE.out (fun k hk => by cases hk))
       have HOT6 : Hid (IsStrs w6 ao co O) := HOT5.out.below HB6.out
       have HH6 : Hid (w5.heap.size ≤ w6.heap.size) := HB6.out.size
       clear hq6 hg6 hn6)
    | (at_builtin
       refine wp_append_q rfl _ _ rfl rfl HQ6.out rfl HOT6.out HH6.out (by simp; omega) ?_
       intro v7 w7 row7 hq7 hg7 hn7
       have HB7 : Hid (Below w5.heap.size w5 w7) := HB6.out.trans (Dr.grown_any _ hg7 HH6.out (fun k hk => (HQ6.out.lt k hk).1))
       rw [List.nil_append, HX.out] at hq7
       obtain ⟨a7, c7, hv7, hS7⟩ := hq7.strs
       subst hv7
       have HS7 : Hid (IsStrs w7 a7 c7 X) := hS7
       clear hq7 hg7 hn7 hS7))
  have HW7 : Hid (Below w.heap.size w w7) := HB5.out.trans (HB7.out.mono HB5.out.size)
  refine (HIM.out X a7 c7 _ (HM.out.below HW7.out) (HI5.out.below HB7.out) HS7.out HXZ.out (by rw [HXL.out]; omega)).mono ?_
  rintro e w8 ⟨v8, rfl, hO8, hb8⟩
  rw [HRA.out] at hO8
  obtain ⟨a8, c8, hv8, hS8⟩ := hO8.strs
  subst hv8
  have HS8 : Hid (IsStrs w8 a8 c8 A) := hS8
  have HB8 : Hid (Below w5.heap.size w5 w8) := HB7.out.trans (hb8.mono HB7.out.size)
  have HW8 : Hid (Below w.heap.size w w8) := HW7.out.trans (hb8.mono HW7.out.size)
  have HOT8 : Hid (IsStrs w8 ao co O) := HOT5.out.below HB8.out
  clear hO8 hb8 hS8 HQ6 HB6 HOT6 HH6 HS7 HB7 HW7
  go_wp2_with fail
  refine (HIM.out O ao co _ (HM.out.below HW8.out) (HI5.out.below HB8.out) HOT8.out HOZ.out (by omega)).mono ?_
  rintro e w10 ⟨v10, rfl, hO10, hb10⟩
  rw [HRB.out] at hO10
  obtain ⟨a10, c10, hv10, hS10⟩ := hO10.strs
  subst hv10
  have HSB : Hid (IsStrs w10 a10 c10 B) := hS10
  have HSA : Hid (IsStrs w10 a8 c8 A) := HS8.out.below hb10
  have HB10 : Hid (Below w5.heap.size w5 w10) := HB8.out.trans (hb10.mono HB8.out.size)
  have HW10 : Hid (Below w.heap.size w w10) := HW8.out.trans (hb10.mono HW8.out.size)
  have HSR : Hid (IsStrs w10 a3 c3 R) := HS5.out.below HB10.out
  clear hO10 hb10 hS10 HS8 HB8 HW8 HOT8
  go_wp2_with fail
  refine (within_any a3 c3 R a8 c8 A _ HSR.out HSA.out (Nat.le_trans HRL.out (by decide)) (Nat.le_trans HAL.out (by decide)) H1.out).mono ?_
  rintro e w11 ⟨rfl, e11⟩
  have e12 := e11.symm
  subst e12
  go_wp2_with fail
  refine (within_any a10 c10 B a8 c8 A _ HSB.out HSA.out (Nat.le_trans HBL.out (by decide)) (Nat.le_trans HAL.out (by decide)) H2.out).mono ?_
  rintro e w12 ⟨rfl, e13⟩
  have e14 := e13.symm
  subst e14
  have HSRe : Hid (IsStrs (w10.alloc (.cells #[] 9)) a3 c3 R) := HSR.out.keep (alloc_keep _ _)
  have HQe : Hid (IsQ (w10.alloc (.cells #[] 9)) w10.heap.size none (.slice (some ⟨w10.heap.size, 0, none⟩) 0 0) []) := isq_empty _ _ _
  have hse : w10.heap.size ≤ (w10.alloc (.cells #[] 9)).heap.size := by simp
  have HHE2 : Hid (w10.heap.size ≤ (w10.alloc (.cells #[] 9)).heap.size) := hse
  have HBE2 : Hid (Below w10.heap.size w10 (w10.alloc (.cells #[] 9))) := (Below.refl _ w10).alloc (Nat.le_refl _) _
  clear hse
  go_wp2_with (first
    | (at_builtin
       refine wp_append_qg rfl _ _ rfl rfl HQe.out rfl HSRe.out HHE2.out (by rw [List.length_nil, Nat.zero_add]; exact Nat.le_trans HRL.out (by decide)) ?_
       intro v6 w6 row6 hq6 hg6 hn6
       have HQ6 : Hid (IsQ w6 w10.heap.size row6 v6 ([] ++ R)) := hq6
       have HB6 : Hid (Below w10.heap.size w10 w6) := HBE2.out.trans (Dr.grown_any _ hg6 HHE2.out (fun k hk => by cases hk))
       have HSB6 : Hid (IsStrs w6 a10 c10 B) := HSB.out.below HB6.out
       have HH6 : Hid (w10.heap.size ≤ w6.heap.size) := HB6.out.size
       clear hq6 hg6 hn6)
    | (at_builtin
       refine wp_append_qg rfl _ _ rfl rfl HQ6.out rfl HSB6.out HH6.out (by have h1 := HRL.out; have h2 := HBL.out; simp; omega) ?_
       intro v7 w7 row7 hq7 hg7 hn7
       have HB7 : Hid (Below w10.heap.size w10 w7) := HB6.out.trans (Dr.grown_any _ hg7 HH6.out (fun k hk => (HQ6.out.lt k hk).1))
       rw [List.nil_append] at hq7
       obtain ⟨Y, hY⟩ : ∃ Y, R ++ B = Y := ⟨_, rfl⟩
       have HYL : Hid (Y.length ≤ 8000) := by
         have h1 := HRL.out
         have h2 := HBL.out
         show Y.length ≤ 8000
         rw [← hY, List.length_append]; omega
       rw [hY] at hq7
       obtain ⟨a7, c7, hv7, hS7⟩ := hq7.strs
       subst hv7
       have HS7 : Hid (IsStrs w7 a7 c7 Y) := hS7
       have HSA7 : Hid (IsStrs w7 a8 c8 A) := HSA.out.below HB7.out
       have HY : Hid (∀ x ∈ A, x ∈ Y) := by rw [← hY]; exact H3.out
       have HW7 : Hid (Below w.heap.size w w7) := HW10.out.trans (HB7.out.mono HW10.out.size)
       clear hq7 hg7 hn7 hS7 hY)
    | (go_at_call 33
       refine (within_any a8 c8 A a7 c7 Y _ HSA7.out HS7.out (Nat.le_trans HAL.out (by decide)) (Nat.le_trans HYL.out (by decide)) HY.out).mono ?_
       rintro e w13 ⟨rfl, e15⟩
       have e16 := e15.symm
       subst e16))
  go_ret
  exact ⟨rfl, HW7.out⟩
end Go.Proofs.YtmgcdfmgmpnonaaGreatDoor.fnReachMore
