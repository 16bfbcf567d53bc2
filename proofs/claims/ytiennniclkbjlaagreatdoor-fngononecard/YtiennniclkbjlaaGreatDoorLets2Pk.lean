/- Several texts in one: Lets2, Nt0, Grp1, Nt1. -/
import Derived.Test.YtiennniclkbjlaaGreatDoorLetsMath
import Derived.Test.YtiennniclkbjlaaGreatDoorGrpMathPk
import Derived.Test.YtiennniclkbjlaaGreatDoorEscLeafPk
/- Do rules let a way: the model's. -/
namespace Go.Proofs.YtiennniclkbjlaaGreatDoor.LeS
open Go.RowKit Go.Proofs.YtiennniclkbjlaaGreatDoor.EscM Go.Proofs.YtiennniclkbjlaaGreatDoor.EscL Go.Proofs.YtiennniclkbjlaaGreatDoor.RuleM Go.Proofs.YtiennniclkbjlaaGreatDoor.Ru1 Go.Proofs.YtiennniclkbjlaaGreatDoor.ReadM Go.Proofs.YtiennniclkbjlaaGreatDoor.HasM Go.Proofs.YtiennniclkbjlaaGreatDoor.St Go.Proofs.YtiennniclkbjlaaGreatDoor.Rd1 Go.Proofs.YtiennniclkbjlaaGreatDoor.RR Go.Proofs.YtiennniclkbjlaaGreatDoor.LetM

/-- the greatest size so far, as the model has it -/
def bestZ (L : List Ru) (s : List UInt8) : Int := if (letSt L s).1 = 0 then -1 else ((letSt L s).1 : Int)
theorem best_bd (L : List Ru) (s : List UInt8) : -1 ≤ bestZ L s ∧ bestZ L s ≤ 16 := by
  have := letSt_bound L s
  unfold bestZ; split <;> omega

end Go.Proofs.YtiennniclkbjlaaGreatDoor.LeS
/- A number in decimals, of the model: at most 20. -/
namespace Go.Proofs.YtiennniclkbjlaaGreatDoor.Nt
open Go.RowKit Go.Proofs.YtiennniclkbjlaaGreatDoor.EscM Go.Proofs.YtiennniclkbjlaaGreatDoor.EscL Go.Proofs.YtiennniclkbjlaaGreatDoor.RuleM Go.Proofs.YtiennniclkbjlaaGreatDoor.St Go.Proofs.YtiennniclkbjlaaGreatDoor.RR Go.Proofs.YtiennniclkbjlaaGreatDoor.LetM Go.Proofs.YtiennniclkbjlaaGreatDoor.Nm Go.Proofs.YtiennniclkbjlaaGreatDoor.GrM Go.Proofs.YtiennniclkbjlaaGreatDoor.NtM

set_option maxRecDepth 100000 in
set_option maxHeartbeats 1600000 in
theorem specDec_small (n : Nat) (w : World) (h : n < 10) :
    Calls Tryz.prog 70 #[.int .i64 (n : Int)] w fun e w' => e = .returned (.string ⟨#[figL n]⟩) ∧ Below w.heap.size w w' := by
  have hob : ∀ W : World, _ := fun W => one_byte W (48 + (n : Int)) (by omega) (by omega)
  have hw : IntKind.u8.wrap (48 + (n : Int)) = 48 + (n : Int) := by
    have : n = 0 ∨ n = 1 ∨ n = 2 ∨ n = 3 ∨ n = 4 ∨ n = 5 ∨ n = 6 ∨ n = 7 ∨ n = 8 ∨ n = 9 := by omega
    rcases this with rfl | rfl | rfl | rfl | rfl | rfl | rfl | rfl | rfl | rfl <;> decide
  have HT : Hid (toB (48 + (n : Int)) = figL n) := by
    have : n = 0 ∨ n = 1 ∨ n = 2 ∨ n = 3 ∨ n = 4 ∨ n = 5 ∨ n = 6 ∨ n = 7 ∨ n = 8 ∨ n = 9 := by omega
    show _ = _
    rcases this with rfl | rfl | rfl | rfl | rfl | rfl | rfl | rfl | rfl | rfl <;> decide
  go_enter Tryz.func70, Tryz.ntmps70
  go_wp2
  go_ret
  exact ⟨ret_str (by rw [HT.out]), (Below.refl _ _).alloc (Nat.le_refl _) _⟩

theorem byte_at (w : World) (b : Nat) (n : Int) (h0 : 0 ≤ n) (h1 : n ≤ 255) (hc : w.cell? ⟨b, 0, none⟩ = some (.int .u8 n)) :
    (convert 22 9 (.slice (some ⟨b, 0, none⟩) 1 1)).run Tryz.prog w = .ok (.string ⟨#[toB n]⟩) w := by
  refine run_convert_bytes_back _ _ _ _ _ 1 [toB n] Tryz.underlying22 Tryz.underlying5 Tryz.underlying9 ?_
  intro j hj
  match j, hj with
  | 0, _ => simp [Addr.add, toB_toNat n h0 h1, hc]

theorem byte_in {w w1 : World} {n : Int} (h0 : 0 ≤ n) (h1 : n ≤ 255) (hb : Below (w.alloc (.cells #[.int .u8 n] 5)).drew.heap.size (w.alloc (.cells #[.int .u8 n] 5)).drew w1) :
    (convert 22 9 (.slice (some ⟨w.heap.size, 0, none⟩) 1 1)).run Tryz.prog w1 = .ok (.string ⟨#[toB n]⟩) w1 := by
  refine byte_at w1 w.heap.size n h0 h1 ((hb.cell (by show w.heap.size < (w.alloc (.cells #[.int .u8 n] 5)).heap.size; simp)).trans (by show (w.alloc (.cells #[.int .u8 n] 5)).cell? _ = _; simp))

theorem two_figs (q r : Nat) (hr : r < 10) : (⟨#[figL q]⟩ : ByteArray) ++ (⟨#[toB (48 + (r : Int))]⟩ : ByteArray) = ⟨#[figL q, figL r]⟩ := by
  have : toB (48 + (r : Int)) = figL r := by
    have : r = 0 ∨ r = 1 ∨ r = 2 ∨ r = 3 ∨ r = 4 ∨ r = 5 ∨ r = 6 ∨ r = 7 ∨ r = 8 ∨ r = 9 := by omega
    rcases this with rfl | rfl | rfl | rfl | rfl | rfl | rfl | rfl | rfl | rfl <;> decide
  rw [this]; apply ByteArray.ext; simp

set_option maxRecDepth 100000 in
set_option maxHeartbeats 1600000 in
theorem specDec_two (n q r : Nat) (w : World) (h1 : 10 ≤ n) (h2 : n ≤ 99) (hq0 : q = n / 10) (hr0 : r = n % 10) :
    Calls Tryz.prog 70 #[.int .i64 (n : Int)] w fun e w' => e = .returned (.string ⟨#[figL q, figL r]⟩) ∧ Below w.heap.size w w' := by
  have hr10 : r < 10 := by omega
  have hq10 : q < 10 := by omega
  have hob : ∀ W : World, _ := fun W => one_byte W (48 + (r : Int)) (by omega) (by omega)
  have hob1 : (convert 22 9 (.slice (some ⟨w.heap.size, 0, none⟩) 1 1)).run Tryz.prog (w.alloc (.cells #[.int .u8 (48 + (r : Int))] 5)).drew = .ok (.string ⟨#[toB (48 + (r : Int))]⟩) (w.alloc (.cells #[.int .u8 (48 + (r : Int))] 5)).drew := byte_at _ _ _ (by omega) (by omega) (by show (w.alloc (.cells #[.int .u8 (48 + (r : Int))] 5)).cell? _ = _; simp)
  have HB : Hid (∀ W : World, Calls Tryz.prog 70 #[.int .i64 (q : Int)] W fun e w' => e = .returned (.string ⟨#[figL q]⟩) ∧ Below W.heap.size W w') := fun W => specDec_small q W hq10
  have hq : (n : Int).tdiv 10 = (q : Int) := by rw [Int.tdiv_eq_ediv_of_nonneg (by omega)]; omega
  have hr : (n : Int).tmod 10 = (r : Int) := by rw [Int.tmod_eq_emod_of_nonneg (by omega)]; omega
  have e1 : IntKind.i64.wrap (q : Int) = (q : Int) := IntWalk.i64_in _ (by omega)
  have e4 : IntKind.i64.wrap (r : Int) = (r : Int) := IntWalk.i64_in _ (by omega)
  have e2 : IntKind.i64.wrap (48 + (r : Int)) = 48 + (r : Int) := IntWalk.i64_in _ (by omega)
  have e3 : IntKind.u8.wrap (48 + (r : Int)) = 48 + (r : Int) := by
    have : r = 0 ∨ r = 1 ∨ r = 2 ∨ r = 3 ∨ r = 4 ∨ r = 5 ∨ r = 6 ∨ r = 7 ∨ r = 8 ∨ r = 9 := by omega
    clear hob hob1 hr hr0
    rcases this with rfl | rfl | rfl | rfl | rfl | rfl | rfl | rfl | rfl | rfl <;> decide
  have HF : Hid _ := two_figs q r hr10
  clear hq0 hr0
  go_enter Tryz.func70, Tryz.ntmps70
  go_wp2
  go_region_with (go_at_call 70; refine (HB.out _).mono ?_; rintro e w1 ⟨rfl, hb1⟩; first | (have hx : (convert 22 9 (.slice (some ⟨w.heap.size, 0, none⟩) 1 1)).run Tryz.prog w1 = .ok (.string ⟨#[toB (48 + (r : Int))]⟩) w1 := byte_in (w := w) (by omega) (by omega) hb1) | skip)
  all_goals
    go_wp2
    go_ret
    refine ⟨ret_str (by rw [HF.out]), ?_⟩
    first
    | exact (((Below.refl _ w).drew).trans hb1).alloc (((Below.refl _ w).drew).trans hb1).size _
    | exact ((((Below.refl _ w).alloc (Nat.le_refl _) _).drew).trans (hb1.mono (by show w.heap.size ≤ (w.alloc _).heap.size; simp)))
    | fail
theorem specDec_any (n : Nat) (w : World) (h2 : n ≤ 99) :
    Calls Tryz.prog 70 #[.int .i64 (n : Int)] w fun e w' => e = .returned (.string ⟨(decL n).toArray⟩) ∧ Below w.heap.size w w' := by
  by_cases h : n < 10
  · have e : decL n = [figL n] := by unfold decL; rw [if_pos h]
    rw [e]; exact specDec_small n w h
  · have e : decL n = [figL (n / 10), figL (n % 10)] := by unfold decL; rw [if_neg h]
    rw [e]; exact specDec_two n _ _ w (by omega) h2 rfl rfl
end Go.Proofs.YtiennniclkbjlaaGreatDoor.Nt
/- Are groups a notice: of the program and of the model. -/
namespace Go.Proofs.YtiennniclkbjlaaGreatDoor.Gp
open Go.RowKit Go.Proofs.YtiennniclkbjlaaGreatDoor.EscM Go.Proofs.YtiennniclkbjlaaGreatDoor.EscL Go.Proofs.YtiennniclkbjlaaGreatDoor.RuleM Go.Proofs.YtiennniclkbjlaaGreatDoor.Ru1 Go.Proofs.YtiennniclkbjlaaGreatDoor.St Go.Proofs.YtiennniclkbjlaaGreatDoor.RR Go.Proofs.YtiennniclkbjlaaGreatDoor.LetM Go.Proofs.YtiennniclkbjlaaGreatDoor.Nm Go.Proofs.YtiennniclkbjlaaGreatDoor.GrM

set_option maxRecDepth 100000 in
set_option maxHeartbeats 1600000 in
theorem implRules_any (a0 : Option Addr) (cap : Nat) (L : List Ru) (w : World) (hI : IsRows FRu w a0 cap L) (hl : L.length ≤ 4194304) (hL : ∀ r ∈ L, r.path.size ≤ maxLen) :
    Calls Tryz.prog 91 #[.slice a0 L.length cap] w fun e w' => e = .returned (.bool (L.all fun r => ruleL r.path.data.toList)) ∧ Below w.heap.size w w' := by
  have HI : Hid (IsRows FRu w a0 cap L) := hI
  have HL : Hid _ := hL
  clear hI hL
  go_enter Tryz.func91, Tryz.ntmps91
  go_wp2
  go_loopw [7] (fun i wr => ∃ k : Nat, k ≤ L.length ∧ i = .int .i64 (k : Int) ∧ Hid ((L.take k).all (fun r => ruleL r.path.data.toList) = true) ∧ Hid (Below w.heap.size w wr)) (fun i _ => L.length - (intOf i).toNat)
  case atStart => exact ⟨0, Nat.zero_le _, rfl, by show _ = _; simp, Below.refl _ _⟩
  case round =>
    obtain ⟨k, hk, rfl, HP, HB⟩ := hrel
    by_cases hlt : k < L.length
    · obtain ⟨B, off, e1, c0, c1⟩ := ru_at (IsRows.below HI.out HB.out) hlt
      subst e1
      have hr := HL.out L[k] (List.getElem_mem _)
      go_wp2_with fail
      refine (implRule_any _ _ hr).mono ?_
      rintro e w1 ⟨rfl, hb1⟩
      have HB1 : Hid (Below w.heap.size w w1) := HB.out.trans (Below.trans ((Below.refl _ wr).alloc (Nat.le_refl _) _ |>.mono HB.out.size) (hb1.mono (by have := HB.out.size; simp; omega)))
      clear hb1
      cases hh : ruleL L[k].path.data.toList with
      | false =>
        have HN : Hid ((L.all fun r => ruleL r.path.data.toList) = false) := all_no hlt hh
        clear hh
        go_wp2
        go_ret
        exact ⟨ret_bool HN.out.symm, HB1.out⟩
      | true =>
        have HN : Hid _ := all_snoc (P := fun r => ruleL r.path.data.toList) hlt HP.out hh
        clear hh
        go_wp2
        go_roundw
        case rel => exact ⟨k + 1, by omega, by go_num, HN, HB1⟩
        case measure => simp [intOf]; omega
    · have HE : Hid ((L.all fun r => ruleL r.path.data.toList) = true) := all_end (by omega) HP.out
      go_wp2
      go_ret
      exact ⟨ret_bool HE.out.symm, HB.out⟩

theorem implWait_any (n : Int) (w : World) :
    Calls Tryz.prog 92 #[.int .i64 n] w fun e w' => e = .returned (.bool (decide (0 ≤ n ∧ n ≤ 20))) ∧ w' = w := by
  by_cases h1 : 0 ≤ n
  · go_enter Tryz.func92, Tryz.ntmps92
    go_wp2
    go_ret
    exact ⟨ret_bool (by simp [h1]), rfl⟩
  · have h1' : decide (0 ≤ n) = false := decide_eq_false h1
    go_enter Tryz.func92, Tryz.ntmps92
    go_wp2
    go_ret
    exact ⟨rfl, rfl⟩

/-- the group of a call lies in its block -/
def gcells (g : Gr) : Array Value := #[.slice g.na g.nm.length g.nc, .slice g.ra g.ru.length g.rc, .int .i64 g.wait]

set_option maxRecDepth 100000 in
set_option maxHeartbeats 3200000 in
theorem specNotice_any (a0 : Option Addr) (cap : Nat) (L : List Gr) (w : World) (hI : IsRows FGr w a0 cap L) (hG : GrsAt w L) (hS : ∀ g ∈ L, GrSz g) (hl : L.length ≤ 1048576) :
    Calls Tryz.prog 120 #[.slice a0 L.length cap] w fun e w' => e = .returned (.bool (noticeB L)) ∧ Below w.heap.size w w' := by
  have HI : Hid (IsRows FGr w a0 cap L) := hI
  have HG : Hid (GrsAt w L) := hG
  have HS : Hid (∀ g ∈ L, GrSz g) := hS
  have HN0 : Hid (noticeB L = (L.all grpB && decide (linesN L ≤ 40))) := rfl
  have HLB : Hid (∀ k, k ≤ L.length → linesN (L.take k) ≤ k * 2097153) := fun k hk => by
    have := lines_le (L.take k) 2097153 (fun g hg => by have := hS g (List.mem_of_mem_take hg); obtain ⟨h1, h2, _⟩ := this; omega)
    have e : (L.take k).length = k := by simp; omega
    rw [e] at this; exact this
  clear hI hG hS
  go_enter Tryz.func120, Tryz.ntmps120
  go_wp2
  go_loopw [3, 4] (fun n i wr => ∃ k : Nat, k ≤ L.length ∧ i = .int .i64 (k : Int) ∧ n = .int .i64 (linesN (L.take k) : Int) ∧ Hid ((L.take k).all grpB = true) ∧ Hid (Below w.heap.size w wr)) (fun _ i _ => L.length - (intOf i).toNat)
  case atStart => exact ⟨0, Nat.zero_le _, rfl, rfl, by show _ = _; simp, Below.refl _ _⟩
  case round =>
    obtain ⟨k, hk, rfl, rfl, HP, HB⟩ := hrel
    by_cases hlt : k < L.length
    · obtain ⟨B, off, e1, c0, c1, c2⟩ := gr_at (IsRows.below HI.out HB.out) hlt
      subst e1
      have hz := HS.out L[k] (List.getElem_mem _)
      obtain ⟨hz1, hz2, hz3, hz4⟩ := hz
      have HZ3 : Hid _ := hz3
      have HZ4 : Hid _ := hz4
      have hlb := HLB.out k hk
      have HLN : Hid (linesN (L.take (k + 1)) = linesN (L.take k) + (L[k].nm.length + L[k].ru.length + 1)) := lines_snoc hlt
      have hG1 : GrAt (wr.alloc (.cells (gcells L[k]) 35)) L[k] := ((HG.out.below HB.out) L[k] (List.getElem_mem _)).keep (alloc_keep _ _)
      have HB1 : Hid (Below w.heap.size w (wr.alloc (.cells (gcells L[k]) 35))) := HB.out.trans ((Below.refl _ wr).alloc (Nat.le_refl _) _ |>.mono HB.out.size)
      have HGP : Hid (∀ b, grpB L[k] = b → (L.take (k + 1)).all grpB = b) := fun b hb => by
        cases b with
        | true => exact all_snoc hlt HP.out hb
        | false => rw [List.take_succ_eq_append_getElem hlt, List.all_append, HP.out]; simp [hb]
      have HNO : Hid (grpB L[k] = false → noticeB L = false) := fun hb => by rw [HN0.out, all_no hlt hb]; rfl
      have HG0 : Hid (grpB L[k] = (L[k].nm.all callB && decide (L[k].ru.length ≤ 6) && L[k].ru.all (fun r => ruleL r.path.data.toList) && decide (0 ≤ L[k].wait ∧ L[k].wait ≤ 20) && (decide (0 < L[k].ru.length) || decide (0 < L[k].wait)) && decide (0 < L[k].nm.length))) := rfl
      unfold gcells at hG1 HB1
      generalize linesN (L.take k) = m at *
      generalize grpB L[k] = gb at *
      have hm : m ≤ 2199024304128 := by omega
      obtain ⟨hA1, hI1⟩ := hG1
      generalize L[k] = g at *
      have HA1 : Hid (IsStrs _ g.na g.nc g.nm) := hA1
      have HI1 : Hid (IsRows FRu _ g.ra g.rc g.ru) := hI1
      generalize g.na = na at *
      generalize g.ra = ra at *
      clear hlb hz3 hz4 hA1 hI1
      have key : ∀ (P : Prop), (gb = false → P) → P ∨ True := fun _ _ => Or.inr trivial
      clear key
      by_cases hn0 : g.nm.length = 0
      · have HF : Hid (gb = false) := by show _ = _; rw [HG0.out, decide_eq_false (show ¬ 0 < g.nm.length by omega)]; simp
        have HN : Hid _ := HNO.out HF.out
        have hn0' : ((g.nm.length : Int) == 0) = true := by simp; exact List.eq_nil_of_length_eq_zero hn0
        clear hn0
        go_wp2
        go_ret
        exact ⟨ret_bool HN.out.symm, HB1.out⟩
      have hn0' : ((g.nm.length : Int) == 0) = false := by simp; intro e; rw [e] at hn0; exact hn0 rfl
      clear hn0
      have hnp : 0 < g.nm.length := by
        rcases Nat.eq_zero_or_pos g.nm.length with h | h
        · rw [h] at hn0'; simp at hn0'
        · exact h
      by_cases hr6 : 6 < g.ru.length
      · have HF : Hid (gb = false) := by show _ = _; rw [HG0.out, decide_eq_false (show ¬ g.ru.length ≤ 6 by omega)]; simp
        have HN : Hid _ := HNO.out HF.out
        have hr0 : ((g.ru.length : Int) == 0) = false := by simp; intro e; rw [e] at hr6; simp at hr6
        have hr6' : decide ((6 : Int) < (g.ru.length : Int)) = true := by simp; omega
        clear hr6
        go_wp2
        go_ret
        exact ⟨ret_bool HN.out.symm, HB1.out⟩
      have hr6' : decide ((6 : Int) < (g.ru.length : Int)) = false := by simp; omega
      by_cases hr0 : 0 < g.ru.length
      · have hr0' : ((g.ru.length : Int) == 0) = false := by simp; intro e; rw [e] at hr0; simp at hr0
        go_wp2_with fail
        refine (in_any _ _ _ _).mono ?_
        rintro e w1 ⟨rfl, rfl⟩
        by_cases hW : 0 ≤ g.wait ∧ g.wait ≤ 20
        · have HG2 : Hid (gb = (g.nm.all callB && g.ru.all (fun r => ruleL r.path.data.toList))) := by
            show _ = _
            rw [HG0.out, decide_eq_true hW, decide_eq_true (show g.ru.length ≤ 6 by omega), decide_eq_true hnp]
            have : (decide (0 < g.ru.length) || decide (0 < g.wait)) = true := by
              rw [decide_eq_true hr0]; rfl
            rw [this]; simp
          obtain ⟨hW1, hW2⟩ := hW
          rw [decide_eq_true hW1, decide_eq_true hW2]
          go_wp2
          go_loop [6] (fun i => ∃ j : Nat, j ≤ g.nm.length ∧ i = .int .i64 (j : Int) ∧ Hid ((g.nm.take j).all callB = true)) (fun i => g.nm.length - (intOf i).toNat)
          case atStart => exact ⟨0, Nat.zero_le _, rfl, by show _ = _; simp⟩
          case round =>
            obtain ⟨j, hj, rfl, HQ⟩ := hrel
            by_cases hjl : j < g.nm.length
            · obtain ⟨b2, o2, e2, c3⟩ := HA1.out.at hjl
              have hs := HZ3.out g.nm[j] (List.getElem_mem _)
              have HC : Hid (callB g.nm[j] = ((g.nm[j].toList == [42]) || nameB g.nm[j])) := rfl
              subst e2
              cases hst : (g.nm[j].toList == [42]) with
              | true =>
                have HN : Hid _ := all_snoc (P := callB) hjl HQ.out (by rw [HC.out, hst]; rfl)
                go_wp2
                go_round
                case rel => exact ⟨j + 1, by omega, by go_num, HN⟩
                case measure => simp [intOf]; omega
              | false =>
                go_wp2_with fail
                refine (specName_any _ _ hs).mono ?_
                rintro e w1 ⟨rfl, rfl⟩
                cases hnm : nameB g.nm[j] with
                | true =>
                  have HN : Hid _ := all_snoc (P := callB) hjl HQ.out (by rw [HC.out, hst, hnm]; rfl)
                  go_wp2
                  go_round
                  case rel => exact ⟨j + 1, by omega, by go_num, HN⟩
                  case measure => simp [intOf]; omega
                | false =>
                  have HF : Hid (gb = false) := by show _ = _; rw [HG2.out, all_no (P := callB) hjl (by rw [HC.out, hst, hnm]; rfl)]; rfl
                  have HN : Hid _ := HNO.out HF.out
                  go_wp2
                  go_ret
                  exact ⟨ret_bool HN.out.symm, HB1.out⟩
            · have HNM : Hid (g.nm.all callB = true) := all_end (by omega) HQ.out
              go_wp2
              go_loop [7] (fun i => ∃ j : Nat, j ≤ g.ru.length ∧ i = .int .i64 (j : Int) ∧ Hid ((g.ru.take j).all (fun r => ruleL r.path.data.toList) = true)) (fun i => g.ru.length - (intOf i).toNat)
              case atStart => exact ⟨0, Nat.zero_le _, rfl, by show _ = _; simp⟩
              case round =>
                obtain ⟨j2, hj2, rfl, HQ2⟩ := hrel
                by_cases hjl2 : j2 < g.ru.length
                · obtain ⟨b2, o2, e2, c3, c4⟩ := ru_at HI1.out hjl2
                  have hs := HZ4.out g.ru[j2] (List.getElem_mem _)
                  subst e2
                  go_wp2_with fail
                  refine (specRule_any _ _ hs).mono ?_
                  rintro e w1 ⟨rfl, rfl⟩
                  cases hnm : ruleL g.ru[j2].path.data.toList with
                  | true =>
                    have HN : Hid _ := all_snoc (P := fun r : Ru => ruleL r.path.data.toList) hjl2 HQ2.out hnm
                    go_wp2
                    go_round
                    case rel => exact ⟨j2 + 1, by omega, by go_num, HN⟩
                    case measure => simp [intOf]; omega
                  | false =>
                    have HF : Hid (gb = false) := by show _ = _; rw [HG2.out, all_no (P := fun r : Ru => ruleL r.path.data.toList) hjl2 hnm]; simp
                    have HN : Hid _ := HNO.out HF.out
                    go_wp2
                    go_ret
                    exact ⟨ret_bool HN.out.symm, HB1.out⟩
                · have HRU : Hid (g.ru.all (fun r => ruleL r.path.data.toList) = true) := all_end (by omega) HQ2.out
                  have HT : Hid ((L.take (k + 1)).all grpB = true) := HGP.out true (by rw [HG2.out, HNM.out, HRU.out]; rfl)
                  go_wp2
                  go_roundw
                  case rel => exact ⟨k + 1, by omega, by go_num, by rw [HLN.out]; go_num, HT, HB1⟩
                  case measure => simp [intOf]; omega
        · have HF : Hid (gb = false) := by show _ = _; rw [HG0.out, decide_eq_false hW]; simp
          have HN : Hid _ := HNO.out HF.out
          have hW' : (decide ((0 : Int) ≤ g.wait) && decide (g.wait ≤ 20)) = false := by rw [Bool.eq_false_iff]; intro h; simp at h; exact hW h
          rw [hW']
          clear hW
          go_wp2
          go_ret
          exact ⟨ret_bool HN.out.symm, HB1.out⟩
      have hr0' : ((g.ru.length : Int) == 0) = true := by simp; exact List.eq_nil_of_length_eq_zero (by omega)
      by_cases hw0 : g.wait = 0
      · have HF : Hid (gb = false) := by show _ = _; rw [HG0.out, decide_eq_false hr0, decide_eq_false (show ¬ 0 < g.wait by omega)]; simp
        have HN : Hid _ := HNO.out HF.out
        have hw0' : (g.wait == 0) = true := by simp; exact hw0
        clear hr6 hr0 hw0
        go_wp2
        go_ret
        exact ⟨ret_bool HN.out.symm, HB1.out⟩
      · have hw0' : (g.wait == 0) = false := by simp; exact hw0
        go_wp2_with fail
        refine (in_any _ _ _ _).mono ?_
        rintro e w1 ⟨rfl, rfl⟩
        by_cases hW : 0 ≤ g.wait ∧ g.wait ≤ 20
        · have HG2 : Hid (gb = (g.nm.all callB && g.ru.all (fun r => ruleL r.path.data.toList))) := by
            show _ = _
            rw [HG0.out, decide_eq_true hW, decide_eq_true (show g.ru.length ≤ 6 by omega), decide_eq_true hnp]
            have : (decide (0 < g.ru.length) || decide (0 < g.wait)) = true := by
              rw [decide_eq_true (show 0 < g.wait by omega)]; simp
            rw [this]; simp
          obtain ⟨hW1, hW2⟩ := hW
          rw [decide_eq_true hW1, decide_eq_true hW2]
          go_wp2
          go_loop [6] (fun i => ∃ j : Nat, j ≤ g.nm.length ∧ i = .int .i64 (j : Int) ∧ Hid ((g.nm.take j).all callB = true)) (fun i => g.nm.length - (intOf i).toNat)
          case atStart => exact ⟨0, Nat.zero_le _, rfl, by show _ = _; simp⟩
          case round =>
            obtain ⟨j, hj, rfl, HQ⟩ := hrel
            by_cases hjl : j < g.nm.length
            · obtain ⟨b2, o2, e2, c3⟩ := HA1.out.at hjl
              have hs := HZ3.out g.nm[j] (List.getElem_mem _)
              have HC : Hid (callB g.nm[j] = ((g.nm[j].toList == [42]) || nameB g.nm[j])) := rfl
              subst e2
              cases hst : (g.nm[j].toList == [42]) with
              | true =>
                have HN : Hid _ := all_snoc (P := callB) hjl HQ.out (by rw [HC.out, hst]; rfl)
                go_wp2
                go_round
                case rel => exact ⟨j + 1, by omega, by go_num, HN⟩
                case measure => simp [intOf]; omega
              | false =>
                go_wp2_with fail
                refine (specName_any _ _ hs).mono ?_
                rintro e w1 ⟨rfl, rfl⟩
                cases hnm : nameB g.nm[j] with
                | true =>
                  have HN : Hid _ := all_snoc (P := callB) hjl HQ.out (by rw [HC.out, hst, hnm]; rfl)
                  go_wp2
                  go_round
                  case rel => exact ⟨j + 1, by omega, by go_num, HN⟩
                  case measure => simp [intOf]; omega
                | false =>
                  have HF : Hid (gb = false) := by show _ = _; rw [HG2.out, all_no (P := callB) hjl (by rw [HC.out, hst, hnm]; rfl)]; rfl
                  have HN : Hid _ := HNO.out HF.out
                  go_wp2
                  go_ret
                  exact ⟨ret_bool HN.out.symm, HB1.out⟩
            · have HNM : Hid (g.nm.all callB = true) := all_end (by omega) HQ.out
              go_wp2
              go_loop [7] (fun i => ∃ j : Nat, j ≤ g.ru.length ∧ i = .int .i64 (j : Int) ∧ Hid ((g.ru.take j).all (fun r => ruleL r.path.data.toList) = true)) (fun i => g.ru.length - (intOf i).toNat)
              case atStart => exact ⟨0, Nat.zero_le _, rfl, by show _ = _; simp⟩
              case round =>
                obtain ⟨j2, hj2, rfl, HQ2⟩ := hrel
                by_cases hjl2 : j2 < g.ru.length
                · exact absurd hjl2 (by omega)
                · have HRU : Hid (g.ru.all (fun r => ruleL r.path.data.toList) = true) := all_end (by omega) HQ2.out
                  have HT : Hid ((L.take (k + 1)).all grpB = true) := HGP.out true (by rw [HG2.out, HNM.out, HRU.out]; rfl)
                  go_wp2
                  go_roundw
                  case rel => exact ⟨k + 1, by omega, by go_num, by rw [HLN.out]; go_num, HT, HB1⟩
                  case measure => simp [intOf]; omega
        · have HF : Hid (gb = false) := by show _ = _; rw [HG0.out, decide_eq_false hW]; simp
          have HN : Hid _ := HNO.out HF.out
          have hW' : (decide ((0 : Int) ≤ g.wait) && decide (g.wait ≤ 20)) = false := by rw [Bool.eq_false_iff]; intro h; simp at h; exact hW h
          rw [hW']
          clear hW
          go_wp2
          go_ret
          exact ⟨ret_bool HN.out.symm, HB1.out⟩
    · have HE : Hid (noticeB L = decide ((linesN (L.take k) : Int) ≤ 40)) := by
        show _ = _
        rw [HN0.out, all_end (by omega) HP.out, List.take_of_length_le (by omega), Bool.true_and]
        apply decide_eq_decide.2; omega
      go_wp2
      go_ret
      exact ⟨ret_bool HE.out.symm, HB.out⟩
end Go.Proofs.YtiennniclkbjlaaGreatDoor.Gp
/- A notice is written: of the model. -/
namespace Go.Proofs.YtiennniclkbjlaaGreatDoor.Nt
open Go.RowKit Go.Proofs.YtiennniclkbjlaaGreatDoor.EscM Go.Proofs.YtiennniclkbjlaaGreatDoor.EscL Go.Proofs.YtiennniclkbjlaaGreatDoor.RuleM Go.Proofs.YtiennniclkbjlaaGreatDoor.Ru1 Go.Proofs.YtiennniclkbjlaaGreatDoor.St Go.Proofs.YtiennniclkbjlaaGreatDoor.RR Go.Proofs.YtiennniclkbjlaaGreatDoor.LetM Go.Proofs.YtiennniclkbjlaaGreatDoor.Nm Go.Proofs.YtiennniclkbjlaaGreatDoor.GrM Go.Proofs.YtiennniclkbjlaaGreatDoor.Gp Go.Proofs.YtiennniclkbjlaaGreatDoor.NtM

theorem app_l (l : List UInt8) (s : ByteArray) : (⟨l.toArray⟩ : ByteArray) ++ s = ⟨(l ++ s.data.toList).toArray⟩ := by apply ByteArray.ext; simp
/-- three texts behind what was written -/
theorem app_three (l a b : List UInt8) (s : ByteArray) : (⟨l.toArray⟩ : ByteArray) ++ (⟨a.toArray⟩ : ByteArray) ++ s ++ (⟨b.toArray⟩ : ByteArray) = ⟨(l ++ (a ++ s.data.toList ++ b)).toArray⟩ := by apply ByteArray.ext; simp

set_option maxRecDepth 100000 in
set_option maxHeartbeats 3200000 in
theorem specNText_any (a0 : Option Addr) (cap : Nat) (L : List Gr) (w : World) (hI : IsRows FGr w a0 cap L) (hG : GrsAt w L) (hS : ∀ g ∈ L, GrSz g) (hl : L.length ≤ 1048576) :
    Calls Tryz.prog 96 #[.slice a0 L.length cap] w fun e w' => e = .returned (.string (ntS L)) ∧ Below w.heap.size w w' := by
  have HI : Hid (IsRows FGr w a0 cap L) := hI
  have HG : Hid (GrsAt w L) := hG
  have HS : Hid (∀ g ∈ L, GrSz g) := hS
  clear hI hG hS
  go_enter Tryz.func96, Tryz.ntmps96
  go_wp2_with fail
  refine (specNotice_any a0 cap L _ HI.out HG.out HS.out hl).mono ?_
  rintro e w1 ⟨rfl, hb1⟩
  have HB1 : Hid (Below w.heap.size w w1) := hb1
  clear hb1
  cases hn : noticeB L with
  | false =>
    have HN : Hid (ntS L = ⟨#[]⟩) := by show _ = _; unfold ntS; rw [hn]; rfl
    clear hn
    go_wp2
    go_ret
    exact ⟨ret_str HN.out.symm, HB1.out⟩
  | true =>
  have HN : Hid (ntS L = ⟨(ntText L).toArray⟩) := by show _ = _; unfold ntS; rw [hn]; rfl
  have HSh : Hid (∀ g ∈ L, GrShort g) := (notice_short hn).1
  have HLn : Hid (linesN L ≤ 40) := (notice_short hn).2
  clear hn
  go_wp2
  go_loopw [3, 4] (fun v i wr => ∃ k : Nat, k ≤ L.length ∧ i = .int .i64 (k : Int) ∧ v = .string ⟨(ntText (L.take k)).toArray⟩ ∧ Hid (Below w.heap.size w wr)) (fun _ i _ => L.length - (intOf i).toNat)
  case atStart => exact ⟨0, Nat.zero_le _, rfl, rfl, HB1⟩
  case round =>
    obtain ⟨k, hk, rfl, rfl, HB⟩ := hrel
    by_cases hlt : k < L.length
    · obtain ⟨B, off, e1, c0, c1, c2⟩ := gr_at (IsRows.below HI.out HB.out) hlt
      subst e1
      have HGk : Hid (GrAt wr L[k]) := (HG.out.below HB.out) L[k] (List.getElem_mem _)
      have HSk : Hid (GrShort L[k]) := HSh.out L[k] (List.getElem_mem _)
      have HT : Hid (ntText (L.take (k + 1)) = ntText (L.take k) ++ (ntNames L[k].nm ++ ntRules L[k].ru ++ waitLn L[k].wait)) := text_snoc hlt
      have htl : (ntText (L.take k)).length ≤ 21 * linesN (L.take k) := text_len fun g hg => HSh.out g (List.mem_of_mem_take hg)
      have hrm := lines_room HLn.out hlt
      generalize linesN (L.take k) = m at *
      generalize ntText (L.take k) = T at *
      generalize L[k] = g at *
      have htl2 : T.length ≤ 840 := by omega
      go_wp2
      go_loop [3, 5] (fun v i => ∃ j : Nat, j ≤ g.nm.length ∧ i = .int .i64 (j : Int) ∧ v = .string ⟨(T ++ ntNames (g.nm.take j)).toArray⟩) (fun _ i => g.nm.length - (intOf i).toNat)
      case atStart => exact ⟨0, Nat.zero_le _, rfl, val_str (by simp [ntNames])⟩
      case round =>
        obtain ⟨j, hj, rfl, rfl⟩ := hrel
        have hnl : (ntNames (g.nm.take j)).length ≤ 21 * (g.nm.take j).length := names_len fun s hs => HSk.out.1 s (List.mem_of_mem_take hs)
        rw [List.length_take] at hnl
        by_cases hjl : j < g.nm.length
        · obtain ⟨b2, o2, e2, c3⟩ := HGk.out.1.at hjl
          have hs8 := HSk.out.1 g.nm[j] (List.getElem_mem _)
          have HJ : Hid (ntNames (g.nm.take (j + 1)) = ntNames (g.nm.take j) ++ nameLn g.nm[j]) := names_snoc hjl
          generalize g.na = na at *
          subst e2
          generalize ntNames (g.nm.take j) = U at *
          generalize g.nm[j] = s at *
          have hUl : (T ++ U).length ≤ 840 := by rw [List.length_append]; omega
          generalize hV : T ++ U = V at *
          have HV : Hid (T ++ U = V) := hV
          clear hV
          go_wp2
          go_round
          case rel => exact ⟨j + 1, by omega, by go_num, val_str (by rw [HJ.out, ← List.append_assoc, HV.out]; exact app_three V [99, 97, 108, 108, 101, 114, 32] [10] s)⟩
          case measure => simp [intOf]; omega
        · have e3 : g.nm.take j = g.nm := List.take_of_length_le (by omega)
          rw [e3] at hnl ⊢
          have hnl2 : (ntNames g.nm).length ≤ 21 * g.nm.length := by omega
          clear hnl e3
          generalize ntNames g.nm = N at *
          generalize hX : T ++ N = X at *
          have HX : Hid (T ++ N = X) := hX
          have hXl : X.length ≤ 21 * (m + g.nm.length) := by rw [← hX, List.length_append]; omega
          clear hX
          go_wp2
          go_loop [3, 6] (fun v i => ∃ j : Nat, j ≤ g.ru.length ∧ i = .int .i64 (j : Int) ∧ v = .string ⟨(X ++ ntRules (g.ru.take j)).toArray⟩) (fun _ i => g.ru.length - (intOf i).toNat)
          case atStart => exact ⟨0, Nat.zero_le _, rfl, val_str (by simp [ntRules])⟩
          case round =>
            obtain ⟨j2, hj2, rfl, rfl⟩ := hrel
            have hrl : (ntRules (g.ru.take j2)).length ≤ 21 * (g.ru.take j2).length := rules_len fun s hs => HSk.out.2.1 s (List.mem_of_mem_take hs)
            rw [List.length_take] at hrl
            by_cases hjl2 : j2 < g.ru.length
            · obtain ⟨b2, o2, e2, c3, c4⟩ := ru_at HGk.out.2 hjl2
              have hs16 := HSk.out.2.1 g.ru[j2] (List.getElem_mem _)
              have HJ : Hid (ntRules (g.ru.take (j2 + 1)) = ntRules (g.ru.take j2) ++ (wordL g.ru[j2].lt ++ g.ru[j2].path.data.toList ++ [10])) := rules_snoc hjl2
              generalize g.ra = ra at *
              subst e2
              generalize ntRules (g.ru.take j2) = U at *
              generalize g.ru[j2] = r at *
              have hUl : (X ++ U).length ≤ 840 := by rw [List.length_append]; omega
              generalize hV : X ++ U = V at *
              have HV : Hid (X ++ U = V) := hV
              clear hV
              generalize r.path = s at *
              cases hlt2 : r.lt with
              | true =>
                rw [hlt2] at c3
                have HW : Hid (wordL r.lt = [108, 101, 116, 32]) := by show _ = _; rw [hlt2]; rfl
                clear hlt2
                go_wp2
                go_round
                case rel => exact ⟨j2 + 1, by omega, by go_num, val_str (by rw [HJ.out, HW.out, ← List.append_assoc, HV.out]; exact app_three V [108, 101, 116, 32] [10] s)⟩
                case measure => simp [intOf]; omega
              | false =>
                rw [hlt2] at c3
                have HW : Hid (wordL r.lt = [98, 97, 114, 32]) := by show _ = _; rw [hlt2]; rfl
                clear hlt2
                go_wp2
                go_round
                case rel => exact ⟨j2 + 1, by omega, by go_num, val_str (by rw [HJ.out, HW.out, ← List.append_assoc, HV.out]; exact app_three V [98, 97, 114, 32] [10] s)⟩
                case measure => simp [intOf]; omega
            · have e3 : g.ru.take j2 = g.ru := List.take_of_length_le (by omega)
              rw [e3] at hrl ⊢
              have hrl2 : (ntRules g.ru).length ≤ 21 * g.ru.length := by omega
              clear hrl e3
              generalize ntRules g.ru = R at *
              generalize hY : X ++ R = Y at *
              have HY : Hid (X ++ R = Y) := hY
              have hYl : Y.length ≤ 840 := by rw [← hY, List.length_append]; omega
              clear hY
              have HTY : Hid (∀ W, T ++ (N ++ R ++ W) = Y ++ W) := fun W => by rw [← HY.out, ← HX.out]; simp
              obtain ⟨hw0, hw20⟩ := HSk.out.2.2
              by_cases hwz : 0 < g.wait
              · obtain ⟨n, hn⟩ : ∃ n : Nat, g.wait = (n : Int) := ⟨g.wait.toNat, by omega⟩
                have HW : Hid (waitLn g.wait = [119, 97, 105, 116, 32] ++ decL n ++ [10]) := by
                  show _ = _
                  unfold waitLn; rw [if_pos hwz, hn]; rfl
                rw [hn] at c2 hwz hw0 hw20
                have hdl := dec_len n
                clear hn
                go_wp2_with fail
                refine (specDec_any n _ (by omega)).mono ?_
                rintro e w2 ⟨rfl, hb2⟩
                have HB2 : Hid (Below w.heap.size w w2) := HB.out.trans (hb2.mono HB.out.size)
                clear hb2
                generalize decL n = D at *
                go_wp2
                go_roundw
                case rel => exact ⟨k + 1, by omega, by go_num, val_str (by rw [HT.out, HW.out, HTY.out]; apply ByteArray.ext; simp), HB2⟩
                case measure => simp [intOf]; omega
              · have HW : Hid (waitLn g.wait = []) := by show _ = _; unfold waitLn; rw [if_neg hwz]
                go_wp2
                go_roundw
                case rel => exact ⟨k + 1, by omega, by go_num, val_str (by rw [HT.out, HW.out, HTY.out, List.append_nil]), HB⟩
                case measure => simp [intOf]; omega
    · have e3 : L.take k = L := List.take_of_length_le (by omega)
      rw [e3]
      go_wp2
      go_ret
      exact ⟨ret_str HN.out.symm, HB.out⟩
end Go.Proofs.YtiennniclkbjlaaGreatDoor.Nt
