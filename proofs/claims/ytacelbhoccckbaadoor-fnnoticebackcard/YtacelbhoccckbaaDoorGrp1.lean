/- Are groups a notice: of the program and of the model. -/
import Derived.Test.YtacelbhoccckbaaDoorGrpMath
import Derived.Test.YtacelbhoccckbaaDoorEscLeafPk
namespace Go.Proofs.YtacelbhoccckbaaDoor.Gp
open Go.RowKit Go.Proofs.YtacelbhoccckbaaDoor.EscM Go.Proofs.YtacelbhoccckbaaDoor.EscL Go.Proofs.YtacelbhoccckbaaDoor.RuleM Go.Proofs.YtacelbhoccckbaaDoor.Ru1 Go.Proofs.YtacelbhoccckbaaDoor.St Go.Proofs.YtacelbhoccckbaaDoor.RR Go.Proofs.YtacelbhoccckbaaDoor.LetM Go.Proofs.YtacelbhoccckbaaDoor.Nm Go.Proofs.YtacelbhoccckbaaDoor.GrM

set_option maxRecDepth 100000 in
set_option maxHeartbeats 1600000 in
theorem implRules_any (a0 : Option Addr) (cap : Nat) (L : List Ru) (w : World) (hI : IsRows FRu w a0 cap L) (hl : L.length ≤ 4194304) (hL : ∀ r ∈ L, r.path.size ≤ maxLen) :
    Calls Tryd.prog 50 #[.slice a0 L.length cap] w fun e w' => e = .returned (.bool (L.all fun r => ruleL r.path.data.toList)) ∧ Below w.heap.size w w' := by
  have HI : Hid (IsRows FRu w a0 cap L) := hI
  have HL : Hid _ := hL
  clear hI hL
  go_enter Tryd.func50, Tryd.ntmps50
  go_wp2
  go_loopw [7] (fun i wr => ∃ k : Nat, k ≤ L.length ∧ i = .int .i64 (k : Int) ∧ Hid ((L.take k).all (fun r => ruleL r.path.data.toList) = true) ∧ Hid (Below w.heap.size w wr)) (fun i _ => L.length - (intOf i).toNat)
  case atStart => exact ⟨0, Nat.zero_le _, rfl, by show _ = _; simp, Below.refl _ _⟩
  case round =>
    obtain ⟨k, hk, rfl, HP, HB⟩ := hrel
    by_cases hlt : k < L.length
    · obtain ⟨B, off, e1, c0, c1⟩ := ru_at (IsRows.below HI.out HB.out) hlt
      subst e1
      have hr := HL.out L[k] (List.getElem_mem _)
      go_wp2_with fail
      refine (implRule_any _ _ hr).mono ?_
      rintro e w1 ⟨rfl, hb1⟩
      have HB1 : Hid (Below w.heap.size w w1) := HB.out.trans (Below.trans ((Below.refl _ wr).alloc (Nat.le_refl _) _ |>.mono HB.out.size) (hb1.mono (by have := HB.out.size; simp; omega)))
      clear hb1
      cases hh : ruleL L[k].path.data.toList with
      | false =>
        have HN : Hid ((L.all fun r => ruleL r.path.data.toList) = false) := all_no hlt hh
        clear hh
        go_wp2
        go_ret
        exact ⟨ret_bool HN.out.symm, HB1.out⟩
      | true =>
        have HN : Hid _ := all_snoc (P := fun r => ruleL r.path.data.toList) hlt HP.out hh
        clear hh
        go_wp2
        go_roundw
        case rel => exact ⟨k + 1, by omega, by go_num, HN, HB1⟩
        case measure => simp [intOf]; omega
    · have HE : Hid ((L.all fun r => ruleL r.path.data.toList) = true) := all_end (by omega) HP.out
      go_wp2
      go_ret
      exact ⟨ret_bool HE.out.symm, HB.out⟩

theorem implWait_any (n : Int) (w : World) :
    Calls Tryd.prog 51 #[.int .i64 n] w fun e w' => e = .returned (.bool (decide (0 ≤ n ∧ n ≤ 20))) ∧ w' = w := by
  by_cases h1 : 0 ≤ n
  · go_enter Tryd.func51, Tryd.ntmps51
    go_wp2
    go_ret
    exact ⟨ret_bool (by simp [h1]), rfl⟩
  · have h1' : decide (0 ≤ n) = false := decide_eq_false h1
    go_enter Tryd.func51, Tryd.ntmps51
    go_wp2
    go_ret
    exact ⟨rfl, rfl⟩

/-- the group of a call lies in its block -/
def gcells (g : Gr) : Array Value := #[.slice g.na g.nm.length g.nc, .slice g.ra g.ru.length g.rc, .int .i64 g.wait]

set_option maxRecDepth 100000 in
set_option maxHeartbeats 3200000 in
theorem implGroup_any (g : Gr) (w : World) (hG : GrAt w g) (hS : GrSz g) :
    Calls Tryd.prog 39 #[.agg (gcells g)] w fun e w' => e = .returned (.bool (grpB g)) ∧ Below w.heap.size w w' := by
  obtain ⟨hA, hI⟩ := hG
  obtain ⟨hn, hr, hns, hrs⟩ := hS
  have HA : Hid (IsStrs w g.na g.nc g.nm) := hA
  have HI : Hid (IsRows FRu w g.ra g.rc g.ru) := hI
  have HNs : Hid _ := hns
  have HRs : Hid _ := hrs
  have HG : Hid (grpB g = (g.nm.all callB && decide (g.ru.length ≤ 6) && g.ru.all (fun r => ruleL r.path.data.toList) && decide (0 ≤ g.wait ∧ g.wait ≤ 20) && (decide (0 < g.ru.length) || decide (0 < g.wait)) && decide (0 < g.nm.length))) := rfl
  clear hA hI hns hrs
  obtain ⟨nm, na, nc, ru, ra, rc, wait⟩ := g
  simp only at *
  go_enter Tryd.func39, Tryd.ntmps39
  unfold gcells
  go_wp2
  have HI1 : Hid (IsRows FRu (w.alloc (.cells #[.slice na nm.length nc, .slice ra ru.length rc, .int .i64 wait] 34)) ra rc ru) := HI.out.keep (alloc_keep _ _)
  have HA1 : Hid (IsStrs (w.alloc (.cells #[.slice na nm.length nc, .slice ra ru.length rc, .int .i64 wait] 34)) na nc nm) := HA.out.keep (alloc_keep _ _)
  have HB1 : Hid (Below w.heap.size w (w.alloc (.cells #[.slice na nm.length nc, .slice ra ru.length rc, .int .i64 wait] 34))) := (Below.refl _ _).alloc (Nat.le_refl _) _
  go_loop [9] (fun i => ∃ k : Nat, k ≤ nm.length ∧ i = .int .i64 (k : Int) ∧ Hid ((nm.take k).all callB = true)) (fun i => nm.length - (intOf i).toNat)
  case atStart => exact ⟨0, Nat.zero_le _, rfl, by show _ = _; simp⟩
  case round =>
    obtain ⟨k, hk, rfl, HP⟩ := hrel
    by_cases hlt : k < nm.length
    · obtain ⟨b1, o1, e1, c1⟩ := HA1.out.at hlt
      subst e1
      have hs := HNs.out nm[k] (List.getElem_mem _)
      go_wp2_with fail
      refine (implCall_any _ _ hs).mono ?_
      rintro e w1 ⟨rfl, rfl⟩
      cases hh : callB nm[k] with
      | false =>
        have HN : Hid (grpB ⟨nm, some ⟨b1, o1, none⟩, nc, ru, ra, rc, wait⟩ = false) := by show _ = _; rw [HG.out, all_no hlt hh]; rfl
        clear hh
        go_wp2
        go_ret
        exact ⟨ret_bool HN.out.symm, HB1.out⟩
      | true =>
        have HN : Hid _ := all_snoc (P := callB) hlt HP.out hh
        clear hh
        go_wp2
        go_round
        case rel => exact ⟨k + 1, by omega, by go_num, HN⟩
        case measure => simp [intOf]; omega
    · have HE : Hid (nm.all callB = true) := all_end (by omega) HP.out
      by_cases h6 : ru.length ≤ 6
      · go_wp2_with fail
        refine (implRules_any ra rc ru _ HI1.out (by omega) HRs.out).mono ?_
        rintro e w1 ⟨rfl, hb1⟩
        have d1 : w1.cell? ⟨w.heap.size, 1, none⟩ = some (.slice ra ru.length rc) := (hb1.cell (by show w.heap.size < _; simp)).trans (by simp)
        have d2 : w1.cell? ⟨w.heap.size, 2, none⟩ = some (.int .i64 wait) := (hb1.cell (by show w.heap.size < _; simp)).trans (by simp)
        have d0 : w1.cell? ⟨w.heap.size, 0, none⟩ = some (.slice na nm.length nc) := (hb1.cell (by show w.heap.size < _; simp)).trans (by simp)
        have HB2 : Hid (Below w.heap.size w w1) := HB1.out.trans (hb1.mono (by simp))
        clear hb1
        cases hR : (ru.all fun r => ruleL r.path.data.toList) with
        | false =>
          have HN : Hid (grpB ⟨nm, na, nc, ru, ra, rc, wait⟩ = false) := by show _ = _; rw [HG.out, hR]; simp
          clear hR
          go_wp2
          go_ret
          exact ⟨ret_bool HN.out.symm, HB2.out⟩
        | true =>
          go_wp2_with fail
          refine (implWait_any wait _).mono ?_
          rintro e w2 ⟨rfl, rfl⟩
          by_cases hW : 0 ≤ wait ∧ wait ≤ 20
          · have HN : Hid (grpB ⟨nm, na, nc, ru, ra, rc, wait⟩ = ((decide (0 < ru.length) || decide (0 < wait)) && decide (0 < nm.length))) := by show _ = _; rw [HG.out, HE.out, decide_eq_true h6, hR, decide_eq_true hW]; simp
            rw [decide_eq_true hW]
            obtain ⟨hW1, hW2⟩ := hW
            clear hR HG
            by_cases hr0 : 0 < ru.length
            · have HN2 : Hid (grpB ⟨nm, na, nc, ru, ra, rc, wait⟩ = decide (0 < nm.length)) := by show _ = _; rw [HN.out, decide_eq_true hr0]; simp
              by_cases hn0 : 0 < nm.length
              · have HN3 : Hid (grpB ⟨nm, na, nc, ru, ra, rc, wait⟩ = true) := by show _ = _; rw [HN2.out, decide_eq_true hn0]
                go_wp2
                go_ret
                exact ⟨ret_bool HN3.out.symm, HB2.out⟩
              · have HN3 : Hid (grpB ⟨nm, na, nc, ru, ra, rc, wait⟩ = false) := by show _ = _; rw [HN2.out, decide_eq_false hn0]
                go_wp2
                go_ret
                exact ⟨ret_bool HN3.out.symm, HB2.out⟩
            · by_cases hw0 : 0 < wait
              · have HN2 : Hid (grpB ⟨nm, na, nc, ru, ra, rc, wait⟩ = decide (0 < nm.length)) := by show _ = _; rw [HN.out, decide_eq_true hw0]; simp
                by_cases hn0 : 0 < nm.length
                · have HN3 : Hid (grpB ⟨nm, na, nc, ru, ra, rc, wait⟩ = true) := by show _ = _; rw [HN2.out, decide_eq_true hn0]
                  go_wp2
                  go_ret
                  exact ⟨ret_bool HN3.out.symm, HB2.out⟩
                · have HN3 : Hid (grpB ⟨nm, na, nc, ru, ra, rc, wait⟩ = false) := by show _ = _; rw [HN2.out, decide_eq_false hn0]
                  go_wp2
                  go_ret
                  exact ⟨ret_bool HN3.out.symm, HB2.out⟩
              · have HN3 : Hid (grpB ⟨nm, na, nc, ru, ra, rc, wait⟩ = false) := by show _ = _; rw [HN.out, decide_eq_false hw0, decide_eq_false hr0]; rfl
                go_wp2
                go_ret
                exact ⟨ret_bool HN3.out.symm, HB2.out⟩
          · have HN : Hid (grpB ⟨nm, na, nc, ru, ra, rc, wait⟩ = false) := by show _ = _; rw [HG.out, decide_eq_false hW]; simp
            rw [decide_eq_false hW]
            clear hR HG hW
            go_wp2
            go_ret
            exact ⟨ret_bool HN.out.symm, HB2.out⟩
      · have HN : Hid (grpB ⟨nm, na, nc, ru, ra, rc, wait⟩ = false) := by show _ = _; rw [HG.out, decide_eq_false h6]; simp
        go_wp2
        go_ret
        exact ⟨ret_bool HN.out.symm, HB1.out⟩

set_option maxRecDepth 100000 in
set_option maxHeartbeats 3200000 in
theorem implNotice_any (a0 : Option Addr) (cap : Nat) (L : List Gr) (w : World) (hI : IsRows FGr w a0 cap L) (hG : GrsAt w L) (hS : ∀ g ∈ L, GrSz g) (hl : L.length ≤ 1048576) :
    Calls Tryd.prog 18 #[.slice a0 L.length cap] w fun e w' => e = .returned (.bool (noticeB L)) ∧ Below w.heap.size w w' := by
  have HI : Hid (IsRows FGr w a0 cap L) := hI
  have HG : Hid (GrsAt w L) := hG
  have HS : Hid (∀ g ∈ L, GrSz g) := hS
  have HN0 : Hid (noticeB L = (L.all grpB && decide (linesN L ≤ 40))) := rfl
  have HLB : Hid (∀ k, k ≤ L.length → linesN (L.take k) ≤ k * 2097153) := fun k hk => by
    have := lines_le (L.take k) 2097153 (fun g hg => by have := hS g (List.mem_of_mem_take hg); obtain ⟨h1, h2, _⟩ := this; omega)
    have e : (L.take k).length = k := by simp; omega
    rw [e] at this; exact this
  clear hI hG hS
  go_enter Tryd.func18, Tryd.ntmps18
  go_wp2
  go_loopw [3, 8] (fun n i wr => ∃ k : Nat, k ≤ L.length ∧ i = .int .i64 (k : Int) ∧ n = .int .i64 (linesN (L.take k) : Int) ∧ Hid ((L.take k).all grpB = true) ∧ Hid (Below w.heap.size w wr)) (fun _ i _ => L.length - (intOf i).toNat)
  case atStart => exact ⟨0, Nat.zero_le _, rfl, rfl, by show _ = _; simp, Below.refl _ _⟩
  case round =>
    obtain ⟨k, hk, rfl, rfl, HP, HB⟩ := hrel
    by_cases hlt : k < L.length
    · obtain ⟨B, off, e1, c0, c1, c2⟩ := gr_at (IsRows.below HI.out HB.out) hlt
      subst e1
      have hz := HS.out L[k] (List.getElem_mem _)
      obtain ⟨hz1, hz2, _⟩ := hz
      have hlb := HLB.out k hk
      have HLN : Hid (linesN (L.take (k + 1)) = linesN (L.take k) + (L[k].nm.length + L[k].ru.length + 1)) := lines_snoc hlt
      generalize linesN (L.take k) = m at *
      have hm : m ≤ 2199024304128 := by omega
      clear hlb
      go_wp2_with fail
      refine (implGroup_any L[k] _ (((HG.out.below HB.out) L[k] (List.getElem_mem _)).keep (alloc_keep _ _)) (HS.out L[k] (List.getElem_mem _))).mono ?_
      rintro e w1 ⟨rfl, hb1⟩
      have d0 : w1.cell? ⟨wr.heap.size, 0, none⟩ = some (.slice L[k].na L[k].nm.length L[k].nc) := (hb1.cell (by show wr.heap.size < _; simp)).trans (by simp)
      have d1 : w1.cell? ⟨wr.heap.size, 1, none⟩ = some (.slice L[k].ra L[k].ru.length L[k].rc) := (hb1.cell (by show wr.heap.size < _; simp)).trans (by simp)
      have HB1 : Hid (Below w.heap.size w w1) := HB.out.trans (Below.trans ((Below.refl _ wr).alloc (Nat.le_refl _) _ |>.mono HB.out.size) (hb1.mono (by have := HB.out.size; simp; omega)))
      clear hb1 c0 c1 c2
      cases hh : grpB L[k] with
      | false =>
        have HN : Hid (noticeB L = false) := by show _ = _; rw [HN0.out, all_no hlt hh]; rfl
        clear hh
        go_wp2
        go_ret
        exact ⟨ret_bool HN.out.symm, HB1.out⟩
      | true =>
        have HN : Hid _ := all_snoc (P := grpB) hlt HP.out hh
        clear hh
        go_wp2
        go_roundw
        case rel => exact ⟨k + 1, by omega, by go_num, by rw [HLN.out]; go_num, HN, HB1⟩
        case measure => simp [intOf]; omega
    · have HE : Hid (noticeB L = decide ((linesN (L.take k) : Int) ≤ 40)) := by
        show _ = _
        rw [HN0.out, all_end (by omega) HP.out, List.take_of_length_le (by omega), Bool.true_and]
        apply decide_eq_decide.2; omega
      go_wp2
      go_ret
      exact ⟨ret_bool HE.out.symm, HB.out⟩

set_option maxRecDepth 100000 in
set_option maxHeartbeats 3200000 in
theorem specNotice_any (a0 : Option Addr) (cap : Nat) (L : List Gr) (w : World) (hI : IsRows FGr w a0 cap L) (hG : GrsAt w L) (hS : ∀ g ∈ L, GrSz g) (hl : L.length ≤ 1048576) :
    Calls Tryd.prog 10 #[.slice a0 L.length cap] w fun e w' => e = .returned (.bool (noticeB L)) ∧ Below w.heap.size w w' := by
  have HI : Hid (IsRows FGr w a0 cap L) := hI
  have HG : Hid (GrsAt w L) := hG
  have HS : Hid (∀ g ∈ L, GrSz g) := hS
  have HN0 : Hid (noticeB L = (L.all grpB && decide (linesN L ≤ 40))) := rfl
  have HLB : Hid (∀ k, k ≤ L.length → linesN (L.take k) ≤ k * 2097153) := fun k hk => by
    have := lines_le (L.take k) 2097153 (fun g hg => by have := hS g (List.mem_of_mem_take hg); obtain ⟨h1, h2, _⟩ := this; omega)
    have e : (L.take k).length = k := by simp; omega
    rw [e] at this; exact this
  clear hI hG hS
  go_enter Tryd.func10, Tryd.ntmps10
  go_wp2
  go_loopw [3, 4] (fun n i wr => ∃ k : Nat, k ≤ L.length ∧ i = .int .i64 (k : Int) ∧ n = .int .i64 (linesN (L.take k) : Int) ∧ Hid ((L.take k).all grpB = true) ∧ Hid (Below w.heap.size w wr)) (fun _ i _ => L.length - (intOf i).toNat)
  case atStart => exact ⟨0, Nat.zero_le _, rfl, rfl, by show _ = _; simp, Below.refl _ _⟩
  case round =>
    obtain ⟨k, hk, rfl, rfl, HP, HB⟩ := hrel
    by_cases hlt : k < L.length
    · obtain ⟨B, off, e1, c0, c1, c2⟩ := gr_at (IsRows.below HI.out HB.out) hlt
      subst e1
      have hz := HS.out L[k] (List.getElem_mem _)
      obtain ⟨hz1, hz2, hz3, hz4⟩ := hz
      have HZ3 : Hid _ := hz3
      have HZ4 : Hid _ := hz4
      have hlb := HLB.out k hk
      have HLN : Hid (linesN (L.take (k + 1)) = linesN (L.take k) + (L[k].nm.length + L[k].ru.length + 1)) := lines_snoc hlt
      have hG1 : GrAt (wr.alloc (.cells (gcells L[k]) 34)) L[k] := ((HG.out.below HB.out) L[k] (List.getElem_mem _)).keep (alloc_keep _ _)
      have HB1 : Hid (Below w.heap.size w (wr.alloc (.cells (gcells L[k]) 34))) := HB.out.trans ((Below.refl _ wr).alloc (Nat.le_refl _) _ |>.mono HB.out.size)
      have HGP : Hid (∀ b, grpB L[k] = b → (L.take (k + 1)).all grpB = b) := fun b hb => by
        cases b with
        | true => exact all_snoc hlt HP.out hb
        | false => rw [List.take_succ_eq_append_getElem hlt, List.all_append, HP.out]; simp [hb]
      have HNO : Hid (grpB L[k] = false → noticeB L = false) := fun hb => by rw [HN0.out, all_no hlt hb]; rfl
      have HG0 : Hid (grpB L[k] = (L[k].nm.all callB && decide (L[k].ru.length ≤ 6) && L[k].ru.all (fun r => ruleL r.path.data.toList) && decide (0 ≤ L[k].wait ∧ L[k].wait ≤ 20) && (decide (0 < L[k].ru.length) || decide (0 < L[k].wait)) && decide (0 < L[k].nm.length))) := rfl
      unfold gcells at hG1 HB1
      generalize linesN (L.take k) = m at *
      generalize grpB L[k] = gb at *
      have hm : m ≤ 2199024304128 := by omega
      obtain ⟨hA1, hI1⟩ := hG1
      generalize L[k] = g at *
      have HA1 : Hid (IsStrs _ g.na g.nc g.nm) := hA1
      have HI1 : Hid (IsRows FRu _ g.ra g.rc g.ru) := hI1
      generalize g.na = na at *
      generalize g.ra = ra at *
      clear hlb hz3 hz4 hA1 hI1
      have key : ∀ (P : Prop), (gb = false → P) → P ∨ True := fun _ _ => Or.inr trivial
      clear key
      by_cases hn0 : g.nm.length = 0
      · have HF : Hid (gb = false) := by show _ = _; rw [HG0.out, decide_eq_false (show ¬ 0 < g.nm.length by omega)]; simp
        have HN : Hid _ := HNO.out HF.out
        have hn0' : ((g.nm.length : Int) == 0) = true := by simp; exact List.eq_nil_of_length_eq_zero hn0
        clear hn0
        go_wp2
        go_ret
        exact ⟨ret_bool HN.out.symm, HB1.out⟩
      have hn0' : ((g.nm.length : Int) == 0) = false := by simp; intro e; rw [e] at hn0; exact hn0 rfl
      clear hn0
      have hnp : 0 < g.nm.length := by
        rcases Nat.eq_zero_or_pos g.nm.length with h | h
        · rw [h] at hn0'; simp at hn0'
        · exact h
      by_cases hr6 : 6 < g.ru.length
      · have HF : Hid (gb = false) := by show _ = _; rw [HG0.out, decide_eq_false (show ¬ g.ru.length ≤ 6 by omega)]; simp
        have HN : Hid _ := HNO.out HF.out
        have hr0 : ((g.ru.length : Int) == 0) = false := by simp; intro e; rw [e] at hr6; simp at hr6
        have hr6' : decide ((6 : Int) < (g.ru.length : Int)) = true := by simp; omega
        clear hr6
        go_wp2
        go_ret
        exact ⟨ret_bool HN.out.symm, HB1.out⟩
      have hr6' : decide ((6 : Int) < (g.ru.length : Int)) = false := by simp; omega
      by_cases hr0 : 0 < g.ru.length
      · have hr0' : ((g.ru.length : Int) == 0) = false := by simp; intro e; rw [e] at hr0; simp at hr0
        go_wp2_with fail
        refine (in_any _ _ _ _).mono ?_
        rintro e w1 ⟨rfl, rfl⟩
        by_cases hW : 0 ≤ g.wait ∧ g.wait ≤ 20
        · have HG2 : Hid (gb = (g.nm.all callB && g.ru.all (fun r => ruleL r.path.data.toList))) := by
            show _ = _
            rw [HG0.out, decide_eq_true hW, decide_eq_true (show g.ru.length ≤ 6 by omega), decide_eq_true hnp]
            have : (decide (0 < g.ru.length) || decide (0 < g.wait)) = true := by
              rw [decide_eq_true hr0]; rfl
            rw [this]; simp
          obtain ⟨hW1, hW2⟩ := hW
          rw [decide_eq_true hW1, decide_eq_true hW2]
          go_wp2
          go_loop [6] (fun i => ∃ j : Nat, j ≤ g.nm.length ∧ i = .int .i64 (j : Int) ∧ Hid ((g.nm.take j).all callB = true)) (fun i => g.nm.length - (intOf i).toNat)
          case atStart => exact ⟨0, Nat.zero_le _, rfl, by show _ = _; simp⟩
          case round =>
            obtain ⟨j, hj, rfl, HQ⟩ := hrel
            by_cases hjl : j < g.nm.length
            · obtain ⟨b2, o2, e2, c3⟩ := HA1.out.at hjl
              have hs := HZ3.out g.nm[j] (List.getElem_mem _)
              have HC : Hid (callB g.nm[j] = ((g.nm[j].toList == [42]) || nameB g.nm[j])) := rfl
              subst e2
              cases hst : (g.nm[j].toList == [42]) with
              | true =>
                have HN : Hid _ := all_snoc (P := callB) hjl HQ.out (by rw [HC.out, hst]; rfl)
                go_wp2
                go_round
                case rel => exact ⟨j + 1, by omega, by go_num, HN⟩
                case measure => simp [intOf]; omega
              | false =>
                go_wp2_with fail
                refine (specName_any _ _ hs).mono ?_
                rintro e w1 ⟨rfl, rfl⟩
                cases hnm : nameB g.nm[j] with
                | true =>
                  have HN : Hid _ := all_snoc (P := callB) hjl HQ.out (by rw [HC.out, hst, hnm]; rfl)
                  go_wp2
                  go_round
                  case rel => exact ⟨j + 1, by omega, by go_num, HN⟩
                  case measure => simp [intOf]; omega
                | false =>
                  have HF : Hid (gb = false) := by show _ = _; rw [HG2.out, all_no (P := callB) hjl (by rw [HC.out, hst, hnm]; rfl)]; rfl
                  have HN : Hid _ := HNO.out HF.out
                  go_wp2
                  go_ret
                  exact ⟨ret_bool HN.out.symm, HB1.out⟩
            · have HNM : Hid (g.nm.all callB = true) := all_end (by omega) HQ.out
              go_wp2
              go_loop [7] (fun i => ∃ j : Nat, j ≤ g.ru.length ∧ i = .int .i64 (j : Int) ∧ Hid ((g.ru.take j).all (fun r => ruleL r.path.data.toList) = true)) (fun i => g.ru.length - (intOf i).toNat)
              case atStart => exact ⟨0, Nat.zero_le _, rfl, by show _ = _; simp⟩
              case round =>
                obtain ⟨j2, hj2, rfl, HQ2⟩ := hrel
                by_cases hjl2 : j2 < g.ru.length
                · obtain ⟨b2, o2, e2, c3, c4⟩ := ru_at HI1.out hjl2
                  have hs := HZ4.out g.ru[j2] (List.getElem_mem _)
                  subst e2
                  go_wp2_with fail
                  refine (specRule_any _ _ hs).mono ?_
                  rintro e w1 ⟨rfl, rfl⟩
                  cases hnm : ruleL g.ru[j2].path.data.toList with
                  | true =>
                    have HN : Hid _ := all_snoc (P := fun r : Ru => ruleL r.path.data.toList) hjl2 HQ2.out hnm
                    go_wp2
                    go_round
                    case rel => exact ⟨j2 + 1, by omega, by go_num, HN⟩
                    case measure => simp [intOf]; omega
                  | false =>
                    have HF : Hid (gb = false) := by show _ = _; rw [HG2.out, all_no (P := fun r : Ru => ruleL r.path.data.toList) hjl2 hnm]; simp
                    have HN : Hid _ := HNO.out HF.out
                    go_wp2
                    go_ret
                    exact ⟨ret_bool HN.out.symm, HB1.out⟩
                · have HRU : Hid (g.ru.all (fun r => ruleL r.path.data.toList) = true) := all_end (by omega) HQ2.out
                  have HT : Hid ((L.take (k + 1)).all grpB = true) := HGP.out true (by rw [HG2.out, HNM.out, HRU.out]; rfl)
                  go_wp2
                  go_roundw
                  case rel => exact ⟨k + 1, by omega, by go_num, by rw [HLN.out]; go_num, HT, HB1⟩
                  case measure => simp [intOf]; omega
        · have HF : Hid (gb = false) := by show _ = _; rw [HG0.out, decide_eq_false hW]; simp
          have HN : Hid _ := HNO.out HF.out
          have hW' : (decide ((0 : Int) ≤ g.wait) && decide (g.wait ≤ 20)) = false := by rw [Bool.eq_false_iff]; intro h; simp at h; exact hW h
          rw [hW']
          clear hW
          go_wp2
          go_ret
          exact ⟨ret_bool HN.out.symm, HB1.out⟩
      have hr0' : ((g.ru.length : Int) == 0) = true := by simp; exact List.eq_nil_of_length_eq_zero (by omega)
      by_cases hw0 : g.wait = 0
      · have HF : Hid (gb = false) := by show _ = _; rw [HG0.out, decide_eq_false hr0, decide_eq_false (show ¬ 0 < g.wait by omega)]; simp
        have HN : Hid _ := HNO.out HF.out
        have hw0' : (g.wait == 0) = true := by simp; exact hw0
        clear hr6 hr0 hw0
        go_wp2
        go_ret
        exact ⟨ret_bool HN.out.symm, HB1.out⟩
      · have hw0' : (g.wait == 0) = false := by simp; exact hw0
        go_wp2_with fail
        refine (in_any _ _ _ _).mono ?_
        rintro e w1 ⟨rfl, rfl⟩
        by_cases hW : 0 ≤ g.wait ∧ g.wait ≤ 20
        · have HG2 : Hid (gb = (g.nm.all callB && g.ru.all (fun r => ruleL r.path.data.toList))) := by
            show _ = _
            rw [HG0.out, decide_eq_true hW, decide_eq_true (show g.ru.length ≤ 6 by omega), decide_eq_true hnp]
            have : (decide (0 < g.ru.length) || decide (0 < g.wait)) = true := by
              rw [decide_eq_true (show 0 < g.wait by omega)]; simp
            rw [this]; simp
          obtain ⟨hW1, hW2⟩ := hW
          rw [decide_eq_true hW1, decide_eq_true hW2]
          go_wp2
          go_loop [6] (fun i => ∃ j : Nat, j ≤ g.nm.length ∧ i = .int .i64 (j : Int) ∧ Hid ((g.nm.take j).all callB = true)) (fun i => g.nm.length - (intOf i).toNat)
          case atStart => exact ⟨0, Nat.zero_le _, rfl, by show _ = _; simp⟩
          case round =>
            obtain ⟨j, hj, rfl, HQ⟩ := hrel
            by_cases hjl : j < g.nm.length
            · obtain ⟨b2, o2, e2, c3⟩ := HA1.out.at hjl
              have hs := HZ3.out g.nm[j] (List.getElem_mem _)
              have HC : Hid (callB g.nm[j] = ((g.nm[j].toList == [42]) || nameB g.nm[j])) := rfl
              subst e2
              cases hst : (g.nm[j].toList == [42]) with
              | true =>
                have HN : Hid _ := all_snoc (P := callB) hjl HQ.out (by rw [HC.out, hst]; rfl)
                go_wp2
                go_round
                case rel => exact ⟨j + 1, by omega, by go_num, HN⟩
                case measure => simp [intOf]; omega
              | false =>
                go_wp2_with fail
                refine (specName_any _ _ hs).mono ?_
                rintro e w1 ⟨rfl, rfl⟩
                cases hnm : nameB g.nm[j] with
                | true =>
                  have HN : Hid _ := all_snoc (P := callB) hjl HQ.out (by rw [HC.out, hst, hnm]; rfl)
                  go_wp2
                  go_round
                  case rel => exact ⟨j + 1, by omega, by go_num, HN⟩
                  case measure => simp [intOf]; omega
                | false =>
                  have HF : Hid (gb = false) := by show _ = _; rw [HG2.out, all_no (P := callB) hjl (by rw [HC.out, hst, hnm]; rfl)]; rfl
                  have HN : Hid _ := HNO.out HF.out
                  go_wp2
                  go_ret
                  exact ⟨ret_bool HN.out.symm, HB1.out⟩
            · have HNM : Hid (g.nm.all callB = true) := all_end (by omega) HQ.out
              go_wp2
              go_loop [7] (fun i => ∃ j : Nat, j ≤ g.ru.length ∧ i = .int .i64 (j : Int) ∧ Hid ((g.ru.take j).all (fun r => ruleL r.path.data.toList) = true)) (fun i => g.ru.length - (intOf i).toNat)
              case atStart => exact ⟨0, Nat.zero_le _, rfl, by show _ = _; simp⟩
              case round =>
                obtain ⟨j2, hj2, rfl, HQ2⟩ := hrel
                by_cases hjl2 : j2 < g.ru.length
                · exact absurd hjl2 (by omega)
                · have HRU : Hid (g.ru.all (fun r => ruleL r.path.data.toList) = true) := all_end (by omega) HQ2.out
                  have HT : Hid ((L.take (k + 1)).all grpB = true) := HGP.out true (by rw [HG2.out, HNM.out, HRU.out]; rfl)
                  go_wp2
                  go_roundw
                  case rel => exact ⟨k + 1, by omega, by go_num, by rw [HLN.out]; go_num, HT, HB1⟩
                  case measure => simp [intOf]; omega
        · have HF : Hid (gb = false) := by show _ = _; rw [HG0.out, decide_eq_false hW]; simp
          have HN : Hid _ := HNO.out HF.out
          have hW' : (decide ((0 : Int) ≤ g.wait) && decide (g.wait ≤ 20)) = false := by rw [Bool.eq_false_iff]; intro h; simp at h; exact hW h
          rw [hW']
          clear hW
          go_wp2
          go_ret
          exact ⟨ret_bool HN.out.symm, HB1.out⟩
    · have HE : Hid (noticeB L = decide ((linesN (L.take k) : Int) ≤ 40)) := by
        show _ = _
        rw [HN0.out, all_end (by omega) HP.out, List.take_of_length_le (by omega), Bool.true_and]
        apply decide_eq_decide.2; omega
      go_wp2
      go_ret
      exact ⟨ret_bool HE.out.symm, HB.out⟩
end Go.Proofs.YtacelbhoccckbaaDoor.Gp
