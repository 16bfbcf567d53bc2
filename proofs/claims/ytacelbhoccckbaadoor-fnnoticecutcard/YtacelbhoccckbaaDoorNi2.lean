/- A line of a notice is read: of the program: what it says. -/
import Derived.Test.YtacelbhoccckbaaDoorNi1
namespace Go.Proofs.YtacelbhoccckbaaDoor.NiP
open Go.RowKit Go.Proofs.YtacelbhoccckbaaDoor.EscM Go.Proofs.YtacelbhoccckbaaDoor.EscL Go.Proofs.YtacelbhoccckbaaDoor.RuleM Go.Proofs.YtacelbhoccckbaaDoor.Ru1 Go.Proofs.YtacelbhoccckbaaDoor.ReadM Go.Proofs.YtacelbhoccckbaaDoor.Rd1 Go.Proofs.YtacelbhoccckbaaDoor.St Go.Proofs.YtacelbhoccckbaaDoor.RR Go.Proofs.YtacelbhoccckbaaDoor.LetM Go.Proofs.YtacelbhoccckbaaDoor.Nm Go.Proofs.YtacelbhoccckbaaDoor.GrM Go.Proofs.YtacelbhoccckbaaDoor.Dr Go.Proofs.YtacelbhoccckbaaDoor.NrM Go.Proofs.YtacelbhoccckbaaDoor.NrW Go.Proofs.YtacelbhoccckbaaDoor.NrS Go.Proofs.YtacelbhoccckbaaDoor.Im

/-- a line that was read, as a value -/
def lkV : Option Lk → Value
  | none => .nilIface
  | some (.c s) => .iface 76 (.agg #[.string s])
  | some (.r x) => .iface 78 (.agg #[.bool x.lt, .string x.path])
  | some (.t n) => .iface 80 (.agg #[.int .i64 (n : Int)])

set_option maxRecDepth 100000 in
set_option maxHeartbeats 3200000 in
theorem readLine_any (s : ByteArray) (w : World) (hM : Mx w) (hs : s.size ≤ 1000000) :
    Calls Tryd.prog 28 #[.string s] w fun e w' => e = .returned (.tuple #[lkV (lineF s), .bool (lineF s).isSome]) ∧ Below w.heap.size w w' := by
  have HM : Hid (Mx w) := hM
  have hcl := cut_le s
  have HE : Hid (∀ o, lineF s = o → (Ending.returned (.tuple #[lkV o, .bool o.isSome]) = .returned (.tuple #[lkV (lineF s), .bool (lineF s).isSome]))) := fun o h => by rw [h]
  have HL : Hid (lineF s = if blankF s then saysF (wordF s) (restF s) else none) := rfl
  have hrz : (restF s).size ≤ 4194304 := by omega
  have HCT : Hid _ := fun W hW => Im.cut_any s 32 W hW hs
  have HCT2 : Hid (∀ W, Mx W → Calls Tryd.prog 45 #[.string s, .string ⟨#[32]⟩] W fun e w' => e = .returned (.tuple #[.string (wordF s), .string (restF s), .bool (blankF s)]) ∧ ∃ n, w' = W.drewN n) := HCT.out
  clear hM HCT hcl
  generalize wordF s = wd at *
  generalize restF s = rs at *
  generalize blankF s = bb at *
  generalize lineF s = o at *
  have HCO : Hid (∀ W : World, _) := fun W => implCall_any rs W (by unfold maxLen; omega)
  have HRU : Hid (∀ W : World, _) := fun W => implRule_any rs W (by unfold maxLen; omega)
  have HWT : Hid (∀ W : World, _) := fun W => readWait_any rs W hrz
  cases bb with
  | false =>
    have HO : Hid (o = none) := HL.out
    go_enter Tryd.func28, Tryd.ntmps28
    go_wp2_with fail
    refine (HCT2.out _ HM.out).mono ?_
    rintro e w1 ⟨rfl, n, rfl⟩
    have HB1 : Hid (Below w.heap.size w (w.drewN n)) := below_drewN (Below.refl _ _) n
    have hsz1 : w.heap.size ≤ (w.drewN n).heap.size := HB1.out.size
    generalize w.drewN n = w1 at *
    go_wp2
    go_ret2
    exact ⟨HE.out _ HO.out, HB1.out⟩
  | true =>
  have HL2 : Hid (o = saysF wd rs) := HL.out
  clear HL
  by_cases h1 : wd.data.toList = wCall
  · have hcall := word_is _ _ [99, 97, 108, 108, 101, 114] h1 rfl
    have hlet : (wd.toList == [108, 101, 116]) = false := word_not _ _ (by rw [h1]; decide)
    have hbar : (wd.toList == [98, 97, 114]) = false := word_not _ _ (by rw [h1]; decide)
    have hwait : (wd.toList == [119, 97, 105, 116]) = false := word_not _ _ (by rw [h1]; decide)
    have HW1 : Hid (wd.data.toList = wCall) := h1
    clear h1
    cases hc : callB rs with
    | true =>
      rw [hc] at HCO
      have HO : Hid (o = some (.c rs)) := by show _ = _; rw [HL2.out]; exact says_c HW1.out hc
      clear hc
      go_enter Tryd.func28, Tryd.ntmps28
      go_wp2_with fail
      refine (HCT2.out _ HM.out).mono ?_
      rintro e w1 ⟨rfl, n, rfl⟩
      have HB1 : Hid (Below w.heap.size w (w.drewN n)) := below_drewN (Below.refl _ _) n
      have hsz1 : w.heap.size ≤ (w.drewN n).heap.size := HB1.out.size
      generalize w.drewN n = w1 at *
      go_wp2_with (go_at_call 46; refine (HCO.out _).mono ?_; rintro e w2 ⟨rfl, e1⟩; have e2 := e1.symm; subst e2)
      go_ret2
      exact ⟨HE.out _ HO.out, HB1.out⟩
    | false =>
      rw [hc] at HCO
      have HO : Hid (o = none) := by show _ = _; rw [HL2.out]; exact says_cn HW1.out hc
      clear hc
      go_enter Tryd.func28, Tryd.ntmps28
      go_wp2_with fail
      refine (HCT2.out _ HM.out).mono ?_
      rintro e w1 ⟨rfl, n, rfl⟩
      have HB1 : Hid (Below w.heap.size w (w.drewN n)) := below_drewN (Below.refl _ _) n
      have hsz1 : w.heap.size ≤ (w.drewN n).heap.size := HB1.out.size
      generalize w.drewN n = w1 at *
      go_wp2_with (go_at_call 46; refine (HCO.out _).mono ?_; rintro e w2 ⟨rfl, e1⟩; have e2 := e1.symm; subst e2)
      go_ret2
      exact ⟨HE.out _ HO.out, HB1.out⟩
  have hcall := word_not wd [99, 97, 108, 108, 101, 114] h1
  by_cases h : wd.data.toList = wLet
  · have hlet := word_is _ _ [108, 101, 116] h rfl
    have hbar : (wd.toList == [98, 97, 114]) = false := word_not _ _ (by rw [h]; decide)
    have hwait : (wd.toList == [119, 97, 105, 116]) = false := word_not _ _ (by rw [h]; decide)
    have HW1 : Hid (wd.data.toList = wLet) := h
    clear h
    cases hc : ruleL rs.data.toList with
    | true =>
      rw [hc] at HRU
      have HO : Hid (o = some (.r ⟨true, rs⟩)) := by show _ = _; rw [HL2.out, says_l HW1.out, if_pos hc]
      clear hc
      go_enter Tryd.func28, Tryd.ntmps28
      go_wp2_with fail
      refine (HCT2.out _ HM.out).mono ?_
      rintro e w1 ⟨rfl, n, rfl⟩
      have HB1 : Hid (Below w.heap.size w (w.drewN n)) := below_drewN (Below.refl _ _) n
      have hsz1 : w.heap.size ≤ (w.drewN n).heap.size := HB1.out.size
      generalize w.drewN n = w1 at *
      go_wp2_with (go_at_call 15; refine (HRU.out _).mono ?_; rintro e w2 ⟨rfl, hb2⟩)
      have HB2 : Hid (Below w.heap.size w w2) := HB1.out.trans (hb2.mono hsz1)
      go_ret2
      exact ⟨HE.out _ HO.out, HB2.out⟩
    | false =>
      rw [hc] at HRU
      have HO : Hid (o = none) := by show _ = _; rw [HL2.out, says_l HW1.out, if_neg (by rw [hc]; decide)]
      clear hc
      go_enter Tryd.func28, Tryd.ntmps28
      go_wp2_with fail
      refine (HCT2.out _ HM.out).mono ?_
      rintro e w1 ⟨rfl, n, rfl⟩
      have HB1 : Hid (Below w.heap.size w (w.drewN n)) := below_drewN (Below.refl _ _) n
      have hsz1 : w.heap.size ≤ (w.drewN n).heap.size := HB1.out.size
      generalize w.drewN n = w1 at *
      go_wp2_with (go_at_call 15; refine (HRU.out _).mono ?_; rintro e w2 ⟨rfl, hb2⟩)
      have HB2 : Hid (Below w.heap.size w w2) := HB1.out.trans (hb2.mono hsz1)
      go_ret2
      exact ⟨HE.out _ HO.out, HB2.out⟩
  have hletN : wd.data.toList ≠ wLet := h
  have hlet := word_not wd [108, 101, 116] h
  clear h
  by_cases h : wd.data.toList = wBar
  · have hbar := word_is _ _ [98, 97, 114] h rfl
    have hwait : (wd.toList == [119, 97, 105, 116]) = false := word_not _ _ (by rw [h]; decide)
    have HW1 : Hid (wd.data.toList = wBar) := h
    clear h
    cases hc : ruleL rs.data.toList with
    | true =>
      rw [hc] at HRU
      have HO : Hid (o = some (.r ⟨false, rs⟩)) := by show _ = _; rw [HL2.out, says_b HW1.out, if_pos hc]
      clear hc
      go_enter Tryd.func28, Tryd.ntmps28
      go_wp2_with fail
      refine (HCT2.out _ HM.out).mono ?_
      rintro e w1 ⟨rfl, n, rfl⟩
      have HB1 : Hid (Below w.heap.size w (w.drewN n)) := below_drewN (Below.refl _ _) n
      have hsz1 : w.heap.size ≤ (w.drewN n).heap.size := HB1.out.size
      generalize w.drewN n = w1 at *
      go_wp2_with (go_at_call 15; refine (HRU.out _).mono ?_; rintro e w2 ⟨rfl, hb2⟩)
      have HB2 : Hid (Below w.heap.size w w2) := HB1.out.trans (hb2.mono hsz1)
      go_ret2
      exact ⟨HE.out _ HO.out, HB2.out⟩
    | false =>
      rw [hc] at HRU
      have HO : Hid (o = none) := by show _ = _; rw [HL2.out, says_b HW1.out, if_neg (by rw [hc]; decide)]
      clear hc
      go_enter Tryd.func28, Tryd.ntmps28
      go_wp2_with fail
      refine (HCT2.out _ HM.out).mono ?_
      rintro e w1 ⟨rfl, n, rfl⟩
      have HB1 : Hid (Below w.heap.size w (w.drewN n)) := below_drewN (Below.refl _ _) n
      have hsz1 : w.heap.size ≤ (w.drewN n).heap.size := HB1.out.size
      generalize w.drewN n = w1 at *
      go_wp2_with (go_at_call 15; refine (HRU.out _).mono ?_; rintro e w2 ⟨rfl, hb2⟩)
      have HB2 : Hid (Below w.heap.size w w2) := HB1.out.trans (hb2.mono hsz1)
      go_ret2
      exact ⟨HE.out _ HO.out, HB2.out⟩
  have hbarN : wd.data.toList ≠ wBar := h
  have hbar := word_not wd [98, 97, 114] h
  clear h
  by_cases h : wd.data.toList = wWait
  · have hwait := word_is _ _ [119, 97, 105, 116] h rfl
    have HO : Hid (o = some (.t (numF rs.data.toList))) := by show _ = _; rw [HL2.out]; exact says_w h
    clear h h1 hletN hbarN
    go_enter Tryd.func28, Tryd.ntmps28
    go_wp2_with fail
    refine (HCT2.out _ HM.out).mono ?_
    rintro e w1 ⟨rfl, n, rfl⟩
    have HB1 : Hid (Below w.heap.size w (w.drewN n)) := below_drewN (Below.refl _ _) n
    have hsz1 : w.heap.size ≤ (w.drewN n).heap.size := HB1.out.size
    generalize w.drewN n = w1 at *
    go_wp2_with (go_at_call 47; refine (HWT.out _).mono ?_; rintro e w2 ⟨rfl, hb2⟩)
    have HB2 : Hid (Below w.heap.size w w2) := HB1.out.trans (hb2.mono hsz1)
    go_ret2
    exact ⟨HE.out _ HO.out, HB2.out⟩
  have HO : Hid (o = none) := by show _ = _; rw [HL2.out]; exact says_no h1 hletN hbarN h
  have hwait := word_not wd [119, 97, 105, 116] h
  clear h h1 hletN hbarN
  go_enter Tryd.func28, Tryd.ntmps28
  go_wp2_with fail
  refine (HCT2.out _ HM.out).mono ?_
  rintro e w1 ⟨rfl, n, rfl⟩
  have HB1 : Hid (Below w.heap.size w (w.drewN n)) := below_drewN (Below.refl _ _) n
  have hsz1 : w.heap.size ≤ (w.drewN n).heap.size := HB1.out.size
  generalize w.drewN n = w1 at *
  go_wp2
  go_ret2
  exact ⟨HE.out _ HO.out, HB1.out⟩
end Go.Proofs.YtacelbhoccckbaaDoor.NiP
