/- FnNoticeRead: the walk. -/
import Derived.Test.YtacelbhoccckbaaDoorRows
import Derived.WalkKit
import Derived.ProofKit
import Derived.OpenShut
import Derived.ShutString
import Derived.ChangeOld
import Derived.Below
import Derived.Test.YtacelbhoccckbaaDoorCards
import Derived.Test.YtacelbhoccckbaaDoorDraw14Pk
import Derived.Test.YtacelbhoccckbaaDoorLibMathPk
import Derived.Test.YtacelbhoccckbaaDoorNt1
import Derived.Test.YtacelbhoccckbaaDoorNt3
import Derived.Shelf.Vars
import Derived.Lay
import Derived.LaidOnce
import Derived.SevenTiedAt
namespace Go.Proofs.YtacelbhoccckbaaDoor.fnNoticeRead
open Go.ChangeShapes Go.WideShapes Go.ChangeAt Go.RowKit
open Go.ChangeMaps (open_string shut_string)
set_option linter.unusedVariables false
open Go.Proofs.YtacelbhoccckbaaDoor.EscL Go.Proofs.YtacelbhoccckbaaDoor.EscM Go.Proofs.YtacelbhoccckbaaDoor.ReadM Go.Proofs.YtacelbhoccckbaaDoor.RuleM Go.Proofs.YtacelbhoccckbaaDoor.Ru1 Go.Proofs.YtacelbhoccckbaaDoor.St Go.Proofs.YtacelbhoccckbaaDoor.RR Go.Proofs.YtacelbhoccckbaaDoor.LetM Go.Proofs.YtacelbhoccckbaaDoor.Nm Go.Proofs.YtacelbhoccckbaaDoor.GrM Go.Proofs.YtacelbhoccckbaaDoor.NtM Go.Proofs.YtacelbhoccckbaaDoor.NrM Go.Proofs.YtacelbhoccckbaaDoor.NrW Go.Proofs.YtacelbhoccckbaaDoor.NrE Go.Proofs.YtacelbhoccckbaaDoor.NrT

theorem mx_of {w : World} (h : w.ShapedOpen Tryd.prog) : Im.Mx w :=
  cell_of_shapedOpen_int (g := 0) (t := 3) (zero := #[.int .i64 0]) (k := .i64) h (of_decide_eq_true (by kernel_rfl)) (by kernel_rfl) rfl (by kernel_rfl) (by kernel_rfl) Tryd.underlying3
theorem notice_in {s : ByteArray} {L : List Gr} (h : L.map grp = noticeF s) : L.length ≤ 40 ∧ ∀ g ∈ L, g.nm.length ≤ 4194304 ∧ g.ru.length ≤ 4194304 := by
  have hz := sz_mono (sz_read lineF (fun _ _ h => line_ok h) (splitS 10 s) (min 40 (splitS 10 s).length)) (Nat.min_le_left _ _)
  have h1 := hz.1
  have h2 := hz.2
  have e : (readTo lineF (splitS 10 s) (min 40 (splitS 10 s).length)).gs = L.map grp := h.symm
  rw [e] at h1 h2
  refine ⟨by simpa using h1, fun g hg => ?_⟩
  have := h2 (grp g) (List.mem_map.2 ⟨g, hg, rfl⟩)
  exact ⟨Nat.le_trans this.1 (by decide), Nat.le_trans this.2.2.1 (by decide)⟩
theorem draw_facts {L : List ByteArray} (hl : L.length ≤ 8) (hL : ∀ s ∈ L, lnP s = true) : (⟨(linesT L).toArray⟩ : ByteArray).size ≤ 1000 ∧ (readTo lineM (splitS 10 ⟨(linesT L).toArray⟩) (min 40 (splitS 10 ⟨(linesT L).toArray⟩).length)).gs = noticeF ⟨(linesT L).toArray⟩ ∧ noticeF (⟨#[119, 104, 97, 116, 10, 10, 108, 101, 116, 32, 97, 10]⟩ ++ ⟨(linesT L).toArray⟩ ++ ⟨#[119, 104, 111, 10]⟩) = noticeF ⟨(linesT L).toArray⟩ := by
  refine ⟨?_, model_lines L (by omega) (fun s hs => ln_nl (hL s hs)) (fun s hs => ln_wait (hL s hs)), ?_⟩
  · have := linesT_len fun s hs => ln_size (hL s hs)
    show (linesT L).toArray.size ≤ 1000
    simp; omega
  · rw [junk_text, junk_same L hl hL]

set_option maxRecDepth 100000 in
set_option maxHeartbeats 6400000 in
theorem walk (a0 : Option Addr) (len0 cap0 : Nat) (z0 : List Int) (w : World) (w0 : Dr.IsRow .u8 w a0 len0 cap0 z0) (hL : laidMetH Tryd.prog Rows.fnNoticeReadRow.laid w) (hsh : w.ShapedOpen Tryd.prog) :
    Calls Tryd.prog 4 #[.slice a0 len0 cap0] w fun e w' => e = .returned (.bool true) ∧ Below w.heap.size w w' := by
  have HM : Hid (Im.Mx w) := mx_of hsh
  clear hsh hL
  by_cases hlong : (1048576 : Int) < len0
  · go_enter Tryd.func4, Tryd.ntmps4
    go_wp2
    go_ret
    exact ⟨rfl, Below.refl _ _⟩
  go_enter Tryd.func4, Tryd.ntmps4
  go_wp2_with fail
  refine (Dr.drawNotice_any a0 len0 cap0 z0 w w0).mono ?_
  rintro e w1 ⟨L, rfl, hl, hL, hb1⟩
  obtain ⟨hrz, hmod, hjunk⟩ := draw_facts hl hL
  have HMD : Hid _ := hmod
  have HJK : Hid _ := hjunk
  have HB1 : Hid (Below w.heap.size w w1) := hb1
  clear hmod hjunk hL hb1 w0 hl
  generalize (⟨(linesT L).toArray⟩ : ByteArray) = raw at *
  go_wp2_with fail
  refine (NiP.implRead_notice raw _ (HM.out.below HB1.out) (by omega)).mono ?_
  rintro e w2 ⟨v2, A, rfl, hgA, hmA, hb2⟩
  obtain ⟨aa, ca, hv2, hIA, hAA⟩ := hgA.at
  subst hv2
  have hn := notice_in hmA
  have HNA : Hid _ := hn.2
  have hAl : A.length ≤ 40 := hn.1
  have HMA : Hid (A.map grp = noticeF raw) := hmA
  have HIA : Hid (IsRows FGr w2 aa ca A) := hIA
  have HAA : Hid (GrsAt w2 A) := hAA
  have HB2 : Hid (Below w.heap.size w w2) := HB1.out.trans (hb2.mono HB1.out.size)
  clear hgA hmA hb2 hIA hAA hn HB1
  go_wp2_with fail
  refine (NrS.specRead_notice raw _ (by omega)).mono ?_
  rintro e w3 ⟨v3, B, rfl, hgB, hmB, hb3⟩
  obtain ⟨ab, cb, hv3, hIB, hAB⟩ := hgB.at
  subst hv3
  have HAB : Hid (A.map grp = B.map grp) := by show _ = _; rw [hmB, HMD.out, HMA.out]
  have HIB : Hid (IsRows FGr w3 ab cb B) := hIB
  have HBB : Hid (GrsAt w3 B) := hAB
  have HIA3 : Hid (IsRows FGr w3 aa ca A) := HIA.out.below hb3
  have HAA3 : Hid (GrsAt w3 A) := HAA.out.below hb3
  have HB3 : Hid (Below w.heap.size w w3) := HB2.out.trans (hb3.mono HB2.out.size)
  clear hgB hmB hb3 hIB hAB HIA HAA HB2
  go_wp2_with fail
  refine (groups_same aa ca A ab cb B.length B _ rfl HIA3.out HIB.out HAA3.out HBB.out (by omega) HAB.out HNA.out).mono ?_
  rintro e w4 ⟨rfl, hb4⟩
  have HIA4 : Hid (IsRows FGr w4 aa ca A) := HIA3.out.below hb4
  have HAA4 : Hid (GrsAt w4 A) := HAA3.out.below hb4
  have HB4 : Hid (Below w.heap.size w w4) := HB3.out.trans (hb4.mono HB3.out.size)
  clear hb4 HIA3 HAA3 HB3 HIB HBB
  have HOKS : Hid (∀ g ∈ A, g.nm ≠ [] ∧ 0 ≤ g.wait ∧ g.wait ≤ 20 ∧ g.ru.length ≤ 6 ∧ ∀ r ∈ g.ru, r.path.size ≤ 16 ∧ ruleL r.path.data.toList = true) := by
    have hz := sz_mono (sz_read lineF (fun _ _ h => line_ok h) (splitS 10 raw) (min 40 (splitS 10 raw).length)) (Nat.min_le_left _ _)
    have h2 := hz.2
    have e : (readTo lineF (splitS 10 raw) (min 40 (splitS 10 raw).length)).gs = A.map grp := HMA.out.symm
    rw [e] at h2
    intro g hg
    obtain ⟨h3, h4, h5, h6, h7, h8, h9⟩ := h2 (grp g) (List.mem_map.2 ⟨g, hg, rfl⟩)
    exact ⟨h9, h7, h8, h5, h6⟩
  go_wp2
  go_loopw [5] (fun i wr => ∃ k : Nat, k ≤ A.length ∧ i = .int .i64 (k : Int) ∧ Hid (Below w4.heap.size w4 wr)) (fun i _ => A.length - (intOf i).toNat)
  case atStart => exact ⟨0, Nat.zero_le _, rfl, Below.refl _ _⟩
  case round =>
    obtain ⟨k, hk, rfl, HW⟩ := hrel
    by_cases hlt : k < A.length
    · obtain ⟨b, o, e1, c0, c1, c2⟩ := gr_at (HIA4.out.below HW.out) hlt
      have e1' := e1
      subst e1'
      obtain ⟨g1, g2, g3, g4, g5⟩ := HOKS.out A[k] (List.getElem_mem hlt)
      have HGA : Hid (GrAt wr A[k]) := HAA4.out.below HW.out _ (List.getElem_mem hlt)
      have HRL : Hid (∀ r ∈ A[k].ru, r.path.size ≤ 16 ∧ ruleL r.path.data.toList = true) := g5
      clear g5
      have HC1 : Hid (wr.cell? ⟨b, o + k * 3 + 1, none⟩ = some (.slice A[k].ra A[k].ru.length A[k].rc)) := c1
      generalize A[k] = g at *
      generalize wr = wo at *
      have h1 : 0 < g.nm.length := List.length_pos_iff.2 g1
      have hb1 : ((g.nm.length : Int) == 0) = false := by simp; omega
      have hb2 : decide (g.wait < 0) = false := decide_eq_false (by omega)
      have hb3 : decide ((20 : Int) < g.wait) = false := decide_eq_false (by omega)
      have hb4 : decide ((6 : Int) < (g.ru.length : Int)) = false := decide_eq_false (by omega)
      clear g1
      go_wp2
      go_loopw [6] (fun i wq => ∃ j : Nat, j ≤ g.ru.length ∧ i = .int .i64 (j : Int) ∧ Hid (Below wo.heap.size wo wq)) (fun i _ => g.ru.length - (intOf i).toNat)
      case atStart => exact ⟨0, Nat.zero_le _, rfl, Below.refl _ _⟩
      case round =>
        obtain ⟨j, hj, rfl, HQ⟩ := hrel
        have d1 : wr.cell? ⟨b, o + k * 3 + 1, none⟩ = some (.slice g.ra g.ru.length g.rc) := (HQ.out.cell (St.cell_block HC1.out)).trans HC1.out
        by_cases hjl : j < g.ru.length
        · obtain ⟨b3, o3, e3, r0, r1⟩ := ru_at (HGA.out.2.below HQ.out) hjl
          have HRJ : Hid (g.ru[j].path.size ≤ 16 ∧ ruleL g.ru[j].path.data.toList = true) := HRL.out _ (List.getElem_mem hjl)
          have hp16 := HRJ.out.1
          generalize g.ra = ra at *
          subst e3
          generalize g.ru[j] = r at *
          have HRK : Hid (∀ W : World, Calls Tryd.prog 15 #[.string r.path] W fun e w' => e = .returned (.bool true) ∧ Below W.heap.size W w') := fun W => (implRule_any r.path W (by unfold maxLen; omega)).mono (by rintro e w' ⟨rfl, hb⟩; exact ⟨by rw [HRJ.out.2], hb⟩)
          go_wp2_with fail
          refine (HRK.out _).mono ?_
          rintro e w6 ⟨rfl, hb6⟩
          have HQ6 : Hid (Below wo.heap.size wo w6) := HQ.out.trans (hb6.mono HQ.out.size)
          clear hb6
          go_wp2
          go_roundw
          case rel => exact ⟨j + 1, by omega, by go_num, HQ6⟩
          case measure => simp [intOf]; omega
        · have HQW : Hid (Below w4.heap.size w4 wr) := HW.out.trans (HQ.out.mono HW.out.size)
          go_wp2
          go_roundw
          case rel => exact ⟨k + 1, by omega, by go_num, HQW⟩
          case measure => simp [intOf]; omega
    · have HF : Hid (Below w.heap.size w wr) := HB4.out.trans (HW.out.mono HB4.out.size)
      go_wp2
      go_ret
      exact ⟨rfl, HF.out⟩
end Go.Proofs.YtacelbhoccckbaaDoor.fnNoticeRead
