/- FnNoticeJunk: the walk. -/
import Derived.Test.YtacelbhoccckbaaDoorRows
import Derived.WalkKit
import Derived.ProofKit
import Derived.OpenShut
import Derived.ShutString
import Derived.ChangeOld
import Derived.Below
import Derived.Test.YtacelbhoccckbaaDoorCards
import Derived.Test.YtacelbhoccckbaaDoorDraw14Pk
import Derived.Test.YtacelbhoccckbaaDoorLibMathPk
import Derived.Test.YtacelbhoccckbaaDoorNt1
import Derived.Test.YtacelbhoccckbaaDoorNt3
import Derived.Shelf.Vars
import Derived.Lay
import Derived.LaidOnce
import Derived.SevenTiedAt
namespace Go.Proofs.YtacelbhoccckbaaDoor.fnNoticeJunk
open Go.ChangeShapes Go.WideShapes Go.ChangeAt Go.RowKit
open Go.ChangeMaps (open_string shut_string)
set_option linter.unusedVariables false
open Go.Proofs.YtacelbhoccckbaaDoor.EscL Go.Proofs.YtacelbhoccckbaaDoor.EscM Go.Proofs.YtacelbhoccckbaaDoor.ReadM Go.Proofs.YtacelbhoccckbaaDoor.RuleM Go.Proofs.YtacelbhoccckbaaDoor.Ru1 Go.Proofs.YtacelbhoccckbaaDoor.St Go.Proofs.YtacelbhoccckbaaDoor.RR Go.Proofs.YtacelbhoccckbaaDoor.LetM Go.Proofs.YtacelbhoccckbaaDoor.Nm Go.Proofs.YtacelbhoccckbaaDoor.GrM Go.Proofs.YtacelbhoccckbaaDoor.NtM Go.Proofs.YtacelbhoccckbaaDoor.NrM Go.Proofs.YtacelbhoccckbaaDoor.NrW Go.Proofs.YtacelbhoccckbaaDoor.NrE Go.Proofs.YtacelbhoccckbaaDoor.NrT

theorem mx_of {w : World} (h : w.ShapedOpen Tryd.prog) : Im.Mx w :=
  cell_of_shapedOpen_int (g := 0) (t := 3) (zero := #[.int .i64 0]) (k := .i64) h (of_decide_eq_true (by kernel_rfl)) (by kernel_rfl) rfl (by kernel_rfl) (by kernel_rfl) Tryd.underlying3
theorem notice_in {s : ByteArray} {L : List Gr} (h : L.map grp = noticeF s) : L.length ≤ 40 ∧ ∀ g ∈ L, g.nm.length ≤ 4194304 ∧ g.ru.length ≤ 4194304 := by
  have hz := sz_mono (sz_read lineF (fun _ _ h => line_ok h) (splitS 10 s) (min 40 (splitS 10 s).length)) (Nat.min_le_left _ _)
  have h1 := hz.1
  have h2 := hz.2
  have e : (readTo lineF (splitS 10 s) (min 40 (splitS 10 s).length)).gs = L.map grp := h.symm
  rw [e] at h1 h2
  refine ⟨by simpa using h1, fun g hg => ?_⟩
  have := h2 (grp g) (List.mem_map.2 ⟨g, hg, rfl⟩)
  exact ⟨Nat.le_trans this.1 (by decide), Nat.le_trans this.2.2.1 (by decide)⟩
theorem draw_facts {L : List ByteArray} (hl : L.length ≤ 8) (hL : ∀ s ∈ L, lnP s = true) : (⟨(linesT L).toArray⟩ : ByteArray).size ≤ 1000 ∧ (readTo lineM (splitS 10 ⟨(linesT L).toArray⟩) (min 40 (splitS 10 ⟨(linesT L).toArray⟩).length)).gs = noticeF ⟨(linesT L).toArray⟩ ∧ noticeF (⟨#[119, 104, 97, 116, 10, 10, 108, 101, 116, 32, 97, 10]⟩ ++ ⟨(linesT L).toArray⟩ ++ ⟨#[119, 104, 111, 10]⟩) = noticeF ⟨(linesT L).toArray⟩ := by
  refine ⟨?_, model_lines L (by omega) (fun s hs => ln_nl (hL s hs)) (fun s hs => ln_wait (hL s hs)), ?_⟩
  · have := linesT_len fun s hs => ln_size (hL s hs)
    show (linesT L).toArray.size ≤ 1000
    simp; omega
  · rw [junk_text, junk_same L hl hL]

set_option maxRecDepth 100000 in
set_option maxHeartbeats 6400000 in
theorem walk (a0 : Option Addr) (len0 cap0 : Nat) (z0 : List Int) (w : World) (w0 : Dr.IsRow .u8 w a0 len0 cap0 z0) (hL : laidMetH Tryd.prog Rows.fnNoticeJunkRow.laid w) (hsh : w.ShapedOpen Tryd.prog) :
    Calls Tryd.prog 5 #[.slice a0 len0 cap0] w fun e w' => e = .returned (.bool true) ∧ Below w.heap.size w w' := by
  have HM : Hid (Im.Mx w) := mx_of hsh
  clear hsh hL
  by_cases hlong : (1048576 : Int) < len0
  · go_enter Tryd.func5, Tryd.ntmps5
    go_wp2
    go_ret
    exact ⟨rfl, Below.refl _ _⟩
  go_enter Tryd.func5, Tryd.ntmps5
  go_wp2_with fail
  refine (Dr.drawNotice_any a0 len0 cap0 z0 w w0).mono ?_
  rintro e w1 ⟨L, rfl, hl, hL, hb1⟩
  obtain ⟨hrz, hmod, hjunk⟩ := draw_facts hl hL
  have HMD : Hid _ := hmod
  have HJK : Hid _ := hjunk
  have HB1 : Hid (Below w.heap.size w w1) := hb1
  clear hmod hjunk hL hb1 w0 hl
  generalize (⟨(linesT L).toArray⟩ : ByteArray) = raw at *
  go_wp2_with fail
  refine (NiP.implRead_notice raw _ (HM.out.below HB1.out) (by omega)).mono ?_
  rintro e w2 ⟨v2, A, rfl, hgA, hmA, hb2⟩
  obtain ⟨aa, ca, hv2, hIA, hAA⟩ := hgA.at
  subst hv2
  have hn := notice_in hmA
  have HNA : Hid _ := hn.2
  have hAl : A.length ≤ 40 := hn.1
  have HMA : Hid (A.map grp = noticeF raw) := hmA
  have HIA : Hid (IsRows FGr w2 aa ca A) := hIA
  have HAA : Hid (GrsAt w2 A) := hAA
  have HB2 : Hid (Below w.heap.size w w2) := HB1.out.trans (hb2.mono HB1.out.size)
  clear hgA hmA hb2 hIA hAA hn HB1
  go_wp2_with fail
  refine (NrS.specRead_notice raw _ (by omega)).mono ?_
  rintro e w3 ⟨v3, B, rfl, hgB, hmB, hb3⟩
  obtain ⟨ab, cb, hv3, hIB, hAB⟩ := hgB.at
  subst hv3
  have HAB : Hid (A.map grp = B.map grp) := by show _ = _; rw [hmB, HMD.out, HMA.out]
  have HIB : Hid (IsRows FGr w3 ab cb B) := hIB
  have HBB : Hid (GrsAt w3 B) := hAB
  have HIA3 : Hid (IsRows FGr w3 aa ca A) := HIA.out.below hb3
  have HAA3 : Hid (GrsAt w3 A) := HAA.out.below hb3
  have HB3 : Hid (Below w.heap.size w w3) := HB2.out.trans (hb3.mono HB2.out.size)
  clear hgB hmB hb3 hIB hAB HIA HAA HB2
  go_wp2_with fail
  refine (groups_same aa ca A ab cb B.length B _ rfl HIA3.out HIB.out HAA3.out HBB.out (by omega) HAB.out HNA.out).mono ?_
  rintro e w4 ⟨rfl, hb4⟩
  have HIA4 : Hid (IsRows FGr w4 aa ca A) := HIA3.out.below hb4
  have HAA4 : Hid (GrsAt w4 A) := HAA3.out.below hb4
  have HB4 : Hid (Below w.heap.size w w4) := HB3.out.trans (hb4.mono HB3.out.size)
  clear hb4 HIA3 HAA3 HB3 HIB HBB
  have HM4 : Hid (Im.Mx w4) := HM.out.below HB4.out
  have hz1 : (⟨#[119, 104, 97, 116, 10, 10, 108, 101, 116, 32, 97, 10]⟩ : ByteArray).size = 12 := rfl
  have hz2 : (⟨#[119, 104, 111, 10]⟩ : ByteArray).size = 4 := rfl
  have hz3 : ((⟨#[119, 104, 97, 116, 10, 10, 108, 101, 116, 32, 97, 10]⟩ : ByteArray) ++ raw).size ≤ 1012 := by rw [ByteArray.size_append]; omega
  have hz4 : ((⟨#[119, 104, 97, 116, 10, 10, 108, 101, 116, 32, 97, 10]⟩ : ByteArray) ++ raw ++ (⟨#[119, 104, 111, 10]⟩ : ByteArray)).size ≤ 1000000 := by rw [ByteArray.size_append, ByteArray.size_append]; omega
  have HRD : Hid _ := NiP.implRead_notice ((⟨#[119, 104, 97, 116, 10, 10, 108, 101, 116, 32, 97, 10]⟩ : ByteArray) ++ raw ++ (⟨#[119, 104, 111, 10]⟩ : ByteArray)) w4 HM4.out hz4
  clear hz1 hz2 hz3 hz4
  go_wp2_with fail
  refine Calls.mono HRD.out ?_
  rintro e w5 ⟨v5, C, rfl, hgC, hmC, hb5⟩
  obtain ⟨ac, cc, hv5, hIC, hAC⟩ := hgC.at
  subst hv5
  have hn := notice_in hmC
  have HNC : Hid _ := hn.2
  have hCl : C.length ≤ 40 := hn.1
  have HCA : Hid (C.map grp = A.map grp) := by show _ = _; rw [hmC, HJK.out, HMA.out]
  have HIC : Hid (IsRows FGr w5 ac cc C) := hIC
  have HAC : Hid (GrsAt w5 C) := hAC
  have HIA5 : Hid (IsRows FGr w5 aa ca A) := HIA4.out.below hb5
  have HAA5 : Hid (GrsAt w5 A) := HAA4.out.below hb5
  have HB5 : Hid (Below w.heap.size w w5) := HB4.out.trans (hb5.mono HB4.out.size)
  clear hgC hmC hb5 hIC hAC hn HRD
  go_wp2_with fail
  refine (groups_same ac cc C aa ca A.length A _ rfl HIC.out HIA5.out HAC.out HAA5.out (by omega) HCA.out HNC.out).mono ?_
  rintro e w6 ⟨rfl, hb6⟩
  have HB6 : Hid (Below w.heap.size w w6) := HB5.out.trans (hb6.mono HB5.out.size)
  clear hb6
  go_wp2
  go_ret
  exact ⟨rfl, HB6.out⟩
end Go.Proofs.YtacelbhoccckbaaDoor.fnNoticeJunk
