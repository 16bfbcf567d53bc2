/- FnNoticeBack: the walk. -/
import Derived.Test.YtacelbhoccckbaaDoorRows
import Derived.WalkKit
import Derived.ProofKit
import Derived.OpenShut
import Derived.ShutString
import Derived.ChangeOld
import Derived.Below
import Derived.Test.YtacelbhoccckbaaDoorCards
import Derived.Test.YtacelbhoccckbaaDoorDraw14Pk
import Derived.Test.YtacelbhoccckbaaDoorGrp1
import Derived.Test.YtacelbhoccckbaaDoorLibMathPk
import Derived.Test.YtacelbhoccckbaaDoorNt1
import Derived.Test.YtacelbhoccckbaaDoorNt3
import Derived.Shelf.Vars
import Derived.Lay
import Derived.LaidOnce
import Derived.SevenTiedAt
namespace Go.Proofs.YtacelbhoccckbaaDoor.fnNoticeBack
open Go.ChangeShapes Go.WideShapes Go.ChangeAt Go.RowKit
open Go.ChangeMaps (open_string shut_string)
set_option linter.unusedVariables false
open Go.Proofs.YtacelbhoccckbaaDoor.EscL Go.Proofs.YtacelbhoccckbaaDoor.EscM Go.Proofs.YtacelbhoccckbaaDoor.ReadM Go.Proofs.YtacelbhoccckbaaDoor.RuleM Go.Proofs.YtacelbhoccckbaaDoor.Ru1 Go.Proofs.YtacelbhoccckbaaDoor.St Go.Proofs.YtacelbhoccckbaaDoor.RR Go.Proofs.YtacelbhoccckbaaDoor.LetM Go.Proofs.YtacelbhoccckbaaDoor.Nm Go.Proofs.YtacelbhoccckbaaDoor.GrM Go.Proofs.YtacelbhoccckbaaDoor.NtM Go.Proofs.YtacelbhoccckbaaDoor.NrM Go.Proofs.YtacelbhoccckbaaDoor.NrW Go.Proofs.YtacelbhoccckbaaDoor.NrE Go.Proofs.YtacelbhoccckbaaDoor.NrT

theorem mx_of {w : World} (h : w.ShapedOpen Tryd.prog) : Im.Mx w :=
  cell_of_shapedOpen_int (g := 0) (t := 3) (zero := #[.int .i64 0]) (k := .i64) h (of_decide_eq_true (by kernel_rfl)) (by kernel_rfl) rfl (by kernel_rfl) (by kernel_rfl) Tryd.underlying3
theorem text_n (a0 : Option Addr) (cap n : Nat) (L : List Gr) (w : World) (hn : L.length = n) (hI : IsRows FGr w a0 cap L) (hG : GrsAt w L) (hS : ∀ g ∈ L, GrSz g) (hl : L.length ≤ 1048576) :
    Calls Tryd.prog 8 #[.slice a0 n cap] w fun e w' => e = .returned (.string (ntS L)) ∧ Below w.heap.size w w' := by
  subst hn; exact Nt.implNText_any a0 cap L w hI hG hS hl
theorem textM_n (a0 : Option Addr) (cap n : Nat) (L : List Gr) (w : World) (hn : L.length = n) (hI : IsRows FGr w a0 cap L) (hG : GrsAt w L) (hS : ∀ g ∈ L, GrSz g) (hl : L.length ≤ 1048576) :
    Calls Tryd.prog 9 #[.slice a0 n cap] w fun e w' => e = .returned (.string (ntS L)) ∧ Below w.heap.size w w' := by
  subst hn; exact Nt.specNText_any a0 cap L w hI hG hS hl
theorem ok_n (a0 : Option Addr) (cap n : Nat) (L : List Gr) (w : World) (hn : L.length = n) (hI : IsRows FGr w a0 cap L) (hG : GrsAt w L) (hS : ∀ g ∈ L, GrSz g) (hl : L.length ≤ 1048576) :
    Calls Tryd.prog 10 #[.slice a0 n cap] w fun e w' => e = .returned (.bool (noticeB L)) ∧ Below w.heap.size w w' := by
  subst hn; exact Gp.specNotice_any a0 cap L w hI hG hS hl
theorem own_ge {w : World} {base k n : Nat} {t : TypeId} {v : Value} {xs : List Value} (h : w.ownsRow base t k v n xs) : ∀ b, v.ownBlock = some b → base ≤ b := by
  intro b hb
  obtain ⟨_, h | ⟨g, cap, cur, rfl, hg, _⟩⟩ := h
  · rw [h.1] at hb; simp [Value.ownBlock] at hb
  · simp [Value.ownBlock] at hb; omega
theorem small_of {A L : List Gr} (h : A.map grp = L.map grp) (hS : ∀ g ∈ L, GrSz g) : ∀ g ∈ A, g.nm.length ≤ 4194304 ∧ g.ru.length ≤ 4194304 := by
  intro g hg
  have hm : grp g ∈ L.map grp := by rw [← h]; exact List.mem_map.2 ⟨g, hg, rfl⟩
  obtain ⟨g', hg', e⟩ := List.mem_map.1 hm
  have hs := hS g' hg'
  unfold grp at e
  simp only [Prod.mk.injEq] at e
  rw [← e.1, ← e.2.1]
  exact ⟨Nat.le_trans hs.1 (by decide), Nat.le_trans hs.2.1 (by decide)⟩

set_option maxRecDepth 100000 in
set_option maxHeartbeats 6400000 in
theorem walk (a0 : Option Addr) (len0 cap0 : Nat) (z0 : List Int) (w : World) (w0 : Dr.IsRow .u8 w a0 len0 cap0 z0) (hL : laidMetH Tryd.prog Rows.fnNoticeBackRow.laid w) (hsh : w.ShapedOpen Tryd.prog) :
    Calls Tryd.prog 3 #[.slice a0 len0 cap0] w fun e w' => e = .returned (.bool true) ∧ Below w.heap.size w w' := by
  have HM : Hid (Im.Mx w) := mx_of hsh
  clear hsh hL
  by_cases hlong : (1048576 : Int) < len0
  · go_enter Tryd.func3, Tryd.ntmps3
    go_wp2
    go_ret
    exact ⟨rfl, Below.refl _ _⟩
  go_enter Tryd.func3, Tryd.ntmps3
  go_wp2_with fail
  refine (Dr.drawText_any a0 len0 cap0 z0 w w0).mono ?_
  rintro e w1 ⟨L, a1, c1, rfl, hI, hG, hl, hL, hb1⟩
  have HI1 : Hid (IsRows FGr w1 a1 c1 L) := hI
  have HG1 : Hid (GrsAt w1 L) := hG
  have HS : Hid (∀ g ∈ L, GrSz g) := fun g hg => (hL g hg).sz
  have HB1 : Hid (Below w.heap.size w w1) := hb1
  have HBK : Hid (noticeB L = true → noticeF (ntS L) = L.map grp ∧ (ntS L).size ≤ 840) := fun h => ⟨notice_back h, text_size h⟩
  clear hI hG hL hb1 w0
  go_wp2_with fail
  refine (text_n a1 c1 L.length L _ rfl HI1.out HG1.out HS.out (by omega)).mono ?_
  rintro e w2 ⟨rfl, hb2⟩
  have HB2 : Hid (Below w.heap.size w w2) := HB1.out.trans (hb2.mono HB1.out.size)
  have HI2 : Hid (IsRows FGr w2 a1 c1 L) := HI1.out.below hb2
  have HG2 : Hid (GrsAt w2 L) := HG1.out.below hb2
  have HTX : Hid (∀ W, IsRows FGr W a1 c1 L → GrsAt W L → Calls Tryd.prog 9 #[.slice a1 L.length c1] W fun e w' => e = .returned (.string (ntS L)) ∧ Below W.heap.size W w') := fun W h1 h2 => textM_n a1 c1 L.length L W rfl h1 h2 HS.out (by omega)
  clear hb2 HI1 HG1 HB1
  generalize ntS L = raw at *
  have hself : (raw.toList == raw.toList) = true := beq_self_eq_true _
  have hselfn : (raw.toList != raw.toList) = false := by simp
  go_wp2_with fail
  refine (HTX.out _ HI2.out HG2.out).mono ?_
  rintro e w3 ⟨rfl, hb3⟩
  have HB3 : Hid (Below w.heap.size w w3) := HB2.out.trans (hb3.mono HB2.out.size)
  have HI3 : Hid (IsRows FGr w3 a1 c1 L) := HI2.out.below hb3
  have HG3 : Hid (GrsAt w3 L) := HG2.out.below hb3
  clear hb3 HI2 HG2 HB2
  have HOK : Hid _ := ok_n a1 c1 L.length L w3 rfl HI3.out HG3.out HS.out (by omega)
  cases hn : noticeB L with
  | false =>
    rw [hn] at HOK
    go_wp2_with fail
    refine Calls.mono HOK.out ?_
    rintro e w4 ⟨rfl, hb4⟩
    have HB4 : Hid (Below w.heap.size w w4) := HB3.out.trans (hb4.mono HB3.out.size)
    have HI4 : Hid (IsRows FGr w4 a1 c1 L) := HI3.out.below hb4
    have HG4 : Hid (GrsAt w4 L) := HG3.out.below hb4
    clear hb4 hn
    go_wp2_with fail
    refine (HTX.out _ HI4.out HG4.out).mono ?_
    rintro e w5 ⟨rfl, hb5⟩
    have HB5 : Hid (Below w.heap.size w w5) := HB4.out.trans (hb5.mono HB4.out.size)
    clear hb5
    go_wp2
    go_ret
    exact ⟨ret_bool (by first | rfl | simp), HB5.out⟩
  | true =>
    rw [hn] at HOK
    obtain ⟨hbk, hrz⟩ := HBK.out hn
    have HNF : Hid (noticeF raw = L.map grp) := hbk
    go_wp2_with fail
    refine Calls.mono HOK.out ?_
    rintro e w4 ⟨rfl, hb4⟩
    have HB4 : Hid (Below w.heap.size w w4) := HB3.out.trans (hb4.mono HB3.out.size)
    have HI4 : Hid (IsRows FGr w4 a1 c1 L) := HI3.out.below hb4
    have HG4 : Hid (GrsAt w4 L) := HG3.out.below hb4
    clear hb4 hn hbk HBK HTX HOK
    go_wp2_with fail
    refine (NiP.implRead_notice raw _ (HM.out.below HB4.out) (by omega)).mono ?_
    rintro e w5 ⟨v5, A, rfl, hgA, hmA, hb5⟩
    obtain ⟨aa, ca, hv5, hIA, hAA⟩ := hgA.at
    subst hv5
    have HMA : Hid (A.map grp = L.map grp) := by show _ = _; rw [hmA, HNF.out]
    have hAl : A.length ≤ 4 := by have := congrArg List.length HMA.out; simp at this; omega
    have HIA : Hid (IsRows FGr w5 aa ca A) := hIA
    have HAA : Hid (GrsAt w5 A) := hAA
    have HI5 : Hid (IsRows FGr w5 a1 c1 L) := HI4.out.below hb5
    have HG5 : Hid (GrsAt w5 L) := HG4.out.below hb5
    have HB5 : Hid (Below w.heap.size w w5) := HB4.out.trans (hb5.mono HB4.out.size)
    clear hgA hmA hb5 hIA hAA HI4 HG4 HB4
    go_wp2_with fail
    refine (groups_same aa ca A a1 c1 L.length L _ rfl HIA.out HI5.out HAA.out HG5.out (by omega) HMA.out (small_of HMA.out HS.out)).mono ?_
    rintro e w6 ⟨rfl, hb6⟩
    have HB6 : Hid (Below w.heap.size w w6) := HB5.out.trans (hb6.mono HB5.out.size)
    clear hb6
    go_wp2
    go_ret
    exact ⟨rfl, HB6.out⟩
end Go.Proofs.YtacelbhoccckbaaDoor.fnNoticeBack
