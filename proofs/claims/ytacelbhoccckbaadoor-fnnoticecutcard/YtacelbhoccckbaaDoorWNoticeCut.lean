/- FnNoticeCut: the walk. -/
import Derived.Test.YtacelbhoccckbaaDoorRows
import Derived.WalkKit
import Derived.ProofKit
import Derived.OpenShut
import Derived.ShutString
import Derived.ChangeOld
import Derived.Below
import Derived.Test.YtacelbhoccckbaaDoorCards
import Derived.Test.YtacelbhoccckbaaDoorDraw14Pk
import Derived.Test.YtacelbhoccckbaaDoorGrpMathPk
import Derived.Test.YtacelbhoccckbaaDoorNi5
import Derived.Test.YtacelbhoccckbaaDoorNt3
import Derived.Shelf.Vars
import Derived.Lay
import Derived.LaidOnce
import Derived.SevenTiedAt
namespace Go.Proofs.YtacelbhoccckbaaDoor.fnNoticeCut
open Go.ChangeShapes Go.WideShapes Go.ChangeAt Go.RowKit
open Go.ChangeMaps (open_string shut_string)
set_option linter.unusedVariables false
open Go.Proofs.YtacelbhoccckbaaDoor.EscL Go.Proofs.YtacelbhoccckbaaDoor.EscM Go.Proofs.YtacelbhoccckbaaDoor.ReadM Go.Proofs.YtacelbhoccckbaaDoor.RuleM Go.Proofs.YtacelbhoccckbaaDoor.Ru1 Go.Proofs.YtacelbhoccckbaaDoor.St Go.Proofs.YtacelbhoccckbaaDoor.RR Go.Proofs.YtacelbhoccckbaaDoor.LetM Go.Proofs.YtacelbhoccckbaaDoor.Nm Go.Proofs.YtacelbhoccckbaaDoor.GrM Go.Proofs.YtacelbhoccckbaaDoor.NtM Go.Proofs.YtacelbhoccckbaaDoor.NrM Go.Proofs.YtacelbhoccckbaaDoor.NrW Go.Proofs.YtacelbhoccckbaaDoor.NrE Go.Proofs.YtacelbhoccckbaaDoor.NrT

theorem mx_of {w : World} (h : w.ShapedOpen Tryd.prog) : Im.Mx w :=
  cell_of_shapedOpen_int (g := 0) (t := 3) (zero := #[.int .i64 0]) (k := .i64) h (of_decide_eq_true (by kernel_rfl)) (by kernel_rfl) rfl (by kernel_rfl) (by kernel_rfl) Tryd.underlying3
theorem text_n (a0 : Option Addr) (cap n : Nat) (L : List Gr) (w : World) (hn : L.length = n) (hI : IsRows FGr w a0 cap L) (hG : GrsAt w L) (hS : ∀ g ∈ L, GrSz g) (hl : L.length ≤ 1048576) :
    Calls Tryd.prog 8 #[.slice a0 n cap] w fun e w' => e = .returned (.string (ntS L)) ∧ Below w.heap.size w w' := by
  subst hn; exact Nt.implNText_any a0 cap L w hI hG hS hl
theorem textM_n (a0 : Option Addr) (cap n : Nat) (L : List Gr) (w : World) (hn : L.length = n) (hI : IsRows FGr w a0 cap L) (hG : GrsAt w L) (hS : ∀ g ∈ L, GrSz g) (hl : L.length ≤ 1048576) :
    Calls Tryd.prog 9 #[.slice a0 n cap] w fun e w' => e = .returned (.string (ntS L)) ∧ Below w.heap.size w w' := by
  subst hn; exact Nt.specNText_any a0 cap L w hI hG hS hl
theorem ok_n (a0 : Option Addr) (cap n : Nat) (L : List Gr) (w : World) (hn : L.length = n) (hI : IsRows FGr w a0 cap L) (hG : GrsAt w L) (hS : ∀ g ∈ L, GrSz g) (hl : L.length ≤ 1048576) :
    Calls Tryd.prog 10 #[.slice a0 n cap] w fun e w' => e = .returned (.bool (noticeB L)) ∧ Below w.heap.size w w' := by
  subst hn; exact Gp.specNotice_any a0 cap L w hI hG hS hl
theorem own_ge {w : World} {base k n : Nat} {t : TypeId} {v : Value} {xs : List Value} (h : w.ownsRow base t k v n xs) : ∀ b, v.ownBlock = some b → base ≤ b := by
  intro b hb
  obtain ⟨_, h | ⟨g, cap, cur, rfl, hg, _⟩⟩ := h
  · rw [h.1] at hb; simp [Value.ownBlock] at hb
  · simp [Value.ownBlock] at hb; omega
theorem small_of {A L : List Gr} (h : A.map grp = L.map grp) (hS : ∀ g ∈ L, GrSz g) : ∀ g ∈ A, g.nm.length ≤ 4194304 ∧ g.ru.length ≤ 4194304 := by
  intro g hg
  have hm : grp g ∈ L.map grp := by rw [← h]; exact List.mem_map.2 ⟨g, hg, rfl⟩
  obtain ⟨g', hg', e⟩ := List.mem_map.1 hm
  have hs := hS g' hg'
  unfold grp at e
  simp only [Prod.mk.injEq] at e
  rw [← e.1, ← e.2.1]
  exact ⟨Nat.le_trans hs.1 (by decide), Nat.le_trans hs.2.1 (by decide)⟩

set_option maxRecDepth 100000 in
set_option maxHeartbeats 6400000 in
theorem walk (a0 : Option Addr) (len0 cap0 : Nat) (z0 : List Int) (a1 : Option Addr) (len1 cap1 : Nat) (z1 : List Int) (w : World) (w0 : Dr.IsRow .u8 w a0 len0 cap0 z0) (w1 : Dr.IsRow .u8 w a1 len1 cap1 z1) (hL : laidMetH Tryd.prog Rows.fnNoticeCutRow.laid w) (hsh : w.ShapedOpen Tryd.prog) :
    Calls Tryd.prog 6 #[.slice a0 len0 cap0, .slice a1 len1 cap1] w fun e w' => e = .returned (.bool true) ∧ Below w.heap.size w w' := by
  have HM : Hid (Im.Mx w) := mx_of hsh
  have HR1 : Hid (Dr.IsRow .u8 w a1 len1 cap1 z1) := w1
  clear hsh hL w1
  by_cases hlong : (1048576 : Int) < len0
  · go_enter Tryd.func6, Tryd.ntmps6
    go_wp2
    go_ret
    exact ⟨rfl, Below.refl _ _⟩
  by_cases hlong1 : (1048576 : Int) < len1
  · go_enter Tryd.func6, Tryd.ntmps6
    go_wp2
    go_ret
    exact ⟨rfl, Below.refl _ _⟩
  obtain ⟨i0, hi, hz0, hz1, hz2⟩ := Dr.info_group
  go_enter Tryd.func6, Tryd.ntmps6
  go_wp2_with fail
  refine (Dr.drawText_any a0 len0 cap0 z0 w w0).mono ?_
  rintro e wa ⟨A, aa, ca, rfl, hI, hG, hla, hL, hb1⟩
  have HIa : Hid (IsRows FGr wa aa ca A) := hI
  have HGa : Hid (GrsAt wa A) := hG
  have HSa : Hid (∀ g ∈ A, GrSz g) := fun g hg => (hL g hg).sz
  have HB1 : Hid (Below w.heap.size w wa) := hb1
  clear hI hG hL hb1 w0
  go_wp2_with fail
  refine (Dr.drawText_any a1 len1 cap1 z1 _ (HR1.out.below HB1.out)).mono ?_
  rintro e wb ⟨B, ab, cb, rfl, hI, hG, hlb, hL, hb1⟩
  have HIb : Hid (IsRows FGr wb ab cb B) := hI
  have HGb : Hid (GrsAt wb B) := hG
  have HSb : Hid (∀ g ∈ B, GrSz g) := fun g hg => (hL g hg).sz
  have HB2 : Hid (Below w.heap.size w wb) := HB1.out.trans (hb1.mono HB1.out.size)
  have HIa2 : Hid (IsRows FGr wb aa ca A) := HIa.out.below hb1
  have HGa2 : Hid (GrsAt wb A) := HGa.out.below hb1
  clear hI hG hL hb1 HR1 HIa HGa HB1
  have HSab : Hid (∀ g ∈ A ++ B, GrSz g) := fun g hg => by
    rcases List.mem_append.1 hg with hg | hg
    · exact HSa.out g hg
    · exact HSb.out g hg
  have HBK : Hid (noticeB (A ++ B) = true → noticeF (ntS (A ++ B)) = (A ++ B).map grp ∧ ntS (A ++ B) = ntS A ++ ntS B ∧ (ntS A).size ≤ 840 ∧ (ntS B).size ≤ 840) := fun h => by
    obtain ⟨h1, h2, h3⟩ := text_two h
    exact ⟨notice_back h, h1, text_size h2, text_size h3⟩
  have HTA : Hid (∀ W, IsRows FGr W aa ca A → GrsAt W A → Calls Tryd.prog 9 #[.slice aa A.length ca] W fun e w' => e = .returned (.string (ntS A)) ∧ Below W.heap.size W w') := fun W h1 h2 => textM_n aa ca A.length A W rfl h1 h2 HSa.out (by omega)
  have HTB : Hid (∀ W, IsRows FGr W ab cb B → GrsAt W B → Calls Tryd.prog 9 #[.slice ab B.length cb] W fun e w' => e = .returned (.string (ntS B)) ∧ Below W.heap.size W w') := fun W h1 h2 => textM_n ab cb B.length B W rfl h1 h2 HSb.out (by omega)
  -- what the program writes of each
  go_wp2_with fail
  refine (text_n aa ca A.length A _ rfl HIa2.out HGa2.out HSa.out (by omega)).mono ?_
  rintro e w3 ⟨rfl, hb3⟩
  have HB3 : Hid (Below w.heap.size w w3) := HB2.out.trans (hb3.mono HB2.out.size)
  have HIa3 : Hid (IsRows FGr w3 aa ca A) := HIa2.out.below hb3
  have HGa3 : Hid (GrsAt w3 A) := HGa2.out.below hb3
  have HIb3 : Hid (IsRows FGr w3 ab cb B) := HIb.out.below hb3
  have HGb3 : Hid (GrsAt w3 B) := HGb.out.below hb3
  clear hb3 HIa2 HGa2 HIb HGb HB2
  go_wp2_with fail
  refine (text_n ab cb B.length B _ rfl HIb3.out HGb3.out HSb.out (by omega)).mono ?_
  rintro e w4 ⟨rfl, hb4⟩
  have HB4 : Hid (Below w.heap.size w w4) := HB3.out.trans (hb4.mono HB3.out.size)
  have HIa4 : Hid (IsRows FGr w4 aa ca A) := HIa3.out.below hb4
  have HGa4 : Hid (GrsAt w4 A) := HGa3.out.below hb4
  have HIb4 : Hid (IsRows FGr w4 ab cb B) := HIb3.out.below hb4
  have HGb4 : Hid (GrsAt w4 B) := HGb3.out.below hb4
  clear hb4 HIa3 HGa3 HIb3 HGb3 HB3
  -- all of them
  have HZO : Hid (OwnsR FGr 34 (w4.alloc (.cells #[] 34)) w4.heap.size (.slice (some ⟨w4.heap.size, 0, none⟩) 0 0) []) := OwnsR.empty FGr 34 w4 w4.heap.size (Nat.le_refl _)
  have HIa4z : Hid (IsRows FGr (w4.alloc (.cells #[] 34)) aa ca A) := HIa4.out.keep (alloc_keep _ _)
  have HIb4z : Hid (IsRows FGr (w4.alloc (.cells #[] 34)) ab cb B) := HIb4.out.keep (alloc_keep _ _)
  go_wp2_with (at_builtin; refine St.wpList_app rfl (.tmp 26) (.tmp 27) 23 rfl w4.heap.size 34 i0 (.agg #[.slice none 0 0, .slice none 0 0, .int .i64 0]) 3 56 Tryd.underlying23 hi hz0 hz1 hz2 rfl (by decide) (.slice (some ⟨w4.heap.size, 0, none⟩) 0 0) 0 (FGr.cells []) rfl HZO.out aa A.length ca (FGr.cells A) rfl HIa4z.out.none (FGr.cells_len _) (HIa4z.out.newsAny fun _ _ => rfl) (FGr.cells_one _) ?d3 ?d4 ?d5 ?_)
  case d3 => unfold maxLen; omega
  case d4 => omega
  case d5 => simp
  intro v5 w5 hO5 hg5
  have HO5 : Hid (w5.ownsRow w4.heap.size 34 3 v5 A.length (FGr.cells [] ++ FGr.cells A)) := hO5
  have HG5 : Hid (Below w4.heap.size w4 w5) := Below.grown ((Below.refl _ w4).alloc (Nat.le_refl _) _) hg5 (by simp) (fun k hk => by simp [Value.ownBlock] at hk; omega)
  have HIb5 : Hid (IsRows FGr w5 ab cb B) := HIb4.out.below HG5.out
  have hz5 := HG5.out.size
  clear hO5 hg5
  go_wp2_with (at_builtin; refine St.wpList_app rfl (.tmp 28) (.tmp 29) 23 rfl w4.heap.size 34 i0 (.agg #[.slice none 0 0, .slice none 0 0, .int .i64 0]) 3 56 Tryd.underlying23 hi hz0 hz1 hz2 rfl (by decide) v5 A.length (FGr.cells [] ++ FGr.cells A) rfl HO5.out ab B.length cb (FGr.cells B) rfl HIb5.out.none (FGr.cells_len _) (HIb5.out.newsAny fun _ _ => rfl) (FGr.cells_one _) ?d3 ?d4 ?d5 ?_)
  case d3 => unfold maxLen; omega
  case d4 => omega
  case d5 => omega
  intro v6 w6 hO6 hg6
  have hOab : OwnsR FGr 34 w6 w4.heap.size v6 (A ++ B) := OwnsR.of_row (F := FGr) hO6 (by simp) (by rw [FGr.cells_append]; simp [Frm.cells])
  obtain ⟨az, cz, hv6, hIz⟩ := hOab.rows
  subst hv6
  have hG6 : Below w4.heap.size w4 w6 := Below.grown HG5.out hg6 hz5 (own_ge HO5.out)
  have HIz : Hid (IsRows FGr w6 az cz (A ++ B)) := hIz
  have HB6 : Hid (Below w.heap.size w w6) := HB4.out.trans (hG6.mono HB4.out.size)
  have HIa6 : Hid (IsRows FGr w6 aa ca A) := HIa4.out.below hG6
  have HGa6 : Hid (GrsAt w6 A) := HGa4.out.below hG6
  have HIb6 : Hid (IsRows FGr w6 ab cb B) := HIb4.out.below hG6
  have HGb6 : Hid (GrsAt w6 B) := HGb4.out.below hG6
  have HGz : Hid (GrsAt w6 (A ++ B)) := fun g hg => by
    rcases List.mem_append.1 hg with hg | hg
    · exact HGa6.out g hg
    · exact HGb6.out g hg
  have HLn : Hid ((A ++ B).length = A.length + B.length) := by show _ = _; simp
  clear hO6 hg6 hOab hIz hG6 hz5 HO5 HG5 HIb5 HZO HIa4z HIb4z HIa4 HGa4 HIb4 HGb4 HB4
  have hnz : (A ++ B).length ≤ 8 := by rw [HLn.out]; omega
  have HOK : Hid (∀ W, IsRows FGr W az cz (A ++ B) → GrsAt W (A ++ B) → Calls Tryd.prog 10 #[.slice az (A ++ B).length cz] W fun e w' => e = .returned (.bool (noticeB (A ++ B))) ∧ Below W.heap.size W w') := fun W h1 h2 => ok_n az cz _ (A ++ B) W rfl h1 h2 HSab.out (by omega)
  have HTZ : Hid (∀ W, IsRows FGr W az cz (A ++ B) → GrsAt W (A ++ B) → Calls Tryd.prog 8 #[.slice az (A ++ B).length cz] W fun e w' => e = .returned (.string (ntS (A ++ B))) ∧ Below W.heap.size W w') := fun W h1 h2 => text_n az cz _ (A ++ B) W rfl h1 h2 HSab.out (by omega)
  generalize hZ : A ++ B = Z at *
  clear hZ
  generalize noticeB Z = ok at *
  generalize ntS Z = zs at *
  generalize ntS A = ra at *
  generalize ntS B = rb at *
  have hself : (ra.toList == ra.toList) = true := beq_self_eq_true _
  have hselfn : (ra.toList != ra.toList) = false := by simp
  have hself2 : (rb.toList == rb.toList) = true := beq_self_eq_true _
  have hselfn2 : (rb.toList != rb.toList) = false := by simp
  go_wp2_with fail
  refine (HTA.out _ HIa6.out HGa6.out).mono ?_
  rintro e w7 ⟨rfl, hb7⟩
  have HB7 : Hid (Below w.heap.size w w7) := HB6.out.trans (hb7.mono HB6.out.size)
  have HE7 : Hid (Below w6.heap.size w6 w7) := hb7
  have hz7 := hb7.size
  clear hb7
  go_wp2_with fail
  refine (HTB.out _ (HIb6.out.below HE7.out) (HGb6.out.below HE7.out)).mono ?_
  rintro e w8 ⟨rfl, hb8⟩
  have HE8 : Hid (Below w6.heap.size w6 w8) := HE7.out.trans (hb8.mono hz7)
  have hz8 : w6.heap.size ≤ w8.heap.size := HE8.out.size
  clear hb8 HE7 HB7
  go_wp2_with fail
  refine (HOK.out _ (HIz.out.below HE8.out) (HGz.out.below HE8.out)).mono ?_
  rintro e w9 ⟨rfl, hb9⟩
  have HE9 : Hid (Below w6.heap.size w6 w9) := HE8.out.trans (hb9.mono hz8)
  have hz9 : w6.heap.size ≤ w9.heap.size := HE9.out.size
  clear hb9 HE8
  cases ok with
  | false =>
    go_wp2_with fail
    refine (HTA.out _ (HIa6.out.below HE9.out) (HGa6.out.below HE9.out)).mono ?_
    rintro e wx ⟨rfl, hbx⟩
    have HEx : Hid (Below w6.heap.size w6 wx) := HE9.out.trans (hbx.mono hz9)
    have hzx : w6.heap.size ≤ wx.heap.size := HEx.out.size
    clear hbx
    go_wp2_with fail
    refine (HTB.out _ (HIb6.out.below HEx.out) (HGb6.out.below HEx.out)).mono ?_
    rintro e wy ⟨rfl, hby⟩
    have HBy : Hid (Below w.heap.size w wy) := HB6.out.trans ((HEx.out.trans (hby.mono hzx)).mono HB6.out.size)
    clear hby
    go_wp2
    go_ret
    exact ⟨ret_bool (by first | rfl | simp), HBy.out⟩
  | true =>
    obtain ⟨hnf, hzs, hra, hrb⟩ := HBK.out rfl
    have HNF : Hid (noticeF zs = Z.map grp) := hnf
    have HZS : Hid (zs = ra ++ rb) := hzs
    have hsum : (ra ++ rb).size ≤ 1680 := by rw [ByteArray.size_append]; omega
    clear hnf hzs HBK
    have HTZ2 : Hid (∀ W, IsRows FGr W az cz Z → GrsAt W Z → Calls Tryd.prog 8 #[.slice az Z.length cz] W fun e w' => e = .returned (.string (ra ++ rb)) ∧ Below W.heap.size W w') := fun W h1 h2 => (HTZ.out W h1 h2).mono (by rintro e w' ⟨rfl, hb⟩; exact ⟨by rw [HZS.out], hb⟩)
    have hself3 : ((ra ++ rb).toList == (ra ++ rb).toList) = true := beq_self_eq_true _
    have HRD : Hid (∀ W, Im.Mx W → _) := fun W hM => NiP.implRead_notice (ra ++ rb) W hM (by omega)
    clear HTZ
    go_wp2_with fail
    refine (HTZ2.out _ (HIz.out.below HE9.out) (HGz.out.below HE9.out)).mono ?_
    rintro e wx ⟨rfl, hbx⟩
    have HEx : Hid (Below w6.heap.size w6 wx) := HE9.out.trans (hbx.mono hz9)
    have hzx : w6.heap.size ≤ wx.heap.size := HEx.out.size
    have HMx : Hid (Im.Mx wx) := HM.out.below (HB6.out.trans (HEx.out.mono HB6.out.size))
    clear hbx
    go_wp2_with fail
    refine (HRD.out _ HMx.out).mono ?_
    rintro e wy ⟨vy, C, rfl, hgC, hmC, hby⟩
    obtain ⟨ac, cc, hvy, hIC, hAC⟩ := hgC.at
    subst hvy
    have HMC : Hid (C.map grp = Z.map grp) := by show _ = _; rw [hmC, ← HZS.out, HNF.out]
    have hCl : C.length ≤ 8 := by have := congrArg List.length HMC.out; simp at this; omega
    have HIC : Hid (IsRows FGr wy ac cc C) := hIC
    have HAC : Hid (GrsAt wy C) := hAC
    have HEy : Hid (Below w6.heap.size w6 wy) := HEx.out.trans (hby.mono hzx)
    have hzy : w6.heap.size ≤ wy.heap.size := HEy.out.size
    clear hgC hmC hby hIC hAC
    go_wp2_with fail
    refine (groups_same ac cc C az cz Z.length Z _ rfl HIC.out (HIz.out.below HEy.out) HAC.out (HGz.out.below HEy.out) (by omega) HMC.out (small_of HMC.out HSab.out)).mono ?_
    rintro e wz ⟨rfl, hbz⟩
    have HBz : Hid (Below w.heap.size w wz) := HB6.out.trans ((HEy.out.trans (hbz.mono hzy)).mono HB6.out.size)
    clear hbz
    go_wp2
    go_ret
    exact ⟨ret_bool (by first | rfl | simp), HBz.out⟩
end Go.Proofs.YtacelbhoccckbaaDoor.fnNoticeCut
