/- FnGoNone: the walk. -/
import Derived.Test.YtiennniclkbjlaaGreatDoorRows
import Derived.WalkKit
import Derived.ProofKit
import Derived.OpenShut
import Derived.ShutString
import Derived.ChangeOld
import Derived.Below
import Derived.Test.YtiennniclkbjlaaGreatDoorCards
import Derived.Test.YtiennniclkbjlaaGreatDoorReStPk
import Derived.Test.YtiennniclkbjlaaGreatDoorEscLeafPk
import Derived.Test.YtiennniclkbjlaaGreatDoorTn9
import Derived.Test.YtiennniclkbjlaaGreatDoorTn21
import Derived.Test.YtiennniclkbjlaaGreatDoorTn22
import Derived.Test.YtiennniclkbjlaaGreatDoorStrsPk
import Derived.Test.YtiennniclkbjlaaGreatDoorTn14Pk
import Derived.Test.YtiennniclkbjlaaGreatDoorTrOncePk
import Derived.Deep.RegionHeldLaw
import Derived.Shelf.Vars
import Derived.Lay
import Derived.LaidOnce
import Derived.LaidSub
import Derived.Stop.LaidTwo
import Derived.SevenTiedAt
namespace Go.Proofs.YtiennniclkbjlaaGreatDoor.fnGoNone
open Go.ChangeShapes Go.WideShapes Go.ChangeAt Go.RowKit
open Go.ChangeMaps (open_string shut_string)
set_option linter.unusedVariables false
open Go.Proofs.YtiennniclkbjlaaGreatDoor.Im Go.Proofs.YtiennniclkbjlaaGreatDoor.Bk Go.Proofs.YtiennniclkbjlaaGreatDoor.AddrM Go.Proofs.YtiennniclkbjlaaGreatDoor.Ad1 Go.Proofs.YtiennniclkbjlaaGreatDoor.Rd1 Go.Proofs.YtiennniclkbjlaaGreatDoor.RdA Go.Proofs.YtiennniclkbjlaaGreatDoor.MkA Go.Proofs.YtiennniclkbjlaaGreatDoor.Mp Go.Proofs.YtiennniclkbjlaaGreatDoor.EscL Go.Proofs.YtiennniclkbjlaaGreatDoor.EscM Go.Proofs.YtiennniclkbjlaaGreatDoor.ReadM Go.Proofs.YtiennniclkbjlaaGreatDoor.RuleM Go.Proofs.YtiennniclkbjlaaGreatDoor.St Go.Proofs.YtiennniclkbjlaaGreatDoor.RR Go.Proofs.YtiennniclkbjlaaGreatDoor.RoPg Go.Proofs.YtiennniclkbjlaaGreatDoor.RoIt Go.Proofs.YtiennniclkbjlaaGreatDoor.RoLk Go.Proofs.YtiennniclkbjlaaGreatDoor.RoQ Go.Proofs.YtiennniclkbjlaaGreatDoor.LetM Go.Proofs.YtiennniclkbjlaaGreatDoor.Nm Go.Proofs.YtiennniclkbjlaaGreatDoor.GrM Go.Proofs.YtiennniclkbjlaaGreatDoor.WdM Go.Proofs.YtiennniclkbjlaaGreatDoor.Wd Go.Proofs.YtiennniclkbjlaaGreatDoor.WdN Go.Proofs.YtiennniclkbjlaaGreatDoor.PgM Go.Proofs.YtiennniclkbjlaaGreatDoor.PgA Go.Proofs.YtiennniclkbjlaaGreatDoor.ReM Go.Proofs.YtiennniclkbjlaaGreatDoor.TpM Go.Proofs.YtiennniclkbjlaaGreatDoor.TrM Go.Proofs.YtiennniclkbjlaaGreatDoor.TrW Go.Proofs.YtiennniclkbjlaaGreatDoor.Tq Go.Proofs.YtiennniclkbjlaaGreatDoor.Tn

theorem mx_of {w : World} (h : w.ShapedOpen Tryz.prog) : Im.Mx w :=
  cell_of_shapedOpen_int (g := 2) (t := 3) (zero := #[.int .i64 0]) (k := .i64) h (of_decide_eq_true (by kernel_rfl)) (by kernel_rfl) rfl (by kernel_rfl) (by kernel_rfl) Tryz.underlying3
set_option maxRecDepth 100000 in
set_option maxHeartbeats 6400000 in
theorem walk (a0 : Option Addr) (len0 cap0 : Nat) (z0 : List Int) (ea eb : Addr) (w : World) (w0 : Dr.IsRow .u8 w a0 len0 cap0 z0) (hM : Im.Mx w) (hE : Errs w ea eb) :
    Calls Tryz.prog 8 #[.slice a0 len0 cap0] w fun e w' => e = .returned (.bool true) ∧ Below w.heap.size w w' := by
  have HM : Hid (Im.Mx w) := hM
  have HE : Hid (Errs w ea eb) := hE
  clear hM hE
  by_cases hlong : (1048576 : Int) < len0
  · go_enter Tryz.func8, Tryz.ntmps8
    go_wp2
    go_ret
    exact ⟨rfl, Below.refl _ _⟩
  go_enter Tryz.func8, Tryz.ntmps8
  go_wp2_with fail
  refine (Dr.drawReach_any a0 len0 cap0 z0 w w0).mono ?_
  rintro e w1 ⟨L, a1, cc, s, S, a2, c2, rfl, hI, hl, hL, hs, hSt, hSl, hSz, hb1⟩
  have HI1 : Hid (IsRows FPg w1 a1 cc L) := hI
  have HL : Hid (PgSz L) := bd_sz hL
  have HR : Hid (PgRd L) := bd_rd hL
  have HTX : Hid (∀ p ∈ L, p.text.size ≤ 1000000) := fun p hp => by obtain ⟨_, h2, _⟩ := hL p hp; omega
  have HST1 : Hid (IsStrs w1 a2 c2 S) := hSt
  have HSZ : Hid (∀ x ∈ S, x.size ≤ 100) := hSz
  have HSX : Hid (∀ x ∈ S, x.size ≤ 4194304 ∧ ascii x) := fun x hx => ⟨by have := hSz x hx; omega, trivial⟩
  have HN : Hid (nameB s = true) := hs
  have hsz := nameB_size hs
  have HB1 : Hid (Below w.heap.size w w1) := hb1
  clear hI hL hSt hSz hs hb1 w0
  clear HI1 HL HR HTX hl
  have HI1 : Hid (IsRows FPg w1 none 0 ([] : List Pg)) := IsRows.nil _ _
  have HL : Hid (PgSz ([] : List Pg)) := fun _ h => by cases h
  have HR : Hid (PgRd ([] : List Pg)) := fun _ h => by cases h
  have HTX : Hid (∀ p ∈ ([] : List Pg), p.text.size ≤ 1000000) := fun _ h => by cases h
  have HG : Hid (Calls Tryz.prog 23 #[.slice none 0 0, .string s, .slice a2 S.length c2, .int .i64 400] w1 fun e w' => GoneIs ([] : List Pg) s S 400 w1 e w') := lpGone_any none 0 ([] : List Pg) s a2 c2 S 400 ea eb w1 (HM.out.below HB1.out) (HE.out.below HB1.out) HI1.out HL.out (all_asc ([] : List Pg)) (all_tx ([] : List Pg)) HTX.out HST1.out HN.out (by omega) HSX.out (Nat.le_refl _)
  have HFN : Hid (∀ W, Below w1.heap.size w1 W → Calls Tryz.prog 18 #[.slice none 0 0, .string s, .slice a2 S.length c2] W fun e w' => e = .returned (.bool (wOk ([] : List Pg))) ∧ Below W.heap.size W w') := fun W hW => by
    have h := Ts.lpFine_any none 0 ([] : List Pg) s a2 c2 S W (HI1.out.below hW) HL.out (HST1.out.below hW) (by omega) (by omega) (fun x hx => (HSX.out x hx).1)
    rw [HN.out, decide_eq_true (show S.length ≤ 12 by omega), Bool.and_self, Bool.true_and] at h
    exact h
  clear HSX
  go_wp2_with fail
  refine Calls.mono HG.out ?_
  intro e w2 hg
  unfold GoneIs at hg
  clear HG
  cases hwk : wOk ([] : List Pg) with
  | false =>
    rw [hwk] at HFN hg
    rw [if_neg (by simp)] at hg
    obtain ⟨rfl, hb2⟩ := hg
    have HB2 : Hid (Below w1.heap.size w1 w2) := hb2
    clear hb2 HM HE HI1 HL HR HTX HST1 HSZ HN hwk
    unfold tpV tpZ
    go_wp2_with fail
    refine Calls.mono (HFN.out _ (HB2.out.alloc HB2.out.size _)) ?_
    rintro e w3 ⟨rfl, hb3⟩
    have HB3 : Hid (Below w1.heap.size w1 w3) := (HB2.out.alloc HB2.out.size _).trans (hb3.mono (HB2.out.alloc HB2.out.size _).size)
    clear hb3
    go_wp2_with fail
    refine Calls.mono (HFN.out _ HB3.out) ?_
    rintro e w4 ⟨rfl, hb4⟩
    have HB4 : Hid (Below w1.heap.size w1 w4) := HB3.out.trans (hb4.mono HB3.out.size)
    clear hb4
    go_wp2
    go_ret
    exact ⟨rfl, HB1.out.trans (HB4.out.mono HB1.out.size)⟩
  | true =>
  have HWK : Hid (wOk ([] : List Pg) = true) := hwk
  rw [hwk] at HFN
  rw [hwk, if_pos rfl] at hg
  obtain ⟨p, rfl, hp, hpo, hb2⟩ := hg
  have HPE : Hid (tmP p = TrM.runT ([] : List Pg) 400 (newT s S)) := hp
  have HB3 : Hid (Below w1.heap.size w1 (w2.alloc (.cells #[.string p.name, .int .i64 p.now, .slice p.ha p.hs.length p.hc, .slice p.sa p.seen.length p.sc, .slice p.la p.lk.length p.lc] 29))) := hb2.alloc hb2.size _
  have HP3 : Hid (OwnTp (w2.alloc (.cells #[.string p.name, .int .i64 p.now, .slice p.ha p.hs.length p.hc, .slice p.sa p.seen.length p.sc, .slice p.la p.lk.length p.lc] 29)) w1.heap.size p) := hpo.below ((Below.refl _ w2).alloc (Nat.le_refl _) _)
  have HX3 : Hid (Bs 29 (w2.alloc (.cells #[.string p.name, .int .i64 p.now, .slice p.ha p.hs.length p.hc, .slice p.sa p.seen.length p.sc, .slice p.la p.lk.length p.lc] 29)) w2.heap.size #[.string p.name, .int .i64 p.now, .slice p.ha p.hs.length p.hc, .slice p.sa p.seen.length p.sc, .slice p.la p.lk.length p.lc]) := Bs.new _ _ _
  clear hp hpo hb2 hwk
  unfold tpV
  go_wp2_with fail
  refine Calls.mono (HFN.out _ HB3.out) ?_
  rintro e w4 ⟨rfl, hb4⟩
  have HB4 : Hid (Below w1.heap.size w1 w4) := HB3.out.trans (hb4.mono HB3.out.size)
  have HP4 : Hid (OwnTp w4 w1.heap.size p) := HP3.out.below hb4
  have HX4 : Hid (Bs 29 w4 w2.heap.size #[.string p.name, .int .i64 p.now, .slice p.ha p.hs.length p.hc, .slice p.sa p.seen.length p.sc, .slice p.la p.lk.length p.lc]) := HX3.out.below hb4
  have x0 := HX4.out.cell 0 rfl
  have x1 := HX4.out.cell 1 rfl
  have x2 := HX4.out.cell 2 rfl
  have x3 := HX4.out.cell 3 rfl
  have x4 := HX4.out.cell 4 rfl
  clear hb4 HB3 HP3 HX3 HFN
  have HGI : Hid (GoI ([] : List Pg) s S (tmP p)) := by
    show GoI _ _ _ _
    rw [HPE.out]
    exact go_all HWK.out HN.out 400
  have HNM : Hid (p.name = s) := HGI.out.nm
  have hsl : p.seen.length ≤ 60 := HGI.out.ok.sl
  have hll : p.lk.length ≤ 400 := HGI.out.ok.ll
  have hfe : p.hs.length ≤ p.seen.length := by
    have h := (go_n (L := ([] : List Pg)) (S := S) HN.out 400).hl
    rw [← HPE.out] at h
    simpa [tmP] using h
  have hfe2 : (tmP p).hs.length ≤ (tmP p).seen.length := by simpa [tmP] using hfe
  have HTL : Hid (∀ h ∈ p.hs, h.todo.length ≤ 1000) := fun h hh => ((small_of HGI.out.ok hfe2).rules (hmS h) (List.mem_map_of_mem hh)).2.2
  have hnd := none_end (S := S) HN.out (by omega)
  rw [← HPE.out] at hnd
  obtain ⟨h1, h2, h3, h4⟩ := hnd
  have HDN : Hid (decide (∀ h ∈ p.hs, h.todo.length = 0) = true) := decide_eq_true fun h hh => by
    have h5 : h.todo = [] := h1 (hmS h) (List.mem_map_of_mem hh)
    rw [h5]; rfl
  have HLS : Hid (∀ x ∈ (lsF p.lk).out, x ∈ S) := h2
  have HSN : Hid (∀ x ∈ p.seen, x ∈ (lsF p.lk).out) := h3
  have HLN : Hid (p.lk.length = p.seen.length + p.hs.length) := by
    show _ = _
    have h5 : p.lk.length = p.seen.length + (p.hs.map hmS).length := h4
    rw [List.length_map] at h5
    exact h5
  have HOL : Hid ((lsF p.lk).out.length ≤ 400) := by
    have := ls_le p.lk p.lk.length (Nat.le_refl _)
    rw [List.take_length] at this
    exact Nat.le_trans this hll
  clear h1 h2 h3 h4 hfe2
  have hh1 : p.hs.length ≤ 1000 := by omega
  have HLD : Hid (Calls Tryz.prog 25 #[tpV p] w4 fun e w' => ∃ v, e = .returned v ∧ Owns w' w4.heap.size v (lsF p.lk).out ∧ Below w4.heap.size w4 w') := tripLooked_any p w4 ((HM.out.below HB1.out).below HB4.out) HP4.out.at HGI.out.ok hh1 HTL.out
  unfold tpV at HLD
  have HDD : Hid (∀ W, Below w4.heap.size w4 W → Calls Tryz.prog 20 #[tpV p] W fun e w' => e = .returned (.bool (decide (∀ h ∈ p.hs, h.todo.length = 0))) ∧ Below W.heap.size W w') := fun W hW => tripDone_any p W (((HM.out.below HB1.out).below HB4.out).below hW) (HP4.out.below hW).at HGI.out.ok hh1 HTL.out
  rw [HDN.out] at HDD
  unfold tpV at HDD
  clear hh1 HDN HTL HGI HM HE
  go_wp2_with fail
  refine Calls.mono HLD.out ?_
  rintro e w5 ⟨v, rfl, hO5, hb5⟩
  have HB45 : Hid (Below w4.heap.size w4 w5) := hb5
  obtain ⟨a5, c5, hv, hS5⟩ := hO5.strs
  subst hv
  have HS5 : Hid (IsStrs w5 a5 c5 (lsF p.lk).out) := hS5
  have HB5 : Hid (Below w1.heap.size w1 w5) := HB4.out.trans (hb5.mono HB4.out.size)
  have HP5 : Hid (OwnTp w5 w1.heap.size p) := HP4.out.below hb5
  have HX5 : Hid (Bs 29 w5 w2.heap.size #[.string p.name, .int .i64 p.now, .slice p.ha p.hs.length p.hc, .slice p.sa p.seen.length p.sc, .slice p.la p.lk.length p.lc]) := HX4.out.below hb5
  clear x0 x1 x2 x3 x4 hO5 hS5 hb5 HB4 HP4 HX4
  have x0 := HX5.out.cell 0 rfl
  have x1 := HX5.out.cell 1 rfl
  have x2 := HX5.out.cell 2 rfl
  have x3 := HX5.out.cell 3 rfl
  have x4 := HX5.out.cell 4 rfl
  go_wp2_with fail
  refine Calls.mono (HDD.out _ HB45.out) ?_
  rintro e w6 ⟨rfl, hb6⟩
  have HS6 : Hid (IsStrs w6 a5 c5 (lsF p.lk).out) := HS5.out.below hb6
  have HB6 : Hid (Below w1.heap.size w1 w6) := HB5.out.trans (hb6.mono HB5.out.size)
  have HP6 : Hid (OwnTp w6 w1.heap.size p) := HP5.out.below hb6
  have HX6 : Hid (Bs 29 w6 w2.heap.size #[.string p.name, .int .i64 p.now, .slice p.ha p.hs.length p.hc, .slice p.sa p.seen.length p.sc, .slice p.la p.lk.length p.lc]) := HX5.out.below hb6
  clear x0 x1 x2 x3 x4 hb6 HB5 HP5 HX5 HS5
  have x0 := HX6.out.cell 0 rfl
  have x1 := HX6.out.cell 1 rfl
  have x2 := HX6.out.cell 2 rfl
  have x3 := HX6.out.cell 3 rfl
  have x4 := HX6.out.cell 4 rfl
  go_wp2_with fail
  refine (within_any a5 c5 (lsF p.lk).out a2 c2 S w6 HS6.out (HST1.out.below HB6.out) (Nat.le_trans HOL.out (by decide)) (by omega) HLS.out).mono ?_
  rintro e w7 ⟨rfl, e7⟩
  subst e7
  go_wp2_with fail
  refine (within_any p.sa p.sc p.seen a5 c5 (lsF p.lk).out _ HP6.out.at.2.2.1 HS6.out (by omega) (Nat.le_trans HOL.out (by decide)) HSN.out).mono ?_
  rintro e w8 ⟨rfl, e8⟩
  subst e8
  have hln : (p.lk.length : Int) = (p.seen.length : Int) + p.hs.length := by have := HLN.out; omega
  go_wp2
  go_ret
  exact ⟨rfl, HB1.out.trans (HB6.out.mono HB1.out.size)⟩
end Go.Proofs.YtiennniclkbjlaaGreatDoor.fnGoNone
