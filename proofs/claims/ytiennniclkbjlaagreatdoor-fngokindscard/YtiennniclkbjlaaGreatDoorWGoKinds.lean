/- FnGoKinds: the walk. -/
import Derived.Test.YtiennniclkbjlaaGreatDoorRows
import Derived.WalkKit
import Derived.ProofKit
import Derived.OpenShut
import Derived.ShutString
import Derived.ChangeOld
import Derived.Below
import Derived.Test.YtiennniclkbjlaaGreatDoorCards
import Derived.Test.YtiennniclkbjlaaGreatDoorReStPk
import Derived.Test.YtiennniclkbjlaaGreatDoorEscLeafPk
import Derived.Test.YtiennniclkbjlaaGreatDoorTn22
import Derived.Test.YtiennniclkbjlaaGreatDoorTn14Pk
import Derived.Test.YtiennniclkbjlaaGreatDoorTrOncePk
import Derived.Deep.RegionHeldLaw
import Derived.Shelf.Vars
import Derived.Lay
import Derived.LaidOnce
import Derived.LaidSub
import Derived.Stop.LaidTwo
import Derived.SevenTiedAt
namespace Go.Proofs.YtiennniclkbjlaaGreatDoor.fnGoKinds
open Go.ChangeShapes Go.WideShapes Go.ChangeAt Go.RowKit
open Go.ChangeMaps (open_string shut_string)
set_option linter.unusedVariables false
open Go.Proofs.YtiennniclkbjlaaGreatDoor.Im Go.Proofs.YtiennniclkbjlaaGreatDoor.Bk Go.Proofs.YtiennniclkbjlaaGreatDoor.AddrM Go.Proofs.YtiennniclkbjlaaGreatDoor.Ad1 Go.Proofs.YtiennniclkbjlaaGreatDoor.Rd1 Go.Proofs.YtiennniclkbjlaaGreatDoor.RdA Go.Proofs.YtiennniclkbjlaaGreatDoor.MkA Go.Proofs.YtiennniclkbjlaaGreatDoor.Mp Go.Proofs.YtiennniclkbjlaaGreatDoor.EscL Go.Proofs.YtiennniclkbjlaaGreatDoor.EscM Go.Proofs.YtiennniclkbjlaaGreatDoor.ReadM Go.Proofs.YtiennniclkbjlaaGreatDoor.RuleM Go.Proofs.YtiennniclkbjlaaGreatDoor.St Go.Proofs.YtiennniclkbjlaaGreatDoor.RR Go.Proofs.YtiennniclkbjlaaGreatDoor.RoPg Go.Proofs.YtiennniclkbjlaaGreatDoor.RoIt Go.Proofs.YtiennniclkbjlaaGreatDoor.RoLk Go.Proofs.YtiennniclkbjlaaGreatDoor.RoQ Go.Proofs.YtiennniclkbjlaaGreatDoor.LetM Go.Proofs.YtiennniclkbjlaaGreatDoor.Nm Go.Proofs.YtiennniclkbjlaaGreatDoor.GrM Go.Proofs.YtiennniclkbjlaaGreatDoor.WdM Go.Proofs.YtiennniclkbjlaaGreatDoor.Wd Go.Proofs.YtiennniclkbjlaaGreatDoor.WdN Go.Proofs.YtiennniclkbjlaaGreatDoor.PgM Go.Proofs.YtiennniclkbjlaaGreatDoor.PgA Go.Proofs.YtiennniclkbjlaaGreatDoor.ReM Go.Proofs.YtiennniclkbjlaaGreatDoor.TpM Go.Proofs.YtiennniclkbjlaaGreatDoor.TrM Go.Proofs.YtiennniclkbjlaaGreatDoor.TrW Go.Proofs.YtiennniclkbjlaaGreatDoor.Tq Go.Proofs.YtiennniclkbjlaaGreatDoor.Tn

theorem mx_of {w : World} (h : w.ShapedOpen Tryz.prog) : Im.Mx w :=
  cell_of_shapedOpen_int (g := 2) (t := 3) (zero := #[.int .i64 0]) (k := .i64) h (of_decide_eq_true (by kernel_rfl)) (by kernel_rfl) rfl (by kernel_rfl) (by kernel_rfl) Tryz.underlying3
set_option maxRecDepth 100000 in
set_option maxHeartbeats 6400000 in
theorem walk (a0 : Option Addr) (len0 cap0 : Nat) (z0 : List Int) (ea eb : Addr) (w : World) (w0 : Dr.IsRow .u8 w a0 len0 cap0 z0) (hM : Im.Mx w) (hE : Errs w ea eb) :
    Calls Tryz.prog 6 #[.slice a0 len0 cap0] w fun e w' => e = .returned (.bool true) ∧ Below w.heap.size w w' := by
  have HM : Hid (Im.Mx w) := hM
  have HE : Hid (Errs w ea eb) := hE
  clear hM hE
  by_cases hlong : (1048576 : Int) < len0
  · go_enter Tryz.func6, Tryz.ntmps6
    go_wp2
    go_ret
    exact ⟨rfl, Below.refl _ _⟩
  go_enter Tryz.func6, Tryz.ntmps6
  go_wp2_with fail
  refine (Dr.drawReach_any a0 len0 cap0 z0 w w0).mono ?_
  rintro e w1 ⟨L, a1, cc, s, S, a2, c2, rfl, hI, hl, hL, hs, hSt, hSl, hSz, hb1⟩
  have HI1 : Hid (IsRows FPg w1 a1 cc L) := hI
  have HL : Hid (PgSz L) := bd_sz hL
  have HR : Hid (PgRd L) := bd_rd hL
  have HTX : Hid (∀ p ∈ L, p.text.size ≤ 1000000) := fun p hp => by obtain ⟨_, h2, _⟩ := hL p hp; omega
  have HST1 : Hid (IsStrs w1 a2 c2 S) := hSt
  have HSZ : Hid (∀ x ∈ S, x.size ≤ 100) := hSz
  have HSX : Hid (∀ x ∈ S, x.size ≤ 4194304 ∧ ascii x) := fun x hx => ⟨by have := hSz x hx; omega, trivial⟩
  have HN : Hid (nameB s = true) := hs
  have hsz := nameB_size hs
  have HB1 : Hid (Below w.heap.size w w1) := hb1
  clear hI hL hSt hSz hs hb1 w0
  have HG : Hid (Calls Tryz.prog 23 #[.slice a1 L.length cc, .string s, .slice a2 S.length c2, .int .i64 400] w1 fun e w' => GoneIs L s S 400 w1 e w') := lpGone_any a1 cc L s a2 c2 S 400 ea eb w1 (HM.out.below HB1.out) (HE.out.below HB1.out) HI1.out HL.out (all_asc L) (all_tx L) HTX.out HST1.out HN.out (by omega) HSX.out (Nat.le_refl _)
  have HFN : Hid (∀ W, Below w1.heap.size w1 W → Calls Tryz.prog 18 #[.slice a1 L.length cc, .string s, .slice a2 S.length c2] W fun e w' => e = .returned (.bool (wOk L)) ∧ Below W.heap.size W w') := fun W hW => by
    have h := Ts.lpFine_any a1 cc L s a2 c2 S W (HI1.out.below hW) HL.out (HST1.out.below hW) (by omega) (by omega) (fun x hx => (HSX.out x hx).1)
    rw [HN.out, decide_eq_true (show S.length ≤ 12 by omega), Bool.and_self, Bool.true_and] at h
    exact h
  clear HTX HSX
  go_wp2_with fail
  refine Calls.mono HG.out ?_
  intro e w2 hg
  unfold GoneIs at hg
  clear HG
  cases hwk : wOk L with
  | false =>
    rw [hwk] at HFN hg
    rw [if_neg (by simp)] at hg
    obtain ⟨rfl, hb2⟩ := hg
    have HB2 : Hid (Below w1.heap.size w1 w2) := hb2
    clear hb2 HM HE HI1 HL HR HST1 HSZ HN hwk
    unfold tpV tpZ
    go_wp2_with fail
    refine Calls.mono (HFN.out _ (HB2.out.alloc HB2.out.size _)) ?_
    rintro e w3 ⟨rfl, hb3⟩
    have HB3 : Hid (Below w1.heap.size w1 w3) := (HB2.out.alloc HB2.out.size _).trans (hb3.mono (HB2.out.alloc HB2.out.size _).size)
    clear hb3
    go_wp2_with fail
    refine Calls.mono (HFN.out _ HB3.out) ?_
    rintro e w4 ⟨rfl, hb4⟩
    have HB4 : Hid (Below w1.heap.size w1 w4) := HB3.out.trans (hb4.mono HB3.out.size)
    clear hb4
    go_wp2
    go_ret
    exact ⟨rfl, HB1.out.trans (HB4.out.mono HB1.out.size)⟩
  | true =>
  have HWK : Hid (wOk L = true) := hwk
  rw [hwk] at HFN
  rw [hwk, if_pos rfl] at hg
  obtain ⟨p, rfl, hp, hpo, hb2⟩ := hg
  have HPE : Hid (tmP p = TrM.runT L 400 (newT s S)) := hp
  have HB3 : Hid (Below w1.heap.size w1 (w2.alloc (.cells #[.string p.name, .int .i64 p.now, .slice p.ha p.hs.length p.hc, .slice p.sa p.seen.length p.sc, .slice p.la p.lk.length p.lc] 29))) := hb2.alloc hb2.size _
  have HP3 : Hid (OwnTp (w2.alloc (.cells #[.string p.name, .int .i64 p.now, .slice p.ha p.hs.length p.hc, .slice p.sa p.seen.length p.sc, .slice p.la p.lk.length p.lc] 29)) w1.heap.size p) := hpo.below ((Below.refl _ w2).alloc (Nat.le_refl _) _)
  have HX3 : Hid (Bs 29 (w2.alloc (.cells #[.string p.name, .int .i64 p.now, .slice p.ha p.hs.length p.hc, .slice p.sa p.seen.length p.sc, .slice p.la p.lk.length p.lc] 29)) w2.heap.size #[.string p.name, .int .i64 p.now, .slice p.ha p.hs.length p.hc, .slice p.sa p.seen.length p.sc, .slice p.la p.lk.length p.lc]) := Bs.new _ _ _
  clear hp hpo hb2 hwk
  unfold tpV
  go_wp2_with fail
  refine Calls.mono (HFN.out _ HB3.out) ?_
  rintro e w4 ⟨rfl, hb4⟩
  have HB4 : Hid (Below w1.heap.size w1 w4) := HB3.out.trans (hb4.mono HB3.out.size)
  have HP4 : Hid (OwnTp w4 w1.heap.size p) := HP3.out.below hb4
  have HX4 : Hid (Bs 29 w4 w2.heap.size #[.string p.name, .int .i64 p.now, .slice p.ha p.hs.length p.hc, .slice p.sa p.seen.length p.sc, .slice p.la p.lk.length p.lc]) := HX3.out.below hb4
  have x0 := HX4.out.cell 0 rfl
  have x1 := HX4.out.cell 1 rfl
  have x2 := HX4.out.cell 2 rfl
  have x3 := HX4.out.cell 3 rfl
  have x4 := HX4.out.cell 4 rfl
  clear hb4 HB3 HP3 HX3 HFN
  have HGI : Hid (GoI L s S (tmP p)) := by
    show GoI _ _ _ _
    rw [HPE.out]
    exact go_all HWK.out HN.out 400
  have hnm : p.name = s := HGI.out.nm
  have hsl : p.seen.length ≤ 60 := HGI.out.ok.sl
  have hll : p.lk.length ≤ 400 := HGI.out.ok.ll
  have hfe : p.hs.length ≤ p.seen.length := by
    have h := (go_n (L := L) (S := S) HN.out 400).hl
    rw [← HPE.out] at h
    simpa [tmP] using h
  have HKA : Hid (∀ x ∈ p.lk, ¬ x.kind = 3 → x.kind = (getF L x.addr 9).1) := fun x hx hk => by
    have h := kinds_are HWK.out HGI.out (x := x) hx hk
    rw [h]
    unfold getF
    rw [HWK.out]
    rfl
  have HLR : Hid (IsRows FLk w4 p.la p.lc p.lk) := HP4.out.at.2.2.2
  have HLZ : Hid (∀ x ∈ p.lk, x.addr.size ≤ 4194304) := fun x hx => by
    obtain ⟨_, _, ⟨A, hA⟩, _⟩ := HGI.out.ok.lt x hx
    exact Nat.le_trans (norm_size hA) (by decide)
  clear HPE HP4 hnm hfe hsl HGI
  go_wp2
  go_loopw [8] (fun i wr => ∃ k : Nat, k ≤ p.lk.length ∧ i = .int .i64 (k : Int) ∧ Hid (Below w4.heap.size w4 wr)) (fun i _ => p.lk.length - (intOf i).toNat)
  case atStart => exact ⟨0, Nat.zero_le _, rfl, Below.refl _ _⟩
  case round =>
    obtain ⟨k, hk, rfl, HW⟩ := hrel
    have HBW : Hid (Below w1.heap.size w1 wr) := HB4.out.trans (HW.out.mono HB4.out.size)
    have y4 := (HX4.out.below HW.out).cell 4 rfl
    clear x0 x1 x2 x3 x4
    by_cases hlt : k < p.lk.length
    · obtain ⟨b1, o1, e1, c0, c1, c2⟩ := lk_at (HLR.out.below HW.out) hlt
      have HK : Hid (¬ p.lk[k].kind = 3 → p.lk[k].kind = (getF L p.lk[k].addr 9).1) := HKA.out _ (List.getElem_mem hlt)
      have hsz := HLZ.out _ (List.getElem_mem hlt)
      have e1' := e1
      generalize p.lk[k] = l at *
      go_wp2_with fail
      have HIW : Hid (IsRows FPg wr a1 cc L) := HI1.out.below HBW.out
      refine (implGet_any a1 cc L l.addr 9 _ ((HM.out.below HB1.out).below HBW.out) HIW.out HL.out (all_asc L)).mono ?_
      rintro e w5 ⟨rfl, hb5⟩
      have HW5 : Hid (Below w4.heap.size w4 w5) := HW.out.trans (hb5.mono HW.out.size)
      have z4 := (hb5.cell (St.cell_block y4)).trans y4
      have d2 := (hb5.cell (St.cell_block c2)).trans c2
      clear hb5 y4 c0 c1 c2 HIW HBW HW
      generalize getF L l.addr 9 = K at *
      obtain ⟨kd, tx⟩ := K
      dsimp only at HK ⊢
      by_cases h3 : l.kind = 3
      · have q3 : (l.kind != 3) = false := by simpa using h3
        clear h3 HK
        go_wp2
        go_roundw
        case rel => exact ⟨k + 1, by omega, by go_num, HW5⟩
        case measure => simp [intOf]; omega
      · have q3 : (l.kind != 3) = true := by simpa using h3
        have q4 : (l.kind != kd) = false := by simpa using HK.out h3
        clear h3 HK
        go_wp2
        go_roundw
        case rel => exact ⟨k + 1, by omega, by go_num, HW5⟩
        case measure => simp [intOf]; omega
    · go_wp2
      go_ret
      exact ⟨rfl, HB1.out.trans (HBW.out.mono HB1.out.size)⟩
end Go.Proofs.YtiennniclkbjlaaGreatDoor.fnGoKinds
