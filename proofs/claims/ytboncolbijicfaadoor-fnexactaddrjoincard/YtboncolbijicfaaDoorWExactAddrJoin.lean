/- FnExactAddrJoin: the walk. -/
import Derived.Test.YtboncolbijicfaaDoorRows
import Derived.WalkKit
import Derived.ProofKit
import Derived.OpenShut
import Derived.ShutString
import Derived.ChangeOld
import Derived.Below
import Derived.Test.YtboncolbijicfaaDoorCards
import Derived.Test.YtboncolbijicfaaDoorReadAny
import Derived.Test.YtboncolbijicfaaDoorMarkA
import Derived.Test.YtboncolbijicfaaDoorAddr6
import Derived.SliceStrings
import Derived.Lib.SmallJoins
import Derived.Shelf.Vars
import Derived.Lay
import Derived.LaidOnce
import Derived.SevenTiedAt
namespace Go.Proofs.YtboncolbijicfaaDoor.fnExactAddrJoin
open Go.ChangeShapes Go.WideShapes Go.ChangeAt Go.RowKit
open Go.ChangeMaps (open_string shut_string)
set_option linter.unusedVariables false
open Go.Proofs.YtboncolbijicfaaDoor.EscL Go.Proofs.YtboncolbijicfaaDoor.EscM Go.Proofs.YtboncolbijicfaaDoor.ReadM Go.Proofs.YtboncolbijicfaaDoor.St Go.Proofs.YtboncolbijicfaaDoor.AddrM Go.Proofs.YtboncolbijicfaaDoor.Ad1 Go.Proofs.YtboncolbijicfaaDoor.Rd1 Go.Proofs.YtboncolbijicfaaDoor.RdA Go.Proofs.YtboncolbijicfaaDoor.MkA Go.Proofs.YtboncolbijicfaaDoor.JnM

theorem mx_of {w : World} (h : w.ShapedOpen Tryd.prog) : Im.Mx w :=
  cell_of_shapedOpen_int (g := 0) (t := 3) (zero := #[.int .i64 0]) (k := .i64) h (of_decide_eq_true (by kernel_rfl)) (by kernel_rfl) rfl (by kernel_rfl) (by kernel_rfl) Tryd.underlying3

def boxA (A : Ad) (a : Option Addr) (c : Nat) : Array Value := #[.string A.house, .slice a A.parts.length c, .bool A.asks, .string A.ask]
theorem box4 {w : World} {G : Nat} {A : Ad} {a : Option Addr} {c : Nat} (h : Bs 34 w G (boxA A a c)) : w.cell? ⟨G, 0, none⟩ = some (.string A.house) ∧ w.cell? ⟨G, 1, none⟩ = some (.slice a A.parts.length c) ∧ w.cell? ⟨G, 2, none⟩ = some (.bool A.asks) ∧ w.cell? ⟨G, 3, none⟩ = some (.string A.ask) :=
  ⟨h.cell 0 rfl, h.cell 1 rfl, h.cell 2 rfl, h.cell 3 rfl⟩
theorem join_parts {A : Ad} {R : Option Ad} {B : Ad} {ok : Bool} {l : List UInt8} (e : R = joinF A l) (h : (ok = true ∧ R = some B) ∨ (ok = false ∧ R = none ∧ B = zeroAd)) : B.parts.length ≤ 1000 := by
  rw [e] at h
  rcases h with ⟨_, h⟩ | ⟨_, _, rfl⟩
  · have := OB.ok_bulk (join_ok h)
    unfold bulkA at this; omega
  · decide

set_option maxRecDepth 100000 in
set_option maxHeartbeats 3200000 in
theorem walk (A : Ad) (a0 : Option Addr) (cap : Nat) (ref : ByteArray) (w : World) (hS : IsStrs w a0 cap A.parts) (h1 : A.house.size ≤ maxLen) (h2 : ∀ s ∈ A.parts, s.size ≤ maxLen) (h3 : A.ask.size ≤ maxLen) (w0 : ref.size ≤ maxLen) (hL : laidMetH Tryd.prog Rows.fnExactAddrJoinRow.laid w) (hsh : w.ShapedOpen Tryd.prog) :
    Calls Tryd.prog 6 #[.agg #[.string A.house, .slice a0 A.parts.length cap, .bool A.asks, .string A.ask], .string ref] w fun e w' => e = .returned (.bool true) ∧ Below w.heap.size w w' := by
  have HM : Hid (Im.Mx w) := mx_of hsh
  have HS : Hid (IsStrs w a0 cap A.parts) := hS
  have H2 : Hid (∀ s ∈ A.parts, s.size ≤ maxLen) := h2
  clear hsh hL hS h2
  unfold maxLen at w0
  by_cases hlong : 1048576 < ref.size
  · go_enter Tryd.func6, Tryd.ntmps6
    go_wp2
    go_ret
    exact ⟨rfl, (Below.refl _ _).alloc (Nat.le_refl _) _⟩
  go_enter Tryd.func6, Tryd.ntmps6
  go_wp2_with fail
  refine (szAddr_any A a0 cap _ (HS.out.keep (alloc_keep _ _)) h1 H2.out h3).mono ?_
  rintro e w1 ⟨⟨x, rfl, hx⟩, hb1⟩
  have hb : Below (w.heap.size + 1) (w.alloc (.cells #[.string A.house, .slice a0 A.parts.length cap, .bool A.asks, .string A.ask] 40)) w1 := by simpa using hb1
  clear hb1 H2 h1 h3
  rcases hx with hx | ⟨hx0, hbk⟩
  · go_wp2
    go_ret
    exact ⟨rfl, box_below hb⟩
  have hB : bulkA A ≤ 4194304 := by omega
  have hl : A.parts.length ≤ 4194304 := by unfold bulkA at hB; omega
  have HPL : Hid (∀ B ok, (ok = true ∧ joinF A ref.data.toList = some B) ∨ (ok = false ∧ joinF A ref.data.toList = none ∧ B = zeroAd) → B.parts.length ≤ 1000) := fun B ok h => join_parts rfl h
  have HSP : Hid _ := fun c0 cp W hS => specJoin_all A ref c0 cp W hS hB (by omega)
  have HIM : Hid _ := fun c0 cp W hM hS => implJoin_all A ref c0 cp W hM hS hB (by omega) trivial
  have HTO : Hid _ := fun W hS => toAddr_any A a0 cap W hS hB
  generalize joinF A ref.data.toList = R at *
  have HK0 : Hid (∀ {W : World}, Below (w.heap.size + 1) (w.alloc (.cells #[.string A.house, .slice a0 A.parts.length cap, .bool A.asks, .string A.ask] 40)) W → w.heap.size + 1 ≤ W.heap.size ∧ Im.Mx W ∧ IsStrs W a0 cap A.parts) := fun {W} h => ⟨by have := h.size; simpa using this, HM.out.below (box_below h), box_strs HS.out h⟩
  have HA1 : Hid _ := hb
  obtain ⟨c0, c1, c2, c3⟩ := box_cells hb
  clear hb hbk
  -- the model's
  go_wp2_with fail
  refine (HTO.out _ (HK0.out HA1.out).2.2).mono ?_
  rintro e w2 ⟨g2, rfl, hO2, hb2⟩
  have HA2 : Hid _ := box_next HA1.out hb2
  have HO2 : Hid _ := hO2.strsOf
  clear hO2 hb2 c0 c1 c2 c3 HA1
  go_wp2_with fail
  refine (HSP.out _ _ _ HO2.out).mono ?_
  rintro e w3 ⟨B, ok, b1, d1, rfl, hans, hO3, hb3⟩
  have hpl := HPL.out B ok hans
  have HANS : Hid _ := hans
  have HO3 : Hid (IsStrs w3 b1 d1 B.parts) := hO3.strsOf
  have HA3 : Hid _ := box_next HA2.out hb3
  clear hans hO3 hb3 HA2 HO2
  have hA3 := (HK0.out HA3.out).1
  -- from here on: what lies below w3, and w0's block
  have HK3 : Hid (∀ {W : World}, Below (w3.heap.size + 1) (w3.alloc (.cells (boxA B b1 d1) 34)) W → w3.heap.size + 1 ≤ W.heap.size ∧ Bs 34 W w3.heap.size (boxA B b1 d1) ∧ IsStrs W b1 d1 B.parts ∧ Below (w.heap.size + 1) (w.alloc (.cells #[.string A.house, .slice a0 A.parts.length cap, .bool A.asks, .string A.ask] 40)) W) := fun {W} h => by
    have hs := h.size
    simp at hs
    refine ⟨hs, (Bs.new 34 w3 (boxA B b1 d1)).keep (fun k hk => h.block k (by simpa using hk)), (HO3.out.keep (alloc_keep _ _)).keep (fun k hk => h.block k (by simpa using hk)), ?_⟩
    exact (HA3.out.alloc hA3 _).trans (h.mono (by omega))
  have HE3 : Hid (Below (w3.heap.size + 1) (w3.alloc (.cells (boxA B b1 d1) 34)) (w3.alloc (.cells (boxA B b1 d1) 34))) := by show Below _ _ _; exact Below.refl _ _
  obtain ⟨c0, c1, c2, c3⟩ := box_cells (HK3.out HE3.out).2.2.2
  unfold boxA at c0 c1 c2 c3
  -- x0
  go_wp2_with fail
  refine (HTO.out _ (HK0.out (HK3.out HE3.out).2.2.2).2.2).mono ?_
  rintro e w4 ⟨g4, rfl, hO4, hb4⟩
  have HE4 : Hid (Below (w3.heap.size + 1) (w3.alloc (.cells (boxA B b1 d1) 34)) w4) := hb4.mono (by simp)
  have HO4 : Hid (Owns w4 (w3.heap.size + 1) (.slice (some ⟨g4, 0, none⟩) A.parts.length A.parts.length) A.parts) := by show Owns _ _ _ _; simpa using hO4
  clear hO4 hb4 c0 c1 c2 c3 HE3
  have hz4 := (HK3.out HE4.out).1
  have hg4 : w3.heap.size + 1 ≤ g4 := owns_ge HO4.out g4 rfl
  have hg4' : g4 < w4.heap.size := owns_lt HO4.out g4 rfl
  have HE5 : Hid (Below (w3.heap.size + 1) (w3.alloc (.cells (boxA B b1 d1) 34)) (w4.alloc (.cells (boxA A (some ⟨g4, 0, none⟩) A.parts.length) 34))) := HE4.out.alloc hz4 _
  have HX5 : Hid (Bs 34 (w4.alloc (.cells (boxA A (some ⟨g4, 0, none⟩) A.parts.length) 34)) w4.heap.size (boxA A (some ⟨g4, 0, none⟩) A.parts.length)) := Bs.new _ _ _
  have HO5 : Hid (Owns (w4.alloc (.cells (boxA A (some ⟨g4, 0, none⟩) A.parts.length) 34)) (w3.heap.size + 1) (.slice (some ⟨g4, 0, none⟩) A.parts.length A.parts.length) A.parts) := HO4.out.keep (alloc_keep _ _)
  clear HE4 HO4
  obtain ⟨x0, x1, x2, x3⟩ := box4 HX5.out
  unfold boxA at x0 x1 x2 x3
  go_wp2_with fail
  refine (HIM.out _ _ _ (HK0.out (HK3.out HE5.out).2.2.2).2.1 HO5.out.strsOf).mono ?_
  rintro e w5 ⟨B', ok', b2, d2, rfl, hans, hO6, hb6⟩
  obtain ⟨rfl, rfl⟩ := ans_same HANS.out hans
  have HE6 : Hid (Below (w3.heap.size + 1) (w3.alloc (.cells (boxA B' b1 d1) 34)) w5) := HE5.out.trans (hb6.mono (by simp; omega))
  have HX6 : Hid (Bs 34 w5 w4.heap.size (boxA A (some ⟨g4, 0, none⟩) A.parts.length)) := HX5.out.below (by simpa [boxA] using hb6)
  have HP6 : Hid (Owns w5 (w3.heap.size + 1) (.slice (some ⟨g4, 0, none⟩) A.parts.length A.parts.length) A.parts) := HO5.out.below hb6
  have HO6 : Hid (Owns w5 (w4.heap.size + 1) (.slice b2 B'.parts.length d2) B'.parts) := by show Owns _ _ _ _; simpa using hO6
  have hz6 : w4.heap.size + 1 ≤ w5.heap.size := by have := hb6.size; simpa using this
  clear hans hO6 hb6 x0 x1 x2 x3 HE5 HX5 HO5
  have HLT : Hid (∀ g, (Value.slice b2 B'.parts.length d2).ownBlock = some g → g < w5.heap.size) := fun g hg => owns_lt HO6.out g hg
  have HGE : Hid (∀ g, (Value.slice b2 B'.parts.length d2).ownBlock = some g → w4.heap.size + 1 ≤ g) := fun g hg => owns_ge HO6.out g hg
  have HE7 : Hid (Below (w3.heap.size + 1) (w3.alloc (.cells (boxA B' b1 d1) 34)) (w5.alloc (.cells (boxA B' b2 d2) 34))) := HE6.out.alloc (by omega) _
  have HX7 : Hid (Bs 34 (w5.alloc (.cells (boxA B' b2 d2) 34)) w4.heap.size (boxA A (some ⟨g4, 0, none⟩) A.parts.length)) := HX6.out.alloc _
  have HY7 : Hid (Bs 34 (w5.alloc (.cells (boxA B' b2 d2) 34)) w5.heap.size (boxA B' b2 d2)) := Bs.new _ _ _
  have HP7 : Hid (Owns (w5.alloc (.cells (boxA B' b2 d2) 34)) (w3.heap.size + 1) (.slice (some ⟨g4, 0, none⟩) A.parts.length A.parts.length) A.parts) := HP6.out.keep (alloc_keep _ _)
  have HO7 : Hid (Owns (w5.alloc (.cells (boxA B' b2 d2) 34)) (w4.heap.size + 1) (.slice b2 B'.parts.length d2) B'.parts) := HO6.out.keep (alloc_keep _ _)
  clear HE6 HX6 HP6 HO6
  obtain ⟨y0, y1, y2, y3⟩ := box4 HY7.out
  obtain ⟨z0, z1, z2, z3⟩ := box4 (HK3.out HE7.out).2.1
  unfold boxA at y0 y1 y2 y3 z0 z1 z2 z3
  go_wp2_with fail
  refine (eqAddr_same B' b2 d2 b1 d1 _ HO7.out.strsOf (HK3.out HE7.out).2.2.1 (by omega)).mono ?_
  rintro e w6 ⟨rfl, hb8⟩
  have HE8 : Hid (Below (w3.heap.size + 1) (w3.alloc (.cells (boxA B' b1 d1) 34)) w6) := HE7.out.trans (hb8.mono (HK3.out HE7.out).1)
  have HX8 : Hid (Bs 34 w6 w4.heap.size (boxA A (some ⟨g4, 0, none⟩) A.parts.length)) := HX7.out.below (by simpa [boxA] using hb8)
  have HY8 : Hid (Bs 34 w6 w5.heap.size (boxA B' b2 d2)) := HY7.out.below (by simpa [boxA] using hb8)
  have HP8 : Hid (Owns w6 (w3.heap.size + 1) (.slice (some ⟨g4, 0, none⟩) A.parts.length A.parts.length) A.parts) := HP7.out.below hb8
  have HO8 : Hid (Owns w6 (w4.heap.size + 1) (.slice b2 B'.parts.length d2) B'.parts) := HO7.out.below hb8
  clear hb8 y0 y1 y2 y3 z0 z1 z2 z3 HE7 HX7 HY7 HP7 HO7
  have HED : Hid (Below (w3.heap.size + 1) (w3.alloc (.cells (boxA B' b1 d1) 34)) w6.drew) := HE8.out.drew
  have HXD : Hid (Bs 34 w6.drew w4.heap.size (boxA A (some ⟨g4, 0, none⟩) A.parts.length)) := HX8.out
  have HPD : Hid (IsStrs w6.drew (some ⟨g4, 0, none⟩) A.parts.length A.parts) := HP8.out.strsOf
  have HYD : Hid (Bs 34 w6.drew w5.heap.size (boxA B' b2 d2)) := HY8.out
  have HPO : Hid (Owns w6.drew (w3.heap.size + 1) (.slice (some ⟨g4, 0, none⟩) A.parts.length A.parts.length) A.parts) := HP8.out
  have HOO : Hid (Owns w6.drew (w4.heap.size + 1) (.slice b2 B'.parts.length d2) B'.parts) := HO8.out
  clear HE8 HX8 HY8 HP8 HO8
  obtain ⟨x0, x1, x2, x3⟩ := box4 HXD.out
  obtain ⟨c0, c1, c2, c3⟩ := box_cells (HK3.out HED.out).2.2.2
  go_wp2
  go_region_with (first
    | (go_at_call 21; refine (HTO.out _ (HK0.out (HK3.out HED.out).2.2.2).2.2).mono ?_; rintro e w7 ⟨g7, rfl, hO9, hb9⟩; have hS9 : Hid (IsStrs w7 (some ⟨g7, 0, none⟩) A.parts.length A.parts) := hO9.strsOf; have hP9 : Hid (IsStrs w7 (some ⟨g4, 0, none⟩) A.parts.length A.parts) := HPD.out.below hb9; have hX9 := HXD.out.below hb9; obtain ⟨k0, k1, k2, k3⟩ := box4 hX9; have HB9 : Hid (Below w6.drew.heap.size w6.drew w7) := hb9; clear hO9 hb9 hX9)
    | (go_at_call 16; refine (eqAddr_same A _ _ _ _ _ hP9.out hS9.out hl).mono ?_; rintro e w8 ⟨rfl, hb10⟩)
    | fail)
  all_goals
    have HBW : Hid (Below w6.drew.heap.size w6.drew w8) := HB9.out.trans (hb10.mono HB9.out.size)
    clear hb10 HB9 k0 k1 k2 k3 x0 x1 x2 x3 c0 c1 c2 c3
    have HE1 : Hid (Below (w3.heap.size + 1) (w3.alloc (.cells (boxA B' b1 d1) 34)) w8) := HED.out.trans (HBW.out.mono (HK3.out HED.out).1)
    have HX1 : Hid (Bs 34 w8 w4.heap.size (boxA A (some ⟨g4, 0, none⟩) A.parts.length)) := HXD.out.below HBW.out
    have HY1 : Hid (Bs 34 w8 w5.heap.size (boxA B' b2 d2)) := HYD.out.below HBW.out
    have HP1 : Hid (Owns w8 (w3.heap.size + 1) (.slice (some ⟨g4, 0, none⟩) A.parts.length A.parts.length) A.parts) := HPO.out.below HBW.out
    have HO1 : Hid (Owns w8 (w4.heap.size + 1) (.slice b2 B'.parts.length d2) B'.parts) := HOO.out.below HBW.out
    clear HBW HED HXD HYD HPO HOO HPD
    obtain ⟨x0, x1, x2, x3⟩ := box4 HX1.out
    go_wp2_with fail
    refine (markAddr_any A (w3.heap.size + 1) A.parts.length (some ⟨g4, 0, none⟩) 1 w8 HP1.out hl (by decide) (by decide)).mono ?_
    rintro e w9 ⟨rfl, _, hgm⟩
    have hgm' : w8.grownBy w9 (some g4) := hgm
    have HE2 : Hid (Below (w3.heap.size + 1) (w3.alloc (.cells (boxA B' b1 d1) 34)) w9) := HE1.out.trans (grown_low _ hgm' (HK3.out HE1.out).1 (fun k e => by cases e; exact hg4))
    have HY2 : Hid (Bs 34 w9 w5.heap.size (boxA B' b2 d2)) := HY1.out.grown hgm' (fun e => by injection e with e; omega)
    have HO2 : Hid (Owns w9 (w4.heap.size + 1) (.slice b2 B'.parts.length d2) B'.parts) := Owns.keptR HO1.out hgm' (by omega)
    clear hgm hgm' HE1 HX1 HY1 HP1 HO1 x0 x1 x2 x3
    have hqA : ((1 + A.parts.length : Nat) : Int) = 1 + (A.parts.length : Int) := by omega
    have hqB : ((1 + B'.parts.length : Nat) : Int) = 1 + (B'.parts.length : Int) := by omega
    rw [hqA]
    obtain ⟨y0, y1, y2, y3⟩ := box4 HY2.out
    obtain ⟨z0, z1, z2, z3⟩ := box4 (HK3.out HE2.out).2.1
    go_wp2_with fail
    refine (eqAddr_same B' b2 d2 b1 d1 _ HO2.out.strsOf (HK3.out HE2.out).2.2.1 (by omega)).mono ?_
    rintro e w10 ⟨rfl, hb11⟩
    have HE3 : Hid (Below (w3.heap.size + 1) (w3.alloc (.cells (boxA B' b1 d1) 34)) w10) := HE2.out.trans (hb11.mono (HK3.out HE2.out).1)
    have HY3 : Hid (Bs 34 w10 w5.heap.size (boxA B' b2 d2)) := HY2.out.below hb11
    have HO3 : Hid (Owns w10 (w4.heap.size + 1) (.slice b2 B'.parts.length d2) B'.parts) := HO2.out.below hb11
    clear hb11 y0 y1 y2 y3 z0 z1 z2 z3 HE2 HY2 HO2
    obtain ⟨y0, y1, y2, y3⟩ := box4 HY3.out
    go_wp2_with fail
    refine (markAddr_any B' (w4.heap.size + 1) d2 b2 1 w10 HO3.out (by omega) (by decide) (by decide)).mono ?_
    rintro e w11 ⟨rfl, hOm, hgm⟩
    have HE4 : Hid (Below (w3.heap.size + 1) (w3.alloc (.cells (boxA B' b1 d1) 34)) w11) := HE3.out.trans (grown_low _ hgm (HK3.out HE3.out).1 (fun k e => by have := HGE.out k e; omega))
    have HY4 : Hid (Bs 34 w11 w5.heap.size (boxA B' b2 d2)) := HY3.out.grown hgm (fun e => by have := HLT.out _ e; omega)
    have HO4 : Hid (IsStrs w11 b2 d2 (marks 1 B'.parts.length)) := by
      have := hOm.strsOf
      exact this
    clear hOm hgm HE3 HY3 HO3 y0 y1 y2 y3
    obtain ⟨y0, y1, y2, y3⟩ := box4 HY4.out
    go_wp2_with fail
    refine (heldAddr_any B' b2 d2 1 w11 HO4.out (by omega) (by decide) (by decide)).mono ?_
    rintro e w12 ⟨rfl, hb12⟩
    have HE5 : Hid (Below (w3.heap.size + 1) (w3.alloc (.cells (boxA B' b1 d1) 34)) w12) := HE4.out.trans (hb12.mono (HK3.out HE4.out).1)
    have HY5 : Hid (Bs 34 w12 w5.heap.size (boxA B' b2 d2)) := HY4.out.below hb12
    have HS5 : Hid (IsStrs w12 b2 d2 (marks 1 B'.parts.length)) := HO4.out.below hb12
    clear hb12 HE4 HY4 HO4 y0 y1 y2 y3
    rw [hqB]
    obtain ⟨c0, c1, c2, c3⟩ := box_cells (HK3.out HE5.out).2.2.2
    go_wp2_with fail
    refine (HTO.out _ (HK0.out (HK3.out HE5.out).2.2.2).2.2).mono ?_
    rintro e w13 ⟨g5, rfl, hO13, hb13⟩
    have HP6 : Hid (IsStrs w13 (some ⟨g5, 0, none⟩) A.parts.length A.parts) := hO13.strsOf
    have HE6 : Hid (Below (w3.heap.size + 1) (w3.alloc (.cells (boxA B' b1 d1) 34)) w13) := HE5.out.trans (hb13.mono (HK3.out HE5.out).1)
    have HY6 : Hid (Bs 34 w13 w5.heap.size (boxA B' b2 d2)) := HY5.out.below hb13
    have HS6 : Hid (IsStrs w13 b2 d2 (marks 1 B'.parts.length)) := HS5.out.below hb13
    clear hO13 hb13 HE5 HY5 HS5 c0 c1 c2 c3
    go_wp2_with fail
    refine (HIM.out _ _ _ (HK0.out (HK3.out HE6.out).2.2.2).2.1 HP6.out).mono ?_
    rintro e w14 ⟨B2, ok2, b3, d3, rfl, hans, hO14, hb14⟩
    obtain ⟨rfl, rfl⟩ := ans_same HANS.out hans
    have HT7 : Hid (IsStrs w14 b3 d3 B2.parts) := hO14.strsOf
    have HE7 : Hid (Below (w3.heap.size + 1) (w3.alloc (.cells (boxA B2 b1 d1) 34)) w14) := HE6.out.trans (hb14.mono (HK3.out HE6.out).1)
    have HY7 : Hid (Bs 34 w14 w5.heap.size (boxA B2 b2 d2)) := HY6.out.below hb14
    have HS7 : Hid (IsStrs w14 b2 d2 (marks 1 B2.parts.length)) := HS6.out.below hb14
    clear hans hO14 hb14 HE6 HY6 HS6 HP6
    have hz7 := (HK3.out HE7.out).1
    have HE8 : Hid (Below (w3.heap.size + 1) (w3.alloc (.cells (boxA B2 b1 d1) 34)) (w14.alloc (.cells (boxA B2 b3 d3) 34))) := HE7.out.alloc hz7 _
    have HZ8 : Hid (Bs 34 (w14.alloc (.cells (boxA B2 b3 d3) 34)) w14.heap.size (boxA B2 b3 d3)) := Bs.new _ _ _
    have HY8 : Hid (Bs 34 (w14.alloc (.cells (boxA B2 b3 d3) 34)) w5.heap.size (boxA B2 b2 d2)) := HY7.out.alloc _
    have HS8 : Hid (IsStrs (w14.alloc (.cells (boxA B2 b3 d3) 34)) b2 d2 (marks 1 B2.parts.length)) := HS7.out.keep (alloc_keep _ _)
    have HT8 : Hid (IsStrs (w14.alloc (.cells (boxA B2 b3 d3) 34)) b3 d3 B2.parts) := HT7.out.keep (alloc_keep _ _)
    clear HE7 HY7 HS7 HT7
    obtain ⟨z0, z1, z2, z3⟩ := box4 HZ8.out
    obtain ⟨x0, x1, x2, x3⟩ := box4 (HK3.out HE8.out).2.1
    unfold boxA at z0 z1 z2 z3 x0 x1 x2 x3
    go_wp2_with fail
    refine (eqAddr_same B2 b3 d3 b1 d1 _ HT8.out (HK3.out HE8.out).2.2.1 (by omega)).mono ?_
    rintro e w15 ⟨rfl, hb15⟩
    have HE9 : Hid (Below (w3.heap.size + 1) (w3.alloc (.cells (boxA B2 b1 d1) 34)) w15) := HE8.out.trans (hb15.mono (HK3.out HE8.out).1)
    have HY9 : Hid (Bs 34 w15 w5.heap.size (boxA B2 b2 d2)) := HY8.out.below (by simpa [boxA] using hb15)
    have HS9 : Hid (IsStrs w15 b2 d2 (marks 1 B2.parts.length)) := HS8.out.below hb15
    clear z0 z1 z2 z3 x0 x1 x2 x3 hb15 HE8 HZ8 HY8 HS8 HT8
    obtain ⟨y0, y1, y2, y3⟩ := box4 HY9.out
    go_wp2_with fail
    refine (heldAddr_any B2 b2 d2 1 w15 HS9.out (by omega) (by decide) (by decide)).mono ?_
    rintro e w16 ⟨rfl, hb16⟩
    have HF : Hid (Below w.heap.size w w16) := box_below (box_next (HK3.out HE9.out).2.2.2 hb16)
    rw [hqB]
    go_wp2
    go_ret
    exact ⟨rfl, HF.out⟩
end Go.Proofs.YtboncolbijicfaaDoor.fnExactAddrJoin
