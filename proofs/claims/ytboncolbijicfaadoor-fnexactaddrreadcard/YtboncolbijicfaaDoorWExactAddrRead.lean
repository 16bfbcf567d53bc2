/- FnExactAddrRead: the walk. -/
import Derived.Test.YtboncolbijicfaaDoorRows
import Derived.WalkKit
import Derived.ProofKit
import Derived.OpenShut
import Derived.ShutString
import Derived.ChangeOld
import Derived.Below
import Derived.Test.YtboncolbijicfaaDoorCards
import Derived.Test.YtboncolbijicfaaDoorReadAny
import Derived.Test.YtboncolbijicfaaDoorMarkA
import Derived.Test.YtboncolbijicfaaDoorAddr6
import Derived.Shelf.Vars
import Derived.Lay
import Derived.LaidOnce
import Derived.SevenTiedAt
namespace Go.Proofs.YtboncolbijicfaaDoor.fnExactAddrRead
open Go.ChangeShapes Go.WideShapes Go.ChangeAt Go.RowKit
open Go.ChangeMaps (open_string shut_string)
set_option linter.unusedVariables false
open Go.Proofs.YtboncolbijicfaaDoor.EscL Go.Proofs.YtboncolbijicfaaDoor.EscM Go.Proofs.YtboncolbijicfaaDoor.ReadM Go.Proofs.YtboncolbijicfaaDoor.St Go.Proofs.YtboncolbijicfaaDoor.AddrM Go.Proofs.YtboncolbijicfaaDoor.Ad1 Go.Proofs.YtboncolbijicfaaDoor.Rd1 Go.Proofs.YtboncolbijicfaaDoor.RdA Go.Proofs.YtboncolbijicfaaDoor.MkA

theorem mx_of {w : World} (h : w.ShapedOpen Tryd.prog) : Im.Mx w :=
  cell_of_shapedOpen_int (g := 0) (t := 3) (zero := #[.int .i64 0]) (k := .i64) h (of_decide_eq_true (by kernel_rfl)) (by kernel_rfl) rfl (by kernel_rfl) (by kernel_rfl) Tryd.underlying3

def boxA (A : Ad) (a : Option Addr) (c : Nat) : Array Value := #[.string A.house, .slice a A.parts.length c, .bool A.asks, .string A.ask]
theorem box4 {w : World} {G : Nat} {A : Ad} {a : Option Addr} {c : Nat} (h : Bs 34 w G (boxA A a c)) : w.cell? ⟨G, 0, none⟩ = some (.string A.house) ∧ w.cell? ⟨G, 1, none⟩ = some (.slice a A.parts.length c) ∧ w.cell? ⟨G, 2, none⟩ = some (.bool A.asks) ∧ w.cell? ⟨G, 3, none⟩ = some (.string A.ask) :=
  ⟨h.cell 0 rfl, h.cell 1 rfl, h.cell 2 rfl, h.cell 3 rfl⟩
theorem parts_le {R : Option Ad} {A : Ad} {ok : Bool} {l : List UInt8} (e : R = readF l) (h : (ok = true ∧ R = some A) ∨ (ok = false ∧ R = none ∧ A = zeroAd)) : A.parts.length ≤ 1000 := by
  rw [e] at h
  have := OB.reads_bulk h
  unfold bulkA at this; omega

set_option maxRecDepth 100000 in
set_option maxHeartbeats 3200000 in
theorem walk (a0 : ByteArray) (w : World) (w0 : a0.size ≤ maxLen) (hL : laidMetH Tryd.prog Rows.fnExactAddrReadRow.laid w) (hsh : w.ShapedOpen Tryd.prog) :
    Calls Tryd.prog 5 #[.string a0] w fun e w' => e = .returned (.bool true) ∧ Below w.heap.size w w' := by
  have HM : Hid (Im.Mx w) := mx_of hsh
  clear hsh hL
  unfold maxLen at w0
  by_cases hlong : 1048576 < a0.size
  · go_enter Tryd.func5, Tryd.ntmps5
    go_wp2
    go_ret
    exact ⟨rfl, Below.refl _ _⟩
  have HSP : Hid _ := fun W => specRead_any a0 W (by omega)
  have HIM : Hid _ := fun W hM => implRead_all a0 W hM (by omega) trivial
  have HPL : Hid (∀ A ok, (ok = true ∧ readF a0.data.toList = some A) ∨ (ok = false ∧ readF a0.data.toList = none ∧ A = zeroAd) → A.parts.length ≤ 1000) := fun A ok h => parts_le rfl h
  generalize readF a0.data.toList = R at *
  go_enter Tryd.func5, Tryd.ntmps5
  go_wp2_with fail
  refine (HSP.out _).mono ?_
  rintro e w1 ⟨A, ok, a1, c1, rfl, hans, hO1, hb1⟩
  have HANS : Hid _ := hans
  have HO1 : Hid (IsStrs w1 a1 c1 A.parts) := hO1.strsOf
  have HB1 : Hid (Below w.heap.size w w1) := hb1
  clear hans hO1 hb1
  go_wp2_with fail
  refine (HIM.out _ ((HM.out.below HB1.out).alloc _)).mono ?_
  rintro e w2 ⟨A', ok', a2, c2, rfl, hans, hO2, hb2⟩
  obtain ⟨rfl, rfl⟩ := ans_same HANS.out hans
  have hpl := HPL.out A' ok' hans
  have HD2 : Hid (Below (w1.heap.size + 1) (w1.alloc (.cells (boxA A' a1 c1) 34)) w2) := by show Below _ _ _; simpa [boxA] using hb2
  have HO2 : Hid (Owns w2 (w1.heap.size + 1) (.slice a2 A'.parts.length c2) A'.parts) := by show Owns _ _ _ _; simpa using hO2
  clear hans hO2 hb2
  have hK : ∀ {W : World}, Below (w1.heap.size + 1) (w1.alloc (.cells (boxA A' a1 c1) 34)) W → Bs 34 W w1.heap.size (boxA A' a1 c1) ∧ IsStrs W a1 c1 A'.parts ∧ Below w.heap.size w W ∧ w1.heap.size + 1 ≤ W.heap.size := fun {W} h => by
    have hs := h.size
    simp at hs
    have hz := HB1.out.size
    refine ⟨(Bs.new 34 w1 (boxA A' a1 c1)).keep (fun k hk => h.block k (by simpa using hk)), ?_, ?_, hs⟩
    · exact (HO1.out.keep (alloc_keep _ _)).keep (fun k hk => h.block k (by simpa using hk))
    · exact (HB1.out.alloc hz _).trans (h.mono (by omega))
  have HK : Hid _ := @hK
  clear hK
  have hz2 : w1.heap.size + 1 ≤ w2.heap.size := (HK.out HD2.out).2.2.2
  have HLT : Hid (∀ g, (Value.slice a2 A'.parts.length c2).ownBlock = some g → g < w2.heap.size) := fun g hg => owns_lt HO2.out g hg
  have HGE : Hid (∀ g, (Value.slice a2 A'.parts.length c2).ownBlock = some g → w1.heap.size + 1 ≤ g) := fun g hg => owns_ge HO2.out g hg
  -- g0 lies in a block
  have HD3 : Hid (Below (w1.heap.size + 1) (w1.alloc (.cells (boxA A' a1 c1) 34)) (w2.alloc (.cells (boxA A' a2 c2) 34))) := HD2.out.alloc (by omega) _
  have HY3 : Hid (Bs 34 (w2.alloc (.cells (boxA A' a2 c2) 34)) w2.heap.size (boxA A' a2 c2)) := Bs.new _ _ _
  have HO3 : Hid (Owns (w2.alloc (.cells (boxA A' a2 c2) 34)) (w1.heap.size + 1) (.slice a2 A'.parts.length c2) A'.parts) := HO2.out.keep (alloc_keep _ _)
  obtain ⟨y0, y1, y2, y3⟩ := box4 HY3.out
  obtain ⟨x0, x1, x2, x3⟩ := box4 (HK.out HD3.out).1
  unfold boxA at y0 y1 y2 y3 x0 x1 x2 x3
  go_wp2_with fail
  refine (eqAddr_same A' a2 c2 a1 c1 _ HO3.out.strsOf (HK.out HD3.out).2.1 (by omega)).mono ?_
  rintro e w3 ⟨rfl, hb3⟩
  have HD4 : Hid (Below (w1.heap.size + 1) (w1.alloc (.cells (boxA A' a1 c1) 34)) w3) := HD3.out.trans (hb3.mono (by simp; omega))
  have HY4 : Hid (Bs 34 w3 w2.heap.size (boxA A' a2 c2)) := HY3.out.below (by simpa [boxA] using hb3)
  have HO4 : Hid (Owns w3 (w1.heap.size + 1) (.slice a2 A'.parts.length c2) A'.parts) := HO3.out.below hb3
  clear x0 x1 x2 x3 y0 y1 y2 y3 hb3 HD3 HY3 HO3 HD2 HO2
  obtain ⟨y0, y1, y2, y3⟩ := box4 HY4.out
  go_wp2_with fail
  refine (markAddr_any A' (w1.heap.size + 1) c2 a2 1 w3 HO4.out (by omega) (by decide) (by decide)).mono ?_
  rintro e w4 ⟨rfl, hO5, hg5⟩
  have HD5 : Hid (Below (w1.heap.size + 1) (w1.alloc (.cells (boxA A' a1 c1) 34)) w4) := HD4.out.trans (grown_low _ hg5 (HK.out HD4.out).2.2.2 HGE.out)
  have HY5 : Hid (Bs 34 w4 w2.heap.size (boxA A' a2 c2)) := HY4.out.grown hg5 (fun e => by have := HLT.out _ e; omega)
  have HO5 : Hid (IsStrs w4 a2 c2 (marks 1 A'.parts.length)) := by
    have := hO5.strsOf
    exact this
  clear y0 y1 y2 y3 hO5 hg5 HO4 HY4 HD4
  obtain ⟨y0, y1, y2, y3⟩ := box4 HY5.out
  go_wp2_with fail
  refine (heldAddr_any A' a2 c2 1 w4 HO5.out (by omega) (by decide) (by decide)).mono ?_
  rintro e w5 ⟨rfl, hb5⟩
  have HD6 : Hid (Below (w1.heap.size + 1) (w1.alloc (.cells (boxA A' a1 c1) 34)) w5) := HD5.out.trans (hb5.mono (HK.out HD5.out).2.2.2)
  have HY6 : Hid (Bs 34 w5 w2.heap.size (boxA A' a2 c2)) := HY5.out.below hb5
  have HO6 : Hid (IsStrs w5 a2 c2 (marks 1 A'.parts.length)) := HO5.out.below hb5
  clear y0 y1 y2 y3 hb5 HO5 HY5 HD5
  have hq : ((1 + A'.parts.length : Nat) : Int) = 1 + (A'.parts.length : Int) := by omega
  rw [hq]
  go_wp2_with fail
  refine (HIM.out _ (HM.out.below (HK.out HD6.out).2.2.1)).mono ?_
  rintro e w6 ⟨A'', ok'', a3, c3, rfl, hans, hO7, hb7⟩
  obtain ⟨rfl, rfl⟩ := ans_same HANS.out hans
  have HO7 : Hid (IsStrs w6 a3 c3 A''.parts) := hO7.strsOf
  have HD7 : Hid (Below (w1.heap.size + 1) (w1.alloc (.cells (boxA A'' a1 c1) 34)) w6) := HD6.out.trans (hb7.mono (HK.out HD6.out).2.2.2)
  have HY7 : Hid (Bs 34 w6 w2.heap.size (boxA A'' a2 c2)) := HY6.out.below hb7
  have HS7 : Hid (IsStrs w6 a2 c2 (marks 1 A''.parts.length)) := HO6.out.below hb7
  clear hans hO7 hb7 HD6 HY6 HO6
  have hz7 := (HK.out HD7.out).2.2.2
  have HD8 : Hid (Below (w1.heap.size + 1) (w1.alloc (.cells (boxA A'' a1 c1) 34)) (w6.alloc (.cells (boxA A'' a3 c3) 34))) := HD7.out.alloc hz7 _
  have HZ8 : Hid (Bs 34 (w6.alloc (.cells (boxA A'' a3 c3) 34)) w6.heap.size (boxA A'' a3 c3)) := Bs.new _ _ _
  have HY8 : Hid (Bs 34 (w6.alloc (.cells (boxA A'' a3 c3) 34)) w2.heap.size (boxA A'' a2 c2)) := HY7.out.alloc _
  have HS8 : Hid (IsStrs (w6.alloc (.cells (boxA A'' a3 c3) 34)) a2 c2 (marks 1 A''.parts.length)) := HS7.out.keep (alloc_keep _ _)
  have HT8 : Hid (IsStrs (w6.alloc (.cells (boxA A'' a3 c3) 34)) a3 c3 A''.parts) := HO7.out.keep (alloc_keep _ _)
  obtain ⟨z0, z1, z2, z3⟩ := box4 HZ8.out
  obtain ⟨x0, x1, x2, x3⟩ := box4 (HK.out HD8.out).1
  unfold boxA at z0 z1 z2 z3 x0 x1 x2 x3
  go_wp2_with fail
  refine (eqAddr_same A'' a3 c3 a1 c1 _ HT8.out (HK.out HD8.out).2.1 (by omega)).mono ?_
  rintro e w8 ⟨rfl, hb8⟩
  have HD9 : Hid (Below (w1.heap.size + 1) (w1.alloc (.cells (boxA A'' a1 c1) 34)) w8) := HD8.out.trans (hb8.mono (HK.out HD8.out).2.2.2)
  have HY9 : Hid (Bs 34 w8 w2.heap.size (boxA A'' a2 c2)) := HY8.out.below (by simpa [boxA] using hb8)
  have HS9 : Hid (IsStrs w8 a2 c2 (marks 1 A''.parts.length)) := HS8.out.below hb8
  clear z0 z1 z2 z3 x0 x1 x2 x3 hb8 HD8 HZ8 HY8 HS8 HT8
  obtain ⟨y0, y1, y2, y3⟩ := box4 HY9.out
  go_wp2_with fail
  refine (heldAddr_any A'' a2 c2 1 w8 HS9.out (by omega) (by decide) (by decide)).mono ?_
  rintro e w9 ⟨rfl, hb9⟩
  have HF : Hid (Below w.heap.size w w9) := (HK.out HD9.out).2.2.1.trans (hb9.mono (HK.out HD9.out).2.2.1.size)
  rw [hq]
  go_wp2
  go_ret
  exact ⟨rfl, HF.out⟩
end Go.Proofs.YtboncolbijicfaaDoor.fnExactAddrRead
