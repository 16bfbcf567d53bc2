/- A struct in its block; marks in an address's parts. -/
import Derived.Test.YtboncolbijicfaaDoorExS
import Derived.Test.YtboncolbijicfaaDoorAddrMath
namespace Go.Proofs.YtboncolbijicfaaDoor.MkA
open Go.RowKit Go.Proofs.YtboncolbijicfaaDoor.St Go.Proofs.YtboncolbijicfaaDoor.EscL Go.Proofs.YtboncolbijicfaaDoor.AddrM

/-- a struct lies in a block -/
def Bs (t : TypeId) (w : World) (G : Nat) (C : Array Value) : Prop := w.heap[G]? = some (.cells C t (0, 0))
section
variable {t : TypeId} {w w' : World} {G : Nat} {C : Array Value}
theorem Bs.cell (h : Bs t w G C) (j : Nat) {x : Value} (hx : C[j]? = some x) : w.cell? ⟨G, j, none⟩ = some x := by
  unfold Bs at h
  simp [World.cell?, h, hx]
theorem Bs.free (h : Bs t w G C) (j : Nat) : w.frozen? ⟨G, j, none⟩ = false := by
  unfold Bs at h
  simp [World.frozen?, h]
theorem Bs.lt (h : Bs t w G C) : G < w.heap.size := (Array.getElem?_eq_some_iff.1 h).1
theorem Bs.grown {row : Option Nat} (h : Bs t w G C) (hg : w.grownBy w' row) (hr : row ≠ some G) : Bs t w' G C := by
  unfold Bs
  rw [hg.block G h.lt (fun e => hr e.symm)]; exact h
theorem Bs.keep (h : Bs t w G C) (hb : ∀ k, k < w.heap.size → w'.heap[k]? = w.heap[k]?) : Bs t w' G C := by
  unfold Bs
  rw [hb G h.lt]; exact h
theorem Bs.below (h : Bs t w G C) (hb : Below w.heap.size w w') : Bs t w' G C := h.keep fun k hk => hb.block k hk
theorem Bs.new (t : TypeId) (w : World) (C : Array Value) : Bs t (w.alloc (.cells C t)) w.heap.size C := by
  show (w.heap.push _)[w.heap.size]? = _; simp
theorem Bs.set (h : Bs t w G C) (j : Nat) (y : Value) : Bs t (w.setCell ⟨G, j, none⟩ y) G (C.setIfInBounds j y) := by
  unfold Bs at h ⊢
  simp only [World.setCell, Array.getElem?_modify, if_true, h, Option.map_some]
  rfl
theorem Bs.alloc (h : Bs t w G C) (o : Obj) : Bs t (w.alloc o) G C := h.keep (alloc_keep _ _)
theorem Bs.drewN (h : Bs t w G C) (n : Nat) : Bs t (w.drewN n) G C := h.keep fun _ _ => rfl
end
theorem owns_lt {w : World} {base : Nat} {v : Value} {L : List ByteArray} (h : Owns w base v L) (g : Nat) (hg : v.ownBlock = some g) : g < w.heap.size := (World.ownsRow.lt h g hg).2
theorem owns_ge {w : World} {base : Nat} {v : Value} {L : List ByteArray} (h : Owns w base v L) (g : Nat) (hg : v.ownBlock = some g) : base ≤ g := (World.ownsRow.lt h g hg).1

set_option maxRecDepth 100000 in
set_option maxHeartbeats 1600000 in
theorem markAddr_any (A : Ad) (base cap : Nat) (a0 : Option Addr) (k : Nat) (w : World) (h : Owns w base (.slice a0 A.parts.length cap) A.parts) (hl : A.parts.length ≤ 4194304) (hk1 : 1 ≤ k) (hk2 : k ≤ 4194304) :
    Calls Tryd.prog 17 #[.agg #[.string A.house, .slice a0 A.parts.length cap, .bool A.asks, .string A.ask], .int .i64 (k : Int)] w fun e w' => e = .returned (.int .i64 ((k + A.parts.length : Nat) : Int)) ∧ Owns w' base (.slice a0 A.parts.length cap) (marks k A.parts.length) ∧ w.grownBy w' (Value.slice a0 A.parts.length cap).ownBlock := by
  have HO : Hid (Owns w base (.slice a0 A.parts.length cap) A.parts) := h
  clear h
  go_enter Tryd.func17, Tryd.ntmps17
  go_wp2_with fail
  refine (markS_any base cap a0 A.parts k _ (HO.out.keep (alloc_keep _ _)) hl hk1 hk2).mono ?_
  rintro e w1 ⟨rfl, hO1, hg1⟩
  have HO1 : Hid (Owns w1 base (.slice a0 A.parts.length cap) (marks k A.parts.length)) := hO1
  have HG1 : Hid (w.grownBy w1 (Value.slice a0 A.parts.length cap).ownBlock) := grown_trans (grown_of_below _ ((Below.refl _ w).alloc (Nat.le_refl _) _)) hg1
  clear hO1 hg1
  go_wp2
  go_ret
  exact ⟨rfl, HO1.out, HG1.out⟩

set_option maxRecDepth 100000 in
set_option maxHeartbeats 1600000 in
theorem heldAddr_any (A : Ad) (a0 : Option Addr) (cap k : Nat) (w : World) (h : IsStrs w a0 cap (marks k A.parts.length)) (hl : A.parts.length ≤ 4194304) (hk1 : 1 ≤ k) (hk2 : k ≤ 4194304) :
    Calls Tryd.prog 18 #[.agg #[.string A.house, .slice a0 A.parts.length cap, .bool A.asks, .string A.ask], .int .i64 (k : Int)] w fun e w' => e = .returned (.int .i64 ((k + A.parts.length : Nat) : Int)) ∧ Below w.heap.size w w' := by
  have HS : Hid (IsStrs w a0 cap (marks k A.parts.length)) := h
  clear h
  go_enter Tryd.func18, Tryd.ntmps18
  go_wp2_with fail
  refine (held_any a0 cap A.parts.length k _ (HS.out.keep (alloc_keep _ _)) hl hk1 hk2).mono ?_
  rintro e w1 ⟨rfl, hb1⟩
  have HB1 : Hid (Below w.heap.size w w1) := ((Below.refl _ w).alloc (Nat.le_refl _) _).trans (hb1.mono (by simp))
  clear hb1
  go_wp2
  go_ret
  exact ⟨rfl, HB1.out⟩
end Go.Proofs.YtboncolbijicfaaDoor.MkA
