import Derived.Test.YtjgaddchkoonpaaGreatDoorDraw1
namespace Go.Proofs.YtjgaddchkoonpaaGreatDoor.Dr
open Go.RowKit

/-- WHAT THE WALK IS TOLD OF A SLICE OF INTEGERS THAT CAME IN -/
def IsRow (k : IntKind) (w : World) (a : Option Addr) (len cap : Nat) (zs : List Int) : Prop :=
  (a = none ∧ len = 0 ∧ cap = 0 ∧ zs = []) ∨
  ∃ x, a = some x ∧ len ≤ cap ∧ cap ≤ maxLen ∧ zs.length = cap ∧ (∀ i, i < zs.length → w.cell? (x.add i) = some (.int k (zs.getD i 0))) ∧ ∀ n ∈ zs, (Lit.int k n).wf = true

theorem IsRow.below {k : IntKind} {w w' : World} {a : Option Addr} {len cap : Nat} {zs : List Int} (h : IsRow k w a len cap zs) (hb : Below w.heap.size w w') : IsRow k w' a len cap zs := by
  rcases h with h | ⟨x, h1, h2, h3, h4, h5, h6⟩
  · exact Or.inl h
  · refine Or.inr ⟨x, h1, h2, h3, h4, fun i hi => ?_, h6⟩
    have := h5 i hi
    rw [hb.cell (cell_block this)]; exact this

theorem wf_u8 {n : Int} (h : (Lit.int .u8 n).wf = true) : 0 ≤ n ∧ n ≤ 255 := by
  simpa [Lit.wf, IntKind.min, IntKind.max, IntKind.signed, IntKind.bits] using h

theorem heap_new (W : World) (o : Obj) : (W.alloc o).heap[W.heap.size]? = some o := by
  show (W.heap.push o)[W.heap.size]? = _
  simp

theorem grown_alloc (w : World) (o : Obj) (row : Option Nat) : w.grownBy (w.alloc o) row := ⟨rfl, rfl, rfl, by simp, fun k hk _ => Below.heap_alloc w o k hk⟩

theorem open_rd {w : World} {x : Addr} {len cap : Nat} {zs : List Int} (hl : len ≤ cap) (hz : zs.length = cap) (hcell : ∀ i, i < zs.length → w.cell? (x.add i) = some (.int .u8 (zs.getD i 0))) (hwf : ∀ n ∈ zs, (Lit.int .u8 n).wf = true) (hlen : len ≤ 2000) :
    IsRd w.heap.size (w.alloc (.cells #[.slice (some x) len cap, .int .i64 0] 53)) w.heap.size 0 := by
  refine ⟨some x, len, cap, 0, heap_new _ _, Nat.le_refl _, hlen, Nat.le_refl _, ?_⟩
  by_cases h0 : len = 0
  · exact Or.inl h0
  · have hc0 := hcell 0 (by omega)
    have hspot : x.spot = none := by simpa [Addr.add] using World.cell?_spot hc0
    obtain ⟨b, off, spot⟩ := x
    simp at hspot; subst hspot
    have hb : b < w.heap.size := cell_block hc0
    refine Or.inr ⟨b, off, rfl, hb, fun i hi => ?_⟩
    have hci := hcell i (by omega)
    rw [show (⟨b, off, none⟩ : Addr).add i = ⟨b, off + i, none⟩ by simp [Addr.add]] at hci
    have hmem : zs.getD i 0 ∈ zs := by
      rw [List.getD_eq_getElem?_getD, List.getElem?_eq_getElem (by omega)]; exact List.getElem_mem _
    refine ⟨zs.getD i 0, ?_, wf_u8 (hwf _ hmem)⟩
    rw [World.cell?_of_block (w := w) (Below.heap_alloc w _ b hb)]
    exact hci

set_option maxRecDepth 100000 in
set_option maxHeartbeats 800000 in
theorem open_any (a0 : Option Addr) (len cap : Nat) (zs : List Int) (w : World) (h : IsRow .u8 w a0 len cap zs) :
    Calls Tryz.prog 14 #[.slice a0 len cap] w fun e w' => e = .returned (.pointer (some ⟨w.heap.size, 0, none⟩)) ∧ IsRd w.heap.size w' w.heap.size 0 ∧ Below w.heap.size w w' := by
  rcases h with ⟨rfl, rfl, rfl, rfl⟩ | ⟨x, rfl, hl, hm, hz, hcell, hwz⟩
  · go_enter Tryz.func14, Tryz.ntmps14
    go_wp2
    go_ret
    exact ⟨rfl, ⟨none, 0, 0, 0, heap_new _ _, Nat.le_refl _, by omega, Nat.le_refl _, Or.inl rfl⟩, (Below.refl _ _).alloc (Nat.le_refl _) _⟩
  · unfold maxLen at hm
    have HR := fun (n : Nat) (hn : n ≤ cap) (hn2 : n ≤ 2000) => open_rd (len := n) hn hz hcell hwz hn2
    have HR' : Hid _ := HR
    by_cases hlong : 2000 < len
    · have h2 : 2000 ≤ cap := by omega
      clear hcell hwz HR
      go_enter Tryz.func14, Tryz.ntmps14
      go_wp2
      go_ret
      exact ⟨rfl, HR'.out 2000 h2 (by omega), (Below.refl _ _).alloc (Nat.le_refl _) _⟩
    · clear hcell hwz HR
      go_enter Tryz.func14, Tryz.ntmps14
      go_wp2
      go_ret
      exact ⟨rfl, HR'.out len hl (by omega), (Below.refl _ _).alloc (Nat.le_refl _) _⟩

/-- all of a block's cells are strings of a kind -/
def strAll (P : ByteArray → Bool) (C : Array Value) : Bool := C.toList.all fun v => match v with | .string s => P s | _ => false

theorem strAll_at {P : ByteArray → Bool} {C : Array Value} (h : strAll P C = true) (i : Nat) (hi : i < C.size) : ∃ s, C[i]? = some (.string s) ∧ P s = true := by
  have := List.all_eq_true.1 h C[i] (by simp)
  rw [Array.getElem?_eq_getElem hi]
  split at this
  · rename_i s hs; exact ⟨s, by rw [hs], this⟩
  · cases this

set_option maxRecDepth 100000 in
set_option maxHeartbeats 800000 in
/-- ONE OF A LIST THAT IS WRITTEN OUT IS DRAWN. -/
theorem of_lit (B r q g m : Nat) (C : Array Value) (fz : Nat × Nat) (P : ByteArray → Bool) (w : World) (h : IsRd B w r q) (hq : q ≤ 1000000) (hg : g ≠ r) (hb : w.heap[g]? = some (.cells C 9 fz)) (hm : C.size = m) (h1 : 1 ≤ m) (h2 : m ≤ 1000) (hall : strAll P C = true) :
    Calls Tryz.prog 41 #[.pointer (some ⟨r, 0, none⟩), .slice (some ⟨g, 0, none⟩) m m] w fun e w' => ∃ s, e = .returned (.string s) ∧ P s = true ∧ IsRd B w' r (q + 1) ∧ w.grownBy w' (some r) := by
  go_enter Tryz.func41, Tryz.ntmps41
  go_wp2_with fail
  refine (pick_any B r q (m : Int) _ h hq (by omega) (by omega)).mono ?_
  rintro e w1 ⟨x, rfl, hx, hr1, hg1⟩
  have hx' : x < m := by omega
  obtain ⟨s, hs, hp⟩ := strAll_at hall x (by omega)
  have hc1 : w1.cell? ⟨g, x, none⟩ = some (.string s) := by
    rw [World.cell?_of_block (w := w) (hg1.block g (Array.getElem?_eq_some_iff.1 hb).1 (by intro e; exact hg (Option.some.inj e)))]
    simp [World.cell?, hb, hs]
  have HP : Hid (P s = true) := hp
  clear hs hp hall hb
  go_wp2
  go_ret
  exact ⟨_, rfl, HP.out, hr1, hg1⟩


end Go.Proofs.YtjgaddchkoonpaaGreatDoor.Dr
