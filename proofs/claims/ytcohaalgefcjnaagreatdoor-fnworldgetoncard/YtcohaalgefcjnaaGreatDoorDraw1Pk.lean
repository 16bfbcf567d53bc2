/- Several texts in one: Draw1, Draw2. -/
import Derived.Test.YtcohaalgefcjnaaGreatDoorChecked
import Derived.WalkKit
import Derived.WalkLawsBesides
import Derived.WalkSpells
import Derived.BigQuiet
import Derived.Deep.QuietTactic
import Derived.Outline
namespace Go.Proofs.YtcohaalgefcjnaaGreatDoor.Dr
open Go.RowKit

/-- THE READER OF A CODE lies in block r: its bytes lie in old memory (below B), its place is at most q -/
def IsRd (B : Nat) (w : World) (r q : Nat) : Prop :=
  ∃ (a0 : Option Addr) (len cap p : Nat), w.heap[r]? = some (.cells #[.slice a0 len cap, .int .i64 p] 94 (0, 0)) ∧ p ≤ q ∧ len ≤ 2000 ∧ B ≤ r ∧
    (len = 0 ∨ ∃ b off, a0 = some ⟨b, off, none⟩ ∧ b < B ∧ ∀ i, i < len → ∃ z : Int, w.cell? ⟨b, off + i, none⟩ = some (.int .u8 z) ∧ 0 ≤ z ∧ z ≤ 255)

theorem grown_refl (w : World) (row : Option Nat) : w.grownBy w row := ⟨rfl, rfl, rfl, Nat.le_refl _, fun _ _ _ => rfl⟩
theorem grown_trans {a b c : World} {row : Option Nat} (h : a.grownBy b row) (k : b.grownBy c row) : a.grownBy c row :=
  ⟨k.os.trans h.os, k.tape.trans h.tape, k.output.trans h.output, Nat.le_trans h.size k.size, fun i hi hr => (k.block i (Nat.lt_of_lt_of_le hi h.size) hr).trans (h.block i hi hr)⟩
theorem grown_below {B r : Nat} {a b : World} (h : a.grownBy b (some r)) (hB : B ≤ a.heap.size) (hr : B ≤ r) : Below B a b :=
  ⟨h.os, h.tape, h.output, h.size, fun k hk => h.block k (by omega) (by intro e; have := Option.some.inj e; omega)⟩

theorem IsRd.mono {B : Nat} {w : World} {r q q' : Nat} (h : IsRd B w r q) (hq : q ≤ q') : IsRd B w r q' := by
  obtain ⟨a0, len, cap, p, h1, h2, h3⟩ := h
  exact ⟨a0, len, cap, p, h1, by omega, h3⟩

theorem cell_block {w : World} {a : Addr} {v : Value} (h : w.cell? a = some v) : a.block < w.heap.size := by
  unfold World.cell? at h
  by_cases hh : a.block < w.heap.size
  · exact hh
  · rw [Array.getElem?_eq_none (by omega)] at h; simp at h

/-- what leaves the reader's block alone keeps it -/
theorem IsRd.keep {B : Nat} {w w' : World} {r q : Nat} (h : IsRd B w r q) (hb : ∀ k, k < w.heap.size → w'.heap[k]? = w.heap[k]?) : IsRd B w' r q := by
  obtain ⟨a0, len, cap, p, h1, h2, h3, h4, h5⟩ := h
  refine ⟨a0, len, cap, p, ?_, h2, h3, h4, ?_⟩
  · rw [hb r (Array.getElem?_eq_some_iff.1 h1).1]; exact h1
  · rcases h5 with h5 | ⟨b, off, h6, h7, h8⟩
    · exact Or.inl h5
    · refine Or.inr ⟨b, off, h6, h7, fun i hi => ?_⟩
      obtain ⟨z, hz, hz'⟩ := h8 i hi
      refine ⟨z, ?_, hz'⟩
      have := cell_block hz
      rw [World.cell?_of_block (w := w) (hb _ this)]; exact hz
theorem IsRd.alloc {B : Nat} {w : World} {r q : Nat} (h : IsRd B w r q) (o : Obj) : IsRd B (w.alloc o) r q := h.keep fun k hk => Below.heap_alloc w o k hk
theorem IsRd.drew {B : Nat} {w : World} {r q : Nat} (h : IsRd B w r q) : IsRd B w.drew r q := h
theorem IsRd.drewN {B : Nat} {w : World} {r q : Nat} (h : IsRd B w r q) (n : Nat) : IsRd B (w.drewN n) r q := h.keep fun _ _ => rfl
theorem IsRd.below {B : Nat} {w w' : World} {r q : Nat} (h : IsRd B w r q) (hb : Below w.heap.size w w') : IsRd B w' r q := h.keep fun k hk => hb.block k hk
theorem IsRd.le {B : Nat} {w : World} {r q : Nat} (h : IsRd B w r q) : B ≤ r ∧ r < w.heap.size := by
  obtain ⟨a0, len, cap, p, h1, h2, h3, h4, h5⟩ := h
  exact ⟨h4, (Array.getElem?_eq_some_iff.1 h1).1⟩

/-- the reader's place, one on -/
theorem IsRd.step {B : Nat} {w : World} {r q : Nat} {a0 : Option Addr} {len cap p : Nat} (h1 : w.heap[r]? = some (.cells #[.slice a0 len cap, .int .i64 p] 94 (0, 0))) (h2 : p ≤ q) (h3 : len ≤ 2000) (h4 : B ≤ r)
    (h5 : len = 0 ∨ ∃ b off, a0 = some ⟨b, off, none⟩ ∧ b < B ∧ ∀ i, i < len → ∃ z : Int, w.cell? ⟨b, off + i, none⟩ = some (.int .u8 z) ∧ 0 ≤ z ∧ z ≤ 255) :
    IsRd B (w.setCell ⟨r, 1, none⟩ (.int .i64 ((p : Int) + 1))) r (q + 1) ∧ w.grownBy (w.setCell ⟨r, 1, none⟩ (.int .i64 ((p : Int) + 1))) (some r) := by
  refine ⟨⟨a0, len, cap, p + 1, ?_, by omega, h3, h4, ?_⟩, ⟨rfl, rfl, rfl, by simp [World.setCell], fun k hk hr => Below.heap_setCell _ _ _ _ (fun e => hr (by rw [e]))⟩⟩
  · have hr : r < w.heap.size := (Array.getElem?_eq_some_iff.1 h1).1
    simp only [World.setCell, Array.getElem?_modify, if_true, h1, Option.map_some]
    simp [Array.setIfInBounds]
  · rcases h5 with h5 | ⟨b, off, h6, h7, h8⟩
    · exact Or.inl h5
    · refine Or.inr ⟨b, off, h6, h7, fun i hi => ?_⟩
      obtain ⟨z, hz, hz'⟩ := h8 i hi
      refine ⟨z, ?_, hz'⟩
      rw [World.cell?_of_block (w := w) (Below.heap_setCell _ _ _ _ (by show b ≠ r; omega))]; exact hz

set_option maxRecDepth 100000 in
set_option maxHeartbeats 800000 in
theorem pick_none (r : Nat) (n : Int) (w : World) (cap p : Nat) (a0 : Option Addr) (h1 : w.heap[r]? = some (.cells #[.slice a0 0 cap, .int .i64 p] 94 (0, 0))) (hp : p ≤ 1000000) (hn : 1 ≤ n) :
    Calls Tryz.prog 31 #[.pointer (some ⟨r, 0, none⟩), .int .i64 n] w fun e w' => e = .returned (.int .i64 0) ∧ w' = w.setCell ⟨r, 1, none⟩ (.int .i64 ((p : Int) + 1)) := by
  have c0 : w.cell? ⟨r, 0, none⟩ = some (.slice a0 0 cap) := by simp [World.cell?, h1]
  have c1 : w.cell? ⟨r, 1, none⟩ = some (.int .i64 p) := by simp [World.cell?, h1]
  have f1 : w.frozen? ⟨r, 1, none⟩ = false := by simp [World.frozen?, h1]
  have H1 : Hid _ := h1
  clear h1
  go_enter Tryz.func31, Tryz.ntmps31
  go_wp2
  go_ret
  exact ⟨rfl, rfl⟩

set_option maxRecDepth 100000 in
set_option maxHeartbeats 800000 in
theorem pick_at (r : Nat) (n : Int) (w : World) (len cap p b off : Nat) (z : Int) (h1 : w.heap[r]? = some (.cells #[.slice (some ⟨b, off, none⟩) len cap, .int .i64 p] 94 (0, 0))) (hp : p ≤ 1000000) (hn : 1 ≤ n) (hn2 : n ≤ 1000000)
    (_hl : len ≤ 2000) (hlt : p < len) (hbr : b ≠ r) (hz : w.cell? ⟨b, off + p, none⟩ = some (.int .u8 z)) (hz0 : 0 ≤ z) (hz1 : z ≤ 255) :
    Calls Tryz.prog 31 #[.pointer (some ⟨r, 0, none⟩), .int .i64 n] w fun e w' => e = .returned (.int .i64 (z % n)) ∧ w' = w.setCell ⟨r, 1, none⟩ (.int .i64 ((p : Int) + 1)) := by
  have c0 : w.cell? ⟨r, 0, none⟩ = some (.slice (some ⟨b, off, none⟩) len cap) := by simp [World.cell?, h1]
  have c1 : w.cell? ⟨r, 1, none⟩ = some (.int .i64 p) := by simp [World.cell?, h1]
  have f1 : w.frozen? ⟨r, 1, none⟩ = false := by simp [World.frozen?, h1]
  have hz' : (w.setCell ⟨r, 1, none⟩ (.int .i64 ((p : Int) + 1))).cell? ⟨b, off + p, none⟩ = some (.int .u8 z) := by
    rw [World.cell?_of_block (w := w) (Below.heap_setCell _ _ _ _ (by exact hbr))]; exact hz
  have hl0 : ((len : Int) == 0) = false := by simp; omega
  clear h1 hz
  go_enter Tryz.func31, Tryz.ntmps31
  go_wp2
  go_ret
  exact ⟨rfl, rfl⟩

theorem xor_bd (a b : Int) (h1 : 0 ≤ a) (h2 : a < 4294967296) (h3 : 0 ≤ b) (h4 : b < 4294967296) : 0 ≤ bits .xor .i64 a b := by
  obtain ⟨A, rfl⟩ := Int.eq_ofNat_of_zero_le h1
  obtain ⟨C, rfl⟩ := Int.eq_ofNat_of_zero_le h3
  have hx : A ^^^ C < 2 ^ 32 := Nat.xor_lt_two_pow (by omega) (by omega)
  show 0 ≤ IntKind.i64.wrap ((BitVec.ofInt 64 (A : Int) ^^^ BitVec.ofInt 64 (C : Int)).toNat : Int)
  rw [BitVec.toNat_xor, ofInt_u64 A (by omega), ofInt_u64 C (by omega), IntKind.wrap_i64]
  omega

set_option maxRecDepth 100000 in
set_option maxHeartbeats 1600000 in
theorem pick_mix (r : Nat) (n : Int) (w : World) (len cap p b off : Nat) (z1 z2 : Int) (h1 : w.heap[r]? = some (.cells #[.slice (some ⟨b, off, none⟩) len cap, .int .i64 p] 94 (0, 0))) (hp : p ≤ 1000000) (hn : 1 ≤ n) (hn2 : n ≤ 1000000)
    (hl : len ≤ 2000) (hl1 : 1 ≤ len) (hge : len ≤ p) (hbr : b ≠ r) (m1 m2 d : Nat) (hm1 : m1 < len) (hm2 : m2 < len) (hd : d ≤ 1000000) (hr1 : Int.tmod (p : Int) (len : Int) = (m1 : Int)) (hr2 : Int.tmod ((p : Int) * 7 + 3) (len : Int) = (m2 : Int)) (hr3 : Int.tdiv (p : Int) (len : Int) = (d : Int)) (hz1 : w.cell? ⟨b, off + m1, none⟩ = some (.int .u8 z1)) (hz2 : w.cell? ⟨b, off + m2, none⟩ = some (.int .u8 z2)) (g1 : 0 ≤ z1 ∧ z1 ≤ 255) (g2 : 0 ≤ z2 ∧ z2 ≤ 255) :
    Calls Tryz.prog 31 #[.pointer (some ⟨r, 0, none⟩), .int .i64 n] w fun e w' => (∃ x : Int, e = .returned (.int .i64 x) ∧ 0 ≤ x ∧ x < n) ∧ ∃ nq, w' = (w.setCell ⟨r, 1, none⟩ (.int .i64 ((p : Int) + 1))).drewN nq := by
  have c0 : w.cell? ⟨r, 0, none⟩ = some (.slice (some ⟨b, off, none⟩) len cap) := by simp [World.cell?, h1]
  have c1 : w.cell? ⟨r, 1, none⟩ = some (.int .i64 p) := by simp [World.cell?, h1]
  have f1 : w.frozen? ⟨r, 1, none⟩ = false := by simp [World.frozen?, h1]
  have hz1' : (w.setCell ⟨r, 1, none⟩ (.int .i64 ((p : Int) + 1))).cell? ⟨b, off + m1, none⟩ = some (.int .u8 z1) := by
    rw [World.cell?_of_block (w := w) (Below.heap_setCell _ _ _ _ (by exact hbr))]; exact hz1
  have hz2' : (w.setCell ⟨r, 1, none⟩ (.int .i64 ((p : Int) + 1))).cell? ⟨b, off + m2, none⟩ = some (.int .u8 z2) := by
    rw [World.cell?_of_block (w := w) (Below.heap_setCell _ _ _ _ (by exact hbr))]; exact hz2
  have hl0 : ((len : Int) == 0) = false := by simp; omega
  have hlN : ¬ len = 0 := by omega
  have hw1 : IntKind.i64.wrap ((p : Int) * 7) = (p : Int) * 7 := IntWalk.i64_in _ (by omega)
  have hw2 : IntKind.i64.wrap ((p : Int) * 7 + 3) = (p : Int) * 7 + 3 := IntWalk.i64_in _ (by omega)
  obtain ⟨g11, g12⟩ := g1
  obtain ⟨g21, g22⟩ := g2
  clear h1 hz1 hz2
  go_enter Tryz.func31, Tryz.ntmps31
  go_wp2
  go_quiet (fail)
  have hx0 : 0 ≤ z1 * 131 + z2 * 1117 + (p : Int) * 29 + (d : Int) * 53 := by omega
  have hx1 : z1 * 131 + z2 * 1117 + (p : Int) * 29 + (d : Int) * 53 ≤ 1000000000 := by omega
  generalize z1 * 131 + z2 * 1117 + (p : Int) * 29 + (d : Int) * 53 = x at hx0 hx1
  go_wp2
  go_ret
  have hb := xor_bd x (x / 64) hx0 (by omega) (by omega) (by omega)
  refine ⟨⟨_, rfl, ?_, ?_⟩, nq, rfl⟩
  · exact Int.tmod_nonneg _ hb
  · exact Int.tmod_lt_of_pos _ (by omega)

/-- A NUMBER IS DRAWN: below n; the reader goes one on; nothing else turns. -/
theorem pick_any (B r q : Nat) (n : Int) (w : World) (h : IsRd B w r q) (hq : q ≤ 1000000) (hn : 1 ≤ n) (hn2 : n ≤ 1000000) :
    Calls Tryz.prog 31 #[.pointer (some ⟨r, 0, none⟩), .int .i64 n] w fun e w' => ∃ x : Nat, e = .returned (.int .i64 (x : Int)) ∧ (x : Int) < n ∧ IsRd B w' r (q + 1) ∧ w.grownBy w' (some r) := by
  obtain ⟨a0, len, cap, p, h1, h2, h3, h4, h5⟩ := h
  have hst := IsRd.step (B := B) (q := q) h1 h2 h3 h4 h5
  rcases h5 with rfl | ⟨b, off, rfl, hb, hc⟩
  · refine (pick_none r n w cap p a0 h1 (by omega) hn).mono ?_
    rintro e w' ⟨rfl, rfl⟩
    exact ⟨0, rfl, by omega, hst.1, hst.2⟩
  · by_cases hl : len = 0
    · subst hl
      refine (pick_none r n w cap p _ h1 (by omega) hn).mono ?_
      rintro e w' ⟨rfl, rfl⟩
      exact ⟨0, rfl, by omega, hst.1, hst.2⟩
    · by_cases hlt : p < len
      · obtain ⟨z, hz, hz0, hz1⟩ := hc p hlt
        refine (pick_at r n w len cap p b off z h1 (by omega) hn hn2 h3 hlt (by omega) hz hz0 hz1).mono ?_
        rintro e w' ⟨rfl, rfl⟩
        have e1 : ((z % n).toNat : Int) = z % n := Int.toNat_of_nonneg (Int.emod_nonneg _ (by omega))
        exact ⟨(z % n).toNat, by rw [e1], by rw [e1]; exact Int.emod_lt_of_pos _ (by omega), hst.1, hst.2⟩
      · have hm1 : p % len < len := Nat.mod_lt _ (by omega)
        have hm2 : (p * 7 + 3) % len < len := Nat.mod_lt _ (by omega)
        obtain ⟨z1, c1, d1⟩ := hc _ hm1
        obtain ⟨z2, c2, d2⟩ := hc _ hm2
        refine (pick_mix r n w len cap p b off z1 z2 h1 (by omega) hn hn2 h3 (by omega) (by omega) (by omega) (p % len) ((p * 7 + 3) % len) (p / len) hm1 hm2 (Nat.le_trans (Nat.div_le_self _ _) (by omega)) ?_ ?_ ?_ c1 c2 d1 d2).mono ?_
        · rw [Int.tmod_eq_emod_of_nonneg (by omega)]; exact (Int.natCast_emod p len).symm
        · rw [Int.tmod_eq_emod_of_nonneg (by omega)]; have := Int.natCast_emod (p * 7 + 3) len; rw [this]; push_cast; rfl
        · rw [Int.tdiv_eq_ediv_of_nonneg (by omega)]; exact (Int.natCast_ediv p len).symm
        · rintro e w' ⟨⟨x, rfl, hx0, hx1⟩, nq, rfl⟩
          have e1 : (x.toNat : Int) = x := Int.toNat_of_nonneg hx0
          refine ⟨x.toNat, by rw [e1], by rw [e1]; exact hx1, hst.1.drewN nq, ?_⟩
          exact grown_trans hst.2 ⟨rfl, rfl, rfl, Nat.le_refl _, fun _ _ _ => rfl⟩

/-- ONE OF A LIST IS DRAWN. -/
theorem of_any (B r q g : Nat) (L : List ByteArray) (w : World) (h : IsRd B w r q) (hq : q ≤ 1000000) (hL : 1 ≤ L.length) (hL2 : L.length ≤ 1000) (hg : g ≠ r) (hc : ∀ i (hi : i < L.length), w.cell? ⟨g, i, none⟩ = some (.string L[i])) :
    Calls Tryz.prog 32 #[.pointer (some ⟨r, 0, none⟩), .slice (some ⟨g, 0, none⟩) L.length L.length] w fun e w' => ∃ s, e = .returned (.string s) ∧ s ∈ L ∧ IsRd B w' r (q + 1) ∧ w.grownBy w' (some r) := by
  go_enter Tryz.func32, Tryz.ntmps32
  go_wp2_with fail
  refine (pick_any B r q (L.length : Int) _ h hq (by omega) (by omega)).mono ?_
  rintro e w1 ⟨x, rfl, hx, hr1, hg1⟩
  have hx' : x < L.length := by omega
  have hc0 := hc x hx'
  have hc1 : w1.cell? ⟨g, x, none⟩ = some (.string L[x]) := by
    rw [World.cell?_of_block (w := w) (hg1.block g (cell_block hc0) (by intro e; exact hg (Option.some.inj e)))]; exact hc0
  have HC : Hid _ := hc
  clear hc hc0
  go_wp2
  go_ret
  exact ⟨_, rfl, List.getElem_mem hx', hr1, hg1⟩
end Go.Proofs.YtcohaalgefcjnaaGreatDoor.Dr
namespace Go.Proofs.YtcohaalgefcjnaaGreatDoor.Dr
open Go.RowKit

/-- WHAT THE WALK IS TOLD OF A SLICE OF INTEGERS THAT CAME IN -/
def IsRow (k : IntKind) (w : World) (a : Option Addr) (len cap : Nat) (zs : List Int) : Prop :=
  (a = none ∧ len = 0 ∧ cap = 0 ∧ zs = []) ∨
  ∃ x, a = some x ∧ len ≤ cap ∧ cap ≤ maxLen ∧ zs.length = cap ∧ (∀ i, i < zs.length → w.cell? (x.add i) = some (.int k (zs.getD i 0))) ∧ ∀ n ∈ zs, (Lit.int k n).wf = true

theorem IsRow.below {k : IntKind} {w w' : World} {a : Option Addr} {len cap : Nat} {zs : List Int} (h : IsRow k w a len cap zs) (hb : Below w.heap.size w w') : IsRow k w' a len cap zs := by
  rcases h with h | ⟨x, h1, h2, h3, h4, h5, h6⟩
  · exact Or.inl h
  · refine Or.inr ⟨x, h1, h2, h3, h4, fun i hi => ?_, h6⟩
    have := h5 i hi
    rw [hb.cell (cell_block this)]; exact this

theorem wf_u8 {n : Int} (h : (Lit.int .u8 n).wf = true) : 0 ≤ n ∧ n ≤ 255 := by
  simpa [Lit.wf, IntKind.min, IntKind.max, IntKind.signed, IntKind.bits] using h

theorem heap_new (W : World) (o : Obj) : (W.alloc o).heap[W.heap.size]? = some o := by
  show (W.heap.push o)[W.heap.size]? = _
  simp

theorem grown_alloc (w : World) (o : Obj) (row : Option Nat) : w.grownBy (w.alloc o) row := ⟨rfl, rfl, rfl, by simp, fun k hk _ => Below.heap_alloc w o k hk⟩

theorem open_rd {w : World} {x : Addr} {len cap : Nat} {zs : List Int} (hl : len ≤ cap) (hz : zs.length = cap) (hcell : ∀ i, i < zs.length → w.cell? (x.add i) = some (.int .u8 (zs.getD i 0))) (hwf : ∀ n ∈ zs, (Lit.int .u8 n).wf = true) (hlen : len ≤ 2000) :
    IsRd w.heap.size (w.alloc (.cells #[.slice (some x) len cap, .int .i64 0] 94)) w.heap.size 0 := by
  refine ⟨some x, len, cap, 0, heap_new _ _, Nat.le_refl _, hlen, Nat.le_refl _, ?_⟩
  by_cases h0 : len = 0
  · exact Or.inl h0
  · have hc0 := hcell 0 (by omega)
    have hspot : x.spot = none := by simpa [Addr.add] using World.cell?_spot hc0
    obtain ⟨b, off, spot⟩ := x
    simp at hspot; subst hspot
    have hb : b < w.heap.size := cell_block hc0
    refine Or.inr ⟨b, off, rfl, hb, fun i hi => ?_⟩
    have hci := hcell i (by omega)
    rw [show (⟨b, off, none⟩ : Addr).add i = ⟨b, off + i, none⟩ by simp [Addr.add]] at hci
    have hmem : zs.getD i 0 ∈ zs := by
      rw [List.getD_eq_getElem?_getD, List.getElem?_eq_getElem (by omega)]; exact List.getElem_mem _
    refine ⟨zs.getD i 0, ?_, wf_u8 (hwf _ hmem)⟩
    rw [World.cell?_of_block (w := w) (Below.heap_alloc w _ b hb)]
    exact hci

set_option maxRecDepth 100000 in
set_option maxHeartbeats 800000 in
theorem open_any (a0 : Option Addr) (len cap : Nat) (zs : List Int) (w : World) (h : IsRow .u8 w a0 len cap zs) :
    Calls Tryz.prog 29 #[.slice a0 len cap] w fun e w' => e = .returned (.pointer (some ⟨w.heap.size, 0, none⟩)) ∧ IsRd w.heap.size w' w.heap.size 0 ∧ Below w.heap.size w w' := by
  rcases h with ⟨rfl, rfl, rfl, rfl⟩ | ⟨x, rfl, hl, hm, hz, hcell, hwz⟩
  · go_enter Tryz.func29, Tryz.ntmps29
    go_wp2
    go_ret
    exact ⟨rfl, ⟨none, 0, 0, 0, heap_new _ _, Nat.le_refl _, by omega, Nat.le_refl _, Or.inl rfl⟩, (Below.refl _ _).alloc (Nat.le_refl _) _⟩
  · unfold maxLen at hm
    have HR := fun (n : Nat) (hn : n ≤ cap) (hn2 : n ≤ 2000) => open_rd (len := n) hn hz hcell hwz hn2
    have HR' : Hid _ := HR
    by_cases hlong : 2000 < len
    · have h2 : 2000 ≤ cap := by omega
      clear hcell hwz HR
      go_enter Tryz.func29, Tryz.ntmps29
      go_wp2
      go_ret
      exact ⟨rfl, HR'.out 2000 h2 (by omega), (Below.refl _ _).alloc (Nat.le_refl _) _⟩
    · clear hcell hwz HR
      go_enter Tryz.func29, Tryz.ntmps29
      go_wp2
      go_ret
      exact ⟨rfl, HR'.out len hl (by omega), (Below.refl _ _).alloc (Nat.le_refl _) _⟩

/-- all of a block's cells are strings of a kind -/
def strAll (P : ByteArray → Bool) (C : Array Value) : Bool := C.toList.all fun v => match v with | .string s => P s | _ => false

theorem strAll_at {P : ByteArray → Bool} {C : Array Value} (h : strAll P C = true) (i : Nat) (hi : i < C.size) : ∃ s, C[i]? = some (.string s) ∧ P s = true := by
  have := List.all_eq_true.1 h C[i] (by simp)
  rw [Array.getElem?_eq_getElem hi]
  split at this
  · rename_i s hs; exact ⟨s, by rw [hs], this⟩
  · cases this

set_option maxRecDepth 100000 in
set_option maxHeartbeats 800000 in
/-- ONE OF A LIST THAT IS WRITTEN OUT IS DRAWN. -/
theorem of_lit (B r q g m : Nat) (C : Array Value) (fz : Nat × Nat) (P : ByteArray → Bool) (w : World) (h : IsRd B w r q) (hq : q ≤ 1000000) (hg : g ≠ r) (hb : w.heap[g]? = some (.cells C 9 fz)) (hm : C.size = m) (h1 : 1 ≤ m) (h2 : m ≤ 1000) (hall : strAll P C = true) :
    Calls Tryz.prog 32 #[.pointer (some ⟨r, 0, none⟩), .slice (some ⟨g, 0, none⟩) m m] w fun e w' => ∃ s, e = .returned (.string s) ∧ P s = true ∧ IsRd B w' r (q + 1) ∧ w.grownBy w' (some r) := by
  go_enter Tryz.func32, Tryz.ntmps32
  go_wp2_with fail
  refine (pick_any B r q (m : Int) _ h hq (by omega) (by omega)).mono ?_
  rintro e w1 ⟨x, rfl, hx, hr1, hg1⟩
  have hx' : x < m := by omega
  obtain ⟨s, hs, hp⟩ := strAll_at hall x (by omega)
  have hc1 : w1.cell? ⟨g, x, none⟩ = some (.string s) := by
    rw [World.cell?_of_block (w := w) (hg1.block g (Array.getElem?_eq_some_iff.1 hb).1 (by intro e; exact hg (Option.some.inj e)))]
    simp [World.cell?, hb, hs]
  have HP : Hid (P s = true) := hp
  clear hs hp hall hb
  go_wp2
  go_ret
  exact ⟨_, rfl, HP.out, hr1, hg1⟩


end Go.Proofs.YtcohaalgefcjnaaGreatDoor.Dr
