import Derived.Test.YtggafbkdjipjpaaDraw1
namespace Go.Proofs.Ytggafbkdjipjpaa.Dr
open Go.RowKit

/-- WHAT THE WALK IS TOLD OF A SLICE OF INTEGERS THAT CAME IN -/
def IsRow (k : IntKind) (w : World) (a : Option Addr) (len cap : Nat) (zs : List Int) : Prop :=
  (a = none ∧ len = 0 ∧ cap = 0 ∧ zs = []) ∨
  ∃ x, a = some x ∧ len ≤ cap ∧ cap ≤ maxLen ∧ zs.length = cap ∧ (∀ i, i < zs.length → w.cell? (x.add i) = some (.int k (zs.getD i 0))) ∧ ∀ n ∈ zs, (Lit.int k n).wf = true

theorem IsRow.below {k : IntKind} {w w' : World} {a : Option Addr} {len cap : Nat} {zs : List Int} (h : IsRow k w a len cap zs) (hb : Below w.heap.size w w') : IsRow k w' a len cap zs := by
  rcases h with h | ⟨x, h1, h2, h3, h4, h5, h6⟩
  · exact Or.inl h
  · refine Or.inr ⟨x, h1, h2, h3, h4, fun i hi => ?_, h6⟩
    have := h5 i hi
    rw [hb.cell (cell_block this)]; exact this

theorem wf_u8 {n : Int} (h : (Lit.int .u8 n).wf = true) : 0 ≤ n ∧ n ≤ 255 := by
  simpa [Lit.wf, IntKind.min, IntKind.max, IntKind.signed, IntKind.bits] using h

theorem heap_new (W : World) (o : Obj) : (W.alloc o).heap[W.heap.size]? = some o := by
  show (W.heap.push o)[W.heap.size]? = _
  simp

theorem grown_alloc (w : World) (o : Obj) (row : Option Nat) : w.grownBy (w.alloc o) row := ⟨rfl, rfl, rfl, by simp, fun k hk _ => Below.heap_alloc w o k hk⟩

theorem open_rd {w : World} {x : Addr} {len cap : Nat} {zs : List Int} (hl : len ≤ cap) (hz : zs.length = cap) (hcell : ∀ i, i < zs.length → w.cell? (x.add i) = some (.int .u8 (zs.getD i 0))) (hwf : ∀ n ∈ zs, (Lit.int .u8 n).wf = true) (hlen : len ≤ 2000) :
    IsRd w.heap.size (w.alloc (.cells #[.slice (some x) len cap, .int .i64 0] 49)) w.heap.size 0 := by
  refine ⟨some x, len, cap, 0, heap_new _ _, Nat.le_refl _, hlen, Nat.le_refl _, ?_⟩
  by_cases h0 : len = 0
  · exact Or.inl h0
  · have hc0 := hcell 0 (by omega)
    have hspot : x.spot = none := by simpa [Addr.add] using World.cell?_spot hc0
    obtain ⟨b, off, spot⟩ := x
    simp at hspot; subst hspot
    have hb : b < w.heap.size := cell_block hc0
    refine Or.inr ⟨b, off, rfl, hb, fun i hi => ?_⟩
    have hci := hcell i (by omega)
    rw [show (⟨b, off, none⟩ : Addr).add i = ⟨b, off + i, none⟩ by simp [Addr.add]] at hci
    have hmem : zs.getD i 0 ∈ zs := by
      rw [List.getD_eq_getElem?_getD, List.getElem?_eq_getElem (by omega)]; exact List.getElem_mem _
    refine ⟨zs.getD i 0, ?_, wf_u8 (hwf _ hmem)⟩
    rw [World.cell?_of_block (w := w) (Below.heap_alloc w _ b hb)]
    exact hci

set_option maxHeartbeats 800000 in
theorem open_any (a0 : Option Addr) (len cap : Nat) (zs : List Int) (w : World) (h : IsRow .u8 w a0 len cap zs) :
    Calls Try.prog 28 #[.slice a0 len cap] w fun e w' => e = .returned (.pointer (some ⟨w.heap.size, 0, none⟩)) ∧ IsRd w.heap.size w' w.heap.size 0 ∧ Below w.heap.size w w' := by
  rcases h with ⟨rfl, rfl, rfl, rfl⟩ | ⟨x, rfl, hl, hm, hz, hcell, hwz⟩
  · go_enter Try.func28, Try.ntmps28
    go_wp2
    go_ret
    exact ⟨rfl, ⟨none, 0, 0, 0, heap_new _ _, Nat.le_refl _, by omega, Nat.le_refl _, Or.inl rfl⟩, (Below.refl _ _).alloc (Nat.le_refl _) _⟩
  · unfold maxLen at hm
    have HR := fun (n : Nat) (hn : n ≤ cap) (hn2 : n ≤ 2000) => open_rd (len := n) hn hz hcell hwz hn2
    have HR' : Hid _ := HR
    by_cases hlong : 2000 < len
    · have h2 : 2000 ≤ cap := by omega
      clear hcell hwz HR
      go_enter Try.func28, Try.ntmps28
      go_wp2
      go_ret
      exact ⟨rfl, HR'.out 2000 h2 (by omega), (Below.refl _ _).alloc (Nat.le_refl _) _⟩
    · clear hcell hwz HR
      go_enter Try.func28, Try.ntmps28
      go_wp2
      go_ret
      exact ⟨rfl, HR'.out len hl (by omega), (Below.refl _ _).alloc (Nat.le_refl _) _⟩

/-- all of a block's cells are strings of a kind -/
def strAll (P : ByteArray → Bool) (C : Array Value) : Bool := C.toList.all fun v => match v with | .string s => P s | _ => false

theorem strAll_at {P : ByteArray → Bool} {C : Array Value} (h : strAll P C = true) (i : Nat) (hi : i < C.size) : ∃ s, C[i]? = some (.string s) ∧ P s = true := by
  have := List.all_eq_true.1 h C[i] (by simp)
  rw [Array.getElem?_eq_getElem hi]
  split at this
  · rename_i s hs; exact ⟨s, by rw [hs], this⟩
  · cases this

set_option maxHeartbeats 800000 in
/-- ONE OF A LIST THAT IS WRITTEN OUT IS DRAWN. -/
theorem of_lit (B r q g m : Nat) (C : Array Value) (fz : Nat × Nat) (P : ByteArray → Bool) (w : World) (h : IsRd B w r q) (hq : q ≤ 1000000) (hg : g ≠ r) (hb : w.heap[g]? = some (.cells C 9 fz)) (hm : C.size = m) (h1 : 1 ≤ m) (h2 : m ≤ 1000) (hall : strAll P C = true) :
    Calls Try.prog 39 #[.pointer (some ⟨r, 0, none⟩), .slice (some ⟨g, 0, none⟩) m m] w fun e w' => ∃ s, e = .returned (.string s) ∧ P s = true ∧ IsRd B w' r (q + 1) ∧ w.grownBy w' (some r) := by
  go_enter Try.func39, Try.ntmps39
  go_wp2_with fail
  refine (pick_any B r q (m : Int) _ h hq (by omega) (by omega)).mono ?_
  rintro e w1 ⟨x, rfl, hx, hr1, hg1⟩
  have hx' : x < m := by omega
  obtain ⟨s, hs, hp⟩ := strAll_at hall x (by omega)
  have hc1 : w1.cell? ⟨g, x, none⟩ = some (.string s) := by
    rw [World.cell?_of_block (w := w) (hg1.block g (Array.getElem?_eq_some_iff.1 hb).1 (by intro e; exact hg (Option.some.inj e)))]
    simp [World.cell?, hb, hs]
  have HP : Hid (P s = true) := hp
  clear hs hp hall hb
  go_wp2
  go_ret
  exact ⟨_, rfl, HP.out, hr1, hg1⟩

set_option maxHeartbeats 800000 in
theorem raw_any (B r q : Nat) (w : World) (h : IsRd B w r q) (hq : q ≤ 10000) :
    Calls Try.prog 31 #[.pointer (some ⟨r, 0, none⟩)] w fun e w' => ∃ s, e = .returned (.string s) ∧ s.size ≤ 61 ∧ IsRd B w' r (q + 5) ∧ w.grownBy w' (some r) := by
  go_enter Try.func31, Try.ntmps31
  go_wp2_with fail
  refine (pick_any B r q 5 _ h (by omega) (by omega) (by omega)).mono ?_
  rintro e w1 ⟨x, rfl, hx, hr1, hg1⟩
  go_wp2
  go_loopw [3, 4] (fun v i wr => ∃ (k : Nat) (s : ByteArray), k ≤ 4 ∧ i = .int .i64 k ∧ v = .string s ∧ s.size ≤ (4 - k) * 3 ∧ IsRd B wr r (q + 1 + (4 - k)) ∧ w.grownBy wr (some r))
    (fun _ i _ => (intOf i).toNat)
  case atStart => exact ⟨x, ByteArray.empty, by omega, rfl, rfl, by simp, hr1.mono (by omega), hg1⟩
  case round =>
    obtain ⟨k, s, hk, rfl, rfl, hs, hr, hg⟩ := hrel
    by_cases hlt : 0 < k
    · go_wp2_with fail
      have hle := hr.le
      refine (of_lit B r _ wr.heap.size 16 _ _ (fun s => decide (s.size ≤ 3)) _ (hr.alloc _) (by omega) (by omega) (heap_new _ _) rfl (by decide) (by decide) (by decide)).mono ?_
      rintro e w2 ⟨t, rfl, ht, hr2, hg2⟩
      have ht' : t.size ≤ 3 := of_decide_eq_true ht
      clear ht hle
      go_wp2
      go_roundw
      case rel =>
        refine ⟨k - 1, s ++ t, by omega, by go_num, rfl, ?_, hr2.mono (by omega), ?_⟩
        · rw [ByteArray.size_append]; omega
        · exact grown_trans hg (grown_trans (grown_alloc _ _ _) hg2)
      case measure => simp [intOf]; omega
    · go_wp2
      go_ret
      exact ⟨s, rfl, by omega, hr.mono (by omega), hg⟩

theorem many_half {j k : Nat} (hk : k < 2 ^ (7 - j)) (hj : j + 1 ≤ 7) : k / 2 < 2 ^ (7 - (j + 1)) := by
  have e : 2 ^ (7 - j) = 2 ^ (7 - (j + 1)) * 2 := by rw [← Nat.pow_succ]; congr 1; omega
  omega

set_option maxHeartbeats 800000 in
theorem many_any (s0 : ByteArray) (n : Nat) (w : World) (h1 : s0.size ≤ 10) (h2 : n < 128) :
    Calls Try.prog 30 #[.string s0, .int .i64 (n : Int)] w fun e w' => ∃ s, e = .returned (.string s) ∧ s.size ≤ 10000 ∧ w' = w := by
  go_enter Try.func30, Try.ntmps30
  go_wp2
  go_loop [0, 1, 5] (fun a i v => ∃ (j k : Nat) (t s : ByteArray), k < 2 ^ (7 - j) ∧ j ≤ 7 ∧ i = .int .i64 (k : Int) ∧ a = .string t ∧ v = .string s ∧ t.size ≤ 10 * 2 ^ j ∧ s.size ≤ 10 * 2 ^ j)
    (fun _ i _ => (intOf i).toNat)
  case atStart => exact ⟨0, n, s0, ByteArray.empty, by omega, by omega, rfl, rfl, rfl, by omega, by simp⟩
  case round =>
    obtain ⟨j, k, t, s, hk, hj, rfl, rfl, rfl, ht, hs⟩ := hrel
    have hP : 2 ^ j ≤ 128 := Nat.pow_le_pow_right (n := 2) (by omega) hj
    have hQ : 2 ^ (7 - j) ≤ 2 ^ 7 := Nat.pow_le_pow_right (by omega) (by omega)
    have ht2 : t.size ≤ 1280 := by omega
    have hs2 : s.size ≤ 1280 := by omega
    have hk2 : k ≤ 127 := by omega
    have HK : Hid (k < 2 ^ (7 - j)) := hk
    have HT : Hid (t.size ≤ 10 * 2 ^ j) := ht
    have HS : Hid (s.size ≤ 10 * 2 ^ j) := hs
    clear hP hQ hk ht hs
    by_cases hlt : 0 < k
    · have HJ : Hid (j + 1 ≤ 7) := by
        show j + 1 ≤ 7
        by_cases e : j = 7
        · subst e; have := HK.out; simp at this; omega
        · omega
      go_wp2
      all_goals
        go_round
        case rel =>
          refine ⟨j + 1, k / 2, _, _, many_half HK.out HJ.out, HJ.out, by go_num, rfl, rfl, ?_, ?_⟩
          · rw [ByteArray.size_append, Nat.pow_succ]; have := HT.out; omega
          · have := HT.out; have := HS.out; rw [Nat.pow_succ]; first | (rw [ByteArray.size_append]; omega) | omega
        case measure => simp [intOf]; omega
    · go_wp2
      go_ret
      exact ⟨s, rfl, by omega, rfl⟩

set_option maxRecDepth 100000 in
/-- A TEXT IS DRAWN. -/
theorem drawEsc_any (a0 : Option Addr) (len cap : Nat) (zs : List Int) (w : World) (h : IsRow .u8 w a0 len cap zs) :
    Calls Try.prog 13 #[.slice a0 len cap] w fun e w' => ∃ s, e = .returned (.string s) ∧ s.size ≤ 10000 ∧ Below w.heap.size w w' := by
  go_enter Try.func13, Try.ntmps13
  go_wp2_with fail
  refine (open_any a0 len cap zs w h).mono ?_
  rintro e w1 ⟨rfl, hr1, hb1⟩
  go_wp2_with fail
  refine (pick_any _ _ _ 40 _ hr1 (by omega) (by omega) (by omega)).mono ?_
  rintro e w2 ⟨x, rfl, hx, hr2, hg2⟩
  by_cases hx0 : x = 0
  · subst hx0
    go_wp2_with fail
    refine (pick_any _ _ _ 2 _ hr2 (by omega) (by omega) (by omega)).mono ?_
    rintro e w3 ⟨y, rfl, hy, hr3, hg3⟩
    go_wp2_with fail
    rw [show (60 : Int) + (y : Int) = ((60 + y : Nat) : Int) from by omega]
    refine (many_any _ (60 + y) _ (by decide) (by omega)).mono ?_
    rintro e w4 ⟨s, rfl, hs, rfl⟩
    go_wp2
    go_ret
    exact ⟨s, rfl, hs, hb1.trans ((grown_below hg2 hb1.size (Nat.le_refl _)).trans (grown_below hg3 (Nat.le_trans hb1.size hg2.size) (Nat.le_refl _)))⟩
  · have hx1 : ((x : Int) == 0) = false := by simp; omega
    go_wp2_with fail
    refine (raw_any _ _ _ _ hr2 (by omega)).mono ?_
    rintro e w3 ⟨s, rfl, hs, hr3, hg3⟩
    go_wp2
    go_ret
    exact ⟨s, rfl, by omega, hb1.trans ((grown_below hg2 hb1.size (Nat.le_refl _)).trans (grown_below hg3 (Nat.le_trans hb1.size hg2.size) (Nat.le_refl _)))⟩
end Go.Proofs.Ytggafbkdjipjpaa.Dr
