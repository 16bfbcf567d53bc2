/- An address is drawn: its text. -/
import Derived.Test.YtlamhiidpbehnaaDoorDraw3
import Derived.Test.YtlamhiidpbehnaaDoorAddr6
import Derived.Test.YtlamhiidpbehnaaDoorRead6
import Derived.Test.YtlamhiidpbehnaaDoorStep
import Derived.Deep.RegionHeld3
namespace Go.Proofs.YtlamhiidpbehnaaDoor.Dr
open Go.RowKit Go.Proofs.YtlamhiidpbehnaaDoor.St Go.Proofs.YtlamhiidpbehnaaDoor.AddrM Go.Proofs.YtlamhiidpbehnaaDoor.EscL Go.Proofs.YtlamhiidpbehnaaDoor.Ad1

theorem textF_size (A : Ad) : (textF A).size ≤ 60 := by
  unfold textF
  cases h : okB A with
  | false => show (0 : Nat) ≤ 60; omega
  | true =>
    unfold okB at h
    simp only [Bool.and_eq_true, decide_eq_true_eq] at h
    show (textL A).toArray.size ≤ 60
    simpa using h.2
theorem pathF_size (A : Ad) : (pathF A).size ≤ 60 := by
  unfold pathF
  cases h : okB A with
  | false => show (0 : Nat) ≤ 60; omega
  | true =>
    unfold okB at h
    simp only [Bool.and_eq_true, decide_eq_true_eq] at h
    have h2 := h.2
    unfold textL at h2
    simp only [List.length_cons, List.length_append] at h2
    show (pathL A).toArray.size ≤ 60
    simp; omega

theorem houses_any (w : World) : Calls Tryd.prog 53 #[] w fun e w' => e = .returned (.slice (some ⟨w.heap.size, 0, none⟩) 4 4) ∧ w' = w.alloc (.cells #[.string ⟨#[97, 98]⟩, .string ⟨#[99, 100]⟩, .string ⟨#[101]⟩, .string ⟨#[102, 111, 120]⟩] 9) := by
  go_enter Tryd.func53, Tryd.ntmps53
  go_wp2
  go_ret
  exact ⟨rfl, rfl⟩

theorem lit_cell {w w1 : World} {C : Array Value} {t : TypeId} {fz : Nat × Nat} {g r x : Nat} {P : ByteArray → Bool} (hb : w.heap[g]? = some (.cells C t fz)) (hall : strAll P C = true) (hg : w.grownBy w1 (some r)) (hgr : g ≠ r) (hx : x < C.size) : ∃ s, w1.cell? ⟨g, x, none⟩ = some (.string s) ∧ P s = true := by
  obtain ⟨s, hs, hp⟩ := strAll_at hall x hx
  refine ⟨s, ?_, hp⟩
  rw [World.cell?_of_block (w := w) (hg.block g (Array.getElem?_eq_some_iff.1 hb).1 (by intro e; exact hgr (Option.some.inj e)))]
  simp [World.cell?, hb, hs]

/-- a struct of an address lies in a block -/
def Box (w : World) (G : Nat) (x0 x1 x2 x3 : Value) : Prop :=
  w.heap[G]? = some (.cells #[x0, x1, x2, x3] 25 (0, 0))
theorem Box.cells {w : World} {G : Nat} {x0 x1 x2 x3 : Value} (h : Box w G x0 x1 x2 x3) : (w.cell? ⟨G, 0, none⟩ = some x0 ∧ w.cell? ⟨G, 1, none⟩ = some x1 ∧ w.cell? ⟨G, 2, none⟩ = some x2 ∧ w.cell? ⟨G, 3, none⟩ = some x3) ∧ ∀ j, w.frozen? ⟨G, j, none⟩ = false := by
  unfold Box at h
  refine ⟨⟨?_, ?_, ?_, ?_⟩, fun j => ?_⟩
  · simp [World.cell?, h]
  · simp [World.cell?, h]
  · simp [World.cell?, h]
  · simp [World.cell?, h]
  · simp [World.frozen?, h]
theorem Box.lt {w : World} {G : Nat} {x0 x1 x2 x3 : Value} (h : Box w G x0 x1 x2 x3) : G < w.heap.size := (Array.getElem?_eq_some_iff.1 h).1
theorem Box.grown {w w' : World} {G : Nat} {x0 x1 x2 x3 : Value} {row : Option Nat} (h : Box w G x0 x1 x2 x3) (hg : w.grownBy w' row) (hr : row ≠ some G) : Box w' G x0 x1 x2 x3 := by
  unfold Box
  rw [hg.block G h.lt (fun e => hr e.symm)]; exact h
theorem Box.set1 {w : World} {G : Nat} {x0 x1 x2 x3 : Value} (h : Box w G x0 x1 x2 x3) (y : Value) : Box (w.setCell ⟨G, 1, none⟩ y) G x0 y x2 x3 := by
  unfold Box at h ⊢
  simp only [World.setCell, Array.getElem?_modify, if_true, h, Option.map_some]
  simp [Array.setIfInBounds]
theorem Box.set0 {w : World} {G : Nat} {x0 x1 x2 x3 : Value} (h : Box w G x0 x1 x2 x3) (y : Value) : Box (w.setCell ⟨G, 0, none⟩ y) G y x1 x2 x3 := by
  unfold Box at h ⊢
  simp only [World.setCell, Array.getElem?_modify, if_true, h, Option.map_some]
  simp [Array.setIfInBounds]
theorem Box.set2 {w : World} {G : Nat} {x0 x1 x2 x3 : Value} (h : Box w G x0 x1 x2 x3) (y : Value) : Box (w.setCell ⟨G, 2, none⟩ y) G x0 x1 y x3 := by
  unfold Box at h ⊢
  simp only [World.setCell, Array.getElem?_modify, if_true, h, Option.map_some]
  simp [Array.setIfInBounds]
theorem Box.set3 {w : World} {G : Nat} {x0 x1 x2 x3 : Value} (h : Box w G x0 x1 x2 x3) (y : Value) : Box (w.setCell ⟨G, 3, none⟩ y) G x0 x1 x2 y := by
  unfold Box at h ⊢
  simp only [World.setCell, Array.getElem?_modify, if_true, h, Option.map_some]
  simp [Array.setIfInBounds]
theorem grown_set {w : World} {G : Nat} (j : Nat) (y : Value) : w.grownBy (w.setCell ⟨G, j, none⟩ y) (some G) := ⟨rfl, rfl, rfl, by simp [World.setCell], fun k hk hr => Below.heap_setCell _ _ _ _ (fun e => hr (by rw [e]))⟩

theorem IsRd.heapEq {B : Nat} {w w' : World} {r q : Nat} (h : IsRd B w r q) (e : w'.heap = w.heap) : IsRd B w' r q := h.keep fun k _ => by rw [e]
theorem Owns.heapEq {w w' : World} {base : Nat} {v : Value} {L : List ByteArray} (h : Owns w base v L) (e : w'.heap = w.heap) : Owns w' base v L := h.keep fun k _ => by rw [e]
theorem own_ne {w : World} {base G : Nat} {v : Value} {L : List ByteArray} (h : Owns w base v L) (hG : G < base) : v.ownBlock ≠ some G := fun e => by have := Owns.block h G e; omega
theorem Box.heapEq {w w' : World} {G : Nat} {x0 x1 x2 x3 : Value} (h : Box w G x0 x1 x2 x3) (e : w'.heap = w.heap) : Box w' G x0 x1 x2 x3 := by unfold Box; rw [e]; exact h

theorem grown_past {w w1 w2 : World} {r : Nat} {row : Option Nat} (h : w.grownBy w1 (some r)) (g : w1.grownBy w2 row) (hrow : ∀ k, row = some k → w.heap.size ≤ k) : w.grownBy w2 (some r) :=
  ⟨g.os.trans h.os, g.tape.trans h.tape, g.output.trans h.output, Nat.le_trans h.size g.size, fun k hk hr => (g.block k (Nat.lt_of_lt_of_le hk h.size) (fun e => by have := hrow k e.symm; omega)).trans (h.block k hk hr)⟩
theorem len_snoc (L : List ByteArray) (t : ByteArray) : (L ++ [t]).length = L.length + 1 := by simp
theorem sum_snoc (L : List ByteArray) (t : ByteArray) : sumS (L ++ [t]) = sumS L + t.size := by rw [ReadM.sumS_append]; simp [sumS]

/-- ONE OF A LIST THAT HAS JUST BEEN WRITTEN OUT IS DRAWN. -/
theorem of_new (B r q m : Nat) (C : Array Value) (P : ByteArray → Bool) (wr : World) (h : IsRd B wr r q) (hq : q ≤ 1000000) (hm : C.size = m) (h1 : 1 ≤ m) (h2 : m ≤ 1000) (hall : strAll P C = true) :
    Calls Tryd.prog 34 #[.pointer (some ⟨r, 0, none⟩), .slice (some ⟨wr.heap.size, 0, none⟩) m m] (wr.alloc (.cells C 9)) fun e w' => ∃ s, e = .returned (.string s) ∧ P s = true ∧ IsRd B w' r (q + 1) ∧ wr.grownBy w' (some r) := by
  have hle := h.le
  refine (of_lit B r q wr.heap.size m C (0, 0) P _ (h.alloc _) hq (by omega) (heap_new wr _) hm h1 h2 hall).mono ?_
  rintro e w' ⟨s, rfl, hp, hr, hg⟩
  exact ⟨s, rfl, hp, hr, grown_trans (grown_alloc _ _ _) hg⟩
theorem of_newD (B r q m : Nat) (C : Array Value) (P : ByteArray → Bool) (wr : World) (h : IsRd B wr r q) (hq : q ≤ 1000000) (hm : C.size = m) (h1 : 1 ≤ m) (h2 : m ≤ 1000) (hall : strAll P C = true) :
    Calls Tryd.prog 34 #[.pointer (some ⟨r, 0, none⟩), .slice (some ⟨wr.heap.size, 0, none⟩) m m] (wr.alloc (.cells C 9)).drew fun e w' => ∃ s, e = .returned (.string s) ∧ P s = true ∧ IsRd B w' r (q + 1) ∧ wr.grownBy w' (some r) := by
  have hle := h.le
  have hg0 : wr.grownBy (wr.alloc (.cells C 9)).drew (some r) := ⟨rfl, rfl, rfl, by simp, fun k hk _ => Below.heap_alloc wr _ k hk⟩
  refine (of_lit B r q wr.heap.size m C (0, 0) P (wr.alloc (.cells C 9)).drew ((h.alloc _).heapEq rfl) hq (by omega) (heap_new wr _) hm h1 h2 hall).mono ?_
  rintro e w' ⟨s, rfl, hp, hr, hg⟩
  exact ⟨s, rfl, hp, hr, grown_trans hg0 hg⟩

theorem of_newG (B r q m g : Nat) (C : Array Value) (P : ByteArray → Bool) (wr : World) (e : wr.heap.size = g) (h : IsRd B wr r q) (hq : q ≤ 1000000) (hm : C.size = m) (h1 : 1 ≤ m) (h2 : m ≤ 1000) (hall : strAll P C = true) :
    Calls Tryd.prog 34 #[.pointer (some ⟨r, 0, none⟩), .slice (some ⟨g, 0, none⟩) m m] (wr.alloc (.cells C 9)) fun e w' => ∃ s, e = .returned (.string s) ∧ P s = true ∧ IsRd B w' r (q + 1) ∧ wr.grownBy w' (some r) := by
  subst e; exact of_new B r q m C P wr h hq hm h1 h2 hall

set_option maxRecDepth 100000 in
set_option maxHeartbeats 1600000 in
theorem addr_any (B r q : Nat) (w : World) (h : IsRd B w r q) (hq : q ≤ 10000) :
    Calls Tryd.prog 32 #[.pointer (some ⟨r, 0, none⟩)] w fun e w' => ∃ s, e = .returned (.string s) ∧ s.size ≤ 60 ∧ IsRd B w' r (q + 6) ∧ w.grownBy w' (some r) ∧ ∃ A, s = textF A := by
  obtain ⟨i0, hi, hz0, hz1, hz2⟩ := info_parts Tryd.infoS
  have hle := h.le
  have HR0 : Hid (IsRd B w r q) := h
  clear h
  go_enter Tryd.func32, Tryd.ntmps32
  go_wp2_with fail
  refine (houses_any w).mono ?_
  rintro e w0 ⟨rfl, rfl⟩
  go_wp2_with fail
  refine (pick_any B r q 4 _ (HR0.out.alloc _) (by omega) (by omega) (by omega)).mono ?_
  rintro e w1 ⟨x, rfl, hx, hr1, hg1⟩
  obtain ⟨s0, hs0, hp0⟩ := lit_cell (x := x) (P := fun s => decide (s.size ≤ 5)) (heap_new w _) (by decide) hg1 (by omega) (by simp; omega)
  have hz5 : s0.size ≤ 5 := of_decide_eq_true hp0
  have hg01 : w.grownBy w1 (some r) := grown_trans (grown_alloc _ _ _) hg1
  have HG1 : Hid _ := hg01
  have HR1 : Hid (IsRd B w1 r (q + 1)) := hr1
  have hw1 : w.heap.size < w1.heap.size := by have := hg1.size; simp at this; omega
  clear hp0 hg1 hg01 hr1
  obtain ⟨G, hG⟩ : ∃ G, w1.heap.size = G := ⟨_, rfl⟩
  have hwG : w.heap.size < G := by omega
  go_wp2_with fail
  refine (pick_any B r (q + 1) 3 _ (HR1.out.alloc _) (by omega) (by omega) (by omega)).mono ?_
  rintro e w2 ⟨n0, rfl, hn0, hr2, hg2⟩
  have HR2 : Hid (IsRd B w2 r (q + 2)) := hr2
  have HX2 : Hid (Box w2 G (.string s0) (.slice none 0 0) (.bool false) (.string ⟨#[]⟩)) := by
    rw [← hG]
    exact Box.grown (heap_new w1 _) hg2 (by intro e; have := Option.some.inj e; omega)
  have HG2 : Hid (w.grownBy w2 (some r)) := grown_trans HG1.out (grown_trans (grown_alloc _ _ _) hg2)
  have hw2 : G < w2.heap.size := by have := hg2.size; simp at this; omega
  clear hr2 hg2 hs0
  clear hG hw1 HG1 HR1
  go_wp2
  go_loopw [4] (fun i wr => ∃ (k : Nat) (L : List ByteArray) (a0 : Option Addr) (cap : Nat), k ≤ 2 ∧ i = .int .i64 (k : Int) ∧ L.length + k ≤ 2 ∧ Hid (sumS L ≤ 6 * L.length) ∧ Hid (Box wr G (.string s0) (.slice a0 L.length cap) (.bool false) (.string ⟨#[]⟩)) ∧ Hid (Owns wr (G + 1) (.slice a0 L.length cap) L) ∧ Hid (IsRd B wr r (q + 4 - k)) ∧ Hid (w.grownBy wr (some r)) ∧ G + 1 ≤ wr.heap.size) (fun i _ => (intOf i).toNat)
  case atStart => exact ⟨n0, [], none, 0, by omega, rfl, by simp; omega, by show _ ≤ _; simp [sumS], HX2, Owns.nil _ _, HR2.out.mono (by omega), HG2, by omega⟩
  case round =>
    obtain ⟨k, L, a0, cap, hk, rfl, hLk, HL, HX, HO, HR, HG, hwr⟩ := hrel
    have hx := HX.out
    obtain ⟨⟨c0, c1, c2, c3⟩, fz⟩ := hx.cells
    clear hx
    by_cases hlt : 0 < k
    · go_wp2_with fail
      have c1d : wr.drew.cell? ⟨G, 1, none⟩ = some (.slice a0 L.length cap) := c1
      have c1a : ∀ o, (wr.alloc o).cell? ⟨G, 1, none⟩ = some (.slice a0 L.length cap) := fun o => (HX.out.grown (grown_alloc wr o none) (by simp)).cells.1.2.1
      have c1ad : ∀ o, (wr.alloc o).drew.cell? ⟨G, 1, none⟩ = some (.slice a0 L.length cap) := fun o => c1a o
      have c1da : ∀ o, (wr.drew.alloc o).cell? ⟨G, 1, none⟩ = some (.slice a0 L.length cap) := fun o => c1a o
      go_region_law
        (first
        | (go_simp
           go_at_call 34
           refine (of_newD B r (q + 4 - k) 4 _ (fun s => decide (s.size ≤ 6)) wr HR.out (by omega) (by decide) (by decide) (by decide) (by decide)).mono ?_
           rintro e w3 ⟨t, rfl, ht, hr3, hg3⟩
           have ht6 : t.size ≤ 6 := of_decide_eq_true ht
           have HX3 : Hid (Box w3 G (.string s0) (.slice a0 L.length cap) (.bool false) (.string ⟨#[]⟩)) := HX.out.grown hg3 (by intro e; have := Option.some.inj e; omega)
           have HO3 : Hid (Owns w3 (G + 1) (.slice a0 L.length cap) L) := Owns.kept HO.out hg3 (by omega)
           have HR3 : Hid (IsRd B w3 r (q + 4 - k + 1)) := hr3
           have HG3 : Hid (w.grownBy w3 (some r)) := grown_trans HG.out hg3
           have hw3 : G + 1 ≤ w3.heap.size := Nat.le_trans hwr hg3.size
           have cw : w3.cell? ⟨G, 1, none⟩ = some (.slice a0 L.length cap) := HX3.out.cells.1.2.1
           have c3d : w3.drew.cell? ⟨G, 1, none⟩ = some (.slice a0 L.length cap) := cw
           have c3a : ∀ o, (w3.alloc o).cell? ⟨G, 1, none⟩ = some (.slice a0 L.length cap) := fun o => (HX3.out.grown (grown_alloc w3 o none) (by simp)).cells.1.2.1
           have c3ad : ∀ o, (w3.alloc o).drew.cell? ⟨G, 1, none⟩ = some (.slice a0 L.length cap) := fun o => c3a o
           have c3da : ∀ o, (w3.drew.alloc o).cell? ⟨G, 1, none⟩ = some (.slice a0 L.length cap) := fun o => c3a o
           clear ht hr3 hg3
           dsimp only)
        | (refine step_app rfl (.tmp 18) (.tmp 22) 23 rfl (G + 1) 9 i0 (.string ⟨#[]⟩) 1 16 Tryd.underlying23 hi hz0 hz1 hz2 rfl (by decide) (.slice a0 L.length cap) L.length (cellsS L) rfl (Owns.heapEq (Owns.keep HO3.out (alloc_keep w3 _)) rfl) (some ⟨w3.heap.size, 0, none⟩) 1 1 [.string t] rfl (by intro e; cases e) rfl (by intro ad e; cases e; exact cell_one_new w3 _ _) (by intro u hu; simp at hu; subst hu; rfl) (by unfold maxLen; omega) (by omega) (by simp; omega) ?_
           intro v4 w4 hO4 hg4
           obtain ⟨a4, c4, hv4, hS4⟩ := (Owns.append hO4).strs
           subst hv4
           have HO4 : Hid (Owns w4 (G + 1) (.slice a4 (L ++ [t]).length c4) (L ++ [t])) := Owns.append hO4
           have HX4 : Hid (Box w4 G (.string s0) (.slice a0 L.length cap) (.bool false) (.string ⟨#[]⟩)) := ((HX3.out.grown (grown_alloc w3 _ none) (by simp)).heapEq rfl).grown hg4 (own_ne HO3.out (by omega))
           have cw4 : w4.cell? ⟨G, 1, none⟩ = some (.slice a0 L.length cap) := HX4.out.cells.1.2.1
           have fz4 : ∀ j, w4.frozen? ⟨G, j, none⟩ = false := HX4.out.cells.2
           have hgA : w3.grownBy w4 (Value.slice a0 L.length cap).ownBlock := (by refine grown_trans ?_ hg4; exact ⟨rfl, rfl, rfl, by simp, fun k hk _ => Below.heap_alloc w3 _ k hk⟩)
           have HR4 : Hid (IsRd B w4 r (q + 4 - k + 1)) := HR3.out.grownRow (base := G + 1) hgA (by omega) (Owns.block HO3.out)
           have HG4 : Hid (w.grownBy w4 (some r)) := grown_past HG3.out hgA (fun k hk => by have := Owns.block HO3.out k hk; omega)
           have hw4 : G + 1 ≤ w4.heap.size := Nat.le_trans hw3 hgA.size
           clear hO4 hS4 hg4 hgA)
        | fail)
      all_goals (
        go_wp2
        go_roundw
        case rel =>
          refine ⟨k - 1, L ++ [t], a4, c4, by omega, by go_num, by rw [len_snoc]; omega, ?_, ?_, ?_, ?_, ?_, by simp [World.setCell]; omega⟩
          · show _ ≤ _
            rw [sum_snoc, len_snoc]; have := HL.out; omega
          · rw [len_snoc]; exact HX4.out.set1 _
          · exact ownsRow_setCell_below HO4.out (by dsimp only; omega) _
          · exact (HR4.out.grownRow (base := G) (grown_set 1 _) (by omega) (fun k hk => by have := Option.some.inj hk; omega)).mono (by omega)
          · exact grown_past HG4.out (grown_set 1 _) (fun k hk => by have := Option.some.inj hk; omega)
        case measure => simp [intOf]; omega)
    · have hk0 : k = 0 := by omega
      subst hk0
      go_wp2_with fail
      refine (pick_any B r (q + 4) 8 _ HR.out (by omega) (by omega) (by omega)).mono ?_
      rintro e w5 ⟨y, rfl, hy, hr5, hg5⟩
      have HX5 : Hid (Box w5 G (.string s0) (.slice a0 L.length cap) (.bool false) (.string ⟨#[]⟩)) := HX.out.grown hg5 (by intro e; have := Option.some.inj e; omega)
      have HO5 : Hid (Owns w5 (G + 1) (.slice a0 L.length cap) L) := Owns.kept HO.out hg5 (by omega)
      have HR5 : Hid (IsRd B w5 r (q + 5)) := hr5
      have HG5 : Hid (w.grownBy w5 (some r)) := grown_trans HG.out hg5
      have hw5 : G + 1 ≤ w5.heap.size := Nat.le_trans hwr hg5.size
      clear hr5 hg5 c0 c1 c2 c3 fz
      have hx5 := HX5.out
      obtain ⟨⟨c0, c1, c2, c3⟩, fz⟩ := hx5.cells
      clear hx5
      by_cases hy0 : y = 0
      · subst hy0
        have HX6 : Hid (Box (w5.setCell ⟨G, 2, none⟩ (.bool true)) G (.string s0) (.slice a0 L.length cap) (.bool true) (.string ⟨#[]⟩)) := HX5.out.set2 _
        have HO6 : Hid (Owns (w5.setCell ⟨G, 2, none⟩ (.bool true)) (G + 1) (.slice a0 L.length cap) L) := ownsRow_setCell_below HO5.out (by dsimp only; omega) _
        have HR6 : Hid (IsRd B (w5.setCell ⟨G, 2, none⟩ (.bool true)) r (q + 5)) := HR5.out.grownRow (base := G) (grown_set 2 _) (by omega) (fun k hk => by have := Option.some.inj hk; omega)
        have HG6 : Hid (w.grownBy (w5.setCell ⟨G, 2, none⟩ (.bool true)) (some r)) := grown_past HG5.out (grown_set 2 _) (fun k hk => by have := Option.some.inj hk; omega)
        have hw6 : (w5.setCell ⟨G, 2, none⟩ (.bool true)).heap.size = w5.heap.size := by simp [World.setCell]
        have HW6 : Hid _ := hw6
        clear hw6
        go_wp2_with fail
        refine (of_newG B r (q + 5) 3 _ _ (fun s => decide (s.size ≤ 6)) _ HW6.out HR6.out (by omega) (by decide) (by decide) (by decide) (by decide)).mono ?_
        rintro e w7 ⟨t, rfl, ht, hr7, hg7⟩
        have ht6 : t.size ≤ 6 := of_decide_eq_true ht
        have HX7 : Hid (Box w7 G (.string s0) (.slice a0 L.length cap) (.bool true) (.string ⟨#[]⟩)) := HX6.out.grown hg7 (by intro e; have := Option.some.inj e; omega)
        have HO7 : Hid (Owns w7 (G + 1) (.slice a0 L.length cap) L) := Owns.kept HO6.out hg7 (by omega)
        have HR7 : Hid (IsRd B w7 r (q + 6)) := hr7
        have HG7 : Hid (w.grownBy w7 (some r)) := grown_trans HG6.out hg7
        have hw7 : G + 1 ≤ w7.heap.size := by have := hg7.size; have := HW6.out; omega
        clear hr7 hg7 ht c0 c1 c2 c3 fz HX6 HO6 HR6 HG6
        have hx7 := HX7.out
        obtain ⟨⟨c0, c1, c2, c3⟩, fz⟩ := hx7.cells
        clear hx7
        go_wp2_with fail
        refine (specAddrText_any ⟨s0, L, true, t⟩ a0 cap _ (Owns.strsOf (ownsRow_setCell_below HO7.out (by dsimp only; omega) _ : Owns _ (G + 1) _ L)) (by show s0.size + sumS L + L.length + t.size ≤ _; have := HL.out; omega)).mono ?_
        rintro e w8 ⟨rfl, hb8⟩
        go_wp2
        go_ret
        refine ⟨_, rfl, textF_size _, IsRd.below (HR7.out.grownRow (base := G) (grown_set 3 _) (by omega) (fun k hk => by have := Option.some.inj hk; omega)) hb8, ?_⟩
        exact ⟨grown_past (grown_past HG7.out (grown_set 3 _) (fun k hk => by have := Option.some.inj hk; omega)) (grown_of_below none hb8) (fun k hk => by cases hk), _, rfl⟩
      · have hy1 : ((y : Int) == 0) = false := by simp; omega
        go_wp2_with fail
        refine (specAddrText_any ⟨s0, L, false, ⟨#[]⟩⟩ a0 cap _ (Owns.strsOf HO5.out) (by show s0.size + sumS L + L.length + 0 ≤ _; have := HL.out; omega)).mono ?_
        rintro e w6 ⟨rfl, hb6⟩
        go_wp2
        go_ret
        exact ⟨_, rfl, textF_size _, (HR5.out.below hb6).mono (by omega), grown_past HG5.out (grown_of_below none hb6) (fun k hk => by cases hk), _, rfl⟩
end Go.Proofs.YtlamhiidpbehnaaDoor.Dr
