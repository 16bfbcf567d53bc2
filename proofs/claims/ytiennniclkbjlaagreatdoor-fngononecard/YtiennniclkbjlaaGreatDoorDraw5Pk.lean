/- Several texts in one: Draw5, Draw6, Draw7, ReadBack, Two, Draw8, Draw9, ReadLaws, Door, JoinMath, Impl5, Page1, Page5. -/
import Derived.Test.YtiennniclkbjlaaGreatDoorStrsPk
import Derived.Test.YtiennniclkbjlaaGreatDoorAddr1Pk
import Derived.Test.YtiennniclkbjlaaGreatDoorRead3Pk
import Derived.Test.YtiennniclkbjlaaGreatDoorStep
import Derived.Test.YtiennniclkbjlaaGreatDoorDrawG
import Derived.Deep.RegionHeld3
import Derived.Shelf.Vars
import Derived.Test.YtiennniclkbjlaaGreatDoorPageMath
import Derived.Test.YtiennniclkbjlaaGreatDoorEscLeafPk
/- An address is drawn: its text. -/
namespace Go.Proofs.YtiennniclkbjlaaGreatDoor.Dr
open Go.RowKit Go.Proofs.YtiennniclkbjlaaGreatDoor.St Go.Proofs.YtiennniclkbjlaaGreatDoor.AddrM Go.Proofs.YtiennniclkbjlaaGreatDoor.EscL Go.Proofs.YtiennniclkbjlaaGreatDoor.Ad1

theorem textF_size (A : Ad) : (textF A).size ≤ 60 := by
  unfold textF
  cases h : okB A with
  | false => show (0 : Nat) ≤ 60; omega
  | true =>
    unfold okB at h
    simp only [Bool.and_eq_true, decide_eq_true_eq] at h
    show (textL A).toArray.size ≤ 60
    simpa using h.2
theorem pathF_size (A : Ad) : (pathF A).size ≤ 60 := by
  unfold pathF
  cases h : okB A with
  | false => show (0 : Nat) ≤ 60; omega
  | true =>
    unfold okB at h
    simp only [Bool.and_eq_true, decide_eq_true_eq] at h
    have h2 := h.2
    unfold textL at h2
    simp only [List.length_cons, List.length_append] at h2
    show (pathL A).toArray.size ≤ 60
    simp; omega

theorem houses_any (w : World) : Calls Tryz.prog 95 #[] w fun e w' => e = .returned (.slice (some ⟨w.heap.size, 0, none⟩) 4 4) ∧ w' = w.alloc (.cells #[.string ⟨#[97, 98]⟩, .string ⟨#[99, 100]⟩, .string ⟨#[101]⟩, .string ⟨#[102, 111, 120]⟩] 9) := by
  go_enter Tryz.func95, Tryz.ntmps95
  go_wp2
  go_ret
  exact ⟨rfl, rfl⟩

/-- a struct of an address lies in a block -/
def Box (w : World) (G : Nat) (x0 x1 x2 x3 : Value) : Prop :=
  w.heap[G]? = some (.cells #[x0, x1, x2, x3] 97 (0, 0))
theorem Box.cells {w : World} {G : Nat} {x0 x1 x2 x3 : Value} (h : Box w G x0 x1 x2 x3) : (w.cell? ⟨G, 0, none⟩ = some x0 ∧ w.cell? ⟨G, 1, none⟩ = some x1 ∧ w.cell? ⟨G, 2, none⟩ = some x2 ∧ w.cell? ⟨G, 3, none⟩ = some x3) ∧ ∀ j, w.frozen? ⟨G, j, none⟩ = false := by
  unfold Box at h
  refine ⟨⟨?_, ?_, ?_, ?_⟩, fun j => ?_⟩
  · simp [World.cell?, h]
  · simp [World.cell?, h]
  · simp [World.cell?, h]
  · simp [World.cell?, h]
  · simp [World.frozen?, h]
theorem Box.lt {w : World} {G : Nat} {x0 x1 x2 x3 : Value} (h : Box w G x0 x1 x2 x3) : G < w.heap.size := (Array.getElem?_eq_some_iff.1 h).1
theorem Box.grown {w w' : World} {G : Nat} {x0 x1 x2 x3 : Value} {row : Option Nat} (h : Box w G x0 x1 x2 x3) (hg : w.grownBy w' row) (hr : row ≠ some G) : Box w' G x0 x1 x2 x3 := by
  unfold Box
  rw [hg.block G h.lt (fun e => hr e.symm)]; exact h
theorem Box.set1 {w : World} {G : Nat} {x0 x1 x2 x3 : Value} (h : Box w G x0 x1 x2 x3) (y : Value) : Box (w.setCell ⟨G, 1, none⟩ y) G x0 y x2 x3 := by
  unfold Box at h ⊢
  simp only [World.setCell, Array.getElem?_modify, if_true, h, Option.map_some]
  simp [Array.setIfInBounds]
theorem Box.set0 {w : World} {G : Nat} {x0 x1 x2 x3 : Value} (h : Box w G x0 x1 x2 x3) (y : Value) : Box (w.setCell ⟨G, 0, none⟩ y) G y x1 x2 x3 := by
  unfold Box at h ⊢
  simp only [World.setCell, Array.getElem?_modify, if_true, h, Option.map_some]
  simp [Array.setIfInBounds]
theorem Box.set2 {w : World} {G : Nat} {x0 x1 x2 x3 : Value} (h : Box w G x0 x1 x2 x3) (y : Value) : Box (w.setCell ⟨G, 2, none⟩ y) G x0 x1 y x3 := by
  unfold Box at h ⊢
  simp only [World.setCell, Array.getElem?_modify, if_true, h, Option.map_some]
  simp [Array.setIfInBounds]
theorem Box.set3 {w : World} {G : Nat} {x0 x1 x2 x3 : Value} (h : Box w G x0 x1 x2 x3) (y : Value) : Box (w.setCell ⟨G, 3, none⟩ y) G x0 x1 x2 y := by
  unfold Box at h ⊢
  simp only [World.setCell, Array.getElem?_modify, if_true, h, Option.map_some]
  simp [Array.setIfInBounds]
theorem Box.heapEq {w w' : World} {G : Nat} {x0 x1 x2 x3 : Value} (h : Box w G x0 x1 x2 x3) (e : w'.heap = w.heap) : Box w' G x0 x1 x2 x3 := by unfold Box; rw [e]; exact h

theorem sum_snoc (L : List ByteArray) (t : ByteArray) : sumS (L ++ [t]) = sumS L + t.size := by rw [ReadM.sumS_append]; simp [sumS]

theorem join_le : ∀ L : List ByteArray, (joinL L).length ≤ sumS L + L.length := by
  intro L
  induction L with
  | nil => simp [joinL, sumS]
  | cons y L ih =>
    have : y.data.toList.length = y.size := by simp
    rcases L with _ | ⟨z, L⟩
    · simp [joinL, sumS]
    · simp only [joinL, sumS, List.length_append, List.length_cons] at ih ⊢
      omega
theorem text_small (s0 t : ByteArray) (L : List ByteArray) (b : Bool) (h0 : s0.size ≤ 5) (h1 : L.length ≤ 2) (h2 : sumS L ≤ 12) (h3 : t.size ≤ 6) : (textF ⟨s0, L, b, t⟩).size ≤ 30 := by
  unfold textF
  split
  · show (textL ⟨s0, L, b, t⟩).toArray.size ≤ 30
    have hj := join_le L
    have e0 : s0.data.toList.length = s0.size := by simp
    have e1 : t.data.toList.length = t.size := by simp
    simp only [List.size_toArray]
    unfold textL pathL
    simp only [List.length_cons, List.length_append]
    cases b <;> simp <;> omega
  · show (0 : Nat) ≤ 30; omega

set_option maxRecDepth 100000 in
set_option maxHeartbeats 1600000 in
theorem addr_small (B r q : Nat) (w : World) (h : IsRd B w r q) (hq : q ≤ 10000) :
    Calls Tryz.prog 81 #[.pointer (some ⟨r, 0, none⟩)] w fun e w' => ∃ s, e = .returned (.string s) ∧ s.size ≤ 60 ∧ IsRd B w' r (q + 6) ∧ w.grownBy w' (some r) ∧ (∃ A, s = textF A) ∧ s.size ≤ 30 := by
  obtain ⟨i0, hi, hz0, hz1, hz2⟩ := info_parts Tryz.infoS
  have hle := h.le
  have HR0 : Hid (IsRd B w r q) := h
  clear h
  go_enter Tryz.func81, Tryz.ntmps81
  go_wp2_with fail
  refine (houses_any w).mono ?_
  rintro e w0 ⟨rfl, rfl⟩
  go_wp2_with fail
  refine (pick_any B r q 4 _ (HR0.out.alloc _) (by omega) (by omega) (by omega)).mono ?_
  rintro e w1 ⟨x, rfl, hx, hr1, hg1⟩
  obtain ⟨s0, hs0, hp0⟩ := lit_cell (x := x) (P := fun s => decide (s.size ≤ 5)) (heap_new w _) (by decide) hg1 (by omega) (by simp; omega)
  have hz5 : s0.size ≤ 5 := of_decide_eq_true hp0
  have hg01 : w.grownBy w1 (some r) := grown_trans (grown_alloc _ _ _) hg1
  have HG1 : Hid _ := hg01
  have HR1 : Hid (IsRd B w1 r (q + 1)) := hr1
  have hw1 : w.heap.size < w1.heap.size := by have := hg1.size; simp at this; omega
  clear hp0 hg1 hg01 hr1
  obtain ⟨G, hG⟩ : ∃ G, w1.heap.size = G := ⟨_, rfl⟩
  have hwG : w.heap.size < G := by omega
  go_wp2_with fail
  refine (pick_any B r (q + 1) 3 _ (HR1.out.alloc _) (by omega) (by omega) (by omega)).mono ?_
  rintro e w2 ⟨n0, rfl, hn0, hr2, hg2⟩
  have HR2 : Hid (IsRd B w2 r (q + 2)) := hr2
  have HX2 : Hid (Box w2 G (.string s0) (.slice none 0 0) (.bool false) (.string ⟨#[]⟩)) := by
    rw [← hG]
    exact Box.grown (heap_new w1 _) hg2 (by intro e; have := Option.some.inj e; omega)
  have HG2 : Hid (w.grownBy w2 (some r)) := grown_trans HG1.out (grown_trans (grown_alloc _ _ _) hg2)
  have hw2 : G < w2.heap.size := by have := hg2.size; simp at this; omega
  clear hr2 hg2 hs0
  clear hG hw1 HG1 HR1
  go_wp2
  go_loopw [4] (fun i wr => ∃ (k : Nat) (L : List ByteArray) (a0 : Option Addr) (cap : Nat), k ≤ 2 ∧ i = .int .i64 (k : Int) ∧ L.length + k ≤ 2 ∧ Hid (sumS L ≤ 6 * L.length) ∧ Hid (Box wr G (.string s0) (.slice a0 L.length cap) (.bool false) (.string ⟨#[]⟩)) ∧ Hid (Owns wr (G + 1) (.slice a0 L.length cap) L) ∧ Hid (IsRd B wr r (q + 4 - k)) ∧ Hid (w.grownBy wr (some r)) ∧ G + 1 ≤ wr.heap.size) (fun i _ => (intOf i).toNat)
  case atStart => exact ⟨n0, [], none, 0, by omega, rfl, by simp; omega, by show _ ≤ _; simp [sumS], HX2, Owns.nil _ _, HR2.out.mono (by omega), HG2, by omega⟩
  case round =>
    obtain ⟨k, L, a0, cap, hk, rfl, hLk, HL, HX, HO, HR, HG, hwr⟩ := hrel
    have hx := HX.out
    obtain ⟨⟨c0, c1, c2, c3⟩, fz⟩ := hx.cells
    clear hx
    by_cases hlt : 0 < k
    · go_wp2_with fail
      have c1d : wr.drew.cell? ⟨G, 1, none⟩ = some (.slice a0 L.length cap) := c1
      have c1a : ∀ o, (wr.alloc o).cell? ⟨G, 1, none⟩ = some (.slice a0 L.length cap) := fun o => (HX.out.grown (grown_alloc wr o none) (by simp)).cells.1.2.1
      have c1ad : ∀ o, (wr.alloc o).drew.cell? ⟨G, 1, none⟩ = some (.slice a0 L.length cap) := fun o => c1a o
      have c1da : ∀ o, (wr.drew.alloc o).cell? ⟨G, 1, none⟩ = some (.slice a0 L.length cap) := fun o => c1a o
      go_region_law
        (first
        | (go_simp
           go_at_call 56
           refine (of_newD B r (q + 4 - k) 4 _ (fun s => decide (s.size ≤ 6)) wr HR.out (by omega) (by decide) (by decide) (by decide) (by decide)).mono ?_
           rintro e w3 ⟨t, rfl, ht, hr3, hg3⟩
           have ht6 : t.size ≤ 6 := of_decide_eq_true ht
           have HX3 : Hid (Box w3 G (.string s0) (.slice a0 L.length cap) (.bool false) (.string ⟨#[]⟩)) := HX.out.grown hg3 (by intro e; have := Option.some.inj e; omega)
           have HO3 : Hid (Owns w3 (G + 1) (.slice a0 L.length cap) L) := Owns.kept HO.out hg3 (by omega)
           have HR3 : Hid (IsRd B w3 r (q + 4 - k + 1)) := hr3
           have HG3 : Hid (w.grownBy w3 (some r)) := grown_trans HG.out hg3
           have hw3 : G + 1 ≤ w3.heap.size := Nat.le_trans hwr hg3.size
           have cw : w3.cell? ⟨G, 1, none⟩ = some (.slice a0 L.length cap) := HX3.out.cells.1.2.1
           have c3d : w3.drew.cell? ⟨G, 1, none⟩ = some (.slice a0 L.length cap) := cw
           have c3a : ∀ o, (w3.alloc o).cell? ⟨G, 1, none⟩ = some (.slice a0 L.length cap) := fun o => (HX3.out.grown (grown_alloc w3 o none) (by simp)).cells.1.2.1
           have c3ad : ∀ o, (w3.alloc o).drew.cell? ⟨G, 1, none⟩ = some (.slice a0 L.length cap) := fun o => c3a o
           have c3da : ∀ o, (w3.drew.alloc o).cell? ⟨G, 1, none⟩ = some (.slice a0 L.length cap) := fun o => c3a o
           clear ht hr3 hg3
           dsimp only)
        | (refine step_app rfl (.tmp 18) (.tmp 22) 23 rfl (G + 1) 9 i0 (.string ⟨#[]⟩) 1 16 Tryz.underlying23 hi hz0 hz1 hz2 rfl (by decide) (.slice a0 L.length cap) L.length (cellsS L) rfl (Owns.heapEq (Owns.keep HO3.out (alloc_keep w3 _)) rfl) (some ⟨w3.heap.size, 0, none⟩) 1 1 [.string t] rfl (by intro e; cases e) rfl (by intro ad e; cases e; exact cell_one_new w3 _ _) (by intro u hu; simp at hu; subst hu; rfl) (by unfold maxLen; omega) (by omega) (by simp; omega) ?_
           intro v4 w4 hO4 hg4
           obtain ⟨a4, c4, hv4, hS4⟩ := (Owns.append hO4).strs
           subst hv4
           have HO4 : Hid (Owns w4 (G + 1) (.slice a4 (L ++ [t]).length c4) (L ++ [t])) := Owns.append hO4
           have HX4 : Hid (Box w4 G (.string s0) (.slice a0 L.length cap) (.bool false) (.string ⟨#[]⟩)) := ((HX3.out.grown (grown_alloc w3 _ none) (by simp)).heapEq rfl).grown hg4 (own_ne HO3.out (by omega))
           have cw4 : w4.cell? ⟨G, 1, none⟩ = some (.slice a0 L.length cap) := HX4.out.cells.1.2.1
           have fz4 : ∀ j, w4.frozen? ⟨G, j, none⟩ = false := HX4.out.cells.2
           have hgA : w3.grownBy w4 (Value.slice a0 L.length cap).ownBlock := (by refine grown_trans ?_ hg4; exact ⟨rfl, rfl, rfl, by simp, fun k hk _ => Below.heap_alloc w3 _ k hk⟩)
           have HR4 : Hid (IsRd B w4 r (q + 4 - k + 1)) := HR3.out.grownRow (base := G + 1) hgA (by omega) (Owns.block HO3.out)
           have HG4 : Hid (w.grownBy w4 (some r)) := grown_past HG3.out hgA (fun k hk => by have := Owns.block HO3.out k hk; omega)
           have hw4 : G + 1 ≤ w4.heap.size := Nat.le_trans hw3 hgA.size
           clear hO4 hS4 hg4 hgA)
        | fail)
      all_goals (
        go_wp2
        go_roundw
        case rel =>
          refine ⟨k - 1, L ++ [t], a4, c4, by omega, by go_num, by rw [len_snoc]; omega, ?_, ?_, ?_, ?_, ?_, by simp [World.setCell]; omega⟩
          · show _ ≤ _
            rw [sum_snoc, len_snoc]; have := HL.out; omega
          · rw [len_snoc]; exact HX4.out.set1 _
          · exact ownsRow_setCell_below HO4.out (by dsimp only; omega) _
          · exact (HR4.out.grownRow (base := G) (grown_set 1 _) (by omega) (fun k hk => by have := Option.some.inj hk; omega)).mono (by omega)
          · exact grown_past HG4.out (grown_set 1 _) (fun k hk => by have := Option.some.inj hk; omega)
        case measure => simp [intOf]; omega)
    · have hk0 : k = 0 := by omega
      subst hk0
      go_wp2_with fail
      refine (pick_any B r (q + 4) 8 _ HR.out (by omega) (by omega) (by omega)).mono ?_
      rintro e w5 ⟨y, rfl, hy, hr5, hg5⟩
      have HX5 : Hid (Box w5 G (.string s0) (.slice a0 L.length cap) (.bool false) (.string ⟨#[]⟩)) := HX.out.grown hg5 (by intro e; have := Option.some.inj e; omega)
      have HO5 : Hid (Owns w5 (G + 1) (.slice a0 L.length cap) L) := Owns.kept HO.out hg5 (by omega)
      have HR5 : Hid (IsRd B w5 r (q + 5)) := hr5
      have HG5 : Hid (w.grownBy w5 (some r)) := grown_trans HG.out hg5
      have hw5 : G + 1 ≤ w5.heap.size := Nat.le_trans hwr hg5.size
      clear hr5 hg5 c0 c1 c2 c3 fz
      have hx5 := HX5.out
      obtain ⟨⟨c0, c1, c2, c3⟩, fz⟩ := hx5.cells
      clear hx5
      by_cases hy0 : y = 0
      · subst hy0
        have HX6 : Hid (Box (w5.setCell ⟨G, 2, none⟩ (.bool true)) G (.string s0) (.slice a0 L.length cap) (.bool true) (.string ⟨#[]⟩)) := HX5.out.set2 _
        have HO6 : Hid (Owns (w5.setCell ⟨G, 2, none⟩ (.bool true)) (G + 1) (.slice a0 L.length cap) L) := ownsRow_setCell_below HO5.out (by dsimp only; omega) _
        have HR6 : Hid (IsRd B (w5.setCell ⟨G, 2, none⟩ (.bool true)) r (q + 5)) := HR5.out.grownRow (base := G) (grown_set 2 _) (by omega) (fun k hk => by have := Option.some.inj hk; omega)
        have HG6 : Hid (w.grownBy (w5.setCell ⟨G, 2, none⟩ (.bool true)) (some r)) := grown_past HG5.out (grown_set 2 _) (fun k hk => by have := Option.some.inj hk; omega)
        have hw6 : (w5.setCell ⟨G, 2, none⟩ (.bool true)).heap.size = w5.heap.size := by simp [World.setCell]
        have HW6 : Hid _ := hw6
        clear hw6
        go_wp2_with fail
        refine (of_newG B r (q + 5) 3 _ _ (fun s => decide (s.size ≤ 6)) _ HW6.out HR6.out (by omega) (by decide) (by decide) (by decide) (by decide)).mono ?_
        rintro e w7 ⟨t, rfl, ht, hr7, hg7⟩
        have ht6 : t.size ≤ 6 := of_decide_eq_true ht
        have HX7 : Hid (Box w7 G (.string s0) (.slice a0 L.length cap) (.bool true) (.string ⟨#[]⟩)) := HX6.out.grown hg7 (by intro e; have := Option.some.inj e; omega)
        have HO7 : Hid (Owns w7 (G + 1) (.slice a0 L.length cap) L) := Owns.kept HO6.out hg7 (by omega)
        have HR7 : Hid (IsRd B w7 r (q + 6)) := hr7
        have HG7 : Hid (w.grownBy w7 (some r)) := grown_trans HG6.out hg7
        have hw7 : G + 1 ≤ w7.heap.size := by have := hg7.size; have := HW6.out; omega
        clear hr7 hg7 ht c0 c1 c2 c3 fz HX6 HO6 HR6 HG6
        have hx7 := HX7.out
        obtain ⟨⟨c0, c1, c2, c3⟩, fz⟩ := hx7.cells
        clear hx7
        go_wp2_with fail
        refine (specAddrText_any ⟨s0, L, true, t⟩ a0 cap _ (Owns.strsOf (ownsRow_setCell_below HO7.out (by dsimp only; omega) _ : Owns _ (G + 1) _ L)) (by show s0.size + sumS L + L.length + t.size ≤ _; have := HL.out; omega)).mono ?_
        rintro e w8 ⟨rfl, hb8⟩
        go_wp2
        go_ret
        refine ⟨_, rfl, textF_size _, IsRd.below (HR7.out.grownRow (base := G) (grown_set 3 _) (by omega) (fun k hk => by have := Option.some.inj hk; omega)) hb8, ?_⟩
        exact ⟨grown_past (grown_past HG7.out (grown_set 3 _) (fun k hk => by have := Option.some.inj hk; omega)) (grown_of_below none hb8) (fun k hk => by cases hk), ⟨_, rfl⟩, text_small _ _ _ _ hz5 (by omega) (by have := HL.out; omega) ht6⟩
      · have hy1 : ((y : Int) == 0) = false := by simp; omega
        go_wp2_with fail
        refine (specAddrText_any ⟨s0, L, false, ⟨#[]⟩⟩ a0 cap _ (Owns.strsOf HO5.out) (by show s0.size + sumS L + L.length + 0 ≤ _; have := HL.out; omega)).mono ?_
        rintro e w6 ⟨rfl, hb6⟩
        go_wp2
        go_ret
        exact ⟨_, rfl, textF_size _, (HR5.out.below hb6).mono (by omega), grown_past HG5.out (grown_of_below none hb6) (fun k hk => by cases hk), ⟨_, rfl⟩, text_small _ _ _ _ hz5 (by omega) (by have := HL.out; omega) (by decide)⟩
theorem addr_any (B r q : Nat) (w : World) (h : IsRd B w r q) (hq : q ≤ 10000) :
    Calls Tryz.prog 81 #[.pointer (some ⟨r, 0, none⟩)] w fun e w' => ∃ s, e = .returned (.string s) ∧ s.size ≤ 60 ∧ IsRd B w' r (q + 6) ∧ w.grownBy w' (some r) ∧ ∃ A, s = textF A :=
  (addr_small B r q w h hq).mono fun _ _ ⟨s, e, h1, h2, h3, h4, _⟩ => ⟨s, e, h1, h2, h3, h4⟩
end Go.Proofs.YtiennniclkbjlaaGreatDoor.Dr
/- An address is drawn: as a struct, some spoilt. -/
namespace Go.Proofs.YtiennniclkbjlaaGreatDoor.Dr
open Go.RowKit Go.Proofs.YtiennniclkbjlaaGreatDoor.St Go.Proofs.YtiennniclkbjlaaGreatDoor.AddrM Go.Proofs.YtiennniclkbjlaaGreatDoor.EscL Go.Proofs.YtiennniclkbjlaaGreatDoor.Ad1 Go.Proofs.YtiennniclkbjlaaGreatDoor.ReadM Go.Proofs.YtiennniclkbjlaaGreatDoor.Rd1

theorem sum_join : ∀ L : List ByteArray, sumS L ≤ (joinL L).length := by
  intro L
  induction L with
  | nil => simp [sumS]
  | cons y L ih =>
    have : y.data.toList.length = y.size := by simp
    rcases L with _ | ⟨z, L⟩
    · simp [joinL, sumS]
    · simp only [joinL, sumS, List.length_append, List.length_cons] at ih ⊢
      omega
theorem ok_parts {A : Ad} (h : okB A = true) : houseB A.house = true ∧ A.parts.length ≤ 5 ∧ A.parts.all partB = true ∧ (A.asks || A.ask.toList.isEmpty) = true ∧ normB A.ask = true ∧ (textL A).length ≤ 60 := by
  unfold okB at h
  simp only [Bool.and_eq_true, decide_eq_true_eq] at h
  exact ⟨h.1.1.1.1.1, h.1.1.1.1.2, h.1.1.1.2, h.1.1.2, h.1.2, h.2⟩
theorem ok_bulk {A : Ad} (h : okB A = true) : bulkA A ≤ 70 := by
  obtain ⟨_, h2, _, h4, _, h6⟩ := ok_parts h
  have hj := sum_join A.parts
  have hh : A.house.data.toList.length = A.house.size := by simp
  have ha : A.ask.data.toList.length = A.ask.size := by simp
  unfold bulkA
  unfold textL pathL at h6
  simp only [List.length_cons, List.length_append] at h6
  cases hq : A.asks with
  | true => rw [hq] at h6; simp only [if_true, List.length_cons] at h6; omega
  | false =>
    rw [hq] at h4 h6
    simp only [Bool.false_or] at h4
    rw [ByteArray.toList_eq] at h4
    have h0 : A.ask.data.toList.length = 0 := by rw [List.isEmpty_iff.1 h4]; rfl
    omega
theorem way_ok {house : ByteArray} {frm : List ByteArray} {way : ByteArray} {A : Ad} (h : wayF house frm way = some A) : okB A = true := by
  unfold wayF at h
  split at h
  · cases h
  · split at h
    · split at h
      · rename_i hk; cases h; exact hk
      · cases h
    · cases h
theorem read_ok {l : List UInt8} {A : Ad} (h : readF l = some A) : okB A = true := by
  unfold readF at h
  split at h
  · cases h
  · split at h
    · exact way_ok h
    · cases h
theorem reads_bulk {l : List UInt8} {A : Ad} {ok : Bool} (h : (ok = true ∧ readF l = some A) ∨ (ok = false ∧ readF l = none ∧ A = zeroAd)) : bulkA A ≤ 70 := by
  rcases h with ⟨_, h⟩ | ⟨_, _, rfl⟩
  · exact ok_bulk (read_ok h)
  · decide

/-- what is drawn -/
def Drawn (B r q : Nat) (w : World) (e : Ending) (w' : World) : Prop :=
  ∃ (A : Ad) (a1 : Option Addr) (c1 : Nat), e = .returned (.agg #[.string A.house, .slice a1 A.parts.length c1, .bool A.asks, .string A.ask]) ∧ Owns w' w.heap.size (.slice a1 A.parts.length c1) A.parts ∧ bulkA A ≤ 1000 ∧ IsRd B w' r q ∧ w.grownBy w' (some r)

theorem own_not_box {w : World} {base G : Nat} {v : Value} {L : List ByteArray} {x0 x1 x2 x3 : Value} (h : Owns w base v L) (hx : Box w G x0 x1 x2 x3) : v.ownBlock ≠ some G := by
  obtain ⟨_, ⟨rfl, _⟩ | ⟨g, cap, cur, rfl, _, hc, _⟩⟩ := h
  · intro e; simp [Value.ownBlock] at e
  · intro e
    have e' : g = G := by simpa [Value.ownBlock] using e
    subst e'
    unfold Box at hx
    rw [hc] at hx
    injection hx with hx
    injection hx with _ h2 _
    exact absurd h2 (by decide)
theorem Owns.setBox {w : World} {base G j : Nat} {v y : Value} {L : List ByteArray} {x0 x1 x2 x3 : Value} (h : Owns w base v L) (hx : Box w G x0 x1 x2 x3) : Owns (w.setCell ⟨G, j, none⟩ y) base v L := by
  have hne := own_not_box h hx
  refine World.ownsRow.kept h (grown_set j y) ?_
  cases hv : v.ownBlock with
  | none => exact Or.inl rfl
  | some g => right; rw [hv] at hne; exact hne
theorem drawn_end {B r q b0 : Nat} {w W : World} {A : Ad} {a1 : Option Addr} {c1 : Nat} (x0 x1 x2 x3 : Value) (hO : Owns W b0 (.slice a1 A.parts.length c1) A.parts) (hk : bulkA A ≤ 1000) (hR : IsRd B W r q) (hG : w.grownBy W (some r)) (hb : w.heap.size < b0) (hr : r < w.heap.size) :
    Drawn B r q w (.returned (.agg #[.string A.house, .slice a1 A.parts.length c1, .bool A.asks, .string A.ask])) ((((W.setCell ⟨w.heap.size, 0, none⟩ x0).setCell ⟨w.heap.size, 1, none⟩ x1).setCell ⟨w.heap.size, 2, none⟩ x2).setCell ⟨w.heap.size, 3, none⟩ x3) := by
  refine ⟨A, a1, c1, rfl, ?_, hk, ?_, ?_⟩
  · refine Owns.mono (?_ : Owns _ b0 _ _) (by omega)
    iterate 4 refine ownsRow_setCell_below ?_ (by dsimp only; omega) _
    exact hO
  · iterate 4 refine IsRd.grownRow (base := w.heap.size) ?_ (grown_set _ _) hr (fun k hk => by have := Option.some.inj hk; omega)
    exact hR
  · iterate 4 refine grown_past ?_ (grown_set _ _) (fun k hk => by have := Option.some.inj hk; omega)
    exact hG
theorem bulk_house {A : Ad} {t : ByteArray} (h : bulkA A ≤ 70) (ht : t.size ≤ 10) : bulkA ⟨t, A.parts, A.asks, A.ask⟩ ≤ 1000 := by unfold bulkA at *; dsimp only; omega
theorem bulk_ask {A : Ad} {t : ByteArray} (h : bulkA A ≤ 70) (ht : t.size ≤ 10) : bulkA ⟨A.house, A.parts, A.asks, t⟩ ≤ 1000 := by unfold bulkA at *; dsimp only; omega
theorem bulk_more {A : Ad} {M : List ByteArray} (h : bulkA A ≤ 70) (ht : sumS M + M.length ≤ 100) : bulkA ⟨A.house, A.parts ++ M, A.asks, A.ask⟩ ≤ 1000 := by
  unfold bulkA at *; dsimp only; rw [sumS_append, List.length_append]; omega

theorem cells_new (w : World) (C : Array Value) (t : TypeId) : ∀ j u, C.toList[j]? = some u → (w.alloc (.cells C t)).cell? ((⟨w.heap.size, 0, none⟩ : Addr).add j) = some u := by
  intro j u hj
  rw [add_mk]
  have hb := heap_new w (.cells C t)
  have : C[j]? = some u := by rw [← Array.getElem?_toList]; exact hj
  unfold World.cell?
  dsimp only
  rw [hb]; simpa using this
def fiveS : List ByteArray := [⟨#[97]⟩, ⟨#[98]⟩, ⟨#[99]⟩, ⟨#[97]⟩, ⟨#[98]⟩]

end Go.Proofs.YtiennniclkbjlaaGreatDoor.Dr
/- The drawn addresses of the laws. -/
namespace Go.Proofs.YtiennniclkbjlaaGreatDoor.Dr
open Go.RowKit Go.Proofs.YtiennniclkbjlaaGreatDoor.St Go.Proofs.YtiennniclkbjlaaGreatDoor.AddrM Go.Proofs.YtiennniclkbjlaaGreatDoor.EscL Go.Proofs.YtiennniclkbjlaaGreatDoor.Ad1 Go.Proofs.YtiennniclkbjlaaGreatDoor.ReadM Go.Proofs.YtiennniclkbjlaaGreatDoor.Rd1

/-- an address that is drawn of a code -/
def DrawnA (w : World) (e : Ending) (w' : World) : Prop :=
  ∃ (A : Ad) (a1 : Option Addr) (c1 : Nat), e = .returned (.agg #[.string A.house, .slice a1 A.parts.length c1, .bool A.asks, .string A.ask]) ∧ Owns w' w.heap.size (.slice a1 A.parts.length c1) A.parts ∧ bulkA A ≤ 1000 ∧ Below w.heap.size w w'

end Go.Proofs.YtiennniclkbjlaaGreatDoor.Dr
/- An ok address is read back from its text: plain mathematics. -/
namespace Go.Proofs.YtiennniclkbjlaaGreatDoor.RB
open Go.Proofs.YtiennniclkbjlaaGreatDoor.EscM Go.Proofs.YtiennniclkbjlaaGreatDoor.EscL Go.Proofs.YtiennniclkbjlaaGreatDoor.AddrM Go.Proofs.YtiennniclkbjlaaGreatDoor.ReadM Go.Proofs.YtiennniclkbjlaaGreatDoor.PathM Go.Proofs.YtiennniclkbjlaaGreatDoor.Rd1

/-- bytes that stand in what is written in one way -/
def tame (b : UInt8) : Prop := (b.toNat : Int) ≠ 47 ∧ (b.toNat : Int) ≠ 63 ∧ (b.toNat : Int) ≠ 35 ∧ b.toNat < 128 ∧ b.toNat ≠ 10
theorem tame_plain {b : UInt8} (h : plainZ b.toNat = true) : tame b := by
  unfold plainZ at h
  have := of_decide_eq_true h
  refine ⟨?_, ?_, ?_, ?_, ?_⟩ <;> omega
theorem tame_hex {b : UInt8} (h : ¬ hexZ b.toNat < 0) : tame b := by
  unfold hexZ at h
  split at h
  · refine ⟨?_, ?_, ?_, ?_, ?_⟩ <;> omega
  · split at h
    · refine ⟨?_, ?_, ?_, ?_, ?_⟩ <;> omega
    · split at h
      · refine ⟨?_, ?_, ?_, ?_, ?_⟩ <;> omega
      · omega
theorem tame_norm : ∀ (n : Nat) (L : List UInt8), L.length ≤ n → escN L = some L → ∀ b ∈ L, tame b := by
  intro n
  induction n with
  | zero => intro L hL _ b hb; have : L = [] := List.eq_nil_of_length_eq_zero (by omega); subst this; cases hb
  | succ n ih =>
    intro L hL h b hb
    cases L with
    | nil => cases hb
    | cons c r =>
      rcases written_step h c r rfl with ⟨h1, h2, h3⟩ | ⟨h1, x, y, r', h2, h3⟩
      · rcases List.mem_cons.1 hb with rfl | hb
        · exact tame_plain h2
        · exact ih r (by simpa using hL) h3 b hb
      · subst h1 h2
        have hxy : ¬ (hexZ x.toNat < 0 ∨ hexZ y.toNat < 0) := by
          intro hh
          simp only [escN, if_true, if_pos hh] at h
          cases h
        rcases List.mem_cons.1 hb with rfl | hb
        · unfold tame; decide
        · rcases List.mem_cons.1 hb with rfl | hb
          · exact tame_hex (fun e => hxy (Or.inl e))
          · rcases List.mem_cons.1 hb with rfl | hb
            · exact tame_hex (fun e => hxy (Or.inr e))
            · exact ih r' (by simp at hL; omega) h3 b hb
theorem norm_fix {s : ByteArray} (h : normB s = true) : escB s = true ∧ escS s = s ∧ escN s.data.toList = some s.data.toList := by
  unfold normB at h
  simp only [Bool.and_eq_true] at h
  have he : escS s = s := by
    have := h.2
    rw [ByteArray.toList_eq, ByteArray.toList_eq] at this
    apply ByteArray.ext
    apply Array.toList_inj.1
    exact eq_of_beq this
  obtain ⟨_, x, hx, hs⟩ := escB_true h.1
  refine ⟨h.1, he, ?_⟩
  rw [hx]
  rw [he] at hs
  rw [hs]
theorem norm_tame {s : ByteArray} (h : normB s = true) : ∀ b ∈ s.data.toList, tame b := tame_norm _ _ (Nat.le_refl _) (norm_fix h).2.2

theorem split_one (c : Int) : ∀ l : List UInt8, (∀ b ∈ l, (b.toNat : Int) ≠ c) → splitL c l = [l] := by
  intro l
  induction l with
  | nil => intro _; rfl
  | cons b r ih =>
    intro h
    rw [split_cons, if_neg (h b (by simp)), ih (fun x hx => h x (by simp [hx]))]; rfl
theorem split_app (c : Int) (d : UInt8) (hd : (d.toNat : Int) = c) : ∀ (l r : List UInt8), (∀ b ∈ l, (b.toNat : Int) ≠ c) → splitL c (l ++ d :: r) = l :: splitL c r := by
  intro l
  induction l with
  | nil => intro r _; rw [List.nil_append, split_cons, if_pos hd]
  | cons b l ih =>
    intro r h
    rw [List.cons_append, split_cons, if_neg (h b (by simp)), ih r (fun x hx => h x (by simp [hx]))]; rfl
theorem cut_app (c : Int) (d : UInt8) (hd : (d.toNat : Int) = c) : ∀ (l r : List UInt8), (∀ b ∈ l, (b.toNat : Int) ≠ c) → cutL c (l ++ d :: r) = (l, r, true) := by
  intro l
  induction l with
  | nil => intro r _; rw [List.nil_append, cut_cons, if_pos hd]
  | cons b l ih =>
    intro r h
    rw [List.cons_append, cut_cons, if_neg (h b (by simp)), ih r (fun x hx => h x (by simp [hx]))]
theorem cut_no (c : Int) : ∀ l : List UInt8, (∀ b ∈ l, (b.toNat : Int) ≠ c) → cutL c l = (l, [], false) := fun l h => cut_none c l (fun _ hi => h _ (List.getElem_mem hi))

theorem join_split : ∀ L : List ByteArray, L ≠ [] → (∀ p ∈ L, ∀ b ∈ p.data.toList, tame b) → splitL 47 (joinL L) = L.map (·.data.toList) := by
  intro L
  induction L with
  | nil => intro h; exact absurd rfl h
  | cons x r ih =>
    intro _ h
    cases r with
    | nil => simp only [joinL, List.map_cons, List.map_nil]; exact split_one _ _ (fun b hb => (h x (by simp) b hb).1)
    | cons y r =>
      simp only [joinL]
      rw [split_app 47 47 rfl _ _ (fun b hb => (h x (by simp) b hb).1), ih (by simp) (fun p hp => h p (by simp [hp]))]; rfl
theorem join_mem : ∀ (L : List ByteArray) (c : Int), c ≠ 47 → (∀ p ∈ L, ∀ b ∈ p.data.toList, (b.toNat : Int) ≠ c) → ∀ b ∈ joinL L, (b.toNat : Int) ≠ c := by
  intro L c hc
  induction L with
  | nil => intro _ b hb; cases hb
  | cons x r ih =>
    intro h b hb
    cases r with
    | nil => simp only [joinL] at hb; exact h x (by simp) b hb
    | cons y r =>
      simp only [joinL] at hb
      rcases List.mem_append.1 hb with hb | hb
      · exact h x (by simp) b hb
      · rcases List.mem_cons.1 hb with rfl | hb
        · intro e; exact hc (by rw [← e]; rfl)
        · exact ih (fun p hp => h p (by simp [hp])) b hb

theorem part_norm' {s : ByteArray} (h : partB s = true) : normB s = true ∧ good s := by
  unfold partB at h
  simp only [Bool.and_eq_true, Bool.not_eq_true'] at h
  exact ⟨h.2, h.1.1.1, h.1.1.2, h.1.2⟩
theorem parts_tame {A : Ad} (h : okB A = true) : ∀ p ∈ A.parts, ∀ b ∈ p.data.toList, tame b := by
  intro p hp
  exact norm_tame (part_norm' (List.all_eq_true.1 (Dr.ok_parts h).2.2.1 p hp)).1
theorem ask_none {A : Ad} (h : okB A = true) (hq : A.asks = false) : A.ask = ⟨#[]⟩ := by
  have := (Dr.ok_parts h).2.2.2.1
  rw [hq, Bool.false_or, ByteArray.toList_eq] at this
  apply ByteArray.ext
  apply Array.toList_inj.1
  rw [List.isEmpty_iff.1 this]
/-- a way, cut at what is asked -/
theorem cut_path {A : Ad} (h : okB A = true) : cutL 63 (pathL A) = (47 :: joinL A.parts, A.ask.data.toList, A.asks) := by
  have hj : ∀ b ∈ 47 :: joinL A.parts, (b.toNat : Int) ≠ 63 := by
    intro b hb
    rcases List.mem_cons.1 hb with rfl | hb
    · decide
    · exact join_mem A.parts 63 (by decide) (fun p hp b hb => (parts_tame h p hp b hb).2.1) b hb
  unfold pathL
  cases hq : A.asks with
  | true =>
    have := cut_app 63 63 rfl (47 :: joinL A.parts) A.ask.data.toList hj
    simpa using this
  | false =>
    have := cut_no 63 (47 :: joinL A.parts) hj
    rw [ask_none h hq]
    simpa using this
/-- the parts, as a way is split -/
theorem split_path {A : Ad} (h : okB A = true) : splitS 47 (bs (47 :: joinL A.parts)) = if A.parts = [] then [⟨#[]⟩, ⟨#[]⟩] else ⟨#[]⟩ :: A.parts := by
  unfold splitS
  rw [bs_list, split_cons, if_pos (by rfl)]
  by_cases hp : A.parts = []
  · rw [if_pos hp, hp]; rfl
  · rw [if_neg hp, join_split _ hp (parts_tame h), List.map_cons, List.map_map]
    congr 1
    conv => rhs; rw [← List.map_id A.parts]
    apply List.map_congr_left
    intro p _
    show bs p.data.toList = p
    exact bs_data p
theorem clean_nones {L : List ByteArray} (h : L.all partB = true) : cleanL (⟨#[]⟩ :: L) = L := by
  have hg : ∀ (L acc : List ByteArray), (∀ s ∈ L, good s) → L.foldl cleanStep acc = acc ++ L := by
    intro L
    induction L with
    | nil => intro acc _; simp
    | cons x r ih =>
      intro acc h
      rw [List.foldl_cons, step_good _ _ (h x (by simp)), ih _ (fun s hs => h s (by simp [hs]))]; simp
  unfold cleanL
  rw [List.foldl_cons, do_none, hg _ _ (fun s hs => (part_norm' (List.all_eq_true.1 h s hs)).2)]; simp
/-- AN OK ADDRESS IS READ BACK FROM ITS WAY -/
theorem way_back {A : Ad} (h : okB A = true) : wayF A.house [] (bs (pathL A)) = some A := by
  obtain ⟨_, _, h3, _, h5, _⟩ := Dr.ok_parts h
  have hn : normS (splitS 47 (bs (47 :: joinL A.parts))) = some (splitS 47 (bs (47 :: joinL A.parts))) := by
    rw [split_path h]
    have he : ∀ x ∈ (if A.parts = [] then [⟨#[]⟩, ⟨#[]⟩] else ⟨#[]⟩ :: A.parts : List ByteArray), escB x = true ∧ escS x = x := by
      intro x hx
      split at hx
      · simp at hx; subst hx; exact ⟨esc_empty.2, esc_empty.1⟩
      · rcases List.mem_cons.1 hx with rfl | hx
        · exact ⟨esc_empty.2, esc_empty.1⟩
        · have := norm_fix (part_norm' (List.all_eq_true.1 h3 x hx)).1
          exact ⟨this.1, this.2.1⟩
    rw [normS_all (fun x hx => (he x hx).1)]
    congr 1
    conv => rhs; rw [← List.map_id (if A.parts = [] then [⟨#[]⟩, ⟨#[]⟩] else ⟨#[]⟩ :: A.parts : List ByteArray)]
    apply List.map_congr_left
    intro x hx
    exact (he x hx).2
  have hc : cleanL ([] ++ splitS 47 (bs (47 :: joinL A.parts))) = A.parts := by
    rw [List.nil_append, split_path h]
    split
    · rename_i hp; rw [hp]; unfold cleanL; rw [List.foldl_cons, do_none, List.foldl_cons, do_none]; rfl
    · exact clean_nones h3
  have ha := norm_fix h5
  unfold wayF
  rw [bs_list, cut_path h]
  dsimp only
  rw [hn]
  dsimp only
  rw [bs_data, ha.1, ha.2.1, hc]
  simp only [if_true]
  have e : (⟨A.house, A.parts, A.asks, A.ask⟩ : Ad) = A := rfl
  rw [e, h]; rfl
theorem path_inj {A B : Ad} (hA : okB A = true) (hB : okB B = true) (h : pathL A = pathL B) : A.parts = B.parts ∧ A.asks = B.asks ∧ A.ask = B.ask := by
  have ca := way_back hA
  have e1 : wayF A.house [] (bs (pathL B)) = some A := by rw [← h]; exact ca
  have cb := cut_path hB
  have ca2 := cut_path hA
  rw [h, cb] at ca2
  injection ca2 with e2 e3
  injection e3 with e3 e4
  have hs := split_path hA
  have hs2 := split_path hB
  rw [← e2, hs2] at hs
  have hask : A.ask = B.ask := by
    apply ByteArray.ext; apply Array.toList_inj.1; exact e3.symm
  refine ⟨?_, e4.symm, hask⟩
  have cl := clean_nones (Dr.ok_parts hA).2.2.1
  have cl2 := clean_nones (Dr.ok_parts hB).2.2.1
  by_cases ha : A.parts = []
  · by_cases hb : B.parts = []
    · rw [ha, hb]
    · rw [if_pos ha, if_neg hb] at hs
      injection hs with _ hs
      have := (part_norm' (List.all_eq_true.1 (Dr.ok_parts hB).2.2.1 ⟨#[]⟩ (by rw [hs]; simp))).2.1
      simp [ByteArray.toList_eq] at this
  · by_cases hb : B.parts = []
    · rw [if_neg ha, if_pos hb] at hs
      injection hs with _ hs
      have := (part_norm' (List.all_eq_true.1 (Dr.ok_parts hA).2.2.1 ⟨#[]⟩ (by rw [← hs]; simp))).2.1
      simp [ByteArray.toList_eq] at this
    · rw [if_neg ha, if_neg hb] at hs
      injection hs with _ hs
      exact hs.symm
theorem house_letters {A : Ad} (h : okB A = true) : ∀ b ∈ A.house.data.toList, 97 ≤ (b.toNat : Int) ∧ (b.toNat : Int) ≤ 122 := by
  have := (Dr.ok_parts h).1
  unfold houseB smallB at this
  simp only [Bool.and_eq_true] at this
  intro b hb
  exact of_decide_eq_true (List.all_eq_true.1 this.2 b hb)
/-- bytes of a text -/
theorem text_all {A : Ad} (h : okB A = true) : ∀ b ∈ textL A, (b.toNat : Int) ≠ 35 ∧ b.toNat < 128 ∧ b.toNat ≠ 10 := by
  have hj : ∀ b ∈ joinL A.parts, (b.toNat : Int) ≠ 35 ∧ b.toNat < 128 ∧ b.toNat ≠ 10 := by
    have : ∀ L : List ByteArray, (∀ p ∈ L, ∀ b ∈ p.data.toList, tame b) → ∀ b ∈ joinL L, (b.toNat : Int) ≠ 35 ∧ b.toNat < 128 ∧ b.toNat ≠ 10 := by
      intro L
      induction L with
      | nil => intro _ b hb; cases hb
      | cons x r ih =>
        intro ht b hb
        cases r with
        | nil => simp only [joinL] at hb; exact (ht x (by simp) b hb).2.2
        | cons y r =>
          simp only [joinL] at hb
          rcases List.mem_append.1 hb with hb | hb
          · exact (ht x (by simp) b hb).2.2
          · rcases List.mem_cons.1 hb with rfl | hb
            · decide
            · exact ih (fun p hp => ht p (by simp [hp])) b hb
    exact this _ (parts_tame h)
  intro b hb
  unfold textL pathL at hb
  rcases List.mem_cons.1 hb with rfl | hb
  · decide
  rcases List.mem_cons.1 hb with rfl | hb
  · decide
  rcases List.mem_append.1 hb with hb | hb
  · have := house_letters h b hb
    omega
  rcases List.mem_cons.1 hb with rfl | hb
  · decide
  rcases List.mem_append.1 hb with hb | hb
  · exact hj b hb
  · split at hb
    · rcases List.mem_cons.1 hb with rfl | hb
      · decide
      · exact (norm_tame (Dr.ok_parts h).2.2.2.2.1 b hb).2.2
    · cases hb
theorem text_bytes {A : Ad} (h : okB A = true) : ∀ b ∈ textL A, (b.toNat : Int) ≠ 35 ∧ b.toNat < 128 := fun b hb => ⟨(text_all h b hb).1, (text_all h b hb).2.1⟩
theorem while_app {l r : List UInt8} (h : ∀ b ∈ l, goesOn b = true) : (l ++ 47 :: r).takeWhile goesOn = l ∧ (l ++ 47 :: r).dropWhile goesOn = 47 :: r := by
  induction l with
  | nil => exact ⟨rfl, rfl⟩
  | cons b l ih =>
    have h0 := h b (by simp)
    have := ih (fun x hx => h x (by simp [hx]))
    simp [h0, this.1, this.2]
theorem small_same {l : List UInt8} (h : ∀ b ∈ l, 97 ≤ (b.toNat : Int)) : smallL l = l := by
  unfold smallL
  conv => rhs; rw [← List.map_id l]
  apply List.map_congr_left
  intro b hb
  have := h b hb
  unfold smallZ
  rw [if_neg (by omega)]
  exact toB_inv b
/-- AN OK ADDRESS IS READ BACK FROM ITS TEXT -/
theorem read_back {A : Ad} (h : okB A = true) : readF (textL A) = some A := by
  have h60 := (Dr.ok_parts h).2.2.2.2.2
  have hc := cut_no 35 (textL A) (fun b hb => (text_bytes h b hb).1)
  unfold readF
  rw [if_neg (by omega), hc]
  have e1 : (textL A).take 2 = [47, 47] := rfl
  have e2 : (textL A).drop 2 = A.house.data.toList ++ pathL A := rfl
  dsimp only
  rw [if_pos e1, e2]
  have hp : pathL A = 47 :: (joinL A.parts ++ if A.asks then 63 :: A.ask.data.toList else []) := rfl
  have hw := while_app (l := A.house.data.toList) (r := joinL A.parts ++ if A.asks then 63 :: A.ask.data.toList else []) (fun b hb => by
    have := house_letters h b hb
    unfold goesOn
    have h1 : ((b.toNat : Int) == 47) = false := by simp; omega
    have h2 : ((b.toNat : Int) == 63) = false := by simp; omega
    rw [h1, h2]; rfl)
  rw [← hp] at hw
  unfold wholeF
  rw [hw.1, hw.2, small_same (fun b hb => (house_letters h b hb).1), bs_data]
  exact way_back h
end Go.Proofs.YtiennniclkbjlaaGreatDoor.RB
/- Two drawn addresses beside each other; are they the same? -/
namespace Go.Proofs.YtiennniclkbjlaaGreatDoor.Tw
open Go.RowKit Go.Proofs.YtiennniclkbjlaaGreatDoor.St Go.Proofs.YtiennniclkbjlaaGreatDoor.AddrM Go.Proofs.YtiennniclkbjlaaGreatDoor.EscL Go.Proofs.YtiennniclkbjlaaGreatDoor.Ad1 Go.Proofs.YtiennniclkbjlaaGreatDoor.Dr

def sameB (A B : Ad) : Bool := (A.house.toList == B.house.toList) && (A.asks == B.asks) && (A.ask.toList == B.ask.toList) && decide (A.parts = B.parts)
theorem same_iff (A B : Ad) : sameB A B = true ↔ A = B := by
  unfold sameB
  rw [str_eq_iff, str_eq_iff]
  simp only [Bool.and_eq_true, decide_eq_true_eq, beq_iff_eq]
  obtain ⟨h, p, q, k⟩ := A
  obtain ⟨h', p', q', k'⟩ := B
  simp only [Ad.mk.injEq]
  constructor
  · rintro ⟨⟨⟨a, b⟩, c⟩, d⟩; exact ⟨a, d, b, c⟩
  · rintro ⟨a, d, b, c⟩; exact ⟨⟨⟨a, b⟩, c⟩, d⟩

/-- two addresses in their blocks -/
structure Two (w wr : World) (G1 G2 : Nat) (A B : Ad) (a1 : Option Addr) (c1 : Nat) (b1 : Option Addr) (d1 : Nat) : Prop where
  box1 : Box wr G1 (.string A.house) (.slice a1 A.parts.length c1) (.bool A.asks) (.string A.ask)
  box2 : Box wr G2 (.string B.house) (.slice b1 B.parts.length d1) (.bool B.asks) (.string B.ask)
  own1 : Owns wr w.heap.size (.slice a1 A.parts.length c1) A.parts
  own2 : Owns wr w.heap.size (.slice b1 B.parts.length d1) B.parts
  low : Below w.heap.size w wr
theorem Two.strs1 {w wr : World} {G1 G2 : Nat} {A B : Ad} {a1 : Option Addr} {c1 : Nat} {b1 : Option Addr} {d1 : Nat} (h : Two w wr G1 G2 A B a1 c1 b1 d1) : IsStrs wr a1 c1 A.parts := Owns.strsOf h.own1
theorem Two.strs2 {w wr : World} {G1 G2 : Nat} {A B : Ad} {a1 : Option Addr} {c1 : Nat} {b1 : Option Addr} {d1 : Nat} (h : Two w wr G1 G2 A B a1 c1 b1 d1) : IsStrs wr b1 d1 B.parts := Owns.strsOf h.own2
theorem Two.below {w wr w' : World} {G1 G2 : Nat} {A B : Ad} {a1 : Option Addr} {c1 : Nat} {b1 : Option Addr} {d1 : Nat} (h : Two w wr G1 G2 A B a1 c1 b1 d1) (hb : Below wr.heap.size wr w') : Two w w' G1 G2 A B a1 c1 b1 d1 :=
  ⟨h.box1.grown (grown_of_below none hb) (by simp), h.box2.grown (grown_of_below none hb) (by simp), Owns.below h.own1 hb, Owns.below h.own2 hb, h.low.trans (hb.mono h.low.size)⟩
theorem Two.drew {w wr : World} {G1 G2 : Nat} {A B : Ad} {a1 : Option Addr} {c1 : Nat} {b1 : Option Addr} {d1 : Nat} (h : Two w wr G1 G2 A B a1 c1 b1 d1) : Two w wr.drew G1 G2 A B a1 c1 b1 d1 :=
  ⟨h.box1, h.box2, Dr.Owns.heapEq h.own1 rfl, Dr.Owns.heapEq h.own2 rfl, h.low.drew⟩
theorem Two.cells {w wr : World} {G1 G2 : Nat} {A B : Ad} {a1 : Option Addr} {c1 : Nat} {b1 : Option Addr} {d1 : Nat} (h : Two w wr G1 G2 A B a1 c1 b1 d1) :
    (wr.cell? ⟨G1, 0, none⟩ = some (.string A.house) ∧ wr.cell? ⟨G1, 1, none⟩ = some (.slice a1 A.parts.length c1) ∧ wr.cell? ⟨G1, 2, none⟩ = some (.bool A.asks) ∧ wr.cell? ⟨G1, 3, none⟩ = some (.string A.ask)) ∧
    (wr.cell? ⟨G2, 0, none⟩ = some (.string B.house) ∧ wr.cell? ⟨G2, 1, none⟩ = some (.slice b1 B.parts.length d1) ∧ wr.cell? ⟨G2, 2, none⟩ = some (.bool B.asks) ∧ wr.cell? ⟨G2, 3, none⟩ = some (.string B.ask)) := ⟨h.box1.cells.1, h.box2.cells.1⟩

end Go.Proofs.YtiennniclkbjlaaGreatDoor.Tw
/- What is written of an address is drawn: at most 60 bytes, all ASCII. -/
namespace Go.Proofs.YtiennniclkbjlaaGreatDoor.Dr
open Go.RowKit Go.Proofs.YtiennniclkbjlaaGreatDoor.St Go.Proofs.YtiennniclkbjlaaGreatDoor.AddrM Go.Proofs.YtiennniclkbjlaaGreatDoor.EscL Go.Proofs.YtiennniclkbjlaaGreatDoor.Ad1

def asciiB (s : ByteArray) : Bool := s.data.toList.all fun b => decide (b.toNat < 128 ∧ b.toNat ≠ 10)
theorem asciiB_app {a b : ByteArray} (ha : asciiB a = true) (hb : asciiB b = true) : asciiB (a ++ b) = true := by
  unfold asciiB at *
  rw [data_append, List.all_append, ha, hb]; rfl
theorem asciiB_text (A : Ad) : asciiB (textF A) = true := by
  unfold asciiB
  rw [List.all_eq_true]
  intro b hb
  cases h : okB A with
  | false =>
    have e2 : textF A = ⟨#[]⟩ := by unfold textF; rw [h]; rfl
    rw [e2] at hb; cases hb
  | true =>
    have e2 : textF A = textS A := by unfold textF; rw [h]; rfl
    rw [e2] at hb
    exact decide_eq_true (RB.text_all h b (by simpa [textS] using hb)).2
def fine (s : ByteArray) : Bool := decide (s.size ≤ 20) && asciiB s
theorem fine_parts {s : ByteArray} (h : fine s = true) : s.size ≤ 20 ∧ asciiB s = true := by
  unfold fine at h
  simp only [Bool.and_eq_true, decide_eq_true_eq] at h
  exact h

set_option maxRecDepth 100000 in
set_option maxHeartbeats 3200000 in
theorem ref_small (B r q : Nat) (w : World) (h : IsRd B w r q) (hq : q ≤ 9000) :
    Calls Tryz.prog 122 #[.pointer (some ⟨r, 0, none⟩)] w fun e w' => ∃ s, e = .returned (.string s) ∧ s.size ≤ 32 ∧ asciiB s = true ∧ IsRd B w' r (q + 7) ∧ w.grownBy w' (some r) := by
  have HR0 : Hid (IsRd B w r q) := h
  clear h
  go_enter Tryz.func122, Tryz.ntmps122
  go_wp2_with fail
  refine (pick_any B r q 8 _ HR0.out (by omega) (by omega) (by omega)).mono ?_
  rintro e w1 ⟨y, rfl, hy, hr1, hg1⟩
  have HR1 : Hid (IsRd B w1 r (q + 1)) := hr1
  have HG1 : Hid (w.grownBy w1 (some r)) := hg1
  clear hr1 hg1
  by_cases h0 : y = 0
  · subst h0
    go_wp2_with fail
    refine (addr_small B r (q + 1) _ HR1.out (by omega)).mono ?_
    rintro e w2 ⟨s, rfl, hs, hr2, hg2, ⟨A, hA⟩, hs3⟩
    have HA : Hid (asciiB s = true) := by show _ = _; rw [hA]; exact asciiB_text A
    clear hA
    go_wp2
    go_ret
    exact ⟨s, rfl, by omega, HA.out, hr2.mono (by omega), grown_trans HG1.out hg2⟩
  have e0 : ((y : Int) == 0) = false := by simp; omega
  by_cases h1 : y = 1
  · subst h1
    go_wp2_with fail
    refine (addr_small B r (q + 1) _ HR1.out (by omega)).mono ?_
    rintro e w2 ⟨s, rfl, hs, hr2, hg2, ⟨A, hA⟩, hs3⟩
    have HA : Hid (asciiB s = true) := by show _ = _; rw [hA]; exact asciiB_text A
    clear hA
    go_wp2
    go_ret
    exact ⟨s, rfl, by omega, HA.out, hr2.mono (by omega), grown_trans HG1.out hg2⟩
  have e1 : ((y : Int) == 1) = false := by simp; omega
  by_cases h2 : y = 2
  · subst h2
    go_wp2_with fail
    refine (of_new B r (q + 1) 6 _ fine w1 HR1.out (by omega) (by decide) (by decide) (by decide) (by decide)).mono ?_
    rintro e w2 ⟨t, rfl, ht, hr2, hg2⟩
    have HT : Hid _ := fine_parts ht
    have hts := (fine_parts ht).1
    clear ht
    go_wp2
    go_ret
    refine ⟨_, rfl, ?_, asciiB_app (by decide) HT.out.2, hr2.mono (by omega), grown_trans HG1.out hg2⟩
    rw [ByteArray.size_append]
    have : (⟨#[47]⟩ : ByteArray).size = 1 := rfl
    omega
  have e2 : ((y : Int) == 2) = false := by simp; omega
  by_cases h3 : y = 3
  · subst h3
    go_wp2_with fail
    refine (of_new B r (q + 1) 5 _ fine w1 HR1.out (by omega) (by decide) (by decide) (by decide) (by decide)).mono ?_
    rintro e w2 ⟨t, rfl, ht, hr2, hg2⟩
    have HT : Hid _ := fine_parts ht
    clear ht
    go_wp2
    go_ret
    exact ⟨_, rfl, Nat.le_trans HT.out.1 (by decide), HT.out.2, hr2.mono (by omega), grown_trans HG1.out hg2⟩
  have e3 : ((y : Int) == 3) = false := by simp; omega
  by_cases h4 : y = 4
  · subst h4
    go_wp2_with fail
    refine (of_new B r (q + 1) 6 _ fine w1 HR1.out (by omega) (by decide) (by decide) (by decide) (by decide)).mono ?_
    rintro e w2 ⟨t, rfl, ht, hr2, hg2⟩
    have HT : Hid _ := fine_parts ht
    clear ht
    go_wp2
    go_ret
    exact ⟨_, rfl, Nat.le_trans HT.out.1 (by decide), HT.out.2, hr2.mono (by omega), grown_trans HG1.out hg2⟩
  have e4 : ((y : Int) == 4) = false := by simp; omega
  by_cases h5 : y = 5
  · subst h5
    go_wp2_with fail
    refine (of_new B r (q + 1) 7 _ fine w1 HR1.out (by omega) (by decide) (by decide) (by decide) (by decide)).mono ?_
    rintro e w2 ⟨t, rfl, ht, hr2, hg2⟩
    have HT : Hid _ := fine_parts ht
    clear ht
    go_wp2
    go_ret
    exact ⟨_, rfl, Nat.le_trans HT.out.1 (by decide), HT.out.2, hr2.mono (by omega), grown_trans HG1.out hg2⟩
  · have e5 : ((y : Int) == 5) = false := by simp; omega
    go_wp2_with fail
    refine (of_new B r (q + 1) 4 _ fine w1 HR1.out (by omega) (by decide) (by decide) (by decide) (by decide)).mono ?_
    rintro e w2 ⟨t, rfl, ht, hr2, hg2⟩
    have HT : Hid _ := fine_parts ht
    clear ht
    go_wp2
    go_ret
    exact ⟨_, rfl, Nat.le_trans HT.out.1 (by decide), HT.out.2, hr2.mono (by omega), grown_trans HG1.out hg2⟩
theorem ref_any (B r q : Nat) (w : World) (h : IsRd B w r q) (hq : q ≤ 9000) :
    Calls Tryz.prog 122 #[.pointer (some ⟨r, 0, none⟩)] w fun e w' => ∃ s, e = .returned (.string s) ∧ s.size ≤ 60 ∧ asciiB s = true ∧ IsRd B w' r (q + 7) ∧ w.grownBy w' (some r) :=
  (ref_small B r q w h hq).mono fun _ _ ⟨s, e, h1, h2, h3, h4⟩ => ⟨s, e, Nat.le_trans h1 (by decide), h2, h3, h4⟩
end Go.Proofs.YtiennniclkbjlaaGreatDoor.Dr
/- A text of an address is drawn: at most 60 bytes, all ASCII. -/
namespace Go.Proofs.YtiennniclkbjlaaGreatDoor.Dr
open Go.RowKit Go.Proofs.YtiennniclkbjlaaGreatDoor.St Go.Proofs.YtiennniclkbjlaaGreatDoor.AddrM Go.Proofs.YtiennniclkbjlaaGreatDoor.EscL Go.Proofs.YtiennniclkbjlaaGreatDoor.Ad1

end Go.Proofs.YtiennniclkbjlaaGreatDoor.Dr
/- What holds of readings: plain mathematics. -/
namespace Go.Proofs.YtiennniclkbjlaaGreatDoor.RL
open Go.RowKit Go.Proofs.YtiennniclkbjlaaGreatDoor.EscM Go.Proofs.YtiennniclkbjlaaGreatDoor.AddrM Go.Proofs.YtiennniclkbjlaaGreatDoor.ReadM Go.Proofs.YtiennniclkbjlaaGreatDoor.St Go.Proofs.YtiennniclkbjlaaGreatDoor.EscL Go.Proofs.YtiennniclkbjlaaGreatDoor.PathM Go.Proofs.YtiennniclkbjlaaGreatDoor.Ad1 Go.Proofs.YtiennniclkbjlaaGreatDoor.Rd1 Go.Proofs.YtiennniclkbjlaaGreatDoor.RB

theorem way_ok {h : ByteArray} {f : List ByteArray} {way : ByteArray} {A : Ad} (e : wayF h f way = some A) : okB A = true := by
  unfold wayF at e
  split at e
  · cases e
  · split at e
    · split at e
      · rename_i hk; have := Option.some.inj e; subst this; exact hk
      · cases e
    · cases e
theorem read_ok {l : List UInt8} {A : Ad} (e : readF l = some A) : okB A = true := by
  unfold readF at e
  split at e
  · cases e
  · split at e
    · exact way_ok e
    · cases e
theorem cut_more (c : Int) (d : UInt8) (hd : (d.toNat : Int) = c) : ∀ l r : List UInt8, (cutL c (l ++ d :: r)).1 = (cutL c l).1 := by
  intro l
  induction l with
  | nil => intro r; rw [List.nil_append, cut_cons, if_pos hd]; rfl
  | cons b t ih =>
    intro r
    rw [List.cons_append, cut_cons, cut_cons]
    split
    · rfl
    · simp only [ih]
theorem read_cross (l : List UInt8) (h : l.length + 2 ≤ 60) : readF (l ++ [35, 120]) = readF l := by
  have h1 : ¬ 60 < (l ++ [35, 120]).length := by simp; omega
  have h2 : ¬ 60 < l.length := by omega
  unfold readF
  rw [cut_more 35 35 (by decide) l [120], if_neg h1, if_neg h2]

theorem while_stop {d : UInt8} (hd : goesOn d = false) : ∀ r t : List UInt8, (r ++ d :: t).takeWhile goesOn = r.takeWhile goesOn ∧ (r ++ d :: t).dropWhile goesOn = r.dropWhile goesOn ++ d :: t := by
  intro r
  induction r with
  | nil => intro t; simp [hd]
  | cons b r ih =>
    intro t
    have := ih t
    cases hb : goesOn b with
    | false => simp [hb]
    | true => simp [hb, this.1, this.2]
theorem split_two (c : Int) (d : UInt8) (hd : (d.toNat : Int) = c) : ∀ l r : List UInt8, splitL c (l ++ d :: r) = splitL c l ++ splitL c r := by
  intro l
  induction l with
  | nil => intro r; rw [List.nil_append, split_cons, if_pos hd]; rfl
  | cons b t ih =>
    intro r
    rw [List.cons_append, split_cons, split_cons]
    split
    · rw [ih]; rfl
    · rw [ih]
      cases hs : splitL c t with
      | nil => exact absurd hs (split_ne c t)
      | cons y z => simp
theorem normS_app : ∀ X Y : List ByteArray, normS (X ++ Y) = match normS X, normS Y with
    | some x, some y => some (x ++ y)
    | _, _ => none := by
  intro X
  induction X with
  | nil => intro Y; simp only [List.nil_append, normS]; cases normS Y <;> rfl
  | cons a X ih =>
    intro Y
    simp only [List.cons_append, normS, ih]
    cases escB a with
    | false => simp
    | true => cases normS X <;> cases normS Y <;> simp
theorem bare_cut {c : Int} {l : List UInt8} (h : ∀ b ∈ l, (b.toNat : Int) ≠ c) : cutL c l = (l, [], false) := cut_no c l h

theorem clean_idle (X : List ByteArray) (Y : List ByteArray) (h : ∀ s ∈ Y, ∀ acc, cleanStep acc s = acc) : cleanL (X ++ Y) = cleanL X := by
  unfold cleanL
  rw [List.foldl_append]
  generalize X.foldl cleanStep [] = a
  induction Y generalizing a with
  | nil => rfl
  | cons y Y ih => rw [List.foldl_cons, h y (by simp), ih (fun s hs => h s (by simp [hs]))]
theorem step_none (acc : List ByteArray) : cleanStep acc ⟨#[]⟩ = acc := by
  unfold cleanStep; simp
theorem step_dot (acc : List ByteArray) : cleanStep acc ⟨#[46]⟩ = acc := by
  unfold cleanStep; simp [ByteArray.toList_eq]

theorem way_more {house : ByteArray} {frm : List ByteArray} {d t : List UInt8} (hd : ∀ b ∈ d, (b.toNat : Int) ≠ 63) (ht : ∀ b ∈ t, (b.toNat : Int) ≠ 63) (hn : normS ((splitL 47 t).map bs) = some ((splitL 47 t).map bs)) (hi : ∀ s ∈ (splitL 47 t).map bs, ∀ acc, cleanStep acc s = acc) :
    wayF house frm (bs (d ++ 47 :: t)) = wayF house frm (bs d) := by
  rw [way_cut (bare_cut (c := 63) (l := d ++ 47 :: t) (by
    intro b hb
    rcases List.mem_append.1 hb with hb | hb
    · exact hd b hb
    · rcases List.mem_cons.1 hb with rfl | hb
      · decide
      · exact ht b hb)), way_cut (bare_cut (c := 63) hd)]
  have e : splitS 47 (bs (d ++ 47 :: t)) = splitS 47 (bs d) ++ (splitL 47 t).map bs := by
    unfold splitS
    rw [bs_list, bs_list, split_two 47 47 (by decide), List.map_append]
  rw [e, normS_app, hn]
  cases normS (splitS 47 (bs d)) with
  | none => rfl
  | some ps =>
    simp only
    rw [← List.append_assoc, clean_idle _ _ hi]

theorem read_more {l t : List UInt8} {A : Ad} (h : readF l = some A) (hb : ∀ b ∈ l, (b.toNat : Int) ≠ 63 ∧ (b.toNat : Int) ≠ 35) (hl : l.length + (t.length + 1) ≤ 60) (ht : ∀ b ∈ t, (b.toNat : Int) ≠ 63 ∧ (b.toNat : Int) ≠ 35) (hn : normS ((splitL 47 t).map bs) = some ((splitL 47 t).map bs)) (hi : ∀ s ∈ (splitL 47 t).map bs, ∀ acc, cleanStep acc s = acc) :
    readF (l ++ 47 :: t) = some A := by
  rw [← h]
  unfold readF
  rw [bare_cut (c := 35) (l := l) (fun b hb' => (hb b hb').2), bare_cut (c := 35) (l := l ++ 47 :: t) (by
    intro b hb'
    rcases List.mem_append.1 hb' with hb' | hb'
    · exact (hb b hb').2
    · rcases List.mem_cons.1 hb' with rfl | hb'
      · decide
      · exact (ht b hb').2)]
  have h1 : ¬ 60 < (l ++ 47 :: t).length := by simp; omega
  have h2 : ¬ 60 < l.length := by omega
  rw [if_neg h1, if_neg h2]
  dsimp only
  by_cases h2 : l.take 2 = [47, 47]
  · have hl2 : 2 ≤ l.length := by have := congrArg List.length h2; simp at this; omega
    rw [List.take_append_of_le_length hl2, List.drop_append_of_le_length hl2, if_pos h2, if_pos h2]
    unfold wholeF
    have := while_stop (d := 47) (by decide) (l.drop 2) t
    rw [this.1, this.2]
    exact way_more (fun b hb' => (hb b (List.mem_of_mem_drop ((List.dropWhile_sublist _).subset hb'))).1) (fun b hb' => (ht b hb').1) hn hi
  · exfalso
    unfold readF at h
    rw [bare_cut (c := 35) (l := l) (fun b hb' => (hb b hb').2), if_neg h2] at h
    split at h <;> cases h
theorem read_stroke {l : List UInt8} {A : Ad} (h : readF l = some A) (hb : ∀ b ∈ l, (b.toNat : Int) ≠ 63 ∧ (b.toNat : Int) ≠ 35) (hl : l.length + 4 ≤ 60) : readF (l ++ [47]) = some A :=
  read_more h hb (by simp; omega) (by simp) (by decide) (by intro s hs acc; simp [splitL] at hs; subst hs; exact step_none acc)
theorem read_dot {l : List UInt8} {A : Ad} (h : readF l = some A) (hb : ∀ b ∈ l, (b.toNat : Int) ≠ 63 ∧ (b.toNat : Int) ≠ 35) (hl : l.length + 4 ≤ 60) : readF (l ++ [47, 46, 47]) = some A :=
  read_more (t := [46, 47]) h hb (by simp; omega) (by decide) (by decide) (by
    intro s hs acc
    have : s = ⟨#[46]⟩ ∨ s = ⟨#[]⟩ := by simpa [splitL, bs] using hs
    rcases this with rfl | rfl
    · exact step_dot acc
    · exact step_none acc)

/-- great letters -/
def upZ (n : Int) : Int := if 97 ≤ n ∧ n ≤ 122 then n - 32 else n
def goes3 (b : UInt8) : Bool := !(((b.toNat : Int) == 47) || ((b.toNat : Int) == 63) || ((b.toNat : Int) == 35))
def upL (l : List UInt8) : List UInt8 := l.map fun b => toB (upZ b.toNat)
def greatL (r : List UInt8) : List UInt8 := upL (r.takeWhile goes3) ++ r.dropWhile goes3

theorem toB_nat {n : Int} (h0 : 0 ≤ n) (h1 : n ≤ 255) : ((toB n).toNat : Int) = n := by
  unfold toB
  simp [UInt8.toNat_ofNat']
  omega
theorem up_val (b : UInt8) : ((toB (upZ b.toNat)).toNat : Int) = upZ b.toNat := by
  have hb : b.toNat < 256 := b.toNat_lt
  refine toB_nat ?_ ?_ <;> unfold upZ <;> split <;> omega
theorem up_small (b : UInt8) : smallZ ((toB (upZ b.toNat)).toNat) = smallZ b.toNat := by
  rw [up_val]
  unfold smallZ upZ
  split <;> split <;> (try split) <;> omega
theorem up_goes (b : UInt8) : goes3 (toB (upZ b.toNat)) = goes3 b := by
  unfold goes3
  rw [up_val]
  unfold upZ
  split
  · have h1 : ((b.toNat : Int) == 47) = false := by simp; omega
    have h2 : ((b.toNat : Int) == 63) = false := by simp; omega
    have h3 : ((b.toNat : Int) == 35) = false := by simp; omega
    have g1 : ((b.toNat : Int) - 32 == 47) = false := by simp; omega
    have g2 : ((b.toNat : Int) - 32 == 63) = false := by simp; omega
    have g3 : ((b.toNat : Int) - 32 == 35) = false := by simp; omega
    rw [h1, h2, h3, g1, g2, g3]
  · rfl
theorem goes3_on {b : UInt8} (h : goes3 b = true) : goesOn b = true ∧ (b.toNat : Int) ≠ 35 := by
  unfold goes3 at h
  unfold goesOn
  simp at h ⊢
  omega
theorem small_up (l : List UInt8) : smallL (upL l) = smallL l := by
  unfold smallL upL
  rw [List.map_map]
  refine List.map_congr_left fun b _ => ?_
  show toB (smallZ (toB (upZ b.toNat)).toNat) = _
  rw [up_small]
theorem up_len (l : List UInt8) : (upL l).length = l.length := by simp [upL]
theorem great_len (r : List UInt8) : (greatL r).length = r.length := by
  unfold greatL
  rw [List.length_append, up_len, ← List.length_append, List.takeWhile_append_dropWhile]

theorem cut_pre (c : Int) : ∀ a b : List UInt8, (∀ x ∈ a, (x.toNat : Int) ≠ c) → (cutL c (a ++ b)).1 = a ++ (cutL c b).1 := by
  intro a
  induction a with
  | nil => intro b _; rfl
  | cons x a ih =>
    intro b h
    rw [List.cons_append, cut_cons, if_neg (h x (by simp))]
    simp only [List.cons_append]
    rw [ih b (fun y hy => h y (by simp [hy]))]
/-- what comes first behind the house stops it -/
def stops (l : List UInt8) : Prop := l = [] ∨ ∃ b t, l = b :: t ∧ goesOn b = false
theorem while_pre : ∀ a b : List UInt8, (∀ x ∈ a, goesOn x = true) → stops b → (a ++ b).takeWhile goesOn = a ∧ (a ++ b).dropWhile goesOn = b := by
  intro a
  induction a with
  | nil =>
    intro b _ hb
    rcases hb with rfl | ⟨x, t, rfl, hx⟩
    · exact ⟨rfl, rfl⟩
    · simp [hx]
  | cons x a ih =>
    intro b h hb
    have h0 := h x (by simp)
    have := ih b (fun y hy => h y (by simp [hy])) hb
    simp [h0, this.1, this.2]
theorem mem_while {p : UInt8 → Bool} : ∀ (l : List UInt8), ∀ x ∈ l.takeWhile p, p x = true := by
  intro l
  induction l with
  | nil => intro x hx; cases hx
  | cons b t ih =>
    intro x hx
    cases hb : p b with
    | false => rw [List.takeWhile_cons, hb] at hx; cases hx
    | true =>
      rw [List.takeWhile_cons, hb] at hx
      rcases List.mem_cons.1 hx with rfl | hx
      · exact hb
      · exact ih x hx
theorem drop_stops : ∀ r : List UInt8, stops (cutL 35 (r.dropWhile goes3)).1 := by
  intro r
  induction r with
  | nil => exact Or.inl rfl
  | cons b t ih =>
    rw [List.dropWhile_cons]
    cases hb : goes3 b with
    | true => exact ih
    | false =>
      rw [if_neg (by simp), cut_cons]
      by_cases h : (b.toNat : Int) = 35
      · rw [if_pos h]; exact Or.inl rfl
      · rw [if_neg h]
        refine Or.inr ⟨b, _, rfl, ?_⟩
        unfold goes3 at hb
        unfold goesOn
        simp at hb ⊢
        omega
theorem read_great {r : List UInt8} : readF (47 :: 47 :: greatL r) = readF (47 :: 47 :: r) := by
  have hl := great_len r
  have e0 : ∀ x : List UInt8, (cutL 35 (47 :: 47 :: x)).1 = 47 :: 47 :: (cutL 35 x).1 := by
    intro x
    rw [cut_cons, if_neg (by decide), cut_cons, if_neg (by decide)]
  have e1 : (cutL 35 r).1 = r.takeWhile goes3 ++ (cutL 35 (r.dropWhile goes3)).1 := by
    have := cut_pre 35 (r.takeWhile goes3) (r.dropWhile goes3) (fun x hx => (goes3_on (mem_while r x hx)).2)
    rwa [List.takeWhile_append_dropWhile] at this
  have hup : ∀ x ∈ upL (r.takeWhile goes3), goes3 x = true := by
    intro x hx
    unfold upL at hx
    obtain ⟨b, hb, rfl⟩ := List.mem_map.1 hx
    rw [up_goes]; exact mem_while r b hb
  have e2 : (cutL 35 (greatL r)).1 = upL (r.takeWhile goes3) ++ (cutL 35 (r.dropWhile goes3)).1 :=
    cut_pre 35 _ _ (fun x hx => (goes3_on (hup x hx)).2)
  have hs := drop_stops r
  unfold readF
  simp only [List.length_cons, hl]
  rw [e0, e0, e1, e2]
  split
  · rfl
  · have t : ∀ x : List UInt8, (47 :: 47 :: x : List UInt8).take 2 = [47, 47] := fun x => by simp
    rw [if_pos (t _), if_pos (t _)]
    have d : ∀ x : List UInt8, (47 :: 47 :: x : List UInt8).drop 2 = x := fun x => by simp
    rw [d, d]
    unfold wholeF
    have w1 := while_pre _ _ (fun x hx => (goes3_on (mem_while r x hx)).1) hs
    have w2 := while_pre _ _ (fun x hx => (goes3_on (hup x hx)).1) hs
    rw [w1.1, w1.2, w2.1, w2.2, small_up]
theorem read_two {l : List UInt8} {A : Ad} (h : readF l = some A) : ∃ r, l = 47 :: 47 :: r := by
  unfold readF at h
  split at h
  · cases h
  · split at h
    · rename_i h2
      cases l with
      | nil => simp [cutL] at h2
      | cons a l =>
        rw [cut_cons] at h2
        by_cases ha : (a.toNat : Int) = 35
        · rw [if_pos ha] at h2; simp at h2
        · rw [if_neg ha] at h2
          cases l with
          | nil => simp [cutL] at h2
          | cons b l =>
            rw [cut_cons] at h2
            by_cases hb : (b.toNat : Int) = 35
            · rw [if_pos hb] at h2; simp at h2
            · rw [if_neg hb] at h2
              simp at h2
              exact ⟨l, by rw [h2.1, h2.2]⟩
    · cases h
end Go.Proofs.YtiennniclkbjlaaGreatDoor.RL
/- What the laws over readings share. -/
namespace Go.Proofs.YtiennniclkbjlaaGreatDoor.Door
open Go.RowKit Go.Proofs.YtiennniclkbjlaaGreatDoor.St Go.Proofs.YtiennniclkbjlaaGreatDoor.AddrM Go.Proofs.YtiennniclkbjlaaGreatDoor.ReadM Go.Proofs.YtiennniclkbjlaaGreatDoor.EscL Go.Proofs.YtiennniclkbjlaaGreatDoor.Ad1 Go.Proofs.YtiennniclkbjlaaGreatDoor.Dr Go.Proofs.YtiennniclkbjlaaGreatDoor.Tw Go.Proofs.YtiennniclkbjlaaGreatDoor.RB Go.Proofs.YtiennniclkbjlaaGreatDoor.Im Go.Proofs.YtiennniclkbjlaaGreatDoor.Rd1

theorem mx_of {w : World} (h : w.ShapedOpen Tryz.prog) : Mx w :=
  cell_of_shapedOpen_int (g := 2) (t := 3) (zero := #[.int .i64 0]) (k := .i64) h (of_decide_eq_true (by kernel_rfl)) (by kernel_rfl) rfl (by kernel_rfl) (by kernel_rfl) Tryz.underlying3
theorem ascii_of {s : ByteArray} (h : asciiB s = true) : ascii s := by
  first
  | exact (fun _ => trivial) h
  | (rw [ascii_mem]
     intro b hb
     unfold asciiB at h
     exact (of_decide_eq_true (List.all_eq_true.1 h b hb)).1)
theorem ascii_app {a b : ByteArray} (h : ascii a) (k : ascii b) : ascii (a ++ b) := by
  first
  | exact (fun _ _ => trivial) h k
  | (rw [ascii_mem] at *
     intro x hx
     rw [data_append] at hx
     rcases List.mem_append.1 hx with hx | hx
     · exact h x hx
     · exact k x hx)
theorem text_data {A : Ad} (h : okB A = true) : (textF A).data.toList = textL A := by
  have e2 : textF A = textS A := by unfold textF; rw [h]; rfl
  rw [e2]; simp [textS]
theorem same_self (A : Ad) : sameB A A = true := (same_iff A A).2 rfl
theorem zero_bulk : bulkA zeroAd = 0 := rfl
/-- what a reading says -/
def Ans (R : Option Ad) (A : Ad) (p : Bool) : Prop := (p = true ∧ R = some A) ∨ (p = false ∧ R = none ∧ A = zeroAd)
/-- what two readings of one text say is the same -/
theorem ans_same {R : Option Ad} {A B : Ad} {p q : Bool} (h : (p = true ∧ R = some A) ∨ (p = false ∧ R = none ∧ A = zeroAd)) (k : (q = true ∧ R = some B) ∨ (q = false ∧ R = none ∧ B = zeroAd)) : B = A ∧ q = p := by
  rcases h with ⟨rfl, h⟩ | ⟨rfl, h, rfl⟩ <;> rcases k with ⟨rfl, k⟩ | ⟨rfl, k, rfl⟩
  · rw [h] at k; exact ⟨(Option.some.inj k).symm, rfl⟩
  · rw [h] at k; cases k
  · rw [h] at k; cases k
  · exact ⟨rfl, rfl⟩
theorem ans_yes {R : Option Ad} {A : Ad} {p : Bool} (h : (p = true ∧ R = some A) ∨ (p = false ∧ R = none ∧ A = zeroAd)) (e : p = true) : R = some A := by
  rcases h with ⟨_, h⟩ | ⟨h, _⟩
  · exact h
  · rw [h] at e; cases e
theorem ans_is {R : Option Ad} {A B : Ad} {p : Bool} (h : (p = true ∧ R = some A) ∨ (p = false ∧ R = none ∧ A = zeroAd)) (e : R = some B) : p = true ∧ A = B := by
  rcases h with ⟨h, k⟩ | ⟨_, k, _⟩
  · rw [e] at k; exact ⟨h, (Option.some.inj k).symm⟩
  · rw [e] at k; cases k
/-- an address in its block -/
structure At (w wr : World) (G : Nat) (A : Ad) (a1 : Option Addr) (c1 : Nat) : Prop where
  box : Box wr G (.string A.house) (.slice a1 A.parts.length c1) (.bool A.asks) (.string A.ask)
  own : Owns wr w.heap.size (.slice a1 A.parts.length c1) A.parts
theorem At.below {w wr w' : World} {G : Nat} {A : Ad} {a1 : Option Addr} {c1 : Nat} (h : At w wr G A a1 c1) (hb : Below wr.heap.size wr w') : At w w' G A a1 c1 :=
  ⟨h.box.grown (grown_of_below none hb) (by simp), Owns.below h.own hb⟩
theorem At.strs {w wr : World} {G : Nat} {A : Ad} {a1 : Option Addr} {c1 : Nat} (h : At w wr G A a1 c1) : IsStrs wr a1 c1 A.parts := Owns.strsOf h.own
theorem At.cells {w wr : World} {G : Nat} {A : Ad} {a1 : Option Addr} {c1 : Nat} (h : At w wr G A a1 c1) : wr.cell? ⟨G, 0, none⟩ = some (.string A.house) ∧ wr.cell? ⟨G, 1, none⟩ = some (.slice a1 A.parts.length c1) ∧ wr.cell? ⟨G, 2, none⟩ = some (.bool A.asks) ∧ wr.cell? ⟨G, 3, none⟩ = some (.string A.ask) := h.box.cells.1
theorem At.new {w w' : World} {b : Nat} {A : Ad} {a1 : Option Addr} {c1 : Nat} (hO : Owns w' b (.slice a1 A.parts.length c1) A.parts) (hb : w.heap.size ≤ b) : At w (w'.alloc (.cells #[.string A.house, .slice a1 A.parts.length c1, .bool A.asks, .string A.ask] 97)) w'.heap.size A a1 c1 :=
  ⟨heap_new w' _, Owns.mono (Owns.keep hO (alloc_keep w' _)) hb⟩
theorem Two.at1 {w wr : World} {G1 G2 : Nat} {A B : Ad} {a1 : Option Addr} {c1 : Nat} {b1 : Option Addr} {d1 : Nat} (h : Two w wr G1 G2 A B a1 c1 b1 d1) : At w wr G1 A a1 c1 := ⟨h.box1, h.own1⟩
theorem Two.at2 {w wr : World} {G1 G2 : Nat} {A B : Ad} {a1 : Option Addr} {c1 : Nat} {b1 : Option Addr} {d1 : Nat} (h : Two w wr G1 G2 A B a1 c1 b1 d1) : At w wr G2 B b1 d1 := ⟨h.box2, h.own2⟩
/-- how long what is read can be -/
theorem ok_sum {A : Ad} (h : okB A = true) : A.parts.length ≤ 5 ∧ bulkA A ≤ 1000 := by
  refine ⟨(Dr.ok_parts h).2.1, Nat.le_trans (Dr.ok_bulk h) (by decide)⟩
theorem ans_bulk {l : List UInt8} {A : Ad} {p : Bool} (h : (p = true ∧ readF l = some A) ∨ (p = false ∧ readF l = none ∧ A = zeroAd)) : A.parts.length ≤ 4194304 ∧ bulkA A ≤ 4194304 := by
  rcases h with ⟨_, h⟩ | ⟨_, _, rfl⟩
  · have := ok_sum (RL.read_ok h)
    omega
  · exact ⟨by decide, by decide⟩
theorem bulkA_bd (A : Ad) : A.parts.length ≤ bulkA A := by unfold bulkA; omega
end Go.Proofs.YtiennniclkbjlaaGreatDoor.Door
/- Plain mathematics of joining. -/
namespace Go.Proofs.YtiennniclkbjlaaGreatDoor.JnM
open Go.RowKit Go.Proofs.YtiennniclkbjlaaGreatDoor.EscM Go.Proofs.YtiennniclkbjlaaGreatDoor.AddrM Go.Proofs.YtiennniclkbjlaaGreatDoor.ReadM Go.Proofs.YtiennniclkbjlaaGreatDoor.St Go.Proofs.YtiennniclkbjlaaGreatDoor.EscL Go.Proofs.YtiennniclkbjlaaGreatDoor.PathM Go.Proofs.YtiennniclkbjlaaGreatDoor.Ad1 Go.Proofs.YtiennniclkbjlaaGreatDoor.Rd1 Go.Proofs.YtiennniclkbjlaaGreatDoor.RB

/-- where one comes by a text that has no cross -/
def goF (A : Ad) (l : List UInt8) : Option Ad :=
  if l.take 2 = [47, 47] then wholeF (l.drop 2)
  else if l = [] then some A
  else if l.head? = some 47 then wayF A.house [] (bs l)
  else if l.head? = some 63 then wayF A.house A.parts (bs l)
  else wayF A.house A.parts.dropLast (bs l)
def joinF (A : Ad) (l : List UInt8) : Option Ad := if okB A then if 60 < l.length then none else goF A (cutL 35 l).1 else none

theorem join_bad {A : Ad} {l : List UInt8} (h : okB A = false) : joinF A l = none := by unfold joinF; rw [h]; rfl
theorem join_go {A : Ad} {l : List UInt8} (h : okB A = true) (h2 : ¬ 60 < l.length) : joinF A l = goF A (cutL 35 l).1 := by unfold joinF; rw [h, if_neg h2]; rfl
theorem go_whole {A : Ad} {l : List UInt8} (h : l.take 2 = [47, 47]) : goF A l = wholeF (l.drop 2) := by unfold goF; rw [if_pos h]
theorem go_none {A : Ad} : goF A [] = some A := by unfold goF; simp
theorem go_door {A : Ad} {l : List UInt8} (h : ¬ l.take 2 = [47, 47]) (h1 : l.head? = some 47) : goF A l = wayF A.house [] (bs l) := by
  unfold goF; rw [if_neg h, if_neg (by intro e; rw [e] at h1; cases h1), if_pos h1]
theorem go_ask {A : Ad} {l : List UInt8} (h1 : l.head? = some 63) : goF A l = wayF A.house A.parts (bs l) := by
  unfold goF
  rw [if_neg (by intro e; cases l with | nil => cases h1 | cons a t => cases t with | nil => simp at e | cons b t => simp at e h1; rw [h1] at e; exact absurd e.1 (by decide)), if_neg (by intro e; rw [e] at h1; cases h1), if_neg (by rw [h1]; decide), if_pos h1]
theorem go_beside {A : Ad} {l : List UInt8} (h : ¬ l.take 2 = [47, 47]) (h0 : ¬ l = []) (h1 : ¬ l.head? = some 47) (h2 : ¬ l.head? = some 63) : goF A l = wayF A.house A.parts.dropLast (bs l) := by
  unfold goF; rw [if_neg h, if_neg h0, if_neg h1, if_neg h2]
theorem go_ok {A B : Ad} {l : List UInt8} (hA : okB A = true) (h : goF A l = some B) : okB B = true := by
  unfold goF at h
  split at h
  · exact RL.way_ok h
  · split at h
    · have := Option.some.inj h; subst this; exact hA
    · split at h
      · exact RL.way_ok h
      · split at h
        · exact RL.way_ok h
        · exact RL.way_ok h
theorem join_ok {A B : Ad} {l : List UInt8} (h : joinF A l = some B) : okB B = true := by
  unfold joinF at h
  cases hA : okB A with
  | false => rw [hA] at h; cases h
  | true =>
    rw [hA] at h
    simp only [if_true] at h
    split at h
    · cases h
    · exact go_ok hA h
theorem way_house {h : ByteArray} {f : List ByteArray} {way : ByteArray} {A : Ad} (e : wayF h f way = some A) : A.house = h := by
  unfold wayF at e
  split at e
  · cases e
  · split at e
    · split at e
      · have := Option.some.inj e; subst this; rfl
      · cases e
    · cases e
end Go.Proofs.YtiennniclkbjlaaGreatDoor.JnM
/- The program's AddrJoin, by a text of ASCII bytes. -/
namespace Go.Proofs.YtiennniclkbjlaaGreatDoor.Im
open Go.RowKit Go.Proofs.YtiennniclkbjlaaGreatDoor.EscM Go.Proofs.YtiennniclkbjlaaGreatDoor.AddrM Go.Proofs.YtiennniclkbjlaaGreatDoor.ReadM Go.Proofs.YtiennniclkbjlaaGreatDoor.St Go.Proofs.YtiennniclkbjlaaGreatDoor.EscL Go.Proofs.YtiennniclkbjlaaGreatDoor.PathM Go.Proofs.YtiennniclkbjlaaGreatDoor.Ad1 Go.Proofs.YtiennniclkbjlaaGreatDoor.Rd1 Go.Proofs.YtiennniclkbjlaaGreatDoor.LibM Go.Proofs.YtiennniclkbjlaaGreatDoor.JnM

theorem pre_lib (l : List UInt8) : Lib.hasPrefix l [47, 47] = decide (l.take 2 = [47, 47]) := by
  unfold Lib.hasPrefix
  cases l with
  | nil => rfl
  | cons a l =>
    cases l with
    | nil => simp [List.isPrefixOf]
    | cons b l =>
      rw [Bool.eq_iff_iff]
      simp [List.isPrefixOf]
      constructor
      · rintro ⟨h1, h2⟩; exact ⟨h1.symm, h2.symm⟩
      · rintro ⟨h1, h2⟩; exact ⟨h1.symm, h2.symm⟩
theorem has_any (s : ByteArray) (w : World) : Calls Tryz.prog 196 #[.string s, .string ⟨#[47, 47]⟩] w fun e w' => e = .returned (.bool (decide (s.data.toList.take 2 = [47, 47]))) ∧ w' = w := by
  refine (Tryz.strings_HasPrefix s ⟨#[47, 47]⟩ w).mono ?_
  rintro e w' ⟨rfl, rfl⟩
  exact ⟨by rw [pre_lib], rfl⟩
theorem last_any (a0 : Option Addr) (cap : Nat) (L : List ByteArray) (w : World) (h : IsStrs w a0 cap L) (hL : L.length ≤ 1000) :
    Calls Tryz.prog 197 #[.slice a0 L.length cap] w fun e w' => ∃ a1 c1, e = .returned (.slice a1 L.dropLast.length c1) ∧ IsStrs w a1 c1 L.dropLast ∧ w' = w := by
  by_cases h0 : L.length = 0
  · have : L = [] := List.eq_nil_of_length_eq_zero h0
    subst this
    have HS : Hid _ := h
    clear h
    go_enter Tryz.func197, Tryz.ntmps197
    go_wp2
    go_ret
    exact ⟨none, 0, rfl, strs_nil _, rfl⟩
  · have hc := h.1
    have hm := h.2.1
    unfold maxLen at hm
    obtain ⟨b, off, e, _⟩ := h.2.2.2 (by intro e; rw [e] at h0; simp at h0)
    subst e
    have HS : Hid (IsStrs w (some ⟨b, off, none⟩) cap L.dropLast) := by
      have h2 := h.cut (L.length - 1)
      rwa [← List.dropLast_eq_take] at h2
    have hd : L.dropLast.length = L.length - 1 := by simp
    have HD : Hid _ := hd
    have h1 : ((L.length : Int) == 0) = false := beq_false_of_ne (by omega)
    clear h hd
    go_enter Tryz.func197, Tryz.ntmps197
    go_wp2
    go_ret
    refine ⟨some ⟨b, off, none⟩, cap, ?_, HS.out, rfl⟩
    rw [HD.out]
    rfl

theorem cut_short {ref : ByteArray} (h : ref.size ≤ 60) : (bs (cutL 35 ref.data.toList).1).size ≤ 60 := by
  have h1 := (cut_len 35 ref.data.toList).1
  have h2 : ref.data.toList.length = ref.size := by simp
  rw [bs_size]; omega
theorem head_0 {t : ByteArray} (h : 0 < t.size) (b : UInt8) : t.data.toList.head? = some b ↔ (t[0]'h) = b := by
  have hd : 0 < t.data.toList.length := by simpa using h
  rw [List.head?_eq_getElem?, List.getElem?_eq_getElem hd]
  exact Option.some_inj
theorem byte_is (x b : UInt8) (n : Int) (h : (b.toNat : Int) = n) : (x.toNat : Int) = n ↔ x = b := by
  rw [← h]
  constructor
  · intro e; exact UInt8.toNat_inj.1 (by omega)
  · intro e; rw [e]

theorem box_free {w wr : World} {x0 x1 x2 x3 y0 y1 y2 y3 : Value} {t t' : TypeId} (hb : Below (w.heap.size + 1 + 1) ((w.alloc (.cells #[x0, x1, x2, x3] t)).alloc (.cells #[y0, y1, y2, y3] t')) wr) : ∀ j, wr.frozen? ⟨w.heap.size, j, none⟩ = false := by
  intro j
  rw [hb.frozen (show w.heap.size < w.heap.size + 1 + 1 by omega)]; go_simp
/-- the answer is stored, and handed back -/
theorem reads_end {w w4 : World} {o o' : Obj} {R S : Option Ad} {B : Ad} {ok : Bool} {x1 : Option Addr} {y1 b : Nat} (hb : Below (w.heap.size + 1 + 1) ((w.alloc o).alloc o') w4) (e : R = S) (hans : (ok = true ∧ S = some B) ∨ (ok = false ∧ S = none ∧ B = zeroAd)) (hO : Owns w4 b (.slice x1 B.parts.length y1) B.parts) (hz : w.heap.size + 1 + 1 ≤ b) {y0 z1 z2 z3 : Value} :
    Reads R w (.returned (.tuple #[.agg #[.string B.house, .slice x1 B.parts.length y1, .bool B.asks, .string B.ask], .bool ok])) ((((w4.setCell ⟨w.heap.size + 1, 0, none⟩ y0).setCell ⟨w.heap.size + 1, 1, none⟩ z1).setCell ⟨w.heap.size + 1, 2, none⟩ z2).setCell ⟨w.heap.size + 1, 3, none⟩ z3) := by
  refine ⟨B, ok, x1, y1, rfl, by rw [e]; exact hans, ?_, ?_⟩
  · refine Owns.mono (?_ : Owns _ b _ _) (by omega)
    iterate 4 refine ownsRow_setCell_below ?_ (by dsimp only; omega) _
    exact hO
  · have hbw := two_below hb
    iterate 4 refine Below.setCell ?_ (by dsimp only; omega) _
    exact hbw

set_option maxRecDepth 100000 in
set_option maxHeartbeats 6400000 in
/-- AddrJoin OF THE PROGRAM, BY ASCII BYTES -/
theorem implJoin_ascii (A : Ad) (ref : ByteArray) (a0 : Option Addr) (cap : Nat) (w : World) (hM : Mx w) (hS : IsStrs w a0 cap A.parts) (hB : bulkA A ≤ 1000) (hr : ref.size ≤ 60) (ha : ascii ref) :
    Calls Tryz.prog 176 #[.agg #[.string A.house, .slice a0 A.parts.length cap, .bool A.asks, .string A.ask], .string ref] w fun e w' => Reads (joinF A ref.data.toList) w e w' := by
  have hlr : ref.data.toList.length = ref.size := by simp
  have HM : Hid (Mx w) := hM
  have HS : Hid (IsStrs w a0 cap A.parts) := hS
  have hb4 : bulkA A ≤ 4194304 := by omega
  have hpl : A.parts.length ≤ 1000 := by unfold bulkA at hB; omega
  have hps : sumS A.parts ≤ 100000 := by unfold bulkA at hB; omega
  have hhs : A.house.size ≤ 1000 := by unfold bulkA at hB; omega
  have HJ : Hid (joinF A ref.data.toList = if okB A then goF A (bs (cutL 35 ref.data.toList).1).data.toList else none) := by
    show _ = _
    rw [bs_list]
    cases h : okB A with
    | false => exact join_bad h
    | true => exact join_go h (by omega)
  have HC : Hid _ := fun W hW => cross_any ref W hW (by omega)
  have hts := cut_short hr
  have HTA : Hid _ := cut_ascii 35 ha
  clear hM hS hlr
  generalize bs (cutL 35 ref.data.toList).1 = t at *
  generalize joinF A ref.data.toList = R at *
  go_enter Tryz.func176, Tryz.ntmps176
  go_wp2_with fail
  refine (implOk_any A a0 cap _ (HS.out.keep (fun k hk => by rw [alloc_keep _ _ k (by simp; omega), alloc_keep _ _ k hk])) hb4).mono ?_
  rintro e w1 ⟨rfl, hb1⟩
  have HB1 : Hid (Below (w.heap.size + 1 + 1) ((w.alloc (.cells #[.string A.house, .slice a0 A.parts.length cap, .bool A.asks, .string A.ask] 97)).alloc (.cells #[.string ⟨#[]⟩, .slice none 0 0, .bool false, .string ⟨#[]⟩] 97)) w1) := hb1.mono (by simp)
  have hb1' := HB1.out
  obtain ⟨⟨c0, c1, c2, c3⟩, ⟨d0, d1, d2, d3⟩, dz⟩ := two_cells hb1'
  clear hb1 hb1'
  cases hok : okB A with
  | false =>
    have HN : Hid (R = none) := by show _ = _; rw [HJ.out, hok]; rfl
    clear hok
    go_wp2
    refine bodyPost_ret (v := .tuple #[.agg #[.string ⟨#[]⟩, .slice none 0 0, .bool false, .string ⟨#[]⟩], .bool false]) (by simp [results, Tryz.results176, go_sem, d0, d1, d2, d3]) rfl ?_
    refine ⟨zeroAd, false, none, 0, rfl, Or.inr ⟨rfl, HN.out, rfl⟩, Owns.nil _ _, ?_⟩
    have hbw := two_below HB1.out
    iterate 4 refine Below.setCell ?_ (by dsimp only; omega) _
    exact hbw
  | true =>
    have HY : Hid (R = goF A t.data.toList) := by show _ = _; rw [HJ.out, hok]; rfl
    have HOK : Hid _ := hok
    clear hok HJ
    have HM1 : Hid (Mx w1) := HM.out.keep fun k hk => (two_below HB1.out).block k hk
    go_wp2_with fail
    refine (HC.out _ HM1.out).mono ?_
    rintro e w2 ⟨rfl, nq, hw2⟩
    have HB2 : Hid (Below (w.heap.size + 1 + 1) ((w.alloc (.cells #[.string A.house, .slice a0 A.parts.length cap, .bool A.asks, .string A.ask] 97)).alloc (.cells #[.string ⟨#[]⟩, .slice none 0 0, .bool false, .string ⟨#[]⟩] 97)) w2) := by subst hw2; exact below_drewN HB1.out nq
    have HM2 : Hid (Mx w2) := by subst hw2; exact HM1.out.drewN _
    clear hw2 HC HB1 HM1 c0 c1 c2 c3 d0 d1 d2 d3 dz
    have hb2' := HB2.out
    obtain ⟨⟨c0, c1, c2, c3⟩, ⟨d0, d1, d2, d3⟩, dz⟩ := two_cells hb2'
    have hz2 : w.heap.size + 1 + 1 ≤ w2.heap.size := by have := hb2'.size; simp at this; omega
    clear hb2'
    have HS2 : Hid (IsStrs w2 a0 cap A.parts) := HS.out.below (two_below HB2.out)
    by_cases hp : t.data.toList.take 2 = [47, 47]
    · have HP : Hid (decide (t.data.toList.take 2 = [47, 47]) = true) := decide_eq_true hp
      have HW : Hid (R = wholeR t.data.toList) := by show _ = _; rw [HY.out, go_whole hp]; unfold wholeR; rw [if_pos hp]
      clear hp
      go_wp2_with fail
      refine (has_any t _).mono ?_
      rintro e w3 ⟨rfl, rfl⟩
      rw [HP.out]
      go_wp2_with fail
      refine (implWhole_ascii t _ HM2.out hts HTA.out).mono ?_
      rintro e w4 ⟨B, ok, x1, y1, rfl, hans, hO, hb4⟩
      have HANS : Hid _ := hans
      have HO4 : Hid _ := hO
      have HB4 : Hid _ := two_next HB2.out hb4
      have hz4 := hb4.size
      clear hans hO hb4 c0 c1 c2 c3 d0 d1 d2 d3 dz
      have hb4' := HB4.out
      obtain ⟨⟨c0, c1, c2, c3⟩, ⟨d0, d1, d2, d3⟩, dz⟩ := two_cells hb4'
      clear hb4'
      go_wp2
      refine bodyPost_ret (v := .tuple #[.agg #[.string B.house, .slice x1 B.parts.length y1, .bool B.asks, .string B.ask], .bool ok]) (by simp [results, Tryz.results176, go_sem, d0, d1, d2, d3]) rfl ?_
      exact reads_end HB4.out HW.out HANS.out HO4.out hz2
    · have HP : Hid (decide (t.data.toList.take 2 = [47, 47]) = false) := decide_eq_false hp
      by_cases h0 : t.size = 0
      · have ht : t = ⟨#[]⟩ := by
          cases t with
          | mk d => have : d = #[] := Array.eq_empty_of_size_eq_zero h0; rw [this]
        have HW : Hid (R = some A) := by show _ = _; rw [HY.out, ht]; exact go_none
        clear hp
        subst ht
        go_wp2_with fail
        refine (has_any _ _).mono ?_
        rintro e w3 ⟨rfl, rfl⟩
        rw [HP.out]
        go_wp2_with fail
        refine (clone_any a0 cap A.parts _ HS2.out hpl).mono ?_
        rintro e w4 ⟨v4, rfl, hO4, hb4⟩
        obtain ⟨x1, y1, rfl, hS4⟩ := hO4.strs
        have HO4 : Hid (Owns w4 w3.heap.size (.slice x1 A.parts.length y1) A.parts) := hO4
        have HB4 : Hid _ := two_next HB2.out hb4
        have hz4 := hb4.size
        clear hO4 hb4 hS4 c0 c1 c2 c3 d0 d1 d2 d3 dz
        have hb4' := HB4.out
        obtain ⟨⟨c0, c1, c2, c3⟩, ⟨d0, d1, d2, d3⟩, dz⟩ := two_cells hb4'
        have cz := box_free hb4'
        clear hb4'
        go_wp2
        refine bodyPost_ret (v := .tuple #[.agg #[.string A.house, .slice x1 A.parts.length y1, .bool A.asks, .string A.ask], .bool true]) (by simp [results, Tryz.results176, go_sem, d0, d1, d2, d3]) rfl ?_
        refine ⟨A, true, x1, y1, rfl, Or.inl ⟨rfl, HW.out⟩, ?_, ?_⟩
        · refine Owns.mono (?_ : Owns _ w3.heap.size _ _) (by omega)
          have hO := HO4.out
          iterate 5 refine ownsRow_setCell_below ?_ (by dsimp only; omega) _
          exact hO
        · have hbw := two_below HB4.out
          iterate 5 refine Below.setCell ?_ (by dsimp only; omega) _
          exact hbw
      · have ht0 : 0 < t.size := by omega
        have hne : t.toList.isEmpty = false := by
          rw [ByteArray.toList_eq]
          cases hl : t.data.toList with
          | nil => have : t.data.toList.length = t.size := by simp
                   rw [hl] at this; simp at this; omega
          | cons a r => rfl
        have hnil : ¬ t.data.toList = [] := by
          intro e
          have : t.data.toList.length = t.size := by simp
          rw [e] at this; simp at this; omega
        by_cases h47 : ((t[0]'ht0).toNat : Int) = 47
        · have HW : Hid (R = wayF A.house [] t) := by
            show _ = _
            rw [HY.out, go_door hp ((head_0 ht0 47).2 ((byte_is _ 47 47 rfl).1 h47)), bs_data]
          clear hp hnil
          go_wp2_with fail
          refine (has_any t _).mono ?_
          rintro e w3 ⟨rfl, rfl⟩
          rw [HP.out]
          go_wp2_with fail
          refine (implWay_nil A.house t _ HM2.out hhs hts).mono ?_
          rintro e w4 ⟨B, ok, x1, y1, rfl, hans, hO, hb4⟩
          have HANS : Hid _ := hans
          have HO4 : Hid _ := hO
          have HB4 : Hid _ := two_next HB2.out hb4
          have hz4 := hb4.size
          clear hans hO hb4 c0 c1 c2 c3 d0 d1 d2 d3 dz
          have hb4' := HB4.out
          obtain ⟨⟨c0, c1, c2, c3⟩, ⟨d0, d1, d2, d3⟩, dz⟩ := two_cells hb4'
          clear hb4'
          go_wp2
          refine bodyPost_ret (v := .tuple #[.agg #[.string B.house, .slice x1 B.parts.length y1, .bool B.asks, .string B.ask], .bool ok]) (by simp [results, Tryz.results176, go_sem, d0, d1, d2, d3]) rfl ?_
          exact reads_end HB4.out HW.out HANS.out HO4.out hz2
        · have e47 : (((t[0]'ht0).toNat : Int) == 47) = false := beq_false_of_ne h47
          have hn47 : ¬ t.data.toList.head? = some 47 := fun e => h47 ((byte_is _ 47 47 rfl).2 ((head_0 ht0 47).1 e))
          by_cases h63 : ((t[0]'ht0).toNat : Int) = 63
          · have HW : Hid (R = wayF A.house A.parts t) := by
              show _ = _
              rw [HY.out, go_ask ((head_0 ht0 63).2 ((byte_is _ 63 63 rfl).1 h63)), bs_data]
            clear hp hnil hn47
            go_wp2_with fail
            refine (has_any t _).mono ?_
            rintro e w3 ⟨rfl, rfl⟩
            rw [HP.out]
            go_wp2_with fail
            refine (implWay_any A.house t A.parts a0 cap _ HM2.out HS2.out hpl hps hhs hts).mono ?_
            rintro e w4 ⟨B, ok, x1, y1, rfl, hans, hO, hb4⟩
            have HANS : Hid _ := hans
            have HO4 : Hid _ := hO
            have HB4 : Hid _ := two_next HB2.out hb4
            have hz4 := hb4.size
            clear hans hO hb4 c0 c1 c2 c3 d0 d1 d2 d3 dz
            have hb4' := HB4.out
            obtain ⟨⟨c0, c1, c2, c3⟩, ⟨d0, d1, d2, d3⟩, dz⟩ := two_cells hb4'
            clear hb4'
            go_wp2
            refine bodyPost_ret (v := .tuple #[.agg #[.string B.house, .slice x1 B.parts.length y1, .bool B.asks, .string B.ask], .bool ok]) (by simp [results, Tryz.results176, go_sem, d0, d1, d2, d3]) rfl ?_
            exact reads_end HB4.out HW.out HANS.out HO4.out hz2
          · have e63 : (((t[0]'ht0).toNat : Int) == 63) = false := beq_false_of_ne h63
            have hn63 : ¬ t.data.toList.head? = some 63 := fun e => h63 ((byte_is _ 63 63 rfl).2 ((head_0 ht0 63).1 e))
            have HW : Hid (R = wayF A.house A.parts.dropLast t) := by
              show _ = _
              rw [HY.out, go_beside hp hnil hn47 hn63, bs_data]
            have hdl : A.parts.dropLast.length ≤ 1000 := by simp; omega
            have hds : sumS A.parts.dropLast ≤ 100000 := Nat.le_trans (sumS_dropLast _) hps
            obtain ⟨D, hD⟩ : ∃ D, A.parts.dropLast = D := ⟨_, rfl⟩
            rw [hD] at HW hdl hds
            have HD : Hid (A.parts.dropLast = D) := hD
            clear hp hnil hn47 hn63 hD
            go_wp2_with fail
            refine (has_any t _).mono ?_
            rintro e w3 ⟨rfl, rfl⟩
            rw [HP.out]
            go_wp2_with fail
            have k0 : w3.drew.cell? ⟨w.heap.size, 0, none⟩ = some (.string A.house) := c0
            have k1 : w3.drew.cell? ⟨w.heap.size, 1, none⟩ = some (.slice a0 A.parts.length cap) := c1
            go_region_with (first
              | (go_at_call 197
                 refine (last_any a0 cap A.parts w3.drew (HS2.out.keep fun _ _ => rfl) hpl).mono ?_
                 rintro e w4 ⟨a4, c4, he, hS4, hw4⟩
                 rw [HD.out] at he hS4
                 subst he
                 have HS4 : Hid (IsStrs w4 a4 c4 D) := by subst hw4; exact hS4
                 have HM4 : Hid (Mx w4) := by subst hw4; exact HM2.out.keep fun _ _ => rfl
                 have HB4 : Hid (Below (w.heap.size + 1 + 1) ((w.alloc (.cells #[.string A.house, .slice a0 A.parts.length cap, .bool A.asks, .string A.ask] 97)).alloc (.cells #[.string ⟨#[]⟩, .slice none 0 0, .bool false, .string ⟨#[]⟩] 97)) w4) := by subst hw4; exact HB2.out.drew
                 have hz4 : w.heap.size + 1 + 1 ≤ w4.heap.size := by subst hw4; exact hz2
                 have k4 : w4.cell? ⟨w.heap.size, 0, none⟩ = some (.string A.house) := by subst hw4; exact c0
                 clear hS4 hw4)
              | (go_at_call 136
                 refine (implWay_any A.house t D a4 c4 w4 HM4.out HS4.out hdl hds hhs hts).mono ?_
                 rintro e w5 ⟨B, ok, x1, y1, rfl, hans, hO, hb5⟩
                 have HANS : Hid _ := hans
                 have HO5 : Hid _ := hO
                 have HB5 : Hid _ := two_next HB4.out hb5
                 clear hans hO hb5
                 have hb5' := HB5.out
                 obtain ⟨⟨g0, g1, g2, g3⟩, ⟨j0, j1, j2, j3⟩, jz⟩ := two_cells hb5'
                 clear hb5')
              | fail)
            all_goals
              go_wp2
              refine bodyPost_ret (v := .tuple #[.agg #[.string B.house, .slice x1 B.parts.length y1, .bool B.asks, .string B.ask], .bool ok]) (by simp [results, Tryz.results176, go_sem, j0, j1, j2, j3]) rfl ?_
              exact reads_end HB5.out HW.out HANS.out HO5.out hz4
end Go.Proofs.YtiennniclkbjlaaGreatDoor.Im
/- The program's steps through a page, one a byte. -/
namespace Go.Proofs.YtiennniclkbjlaaGreatDoor.Pg
open Go.RowKit Go.Proofs.YtiennniclkbjlaaGreatDoor.EscM Go.Proofs.YtiennniclkbjlaaGreatDoor.EscL Go.Proofs.YtiennniclkbjlaaGreatDoor.ReadM Go.Proofs.YtiennniclkbjlaaGreatDoor.St Go.Proofs.YtiennniclkbjlaaGreatDoor.PgM Go.Proofs.YtiennniclkbjlaaGreatDoor.Dr

def OwnsB (w : World) (base : Nat) (v : Value) (m : List UInt8) : Prop := w.ownsRow base 5 1 v m.length (cellsB m)
theorem OwnsB.form {w : World} {base : Nat} {v : Value} {m : List UInt8} (h : OwnsB w base v m) : ∃ a c, v = .slice a m.length c := by
  obtain ⟨_, ⟨rfl, hn⟩ | ⟨g, cap, cur, rfl, _⟩⟩ := h
  · exact ⟨none, 0, by rw [hn]⟩
  · exact ⟨_, _, rfl⟩
theorem OwnsB.keep {w w' : World} {base : Nat} {v : Value} {m : List UInt8} (h : OwnsB w base v m) (hb : ∀ k, k < w.heap.size → w'.heap[k]? = w.heap[k]?) : OwnsB w' base v m := by
  obtain ⟨h1, h2 | ⟨g, cap, cur, hv, hg, hc, r⟩⟩ := h
  · exact ⟨h1, Or.inl h2⟩
  · refine ⟨h1, Or.inr ⟨g, cap, cur, hv, hg, ?_, r⟩⟩
    rw [hb g (Array.getElem?_eq_some_iff.1 hc).1]; exact hc
theorem OwnsB.nil (w : World) (base : Nat) : OwnsB w base (.slice none 0 0) [] := World.ownsRow_nil _ _ _ _
theorem OwnsB.lt {w : World} {base : Nat} {v : Value} {m : List UInt8} (h : OwnsB w base v m) : ∀ g, v.ownBlock = some g → base ≤ g ∧ g < w.heap.size := fun g hg => World.ownsRow.lt h g hg
theorem OwnsB.snoc {w : World} {base : Nat} {v : Value} {m : List UInt8} {b : UInt8} (h : w.ownsRow base 5 1 v (m.length + 1) (cellsB m ++ [.int .u8 (b.toNat : Int)])) : OwnsB w base v (m ++ [b]) := by
  unfold OwnsB
  rw [cellsB_append]
  simpa [cellsB] using h
/-- rows of bytes and rows of texts lie in blocks of their own -/
theorem rows_apart {w : World} {b1 b2 : Nat} {v u : Value} {m : List UInt8} {L : List ByteArray} (h : OwnsB w b1 v m) (k : Owns w b2 u L) : ∀ g, v.ownBlock = some g → u.ownBlock ≠ some g := by
  intro g hg hu
  obtain ⟨_, ⟨rfl, _⟩ | ⟨x, cap, cur, rfl, _, hc, _⟩⟩ := h
  · simp [Value.ownBlock] at hg
  · obtain ⟨_, ⟨rfl, _⟩ | ⟨y, cap', cur', rfl, _, hc', _⟩⟩ := k
    · simp [Value.ownBlock] at hu
    · simp [Value.ownBlock] at hg hu
      subst hg
      subst hu
      rw [hc] at hc'
      injection hc' with hc'
      injection hc' with _ ht _
      cases ht
theorem OwnsB.kept {w w' : World} {base : Nat} {v : Value} {m : List UInt8} {row : Option Nat} (h : OwnsB w base v m) (hg : w.grownBy w' row) (hr : ∀ g, v.ownBlock = some g → row ≠ some g) : OwnsB w' base v m := by
  refine World.ownsRow.kept h hg ?_
  cases hv : v.ownBlock with
  | none => exact Or.inl rfl
  | some g => exact Or.inr (fun e => hr g hv e.symm)
theorem owns_kept {w w' : World} {base : Nat} {v : Value} {L : List ByteArray} {row : Option Nat} (h : Owns w base v L) (hg : w.grownBy w' row) (hr : ∀ g, v.ownBlock = some g → row ≠ some g) : Owns w' base v L := by
  refine World.ownsRow.kept h hg ?_
  cases hv : v.ownBlock with
  | none => exact Or.inl rfl
  | some g => exact Or.inr (fun e => hr g hv e.symm)

/-- a struct of a walk lies in a block -/
def Box3 (w : World) (G : Nat) (x0 x1 x2 : Value) : Prop := w.heap[G]? = some (.cells #[x0, x1, x2] 241 (0, 0))
theorem Box3.cells {w : World} {G : Nat} {x0 x1 x2 : Value} (h : Box3 w G x0 x1 x2) : (w.cell? ⟨G, 0, none⟩ = some x0 ∧ w.cell? ⟨G, 1, none⟩ = some x1 ∧ w.cell? ⟨G, 2, none⟩ = some x2) ∧ ∀ j, w.frozen? ⟨G, j, none⟩ = false := by
  unfold Box3 at h
  refine ⟨⟨?_, ?_, ?_⟩, fun j => ?_⟩
  · simp [World.cell?, h]
  · simp [World.cell?, h]
  · simp [World.cell?, h]
  · simp [World.frozen?, h]
theorem Box3.lt {w : World} {G : Nat} {x0 x1 x2 : Value} (h : Box3 w G x0 x1 x2) : G < w.heap.size := (Array.getElem?_eq_some_iff.1 h).1
theorem Box3.grown {w w' : World} {G : Nat} {x0 x1 x2 : Value} {row : Option Nat} (h : Box3 w G x0 x1 x2) (hg : w.grownBy w' row) (hr : row ≠ some G) : Box3 w' G x0 x1 x2 := by
  unfold Box3
  rw [hg.block G h.lt (fun e => hr e.symm)]; exact h
theorem Box3.below {w w' : World} {B G : Nat} {x0 x1 x2 : Value} (h : Box3 w G x0 x1 x2) (hb : Below B w w') (hG : G < B) : Box3 w' G x0 x1 x2 := by
  unfold Box3
  rw [hb.block G hG]; exact h

def IsBox (w : World) (G : Nat) : Prop := ∃ C, w.heap[G]? = some (.cells C 241 (0, 0))
theorem Box3.is {w : World} {G : Nat} {x0 x1 x2 : Value} (h : Box3 w G x0 x1 x2) : IsBox w G := ⟨_, h⟩
theorem IsBox.set {w : World} {G : Nat} (h : IsBox w G) (G' j : Nat) (y : Value) : IsBox (w.setCell ⟨G', j, none⟩ y) G := by
  obtain ⟨C, h⟩ := h
  unfold IsBox
  by_cases e : G' = G
  · subst e
    refine ⟨C.setIfInBounds j y, ?_⟩
    simp only [World.setCell, Array.getElem?_modify, if_true, h, Option.map_some]
    rfl
  · refine ⟨C, ?_⟩
    rw [Below.heap_setCell _ _ _ _ (by exact fun h => e h.symm)]; exact h
theorem row_set {w : World} {base G j : Nat} {e : TypeId} {v y : Value} {n : Nat} {xs : List Value} (h : w.ownsRow base e 1 v n xs) (hx : IsBox w G) (he : e ≠ 241) : (w.setCell ⟨G, j, none⟩ y).ownsRow base e 1 v n xs := by
  refine World.ownsRow.kept h (grown_set j y) ?_
  obtain ⟨_, ⟨rfl, _⟩ | ⟨g, cap, cur, rfl, _, hc, _⟩⟩ := h
  · exact Or.inl rfl
  · refine Or.inr ?_
    intro e2
    have e3 : g = G := by simpa [Value.ownBlock] using e2
    subst e3
    obtain ⟨C, hC⟩ := hx
    rw [hc] at hC
    injection hC with hC
    injection hC with _ ht _
    exact he ht
theorem OwnsB.set {w : World} {base G : Nat} {v : Value} {m : List UInt8} (h : OwnsB w base v m) (hx : IsBox w G) (j : Nat) (y : Value) : OwnsB (w.setCell ⟨G, j, none⟩ y) base v m := row_set h hx (by decide)
theorem owns_set {w : World} {base G : Nat} {v : Value} {L : List ByteArray} (h : Owns w base v L) (hx : IsBox w G) (j : Nat) (y : Value) : Owns (w.setCell ⟨G, j, none⟩ y) base v L := row_set h hx (by decide)

/-- a walk: where it stands, what of a mark is read, all whole marks -/
def WalkAt (w : World) (base p : Nat) (m : List UInt8) (M : List ByteArray) (v : Value) : Prop :=
  ∃ (am : Option Addr) (cm : Nat) (ax : Option Addr) (cs : Nat), v = .agg #[.int .i64 (p : Int), .slice am m.length cm, .slice ax M.length cs] ∧ OwnsB w base (.slice am m.length cm) m ∧ Owns w base (.slice ax M.length cs) M

theorem nextP_0 (b : UInt8) : nextP 0 b = if (b.toNat : Int) = 60 then 1 else if (b.toNat : Int) = 40 then 2 else 0 := rfl
theorem nextM_0 (m : List UInt8) (b : UInt8) : nextM 0 m b = if (b.toNat : Int) = 60 then [] else m := rfl
theorem out_0 (m : List UInt8) (b : UInt8) : outM 0 m b = [] := rfl
theorem nextP_2 (b : UInt8) : nextP 2 b = if (b.toNat : Int) = 41 then 0 else 2 := rfl
theorem nextM_2 (m : List UInt8) (b : UInt8) : nextM 2 m b = m := rfl
theorem out_2 (m : List UInt8) (b : UInt8) : outM 2 m b = [] := rfl
theorem nextP_1 (b : UInt8) : nextP 1 b = if (b.toNat : Int) = 62 then 0 else 1 := rfl
theorem nextM_1 (m : List UInt8) (b : UInt8) : nextM 1 m b = if (b.toNat : Int) = 62 then m else m ++ [b] := rfl
theorem out_1 (m : List UInt8) (b : UInt8) : outM 1 m b = if (b.toNat : Int) = 62 then [bs m] else [] := by
  unfold outM
  by_cases h : (b.toNat : Int) = 62
  · rw [if_pos ⟨rfl, h⟩, if_pos h]
  · rw [if_neg (fun e => h e.2), if_neg h]

theorem keep2 (w : World) (o o' : Obj) : ∀ k, k < w.heap.size → ((w.alloc o).alloc o').heap[k]? = w.heap[k]? := fun k hk => by rw [alloc_keep _ _ k (by simp; omega), alloc_keep _ _ k hk]
theorem below2 (w : World) {base : Nat} (o o' : Obj) (hb : base ≤ w.heap.size) : Below base w ((w.alloc o).alloc o') := ((Below.refl base w).alloc hb _).alloc (by simp; omega) _

set_option maxRecDepth 100000 in
set_option maxHeartbeats 1600000 in
theorem outside_any (base : Nat) (m : List UInt8) (M : List ByteArray) (b : UInt8) (v : Value) (w : World) (h : WalkAt w base 0 m M v) (hb : base ≤ w.heap.size) :
    Calls Tryz.prog 206 #[v, .int .u8 (b.toNat : Int)] w fun e w' => ∃ u, e = .returned u ∧ WalkAt w' base (nextP 0 b) (nextM 0 m b) (M ++ outM 0 m b) u ∧ Below base w w' := by
  obtain ⟨am, cm, ax, cs, rfl, hm, hs⟩ := h
  have HM : Hid _ := hm
  have HS : Hid _ := hs
  clear hm hs
  rw [nextP_0, nextM_0, out_0, List.append_nil]
  by_cases h60 : (b.toNat : Int) = 60
  · rw [if_pos h60, if_pos h60]
    go_enter Tryz.func206, Tryz.ntmps206
    go_wp2
    refine bodyPost_ret (v := .agg #[.int .i64 1, .slice none 0 0, .slice ax M.length cs]) (by simp [results, Tryz.results206, go_sem]) rfl ?_
    exact ⟨_, rfl, ⟨none, 0, ax, cs, rfl, OwnsB.nil _ _, Owns.keep HS.out (keep2 w _ _)⟩, below2 w _ _ hb⟩
  · rw [if_neg h60, if_neg h60]
    have e60 : ((b.toNat : Int) == 60) = false := by simp; omega
    by_cases h40 : (b.toNat : Int) = 40
    · rw [if_pos h40]
      go_enter Tryz.func206, Tryz.ntmps206
      go_wp2
      refine bodyPost_ret (v := .agg #[.int .i64 2, .slice am m.length cm, .slice ax M.length cs]) (by simp [results, Tryz.results206, go_sem]) rfl ?_
      exact ⟨_, rfl, ⟨am, cm, ax, cs, rfl, OwnsB.keep HM.out (keep2 w _ _), Owns.keep HS.out (keep2 w _ _)⟩, below2 w _ _ hb⟩
    · rw [if_neg h40]
      have e40 : ((b.toNat : Int) == 40) = false := by simp; omega
      go_enter Tryz.func206, Tryz.ntmps206
      go_wp2
      refine bodyPost_ret (v := .agg #[.int .i64 0, .slice am m.length cm, .slice ax M.length cs]) (by simp [results, Tryz.results206, go_sem]) rfl ?_
      exact ⟨_, rfl, ⟨am, cm, ax, cs, rfl, OwnsB.keep HM.out (keep2 w _ _), Owns.keep HS.out (keep2 w _ _)⟩, below2 w _ _ hb⟩

set_option maxRecDepth 100000 in
set_option maxHeartbeats 1600000 in
theorem brackets_any (base : Nat) (m : List UInt8) (M : List ByteArray) (b : UInt8) (v : Value) (w : World) (h : WalkAt w base 2 m M v) (hb : base ≤ w.heap.size) :
    Calls Tryz.prog 208 #[v, .int .u8 (b.toNat : Int)] w fun e w' => ∃ u, e = .returned u ∧ WalkAt w' base (nextP 2 b) (nextM 2 m b) (M ++ outM 2 m b) u ∧ Below base w w' := by
  obtain ⟨am, cm, ax, cs, rfl, hm, hs⟩ := h
  have HM : Hid _ := hm
  have HS : Hid _ := hs
  clear hm hs
  rw [nextP_2, nextM_2, out_2, List.append_nil]
  by_cases h41 : (b.toNat : Int) = 41
  · rw [if_pos h41]
    go_enter Tryz.func208, Tryz.ntmps208
    go_wp2
    refine bodyPost_ret (v := .agg #[.int .i64 0, .slice am m.length cm, .slice ax M.length cs]) (by simp [results, Tryz.results208, go_sem]) rfl ?_
    exact ⟨_, rfl, ⟨am, cm, ax, cs, rfl, OwnsB.keep HM.out (keep2 w _ _), Owns.keep HS.out (keep2 w _ _)⟩, below2 w _ _ hb⟩
  · rw [if_neg h41]
    have e41 : ((b.toNat : Int) == 41) = false := by simp; omega
    go_enter Tryz.func208, Tryz.ntmps208
    go_wp2
    refine bodyPost_ret (v := .agg #[.int .i64 2, .slice am m.length cm, .slice ax M.length cs]) (by simp [results, Tryz.results208, go_sem]) rfl ?_
    exact ⟨_, rfl, ⟨am, cm, ax, cs, rfl, OwnsB.keep HM.out (keep2 w _ _), Owns.keep HS.out (keep2 w _ _)⟩, below2 w _ _ hb⟩

theorem cell_third (w : World) (o o' : Obj) (x : Value) (t : TypeId) : ∀ j u, [x][j]? = some u → (((w.alloc o).alloc o').alloc (.cells #[x] t)).cell? ((⟨w.heap.size + 1 + 1, 0, none⟩ : Addr).add j) = some u := by
  have h := cell_one_new ((w.alloc o).alloc o') x t
  have e : ((w.alloc o).alloc o').heap.size = w.heap.size + 1 + 1 := by simp
  rwa [e] at h
theorem keep3 (w : World) (o o' o'' : Obj) : ∀ k, k < w.heap.size → (((w.alloc o).alloc o').alloc o'').heap[k]? = w.heap[k]? := fun k hk => by rw [alloc_keep _ _ k (by simp; omega), keep2 w o o' k hk]
/-- the boxes of a step, behind an append -/
theorem boxes_past {w w1 : World} {base : Nat} {x0 x1 x2 y0 y1 y2 : Value} {o : Obj} {row : Option Nat} (hg : (((w.alloc (.cells #[x0, x1, x2] 241)).alloc (.cells #[y0, y1, y2] 241)).alloc o).grownBy w1 row) (hr : ∀ g, row = some g → base ≤ g ∧ g < w.heap.size) (hb : base ≤ w.heap.size) :
    Box3 w1 w.heap.size x0 x1 x2 ∧ Box3 w1 (w.heap.size + 1) y0 y1 y2 ∧ Below base w w1 ∧ w.heap.size + 1 < w1.heap.size := by
  have e1 : ((w.alloc (.cells #[x0, x1, x2] 241)).alloc (.cells #[y0, y1, y2] 241)).heap.size = w.heap.size + 1 + 1 := by simp
  have b0 : Box3 (w.alloc (.cells #[x0, x1, x2] 241)) w.heap.size x0 x1 x2 := heap_new w _
  have b1 : Box3 ((w.alloc (.cells #[x0, x1, x2] 241)).alloc (.cells #[y0, y1, y2] 241)) (w.heap.size + 1) y0 y1 y2 := by
    have := heap_new (w.alloc (.cells #[x0, x1, x2] 241)) (.cells #[y0, y1, y2] 241)
    have e : (w.alloc (.cells #[x0, x1, x2] 241)).heap.size = w.heap.size + 1 := by simp
    rwa [e] at this
  have b0' : Box3 (((w.alloc (.cells #[x0, x1, x2] 241)).alloc (.cells #[y0, y1, y2] 241)).alloc o) w.heap.size x0 x1 x2 := by
    refine (b0.grown (grown_alloc _ _ none) (by simp)).grown (grown_alloc _ _ none) (by simp)
  have b1' : Box3 (((w.alloc (.cells #[x0, x1, x2] 241)).alloc (.cells #[y0, y1, y2] 241)).alloc o) (w.heap.size + 1) y0 y1 y2 := b1.grown (grown_alloc _ _ none) (by simp)
  refine ⟨b0'.grown hg (by intro e; have := hr _ e; omega), b1'.grown hg (by intro e; have := hr _ e; omega), ?_, ?_⟩
  · exact Below.grown (((below2 w _ _ hb).alloc (by simp; omega) _)) hg (by simp; omega) (fun g e => (hr g e).1)
  · have := hg.size; simp at this; omega

set_option maxRecDepth 100000 in
set_option maxHeartbeats 1600000 in
theorem mark_any (base : Nat) (m : List UInt8) (M : List ByteArray) (b : UInt8) (v : Value) (w : World) (h : WalkAt w base 1 m M v) (hb : base ≤ w.heap.size) (hm1 : m.length ≤ 1000) (hs1 : M.length ≤ 1000) :
    Calls Tryz.prog 207 #[v, .int .u8 (b.toNat : Int)] w fun e w' => ∃ u, e = .returned u ∧ WalkAt w' base (nextP 1 b) (nextM 1 m b) (M ++ outM 1 m b) u ∧ Below base w w' := by
  obtain ⟨i0, hi, hz0, hz1, hz2⟩ := info_parts Tryz.info8
  obtain ⟨j0, hj, hy0, hy1, hy2⟩ := info_parts Tryz.infoS
  obtain ⟨am, cm, ax, cs, rfl, hm, hs⟩ := h
  have HM : Hid (OwnsB w base (.slice am m.length cm) m) := hm
  have HS : Hid (Owns w base (.slice ax M.length cs) M) := hs
  clear hm hs
  rw [nextP_1, nextM_1, out_1]
  by_cases h62 : (b.toNat : Int) = 62
  · rw [if_pos h62, if_pos h62, if_pos h62]
    have hbs : (⟨m.toArray⟩ : ByteArray) = bs m := rfl
    have HBS : Hid _ := hbs
    clear hbs
    have hstr : ∀ o o' : Obj, (convert 22 9 (.slice am m.length cm)).run Tryz.prog ((w.alloc o).alloc o') = .ok (.string ⟨m.toArray⟩) ((w.alloc o).alloc o') := fun o o' => string_own (OwnsB.keep HM.out (keep2 w o o'))
    go_enter Tryz.func207, Tryz.ntmps207
    go_wp2_with (at_builtin; refine wpList_append_own _ rfl _ _ 23 rfl base 9 j0 (.string ⟨#[]⟩) 1 16 Tryz.underlying23 hj hy0 hy1 hy2 rfl (by decide) _ _ _ rfl (((World.ownsRow.alloc HS.out _).alloc _).alloc _) ⟨w.heap.size + 1 + 1, 0, none⟩ 1 1 [.string ⟨m.toArray⟩] rfl rfl ?c1 ?c2 ?c3 ?c4 ?c5 ?_)
    case c1 => exact cell_third w _ _ _ _
    case c2 => intro u hu; simp at hu; subst hu; rfl
    case c3 => unfold maxLen; omega
    case c4 => omega
    case c5 => simp; omega
    intro v' w1 hown' hgrow _
    have hO1 : Owns w1 base v' (M ++ [bs m]) := Owns.append hown'
    obtain ⟨a1, c1, hv1, _⟩ := hO1.strs
    subst hv1
    have HO1 : Hid (Owns w1 base (.slice a1 (M ++ [bs m]).length c1) (M ++ [bs m])) := hO1
    have hbx := boxes_past hgrow (fun g hg => World.ownsRow.lt HS.out g hg) hb
    have hM1 : OwnsB w1 base (.slice am m.length cm) m := OwnsB.kept (OwnsB.keep HM.out (keep3 w _ _ _)) hgrow (fun g hg e => rows_apart HM.out HS.out g hg e)
    have HM1 : Hid _ := hM1
    obtain ⟨bx0, bx1, hbl, hsz⟩ := hbx
    have HX0 : Hid (IsBox w1 _) := bx0.is
    have HX1 : Hid (IsBox w1 _) := bx1.is
    have HBL : Hid (Below base w w1) := hbl
    obtain ⟨⟨p0, p1, p2⟩, pf⟩ := bx0.cells
    obtain ⟨⟨q0, q1, q2⟩, qf⟩ := bx1.cells
    clear hown' hgrow hO1 hM1 bx0 bx1 hbl hstr
    go_wp2
    refine bodyPost_ret (v := .agg #[.int .i64 0, .slice am m.length cm, .slice a1 (M ++ [bs m]).length c1]) (by simp [results, Tryz.results207, go_sem, q0, q1, q2]) rfl ?_
    refine ⟨_, rfl, ⟨am, cm, a1, c1, rfl, ?_, ?_⟩, ?_⟩
    · have b0 := HX0.out
      have b1 := HX1.out
      exact (((OwnsB.set HM1.out b0 _ _).set (b1.set _ _ _) _ _).set ((b1.set _ _ _).set _ _ _) _ _).set (((b1.set _ _ _).set _ _ _).set _ _ _) _ _
    · have b0 := HX0.out
      have b1 := HX1.out
      exact owns_set (owns_set (owns_set (owns_set HO1.out b0 _ _) (b1.set _ _ _) _ _) ((b1.set _ _ _).set _ _ _) _ _) (((b1.set _ _ _).set _ _ _).set _ _ _) _ _
    · have hbl := HBL.out
      iterate 4 refine Below.setCell ?_ (by dsimp only; omega) _
      exact hbl
  · rw [if_neg h62, if_neg h62, if_neg h62, List.append_nil]
    have e62 : ((b.toNat : Int) == 62) = false := by simp; omega
    go_enter Tryz.func207, Tryz.ntmps207
    go_wp2_with (at_builtin; refine wpList_append_own _ rfl _ _ 22 rfl base 5 i0 (.int .u8 0) 1 1 Tryz.underlying22 hi hz0 hz1 hz2 rfl (by decide) _ _ _ rfl (((World.ownsRow.alloc HM.out _).alloc _).alloc _) ⟨w.heap.size + 1 + 1, 0, none⟩ 1 1 [.int .u8 (b.toNat : Int)] rfl rfl ?c1 ?c2 ?c3 ?c4 ?c5 ?_)
    case c1 => exact cell_third w _ _ _ _
    case c2 => intro u hu; simp at hu; subst hu; rfl
    case c3 => unfold maxLen; omega
    case c4 => omega
    case c5 => simp; omega
    intro v' w1 hown' hgrow _
    have hO1 : OwnsB w1 base v' (m ++ [b]) := OwnsB.snoc hown'
    obtain ⟨a1, c1, hv1⟩ := hO1.form
    subst hv1
    have HO1 : Hid (OwnsB w1 base (.slice a1 (m ++ [b]).length c1) (m ++ [b])) := hO1
    have hbx := boxes_past hgrow (OwnsB.lt HM.out) hb
    have hS1 : Owns w1 base (.slice ax M.length cs) M := owns_kept (Owns.keep HS.out (keep3 w _ _ _)) hgrow (fun g hg e => rows_apart HM.out HS.out g e hg)
    have HS1 : Hid _ := hS1
    obtain ⟨bx0, bx1, hbl, hsz⟩ := hbx
    have HX0 : Hid (IsBox w1 _) := bx0.is
    have HX1 : Hid (IsBox w1 _) := bx1.is
    have HBL : Hid (Below base w w1) := hbl
    obtain ⟨⟨p0, p1, p2⟩, pf⟩ := bx0.cells
    obtain ⟨⟨q0, q1, q2⟩, qf⟩ := bx1.cells
    clear hown' hgrow hO1 hS1 bx0 bx1 hbl
    go_wp2
    refine bodyPost_ret (v := .agg #[.int .i64 1, .slice a1 (m ++ [b]).length c1, .slice ax M.length cs]) (by simp [results, Tryz.results207, go_sem, q0, q1, q2]) rfl ?_
    refine ⟨_, rfl, ⟨a1, c1, ax, cs, rfl, ?_, ?_⟩, ?_⟩
    · have b0 := HX0.out
      have b1 := HX1.out
      exact (((HO1.out.set b0 _ _).set (b1.set _ _ _) _ _).set ((b1.set _ _ _).set _ _ _) _ _).set (((b1.set _ _ _).set _ _ _).set _ _ _) _ _
    · have b0 := HX0.out
      have b1 := HX1.out
      exact owns_set (owns_set (owns_set (owns_set HS1.out b0 _ _) (b1.set _ _ _) _ _) ((b1.set _ _ _).set _ _ _) _ _) (((b1.set _ _ _).set _ _ _).set _ _ _) _ _
    · have hbl := HBL.out
      iterate 4 refine Below.setCell ?_ (by dsimp only; omega) _
      exact hbl
end Go.Proofs.YtiennniclkbjlaaGreatDoor.Pg
/- A page's text is drawn: all ASCII, at most 600 bytes. -/
namespace Go.Proofs.YtiennniclkbjlaaGreatDoor.Dr
open Go.RowKit Go.Proofs.YtiennniclkbjlaaGreatDoor.St Go.Proofs.YtiennniclkbjlaaGreatDoor.AddrM Go.Proofs.YtiennniclkbjlaaGreatDoor.EscL Go.Proofs.YtiennniclkbjlaaGreatDoor.Ad1

/-- is a text empty, or has it a sign that no word has? -/
def gapB (s : ByteArray) : Bool := s.data.toList.isEmpty || s.data.toList.any (fun b => b == 32 || b == 40 || b == 41 || b == 60 || b == 62)
theorem gap_any {s : ByteArray} (h : s.data.toList.any (fun b => b == 32 || b == 40 || b == 41 || b == 60 || b == 62) = true) : gapB s = true := by unfold gapB; rw [h]; simp
theorem any_l {a b : ByteArray} (h : a.data.toList.any (fun b => b == 32 || b == 40 || b == 41 || b == 60 || b == 62) = true) : (a ++ b).data.toList.any (fun b => b == 32 || b == 40 || b == 41 || b == 60 || b == 62) = true := by
  rw [ByteArray.data_append, Array.toList_append, List.any_append, h]; rfl
theorem any_r {a b : ByteArray} (h : b.data.toList.any (fun b => b == 32 || b == 40 || b == 41 || b == 60 || b == 62) = true) : (a ++ b).data.toList.any (fun b => b == 32 || b == 40 || b == 41 || b == 60 || b == 62) = true := by
  rw [ByteArray.data_append, Array.toList_append, List.any_append, h]; simp
def fineG (s : ByteArray) : Bool := fine s && s.data.toList.any (fun b => b == 32 || b == 40 || b == 41 || b == 60 || b == 62)
theorem sz_app (a b : ByteArray) : (a ++ b).size = a.size + b.size := ByteArray.size_append

set_option maxRecDepth 100000 in
set_option maxHeartbeats 6400000 in
theorem page_small (B r q : Nat) (w : World) (h : IsRd B w r q) (hq : q ≤ 8000) :
    Calls Tryz.prog 98 #[.pointer (some ⟨r, 0, none⟩)] w fun e w' => ∃ s, e = .returned (.string s) ∧ s.size ≤ 300 ∧ (asciiB s = true ∧ gapB s = true) ∧ IsRd B w' r (q + 70) ∧ w.grownBy w' (some r) := by
  have HR0 : Hid (IsRd B w r q) := h
  clear h
  go_enter Tryz.func98, Tryz.ntmps98
  go_wp2_with fail
  refine (pick_any B r q 5 _ HR0.out (by omega) (by omega) (by omega)).mono ?_
  rintro e w1 ⟨x, rfl, hx, hr1, hg1⟩
  have HR1 : Hid (IsRd B w1 r (q + 1)) := hr1
  have HG1 : Hid (w.grownBy w1 (some r)) := hg1
  clear hr1 hg1
  go_wp2
  go_loopw [3, 4] (fun v i wr => ∃ (k : Nat) (s : ByteArray), k ≤ 4 ∧ i = .int .i64 k ∧ v = .string s ∧ s.size ≤ (4 - k) * 70 ∧ Hid (asciiB s = true) ∧ Hid (gapB s = true) ∧ Hid (IsRd B wr r (q + 1 + (4 - k) * 16)) ∧ Hid (w.grownBy wr (some r)))
    (fun _ i _ => (intOf i).toNat)
  case atStart => exact ⟨x, ByteArray.empty, by omega, rfl, rfl, by simp, (by show asciiB _ = true; decide), (by show gapB _ = true; decide), HR1.out.mono (by omega), HG1⟩
  case round =>
    obtain ⟨k, s, hk, rfl, rfl, hs, HA, HGP, HR, HG⟩ := hrel
    by_cases hlt : 0 < k
    · go_wp2_with fail
      refine (pick_any B r _ 9 _ HR.out (by omega) (by omega) (by omega)).mono ?_
      rintro e w2 ⟨y, rfl, hy, hr2, hg2⟩
      have HR2 : Hid (IsRd B w2 r (q + 1 + (4 - k) * 16 + 1)) := hr2
      have HG2 : Hid (w.grownBy w2 (some r)) := grown_trans HG.out hg2
      clear hr2 hg2
      by_cases h0 : y = 0
      · subst h0
        go_wp2_with fail
        refine (ref_small B r _ _ HR2.out (by omega)).mono ?_
        rintro e w3 ⟨t, rfl, ht, hta, hr3, hg3⟩
        have HT : Hid (asciiB t = true) := hta
        have HR3 : Hid (IsRd B w3 r (q + 1 + (4 - k) * 16 + 1 + 7)) := hr3
        have HG3 : Hid (w.grownBy w3 (some r)) := grown_trans HG2.out hg3
        clear hta hr3 hg3
        go_wp2_with fail
        refine (ref_small B r _ _ HR3.out (by omega)).mono ?_
        rintro e w4 ⟨t2, rfl, ht2, hta2, hr4, hg4⟩
        have HT2 : Hid (asciiB t2 = true) := hta2
        have HR4 : Hid (IsRd B w4 r (q + 1 + (4 - k) * 16 + 1 + 7 + 7)) := hr4
        have HG4 : Hid (w.grownBy w4 (some r)) := grown_trans HG3.out hg4
        clear hta2 hr4 hg4
        go_wp2
        go_roundw
        case rel =>
          refine ⟨k - 1, _, by omega, by go_num, rfl, ?_, ?_, gap_any (any_r (by decide)), HR4.out.mono (by omega), HG4⟩
          · simp only [sz_app]
            have e1 : (⟨#[40]⟩ : ByteArray).size = 1 := rfl
            have e2 : (⟨#[60]⟩ : ByteArray).size = 1 := rfl
            have e3 : (⟨#[62, 41]⟩ : ByteArray).size = 2 := rfl
            omega
          · exact asciiB_app (asciiB_app (asciiB_app (asciiB_app (asciiB_app HA.out (by decide)) HT.out) (by decide)) HT2.out) (by decide)
        case measure => simp [intOf]; omega
      have n0 : ((y : Int) == 0) = false := by simp; omega
      by_cases h1 : y = 1
      · subst h1
        go_wp2_with fail
        refine (ref_small B r _ _ HR2.out (by omega)).mono ?_
        rintro e w3 ⟨t, rfl, ht, hta, hr3, hg3⟩
        have HT : Hid (asciiB t = true) := hta
        have HR3 : Hid (IsRd B w3 r (q + 1 + (4 - k) * 16 + 1 + 7)) := hr3
        have HG3 : Hid (w.grownBy w3 (some r)) := grown_trans HG2.out hg3
        clear hta hr3 hg3
        go_wp2
        go_roundw
        case rel =>
          refine ⟨k - 1, _, by omega, by go_num, rfl, ?_, ?_, gap_any (any_r (by decide)), HR3.out.mono (by omega), HG3⟩
          · simp only [sz_app]
            have e1 : (⟨#[60, 33]⟩ : ByteArray).size = 2 := rfl
            have e2 : (⟨#[62]⟩ : ByteArray).size = 1 := rfl
            omega
          · exact asciiB_app (asciiB_app (asciiB_app HA.out (by decide)) HT.out) (by decide)
        case measure => simp [intOf]; omega
      have n1 : ((y : Int) == 1) = false := by simp; omega
      by_cases h2 : y = 2
      · subst h2
        go_wp2_with fail
        refine (ref_small B r _ _ HR2.out (by omega)).mono ?_
        rintro e w3 ⟨t, rfl, ht, hta, hr3, hg3⟩
        have HT : Hid (asciiB t = true) := hta
        have HR3 : Hid (IsRd B w3 r (q + 1 + (4 - k) * 16 + 1 + 7)) := hr3
        have HG3 : Hid (w.grownBy w3 (some r)) := grown_trans HG2.out hg3
        clear hta hr3 hg3
        go_wp2
        go_roundw
        case rel =>
          refine ⟨k - 1, _, by omega, by go_num, rfl, ?_, ?_, gap_any (any_r (by decide)), HR3.out.mono (by omega), HG3⟩
          · simp only [sz_app]
            have e1 : (⟨#[60, 64]⟩ : ByteArray).size = 2 := rfl
            have e2 : (⟨#[62]⟩ : ByteArray).size = 1 := rfl
            omega
          · exact asciiB_app (asciiB_app (asciiB_app HA.out (by decide)) HT.out) (by decide)
        case measure => simp [intOf]; omega
      have n2 : ((y : Int) == 2) = false := by simp; omega
      by_cases h3 : y = 3
      · subst h3
        go_wp2_with fail
        refine (of_new B r _ 6 _ fineG w2 HR2.out (by omega) (by decide) (by decide) (by decide) (by decide)).mono ?_
        rintro e w3 ⟨t, rfl, ht, hr3, hg3⟩
        have ht' : fine t = true ∧ t.data.toList.any (fun b => b == 32 || b == 40 || b == 41 || b == 60 || b == 62) = true := by unfold fineG at ht; rwa [Bool.and_eq_true] at ht
        have hts := (fine_parts ht'.1).1
        have HT : Hid (asciiB t = true) := (fine_parts ht'.1).2
        have HTG : Hid (t.data.toList.any (fun b => b == 32 || b == 40 || b == 41 || b == 60 || b == 62) = true) := ht'.2
        clear ht'
        have HR3 : Hid (IsRd B w3 r (q + 1 + (4 - k) * 16 + 1 + 1)) := hr3
        have HG3 : Hid (w.grownBy w3 (some r)) := grown_trans HG2.out hg3
        clear ht hr3 hg3
        go_wp2
        go_roundw
        case rel =>
          refine ⟨k - 1, _, by omega, by go_num, rfl, ?_, asciiB_app HA.out HT.out, gap_any (any_r HTG.out), HR3.out.mono (by omega), HG3⟩
          simp only [sz_app]
          omega
        case measure => simp [intOf]; omega
      · have n3 : ((y : Int) == 3) = false := by simp; omega
        go_wp2_with fail
        refine (ref_small B r _ _ HR2.out (by omega)).mono ?_
        rintro e w3 ⟨t, rfl, ht, hta, hr3, hg3⟩
        have HT : Hid (asciiB t = true) := hta
        have HR3 : Hid (IsRd B w3 r (q + 1 + (4 - k) * 16 + 1 + 7)) := hr3
        have HG3 : Hid (w.grownBy w3 (some r)) := grown_trans HG2.out hg3
        clear hta hr3 hg3
        go_wp2
        go_roundw
        case rel =>
          refine ⟨k - 1, _, by omega, by go_num, rfl, ?_, ?_, gap_any (any_r (by decide)), HR3.out.mono (by omega), HG3⟩
          · simp only [sz_app]
            have e1 : (⟨#[60]⟩ : ByteArray).size = 1 := rfl
            have e2 : (⟨#[62]⟩ : ByteArray).size = 1 := rfl
            omega
          · exact asciiB_app (asciiB_app (asciiB_app HA.out (by decide)) HT.out) (by decide)
        case measure => simp [intOf]; omega
    · go_wp2
      go_ret
      exact ⟨s, rfl, by omega, ⟨HA.out, HGP.out⟩, HR.out.mono (by omega), HG.out⟩
theorem page_any (B r q : Nat) (w : World) (h : IsRd B w r q) (hq : q ≤ 8000) :
    Calls Tryz.prog 98 #[.pointer (some ⟨r, 0, none⟩)] w fun e w' => ∃ s, e = .returned (.string s) ∧ s.size ≤ 600 ∧ asciiB s = true ∧ IsRd B w' r (q + 70) ∧ w.grownBy w' (some r) :=
  (page_small B r q w h hq).mono fun _ _ ⟨s, e, h1, h2, h3⟩ => ⟨s, e, Nat.le_trans h1 (by decide), h2.1, h3⟩

end Go.Proofs.YtiennniclkbjlaaGreatDoor.Dr
