/- Several texts in one: Draw5, Draw6, Draw7, ReadBack, Draw8, Page5. -/
import Derived.Test.YtcohaalgefcjnaaGreatDoorDraw3
import Derived.Test.YtcohaalgefcjnaaGreatDoorAddr5Pk
import Derived.Test.YtcohaalgefcjnaaGreatDoorRead3Pk
import Derived.Test.YtcohaalgefcjnaaGreatDoorStep
import Derived.Test.YtcohaalgefcjnaaGreatDoorDrawG
import Derived.Deep.RegionHeld3
/- An address is drawn: its text. -/
namespace Go.Proofs.YtcohaalgefcjnaaGreatDoor.Dr
open Go.RowKit Go.Proofs.YtcohaalgefcjnaaGreatDoor.St Go.Proofs.YtcohaalgefcjnaaGreatDoor.AddrM Go.Proofs.YtcohaalgefcjnaaGreatDoor.EscL Go.Proofs.YtcohaalgefcjnaaGreatDoor.Ad1

theorem textF_size (A : Ad) : (textF A).size ≤ 60 := by
  unfold textF
  cases h : okB A with
  | false => show (0 : Nat) ≤ 60; omega
  | true =>
    unfold okB at h
    simp only [Bool.and_eq_true, decide_eq_true_eq] at h
    show (textL A).toArray.size ≤ 60
    simpa using h.2
theorem pathF_size (A : Ad) : (pathF A).size ≤ 60 := by
  unfold pathF
  cases h : okB A with
  | false => show (0 : Nat) ≤ 60; omega
  | true =>
    unfold okB at h
    simp only [Bool.and_eq_true, decide_eq_true_eq] at h
    have h2 := h.2
    unfold textL at h2
    simp only [List.length_cons, List.length_append] at h2
    show (pathL A).toArray.size ≤ 60
    simp; omega

theorem houses_any (w : World) : Calls Tryz.prog 97 #[] w fun e w' => e = .returned (.slice (some ⟨w.heap.size, 0, none⟩) 4 4) ∧ w' = w.alloc (.cells #[.string ⟨#[97, 98]⟩, .string ⟨#[99, 100]⟩, .string ⟨#[101]⟩, .string ⟨#[102, 111, 120]⟩] 9) := by
  go_enter Tryz.func97, Tryz.ntmps97
  go_wp2
  go_ret
  exact ⟨rfl, rfl⟩

/-- a struct of an address lies in a block -/
def Box (w : World) (G : Nat) (x0 x1 x2 x3 : Value) : Prop :=
  w.heap[G]? = some (.cells #[x0, x1, x2, x3] 28 (0, 0))
theorem Box.cells {w : World} {G : Nat} {x0 x1 x2 x3 : Value} (h : Box w G x0 x1 x2 x3) : (w.cell? ⟨G, 0, none⟩ = some x0 ∧ w.cell? ⟨G, 1, none⟩ = some x1 ∧ w.cell? ⟨G, 2, none⟩ = some x2 ∧ w.cell? ⟨G, 3, none⟩ = some x3) ∧ ∀ j, w.frozen? ⟨G, j, none⟩ = false := by
  unfold Box at h
  refine ⟨⟨?_, ?_, ?_, ?_⟩, fun j => ?_⟩
  · simp [World.cell?, h]
  · simp [World.cell?, h]
  · simp [World.cell?, h]
  · simp [World.cell?, h]
  · simp [World.frozen?, h]
theorem Box.lt {w : World} {G : Nat} {x0 x1 x2 x3 : Value} (h : Box w G x0 x1 x2 x3) : G < w.heap.size := (Array.getElem?_eq_some_iff.1 h).1
theorem Box.grown {w w' : World} {G : Nat} {x0 x1 x2 x3 : Value} {row : Option Nat} (h : Box w G x0 x1 x2 x3) (hg : w.grownBy w' row) (hr : row ≠ some G) : Box w' G x0 x1 x2 x3 := by
  unfold Box
  rw [hg.block G h.lt (fun e => hr e.symm)]; exact h
theorem Box.set1 {w : World} {G : Nat} {x0 x1 x2 x3 : Value} (h : Box w G x0 x1 x2 x3) (y : Value) : Box (w.setCell ⟨G, 1, none⟩ y) G x0 y x2 x3 := by
  unfold Box at h ⊢
  simp only [World.setCell, Array.getElem?_modify, if_true, h, Option.map_some]
  simp [Array.setIfInBounds]
theorem Box.set0 {w : World} {G : Nat} {x0 x1 x2 x3 : Value} (h : Box w G x0 x1 x2 x3) (y : Value) : Box (w.setCell ⟨G, 0, none⟩ y) G y x1 x2 x3 := by
  unfold Box at h ⊢
  simp only [World.setCell, Array.getElem?_modify, if_true, h, Option.map_some]
  simp [Array.setIfInBounds]
theorem Box.set2 {w : World} {G : Nat} {x0 x1 x2 x3 : Value} (h : Box w G x0 x1 x2 x3) (y : Value) : Box (w.setCell ⟨G, 2, none⟩ y) G x0 x1 y x3 := by
  unfold Box at h ⊢
  simp only [World.setCell, Array.getElem?_modify, if_true, h, Option.map_some]
  simp [Array.setIfInBounds]
theorem Box.set3 {w : World} {G : Nat} {x0 x1 x2 x3 : Value} (h : Box w G x0 x1 x2 x3) (y : Value) : Box (w.setCell ⟨G, 3, none⟩ y) G x0 x1 x2 y := by
  unfold Box at h ⊢
  simp only [World.setCell, Array.getElem?_modify, if_true, h, Option.map_some]
  simp [Array.setIfInBounds]
theorem Box.heapEq {w w' : World} {G : Nat} {x0 x1 x2 x3 : Value} (h : Box w G x0 x1 x2 x3) (e : w'.heap = w.heap) : Box w' G x0 x1 x2 x3 := by unfold Box; rw [e]; exact h

theorem sum_snoc (L : List ByteArray) (t : ByteArray) : sumS (L ++ [t]) = sumS L + t.size := by rw [ReadM.sumS_append]; simp [sumS]

theorem join_le : ∀ L : List ByteArray, (joinL L).length ≤ sumS L + L.length := by
  intro L
  induction L with
  | nil => simp [joinL, sumS]
  | cons y L ih =>
    have : y.data.toList.length = y.size := by simp
    rcases L with _ | ⟨z, L⟩
    · simp [joinL, sumS]
    · simp only [joinL, sumS, List.length_append, List.length_cons] at ih ⊢
      omega
theorem text_small (s0 t : ByteArray) (L : List ByteArray) (b : Bool) (h0 : s0.size ≤ 5) (h1 : L.length ≤ 2) (h2 : sumS L ≤ 12) (h3 : t.size ≤ 6) : (textF ⟨s0, L, b, t⟩).size ≤ 30 := by
  unfold textF
  split
  · show (textL ⟨s0, L, b, t⟩).toArray.size ≤ 30
    have hj := join_le L
    have e0 : s0.data.toList.length = s0.size := by simp
    have e1 : t.data.toList.length = t.size := by simp
    simp only [List.size_toArray]
    unfold textL pathL
    simp only [List.length_cons, List.length_append]
    cases b <;> simp <;> omega
  · show (0 : Nat) ≤ 30; omega

set_option maxRecDepth 100000 in
set_option maxHeartbeats 1600000 in
theorem addr_small (B r q : Nat) (w : World) (h : IsRd B w r q) (hq : q ≤ 10000) :
    Calls Tryz.prog 78 #[.pointer (some ⟨r, 0, none⟩)] w fun e w' => ∃ s, e = .returned (.string s) ∧ s.size ≤ 60 ∧ IsRd B w' r (q + 6) ∧ w.grownBy w' (some r) ∧ (∃ A, s = textF A) ∧ s.size ≤ 30 := by
  obtain ⟨i0, hi, hz0, hz1, hz2⟩ := info_parts Tryz.infoS
  have hle := h.le
  have HR0 : Hid (IsRd B w r q) := h
  clear h
  go_enter Tryz.func78, Tryz.ntmps78
  go_wp2_with fail
  refine (houses_any w).mono ?_
  rintro e w0 ⟨rfl, rfl⟩
  go_wp2_with fail
  refine (pick_any B r q 4 _ (HR0.out.alloc _) (by omega) (by omega) (by omega)).mono ?_
  rintro e w1 ⟨x, rfl, hx, hr1, hg1⟩
  obtain ⟨s0, hs0, hp0⟩ := lit_cell (x := x) (P := fun s => decide (s.size ≤ 5)) (heap_new w _) (by decide) hg1 (by omega) (by simp; omega)
  have hz5 : s0.size ≤ 5 := of_decide_eq_true hp0
  have hg01 : w.grownBy w1 (some r) := grown_trans (grown_alloc _ _ _) hg1
  have HG1 : Hid _ := hg01
  have HR1 : Hid (IsRd B w1 r (q + 1)) := hr1
  have hw1 : w.heap.size < w1.heap.size := by have := hg1.size; simp at this; omega
  clear hp0 hg1 hg01 hr1
  obtain ⟨G, hG⟩ : ∃ G, w1.heap.size = G := ⟨_, rfl⟩
  have hwG : w.heap.size < G := by omega
  go_wp2_with fail
  refine (pick_any B r (q + 1) 3 _ (HR1.out.alloc _) (by omega) (by omega) (by omega)).mono ?_
  rintro e w2 ⟨n0, rfl, hn0, hr2, hg2⟩
  have HR2 : Hid (IsRd B w2 r (q + 2)) := hr2
  have HX2 : Hid (Box w2 G (.string s0) (.slice none 0 0) (.bool false) (.string ⟨#[]⟩)) := by
    rw [← hG]
    exact Box.grown (heap_new w1 _) hg2 (by intro e; have := Option.some.inj e; omega)
  have HG2 : Hid (w.grownBy w2 (some r)) := grown_trans HG1.out (grown_trans (grown_alloc _ _ _) hg2)
  have hw2 : G < w2.heap.size := by have := hg2.size; simp at this; omega
  clear hr2 hg2 hs0
  clear hG hw1 HG1 HR1
  go_wp2
  go_loopw [4] (fun i wr => ∃ (k : Nat) (L : List ByteArray) (a0 : Option Addr) (cap : Nat), k ≤ 2 ∧ i = .int .i64 (k : Int) ∧ L.length + k ≤ 2 ∧ Hid (sumS L ≤ 6 * L.length) ∧ Hid (Box wr G (.string s0) (.slice a0 L.length cap) (.bool false) (.string ⟨#[]⟩)) ∧ Hid (Owns wr (G + 1) (.slice a0 L.length cap) L) ∧ Hid (IsRd B wr r (q + 4 - k)) ∧ Hid (w.grownBy wr (some r)) ∧ G + 1 ≤ wr.heap.size) (fun i _ => (intOf i).toNat)
  case atStart => exact ⟨n0, [], none, 0, by omega, rfl, by simp; omega, by show _ ≤ _; simp [sumS], HX2, Owns.nil _ _, HR2.out.mono (by omega), HG2, by omega⟩
  case round =>
    obtain ⟨k, L, a0, cap, hk, rfl, hLk, HL, HX, HO, HR, HG, hwr⟩ := hrel
    have hx := HX.out
    obtain ⟨⟨c0, c1, c2, c3⟩, fz⟩ := hx.cells
    clear hx
    by_cases hlt : 0 < k
    · go_wp2_with fail
      have c1d : wr.drew.cell? ⟨G, 1, none⟩ = some (.slice a0 L.length cap) := c1
      have c1a : ∀ o, (wr.alloc o).cell? ⟨G, 1, none⟩ = some (.slice a0 L.length cap) := fun o => (HX.out.grown (grown_alloc wr o none) (by simp)).cells.1.2.1
      have c1ad : ∀ o, (wr.alloc o).drew.cell? ⟨G, 1, none⟩ = some (.slice a0 L.length cap) := fun o => c1a o
      have c1da : ∀ o, (wr.drew.alloc o).cell? ⟨G, 1, none⟩ = some (.slice a0 L.length cap) := fun o => c1a o
      go_region_law
        (first
        | (go_simp
           go_at_call 32
           refine (of_newD B r (q + 4 - k) 4 _ (fun s => decide (s.size ≤ 6)) wr HR.out (by omega) (by decide) (by decide) (by decide) (by decide)).mono ?_
           rintro e w3 ⟨t, rfl, ht, hr3, hg3⟩
           have ht6 : t.size ≤ 6 := of_decide_eq_true ht
           have HX3 : Hid (Box w3 G (.string s0) (.slice a0 L.length cap) (.bool false) (.string ⟨#[]⟩)) := HX.out.grown hg3 (by intro e; have := Option.some.inj e; omega)
           have HO3 : Hid (Owns w3 (G + 1) (.slice a0 L.length cap) L) := Owns.kept HO.out hg3 (by omega)
           have HR3 : Hid (IsRd B w3 r (q + 4 - k + 1)) := hr3
           have HG3 : Hid (w.grownBy w3 (some r)) := grown_trans HG.out hg3
           have hw3 : G + 1 ≤ w3.heap.size := Nat.le_trans hwr hg3.size
           have cw : w3.cell? ⟨G, 1, none⟩ = some (.slice a0 L.length cap) := HX3.out.cells.1.2.1
           have c3d : w3.drew.cell? ⟨G, 1, none⟩ = some (.slice a0 L.length cap) := cw
           have c3a : ∀ o, (w3.alloc o).cell? ⟨G, 1, none⟩ = some (.slice a0 L.length cap) := fun o => (HX3.out.grown (grown_alloc w3 o none) (by simp)).cells.1.2.1
           have c3ad : ∀ o, (w3.alloc o).drew.cell? ⟨G, 1, none⟩ = some (.slice a0 L.length cap) := fun o => c3a o
           have c3da : ∀ o, (w3.drew.alloc o).cell? ⟨G, 1, none⟩ = some (.slice a0 L.length cap) := fun o => c3a o
           clear ht hr3 hg3
           dsimp only)
        | (refine step_app rfl (.tmp 18) (.tmp 22) 26 rfl (G + 1) 9 i0 (.string ⟨#[]⟩) 1 16 Tryz.underlying26 hi hz0 hz1 hz2 rfl (by decide) (.slice a0 L.length cap) L.length (cellsS L) rfl (Owns.heapEq (Owns.keep HO3.out (alloc_keep w3 _)) rfl) (some ⟨w3.heap.size, 0, none⟩) 1 1 [.string t] rfl (by intro e; cases e) rfl (by intro ad e; cases e; exact cell_one_new w3 _ _) (by intro u hu; simp at hu; subst hu; rfl) (by unfold maxLen; omega) (by omega) (by simp; omega) ?_
           intro v4 w4 hO4 hg4
           obtain ⟨a4, c4, hv4, hS4⟩ := (Owns.append hO4).strs
           subst hv4
           have HO4 : Hid (Owns w4 (G + 1) (.slice a4 (L ++ [t]).length c4) (L ++ [t])) := Owns.append hO4
           have HX4 : Hid (Box w4 G (.string s0) (.slice a0 L.length cap) (.bool false) (.string ⟨#[]⟩)) := ((HX3.out.grown (grown_alloc w3 _ none) (by simp)).heapEq rfl).grown hg4 (own_ne HO3.out (by omega))
           have cw4 : w4.cell? ⟨G, 1, none⟩ = some (.slice a0 L.length cap) := HX4.out.cells.1.2.1
           have fz4 : ∀ j, w4.frozen? ⟨G, j, none⟩ = false := HX4.out.cells.2
           have hgA : w3.grownBy w4 (Value.slice a0 L.length cap).ownBlock := (by refine grown_trans ?_ hg4; exact ⟨rfl, rfl, rfl, by simp, fun k hk _ => Below.heap_alloc w3 _ k hk⟩)
           have HR4 : Hid (IsRd B w4 r (q + 4 - k + 1)) := HR3.out.grownRow (base := G + 1) hgA (by omega) (Owns.block HO3.out)
           have HG4 : Hid (w.grownBy w4 (some r)) := grown_past HG3.out hgA (fun k hk => by have := Owns.block HO3.out k hk; omega)
           have hw4 : G + 1 ≤ w4.heap.size := Nat.le_trans hw3 hgA.size
           clear hO4 hS4 hg4 hgA)
        | fail)
      all_goals (
        go_wp2
        go_roundw
        case rel =>
          refine ⟨k - 1, L ++ [t], a4, c4, by omega, by go_num, by rw [len_snoc]; omega, ?_, ?_, ?_, ?_, ?_, by simp [World.setCell]; omega⟩
          · show _ ≤ _
            rw [sum_snoc, len_snoc]; have := HL.out; omega
          · rw [len_snoc]; exact HX4.out.set1 _
          · exact ownsRow_setCell_below HO4.out (by dsimp only; omega) _
          · exact (HR4.out.grownRow (base := G) (grown_set 1 _) (by omega) (fun k hk => by have := Option.some.inj hk; omega)).mono (by omega)
          · exact grown_past HG4.out (grown_set 1 _) (fun k hk => by have := Option.some.inj hk; omega)
        case measure => simp [intOf]; omega)
    · have hk0 : k = 0 := by omega
      subst hk0
      go_wp2_with fail
      refine (pick_any B r (q + 4) 8 _ HR.out (by omega) (by omega) (by omega)).mono ?_
      rintro e w5 ⟨y, rfl, hy, hr5, hg5⟩
      have HX5 : Hid (Box w5 G (.string s0) (.slice a0 L.length cap) (.bool false) (.string ⟨#[]⟩)) := HX.out.grown hg5 (by intro e; have := Option.some.inj e; omega)
      have HO5 : Hid (Owns w5 (G + 1) (.slice a0 L.length cap) L) := Owns.kept HO.out hg5 (by omega)
      have HR5 : Hid (IsRd B w5 r (q + 5)) := hr5
      have HG5 : Hid (w.grownBy w5 (some r)) := grown_trans HG.out hg5
      have hw5 : G + 1 ≤ w5.heap.size := Nat.le_trans hwr hg5.size
      clear hr5 hg5 c0 c1 c2 c3 fz
      have hx5 := HX5.out
      obtain ⟨⟨c0, c1, c2, c3⟩, fz⟩ := hx5.cells
      clear hx5
      by_cases hy0 : y = 0
      · subst hy0
        have HX6 : Hid (Box (w5.setCell ⟨G, 2, none⟩ (.bool true)) G (.string s0) (.slice a0 L.length cap) (.bool true) (.string ⟨#[]⟩)) := HX5.out.set2 _
        have HO6 : Hid (Owns (w5.setCell ⟨G, 2, none⟩ (.bool true)) (G + 1) (.slice a0 L.length cap) L) := ownsRow_setCell_below HO5.out (by dsimp only; omega) _
        have HR6 : Hid (IsRd B (w5.setCell ⟨G, 2, none⟩ (.bool true)) r (q + 5)) := HR5.out.grownRow (base := G) (grown_set 2 _) (by omega) (fun k hk => by have := Option.some.inj hk; omega)
        have HG6 : Hid (w.grownBy (w5.setCell ⟨G, 2, none⟩ (.bool true)) (some r)) := grown_past HG5.out (grown_set 2 _) (fun k hk => by have := Option.some.inj hk; omega)
        have hw6 : (w5.setCell ⟨G, 2, none⟩ (.bool true)).heap.size = w5.heap.size := by simp [World.setCell]
        have HW6 : Hid _ := hw6
        clear hw6
        go_wp2_with fail
        refine (of_newG B r (q + 5) 3 _ _ (fun s => decide (s.size ≤ 6)) _ HW6.out HR6.out (by omega) (by decide) (by decide) (by decide) (by decide)).mono ?_
        rintro e w7 ⟨t, rfl, ht, hr7, hg7⟩
        have ht6 : t.size ≤ 6 := of_decide_eq_true ht
        have HX7 : Hid (Box w7 G (.string s0) (.slice a0 L.length cap) (.bool true) (.string ⟨#[]⟩)) := HX6.out.grown hg7 (by intro e; have := Option.some.inj e; omega)
        have HO7 : Hid (Owns w7 (G + 1) (.slice a0 L.length cap) L) := Owns.kept HO6.out hg7 (by omega)
        have HR7 : Hid (IsRd B w7 r (q + 6)) := hr7
        have HG7 : Hid (w.grownBy w7 (some r)) := grown_trans HG6.out hg7
        have hw7 : G + 1 ≤ w7.heap.size := by have := hg7.size; have := HW6.out; omega
        clear hr7 hg7 ht c0 c1 c2 c3 fz HX6 HO6 HR6 HG6
        have hx7 := HX7.out
        obtain ⟨⟨c0, c1, c2, c3⟩, fz⟩ := hx7.cells
        clear hx7
        go_wp2_with fail
        refine (specAddrText_any ⟨s0, L, true, t⟩ a0 cap _ (Owns.strsOf (ownsRow_setCell_below HO7.out (by dsimp only; omega) _ : Owns _ (G + 1) _ L)) (by show s0.size + sumS L + L.length + t.size ≤ _; have := HL.out; omega)).mono ?_
        rintro e w8 ⟨rfl, hb8⟩
        go_wp2
        go_ret
        refine ⟨_, rfl, textF_size _, IsRd.below (HR7.out.grownRow (base := G) (grown_set 3 _) (by omega) (fun k hk => by have := Option.some.inj hk; omega)) hb8, ?_⟩
        exact ⟨grown_past (grown_past HG7.out (grown_set 3 _) (fun k hk => by have := Option.some.inj hk; omega)) (grown_of_below none hb8) (fun k hk => by cases hk), ⟨_, rfl⟩, text_small _ _ _ _ hz5 (by omega) (by have := HL.out; omega) ht6⟩
      · have hy1 : ((y : Int) == 0) = false := by simp; omega
        go_wp2_with fail
        refine (specAddrText_any ⟨s0, L, false, ⟨#[]⟩⟩ a0 cap _ (Owns.strsOf HO5.out) (by show s0.size + sumS L + L.length + 0 ≤ _; have := HL.out; omega)).mono ?_
        rintro e w6 ⟨rfl, hb6⟩
        go_wp2
        go_ret
        exact ⟨_, rfl, textF_size _, (HR5.out.below hb6).mono (by omega), grown_past HG5.out (grown_of_below none hb6) (fun k hk => by cases hk), ⟨_, rfl⟩, text_small _ _ _ _ hz5 (by omega) (by have := HL.out; omega) (by decide)⟩
theorem addr_any (B r q : Nat) (w : World) (h : IsRd B w r q) (hq : q ≤ 10000) :
    Calls Tryz.prog 78 #[.pointer (some ⟨r, 0, none⟩)] w fun e w' => ∃ s, e = .returned (.string s) ∧ s.size ≤ 60 ∧ IsRd B w' r (q + 6) ∧ w.grownBy w' (some r) ∧ ∃ A, s = textF A :=
  (addr_small B r q w h hq).mono fun _ _ ⟨s, e, h1, h2, h3, h4, _⟩ => ⟨s, e, h1, h2, h3, h4⟩
end Go.Proofs.YtcohaalgefcjnaaGreatDoor.Dr
/- An address is drawn: as a struct, some spoilt. -/
namespace Go.Proofs.YtcohaalgefcjnaaGreatDoor.Dr
open Go.RowKit Go.Proofs.YtcohaalgefcjnaaGreatDoor.St Go.Proofs.YtcohaalgefcjnaaGreatDoor.AddrM Go.Proofs.YtcohaalgefcjnaaGreatDoor.EscL Go.Proofs.YtcohaalgefcjnaaGreatDoor.Ad1 Go.Proofs.YtcohaalgefcjnaaGreatDoor.ReadM Go.Proofs.YtcohaalgefcjnaaGreatDoor.Rd1

theorem sum_join : ∀ L : List ByteArray, sumS L ≤ (joinL L).length := by
  intro L
  induction L with
  | nil => simp [sumS]
  | cons y L ih =>
    have : y.data.toList.length = y.size := by simp
    rcases L with _ | ⟨z, L⟩
    · simp [joinL, sumS]
    · simp only [joinL, sumS, List.length_append, List.length_cons] at ih ⊢
      omega
theorem ok_parts {A : Ad} (h : okB A = true) : houseB A.house = true ∧ A.parts.length ≤ 5 ∧ A.parts.all partB = true ∧ (A.asks || A.ask.toList.isEmpty) = true ∧ normB A.ask = true ∧ (textL A).length ≤ 60 := by
  unfold okB at h
  simp only [Bool.and_eq_true, decide_eq_true_eq] at h
  exact ⟨h.1.1.1.1.1, h.1.1.1.1.2, h.1.1.1.2, h.1.1.2, h.1.2, h.2⟩
theorem ok_bulk {A : Ad} (h : okB A = true) : bulkA A ≤ 70 := by
  obtain ⟨_, h2, _, h4, _, h6⟩ := ok_parts h
  have hj := sum_join A.parts
  have hh : A.house.data.toList.length = A.house.size := by simp
  have ha : A.ask.data.toList.length = A.ask.size := by simp
  unfold bulkA
  unfold textL pathL at h6
  simp only [List.length_cons, List.length_append] at h6
  cases hq : A.asks with
  | true => rw [hq] at h6; simp only [if_true, List.length_cons] at h6; omega
  | false =>
    rw [hq] at h4 h6
    simp only [Bool.false_or] at h4
    rw [ByteArray.toList_eq] at h4
    have h0 : A.ask.data.toList.length = 0 := by rw [List.isEmpty_iff.1 h4]; rfl
    omega
theorem way_ok {house : ByteArray} {frm : List ByteArray} {way : ByteArray} {A : Ad} (h : wayF house frm way = some A) : okB A = true := by
  unfold wayF at h
  split at h
  · cases h
  · split at h
    · split at h
      · rename_i hk; cases h; exact hk
      · cases h
    · cases h
theorem read_ok {l : List UInt8} {A : Ad} (h : readF l = some A) : okB A = true := by
  unfold readF at h
  split at h
  · cases h
  · split at h
    · exact way_ok h
    · cases h
theorem reads_bulk {l : List UInt8} {A : Ad} {ok : Bool} (h : (ok = true ∧ readF l = some A) ∨ (ok = false ∧ readF l = none ∧ A = zeroAd)) : bulkA A ≤ 70 := by
  rcases h with ⟨_, h⟩ | ⟨_, _, rfl⟩
  · exact ok_bulk (read_ok h)
  · decide

/-- what is drawn -/
def Drawn (B r q : Nat) (w : World) (e : Ending) (w' : World) : Prop :=
  ∃ (A : Ad) (a1 : Option Addr) (c1 : Nat), e = .returned (.agg #[.string A.house, .slice a1 A.parts.length c1, .bool A.asks, .string A.ask]) ∧ Owns w' w.heap.size (.slice a1 A.parts.length c1) A.parts ∧ bulkA A ≤ 1000 ∧ IsRd B w' r q ∧ w.grownBy w' (some r)

theorem own_not_box {w : World} {base G : Nat} {v : Value} {L : List ByteArray} {x0 x1 x2 x3 : Value} (h : Owns w base v L) (hx : Box w G x0 x1 x2 x3) : v.ownBlock ≠ some G := by
  obtain ⟨_, ⟨rfl, _⟩ | ⟨g, cap, cur, rfl, _, hc, _⟩⟩ := h
  · intro e; simp [Value.ownBlock] at e
  · intro e
    have e' : g = G := by simpa [Value.ownBlock] using e
    subst e'
    unfold Box at hx
    rw [hc] at hx
    injection hx with hx
    injection hx with _ h2 _
    exact absurd h2 (by decide)
theorem Owns.setBox {w : World} {base G j : Nat} {v y : Value} {L : List ByteArray} {x0 x1 x2 x3 : Value} (h : Owns w base v L) (hx : Box w G x0 x1 x2 x3) : Owns (w.setCell ⟨G, j, none⟩ y) base v L := by
  have hne := own_not_box h hx
  refine World.ownsRow.kept h (grown_set j y) ?_
  cases hv : v.ownBlock with
  | none => exact Or.inl rfl
  | some g => right; rw [hv] at hne; exact hne
theorem drawn_end {B r q b0 : Nat} {w W : World} {A : Ad} {a1 : Option Addr} {c1 : Nat} (x0 x1 x2 x3 : Value) (hO : Owns W b0 (.slice a1 A.parts.length c1) A.parts) (hk : bulkA A ≤ 1000) (hR : IsRd B W r q) (hG : w.grownBy W (some r)) (hb : w.heap.size < b0) (hr : r < w.heap.size) :
    Drawn B r q w (.returned (.agg #[.string A.house, .slice a1 A.parts.length c1, .bool A.asks, .string A.ask])) ((((W.setCell ⟨w.heap.size, 0, none⟩ x0).setCell ⟨w.heap.size, 1, none⟩ x1).setCell ⟨w.heap.size, 2, none⟩ x2).setCell ⟨w.heap.size, 3, none⟩ x3) := by
  refine ⟨A, a1, c1, rfl, ?_, hk, ?_, ?_⟩
  · refine Owns.mono (?_ : Owns _ b0 _ _) (by omega)
    iterate 4 refine ownsRow_setCell_below ?_ (by dsimp only; omega) _
    exact hO
  · iterate 4 refine IsRd.grownRow (base := w.heap.size) ?_ (grown_set _ _) hr (fun k hk => by have := Option.some.inj hk; omega)
    exact hR
  · iterate 4 refine grown_past ?_ (grown_set _ _) (fun k hk => by have := Option.some.inj hk; omega)
    exact hG
theorem bulk_house {A : Ad} {t : ByteArray} (h : bulkA A ≤ 70) (ht : t.size ≤ 10) : bulkA ⟨t, A.parts, A.asks, A.ask⟩ ≤ 1000 := by unfold bulkA at *; dsimp only; omega
theorem bulk_ask {A : Ad} {t : ByteArray} (h : bulkA A ≤ 70) (ht : t.size ≤ 10) : bulkA ⟨A.house, A.parts, A.asks, t⟩ ≤ 1000 := by unfold bulkA at *; dsimp only; omega
theorem bulk_more {A : Ad} {M : List ByteArray} (h : bulkA A ≤ 70) (ht : sumS M + M.length ≤ 100) : bulkA ⟨A.house, A.parts ++ M, A.asks, A.ask⟩ ≤ 1000 := by
  unfold bulkA at *; dsimp only; rw [sumS_append, List.length_append]; omega

theorem cells_new (w : World) (C : Array Value) (t : TypeId) : ∀ j u, C.toList[j]? = some u → (w.alloc (.cells C t)).cell? ((⟨w.heap.size, 0, none⟩ : Addr).add j) = some u := by
  intro j u hj
  rw [add_mk]
  have hb := heap_new w (.cells C t)
  have : C[j]? = some u := by rw [← Array.getElem?_toList]; exact hj
  unfold World.cell?
  dsimp only
  rw [hb]; simpa using this
def fiveS : List ByteArray := [⟨#[97]⟩, ⟨#[98]⟩, ⟨#[99]⟩, ⟨#[97]⟩, ⟨#[98]⟩]

end Go.Proofs.YtcohaalgefcjnaaGreatDoor.Dr
/- The drawn addresses of the laws. -/
namespace Go.Proofs.YtcohaalgefcjnaaGreatDoor.Dr
open Go.RowKit Go.Proofs.YtcohaalgefcjnaaGreatDoor.St Go.Proofs.YtcohaalgefcjnaaGreatDoor.AddrM Go.Proofs.YtcohaalgefcjnaaGreatDoor.EscL Go.Proofs.YtcohaalgefcjnaaGreatDoor.Ad1 Go.Proofs.YtcohaalgefcjnaaGreatDoor.ReadM Go.Proofs.YtcohaalgefcjnaaGreatDoor.Rd1

/-- an address that is drawn of a code -/
def DrawnA (w : World) (e : Ending) (w' : World) : Prop :=
  ∃ (A : Ad) (a1 : Option Addr) (c1 : Nat), e = .returned (.agg #[.string A.house, .slice a1 A.parts.length c1, .bool A.asks, .string A.ask]) ∧ Owns w' w.heap.size (.slice a1 A.parts.length c1) A.parts ∧ bulkA A ≤ 1000 ∧ Below w.heap.size w w'

end Go.Proofs.YtcohaalgefcjnaaGreatDoor.Dr
/- An ok address is read back from its text: plain mathematics. -/
namespace Go.Proofs.YtcohaalgefcjnaaGreatDoor.RB
open Go.Proofs.YtcohaalgefcjnaaGreatDoor.EscM Go.Proofs.YtcohaalgefcjnaaGreatDoor.EscL Go.Proofs.YtcohaalgefcjnaaGreatDoor.AddrM Go.Proofs.YtcohaalgefcjnaaGreatDoor.ReadM Go.Proofs.YtcohaalgefcjnaaGreatDoor.PathM Go.Proofs.YtcohaalgefcjnaaGreatDoor.Rd1

/-- bytes that stand in what is written in one way -/
def tame (b : UInt8) : Prop := (b.toNat : Int) ≠ 47 ∧ (b.toNat : Int) ≠ 63 ∧ (b.toNat : Int) ≠ 35 ∧ b.toNat < 128
theorem tame_plain {b : UInt8} (h : plainZ b.toNat = true) : tame b := by
  unfold plainZ at h
  have := of_decide_eq_true h
  refine ⟨?_, ?_, ?_, ?_⟩ <;> omega
theorem tame_hex {b : UInt8} (h : ¬ hexZ b.toNat < 0) : tame b := by
  unfold hexZ at h
  split at h
  · refine ⟨?_, ?_, ?_, ?_⟩ <;> omega
  · split at h
    · refine ⟨?_, ?_, ?_, ?_⟩ <;> omega
    · split at h
      · refine ⟨?_, ?_, ?_, ?_⟩ <;> omega
      · omega
theorem tame_norm : ∀ (n : Nat) (L : List UInt8), L.length ≤ n → escN L = some L → ∀ b ∈ L, tame b := by
  intro n
  induction n with
  | zero => intro L hL _ b hb; have : L = [] := List.eq_nil_of_length_eq_zero (by omega); subst this; cases hb
  | succ n ih =>
    intro L hL h b hb
    cases L with
    | nil => cases hb
    | cons c r =>
      rcases written_step h c r rfl with ⟨h1, h2, h3⟩ | ⟨h1, x, y, r', h2, h3⟩
      · rcases List.mem_cons.1 hb with rfl | hb
        · exact tame_plain h2
        · exact ih r (by simpa using hL) h3 b hb
      · subst h1 h2
        have hxy : ¬ (hexZ x.toNat < 0 ∨ hexZ y.toNat < 0) := by
          intro hh
          simp only [escN, if_true, if_pos hh] at h
          cases h
        rcases List.mem_cons.1 hb with rfl | hb
        · unfold tame; decide
        · rcases List.mem_cons.1 hb with rfl | hb
          · exact tame_hex (fun e => hxy (Or.inl e))
          · rcases List.mem_cons.1 hb with rfl | hb
            · exact tame_hex (fun e => hxy (Or.inr e))
            · exact ih r' (by simp at hL; omega) h3 b hb
theorem norm_fix {s : ByteArray} (h : normB s = true) : escB s = true ∧ escS s = s ∧ escN s.data.toList = some s.data.toList := by
  unfold normB at h
  simp only [Bool.and_eq_true] at h
  have he : escS s = s := by
    have := h.2
    rw [ByteArray.toList_eq, ByteArray.toList_eq] at this
    apply ByteArray.ext
    apply Array.toList_inj.1
    exact eq_of_beq this
  obtain ⟨_, x, hx, hs⟩ := escB_true h.1
  refine ⟨h.1, he, ?_⟩
  rw [hx]
  rw [he] at hs
  rw [hs]
theorem norm_tame {s : ByteArray} (h : normB s = true) : ∀ b ∈ s.data.toList, tame b := tame_norm _ _ (Nat.le_refl _) (norm_fix h).2.2

theorem split_one (c : Int) : ∀ l : List UInt8, (∀ b ∈ l, (b.toNat : Int) ≠ c) → splitL c l = [l] := by
  intro l
  induction l with
  | nil => intro _; rfl
  | cons b r ih =>
    intro h
    rw [split_cons, if_neg (h b (by simp)), ih (fun x hx => h x (by simp [hx]))]; rfl
theorem split_app (c : Int) (d : UInt8) (hd : (d.toNat : Int) = c) : ∀ (l r : List UInt8), (∀ b ∈ l, (b.toNat : Int) ≠ c) → splitL c (l ++ d :: r) = l :: splitL c r := by
  intro l
  induction l with
  | nil => intro r _; rw [List.nil_append, split_cons, if_pos hd]
  | cons b l ih =>
    intro r h
    rw [List.cons_append, split_cons, if_neg (h b (by simp)), ih r (fun x hx => h x (by simp [hx]))]; rfl
theorem cut_app (c : Int) (d : UInt8) (hd : (d.toNat : Int) = c) : ∀ (l r : List UInt8), (∀ b ∈ l, (b.toNat : Int) ≠ c) → cutL c (l ++ d :: r) = (l, r, true) := by
  intro l
  induction l with
  | nil => intro r _; rw [List.nil_append, cut_cons, if_pos hd]
  | cons b l ih =>
    intro r h
    rw [List.cons_append, cut_cons, if_neg (h b (by simp)), ih r (fun x hx => h x (by simp [hx]))]
theorem cut_no (c : Int) : ∀ l : List UInt8, (∀ b ∈ l, (b.toNat : Int) ≠ c) → cutL c l = (l, [], false) := fun l h => cut_none c l (fun _ hi => h _ (List.getElem_mem hi))

theorem join_split : ∀ L : List ByteArray, L ≠ [] → (∀ p ∈ L, ∀ b ∈ p.data.toList, tame b) → splitL 47 (joinL L) = L.map (·.data.toList) := by
  intro L
  induction L with
  | nil => intro h; exact absurd rfl h
  | cons x r ih =>
    intro _ h
    cases r with
    | nil => simp only [joinL, List.map_cons, List.map_nil]; exact split_one _ _ (fun b hb => (h x (by simp) b hb).1)
    | cons y r =>
      simp only [joinL]
      rw [split_app 47 47 rfl _ _ (fun b hb => (h x (by simp) b hb).1), ih (by simp) (fun p hp => h p (by simp [hp]))]; rfl
theorem join_mem : ∀ (L : List ByteArray) (c : Int), c ≠ 47 → (∀ p ∈ L, ∀ b ∈ p.data.toList, (b.toNat : Int) ≠ c) → ∀ b ∈ joinL L, (b.toNat : Int) ≠ c := by
  intro L c hc
  induction L with
  | nil => intro _ b hb; cases hb
  | cons x r ih =>
    intro h b hb
    cases r with
    | nil => simp only [joinL] at hb; exact h x (by simp) b hb
    | cons y r =>
      simp only [joinL] at hb
      rcases List.mem_append.1 hb with hb | hb
      · exact h x (by simp) b hb
      · rcases List.mem_cons.1 hb with rfl | hb
        · intro e; exact hc (by rw [← e]; rfl)
        · exact ih (fun p hp => h p (by simp [hp])) b hb

theorem part_norm' {s : ByteArray} (h : partB s = true) : normB s = true ∧ good s := by
  unfold partB at h
  simp only [Bool.and_eq_true, Bool.not_eq_true'] at h
  exact ⟨h.2, h.1.1.1, h.1.1.2, h.1.2⟩
theorem parts_tame {A : Ad} (h : okB A = true) : ∀ p ∈ A.parts, ∀ b ∈ p.data.toList, tame b := by
  intro p hp
  exact norm_tame (part_norm' (List.all_eq_true.1 (Dr.ok_parts h).2.2.1 p hp)).1
theorem ask_none {A : Ad} (h : okB A = true) (hq : A.asks = false) : A.ask = ⟨#[]⟩ := by
  have := (Dr.ok_parts h).2.2.2.1
  rw [hq, Bool.false_or, ByteArray.toList_eq] at this
  apply ByteArray.ext
  apply Array.toList_inj.1
  rw [List.isEmpty_iff.1 this]
/-- a way, cut at what is asked -/
theorem cut_path {A : Ad} (h : okB A = true) : cutL 63 (pathL A) = (47 :: joinL A.parts, A.ask.data.toList, A.asks) := by
  have hj : ∀ b ∈ 47 :: joinL A.parts, (b.toNat : Int) ≠ 63 := by
    intro b hb
    rcases List.mem_cons.1 hb with rfl | hb
    · decide
    · exact join_mem A.parts 63 (by decide) (fun p hp b hb => (parts_tame h p hp b hb).2.1) b hb
  unfold pathL
  cases hq : A.asks with
  | true =>
    have := cut_app 63 63 rfl (47 :: joinL A.parts) A.ask.data.toList hj
    simpa using this
  | false =>
    have := cut_no 63 (47 :: joinL A.parts) hj
    rw [ask_none h hq]
    simpa using this
/-- the parts, as a way is split -/
theorem split_path {A : Ad} (h : okB A = true) : splitS 47 (bs (47 :: joinL A.parts)) = if A.parts = [] then [⟨#[]⟩, ⟨#[]⟩] else ⟨#[]⟩ :: A.parts := by
  unfold splitS
  rw [bs_list, split_cons, if_pos (by rfl)]
  by_cases hp : A.parts = []
  · rw [if_pos hp, hp]; rfl
  · rw [if_neg hp, join_split _ hp (parts_tame h), List.map_cons, List.map_map]
    congr 1
    conv => rhs; rw [← List.map_id A.parts]
    apply List.map_congr_left
    intro p _
    show bs p.data.toList = p
    exact bs_data p
theorem clean_nones {L : List ByteArray} (h : L.all partB = true) : cleanL (⟨#[]⟩ :: L) = L := by
  have hg : ∀ (L acc : List ByteArray), (∀ s ∈ L, good s) → L.foldl cleanStep acc = acc ++ L := by
    intro L
    induction L with
    | nil => intro acc _; simp
    | cons x r ih =>
      intro acc h
      rw [List.foldl_cons, step_good _ _ (h x (by simp)), ih _ (fun s hs => h s (by simp [hs]))]; simp
  unfold cleanL
  rw [List.foldl_cons, do_none, hg _ _ (fun s hs => (part_norm' (List.all_eq_true.1 h s hs)).2)]; simp
/-- AN OK ADDRESS IS READ BACK FROM ITS WAY -/
theorem way_back {A : Ad} (h : okB A = true) : wayF A.house [] (bs (pathL A)) = some A := by
  obtain ⟨_, _, h3, _, h5, _⟩ := Dr.ok_parts h
  have hn : normS (splitS 47 (bs (47 :: joinL A.parts))) = some (splitS 47 (bs (47 :: joinL A.parts))) := by
    rw [split_path h]
    have he : ∀ x ∈ (if A.parts = [] then [⟨#[]⟩, ⟨#[]⟩] else ⟨#[]⟩ :: A.parts : List ByteArray), escB x = true ∧ escS x = x := by
      intro x hx
      split at hx
      · simp at hx; subst hx; exact ⟨esc_empty.2, esc_empty.1⟩
      · rcases List.mem_cons.1 hx with rfl | hx
        · exact ⟨esc_empty.2, esc_empty.1⟩
        · have := norm_fix (part_norm' (List.all_eq_true.1 h3 x hx)).1
          exact ⟨this.1, this.2.1⟩
    rw [normS_all (fun x hx => (he x hx).1)]
    congr 1
    conv => rhs; rw [← List.map_id (if A.parts = [] then [⟨#[]⟩, ⟨#[]⟩] else ⟨#[]⟩ :: A.parts : List ByteArray)]
    apply List.map_congr_left
    intro x hx
    exact (he x hx).2
  have hc : cleanL ([] ++ splitS 47 (bs (47 :: joinL A.parts))) = A.parts := by
    rw [List.nil_append, split_path h]
    split
    · rename_i hp; rw [hp]; unfold cleanL; rw [List.foldl_cons, do_none, List.foldl_cons, do_none]; rfl
    · exact clean_nones h3
  have ha := norm_fix h5
  unfold wayF
  rw [bs_list, cut_path h]
  dsimp only
  rw [hn]
  dsimp only
  rw [bs_data, ha.1, ha.2.1, hc]
  simp only [if_true]
  have e : (⟨A.house, A.parts, A.asks, A.ask⟩ : Ad) = A := rfl
  rw [e, h]; rfl
theorem path_inj {A B : Ad} (hA : okB A = true) (hB : okB B = true) (h : pathL A = pathL B) : A.parts = B.parts ∧ A.asks = B.asks ∧ A.ask = B.ask := by
  have ca := way_back hA
  have e1 : wayF A.house [] (bs (pathL B)) = some A := by rw [← h]; exact ca
  have cb := cut_path hB
  have ca2 := cut_path hA
  rw [h, cb] at ca2
  injection ca2 with e2 e3
  injection e3 with e3 e4
  have hs := split_path hA
  have hs2 := split_path hB
  rw [← e2, hs2] at hs
  have hask : A.ask = B.ask := by
    apply ByteArray.ext; apply Array.toList_inj.1; exact e3.symm
  refine ⟨?_, e4.symm, hask⟩
  have cl := clean_nones (Dr.ok_parts hA).2.2.1
  have cl2 := clean_nones (Dr.ok_parts hB).2.2.1
  by_cases ha : A.parts = []
  · by_cases hb : B.parts = []
    · rw [ha, hb]
    · rw [if_pos ha, if_neg hb] at hs
      injection hs with _ hs
      have := (part_norm' (List.all_eq_true.1 (Dr.ok_parts hB).2.2.1 ⟨#[]⟩ (by rw [hs]; simp))).2.1
      simp [ByteArray.toList_eq] at this
  · by_cases hb : B.parts = []
    · rw [if_neg ha, if_pos hb] at hs
      injection hs with _ hs
      have := (part_norm' (List.all_eq_true.1 (Dr.ok_parts hA).2.2.1 ⟨#[]⟩ (by rw [← hs]; simp))).2.1
      simp [ByteArray.toList_eq] at this
    · rw [if_neg ha, if_neg hb] at hs
      injection hs with _ hs
      exact hs.symm
theorem house_letters {A : Ad} (h : okB A = true) : ∀ b ∈ A.house.data.toList, 97 ≤ (b.toNat : Int) ∧ (b.toNat : Int) ≤ 122 := by
  have := (Dr.ok_parts h).1
  unfold houseB smallB at this
  simp only [Bool.and_eq_true] at this
  intro b hb
  exact of_decide_eq_true (List.all_eq_true.1 this.2 b hb)
/-- bytes of a text -/
theorem text_bytes {A : Ad} (h : okB A = true) : ∀ b ∈ textL A, (b.toNat : Int) ≠ 35 ∧ b.toNat < 128 := by
  have hj : ∀ b ∈ joinL A.parts, (b.toNat : Int) ≠ 35 ∧ b.toNat < 128 := by
    have : ∀ L : List ByteArray, (∀ p ∈ L, ∀ b ∈ p.data.toList, tame b) → ∀ b ∈ joinL L, (b.toNat : Int) ≠ 35 ∧ b.toNat < 128 := by
      intro L
      induction L with
      | nil => intro _ b hb; cases hb
      | cons x r ih =>
        intro ht b hb
        cases r with
        | nil => simp only [joinL] at hb; exact (ht x (by simp) b hb).2.2
        | cons y r =>
          simp only [joinL] at hb
          rcases List.mem_append.1 hb with hb | hb
          · exact (ht x (by simp) b hb).2.2
          · rcases List.mem_cons.1 hb with rfl | hb
            · decide
            · exact ih (fun p hp => ht p (by simp [hp])) b hb
    exact this _ (parts_tame h)
  intro b hb
  unfold textL pathL at hb
  rcases List.mem_cons.1 hb with rfl | hb
  · decide
  rcases List.mem_cons.1 hb with rfl | hb
  · decide
  rcases List.mem_append.1 hb with hb | hb
  · have := house_letters h b hb
    omega
  rcases List.mem_cons.1 hb with rfl | hb
  · decide
  rcases List.mem_append.1 hb with hb | hb
  · exact hj b hb
  · split at hb
    · rcases List.mem_cons.1 hb with rfl | hb
      · decide
      · exact (norm_tame (Dr.ok_parts h).2.2.2.2.1 b hb).2.2
    · cases hb
theorem while_app {l r : List UInt8} (h : ∀ b ∈ l, goesOn b = true) : (l ++ 47 :: r).takeWhile goesOn = l ∧ (l ++ 47 :: r).dropWhile goesOn = 47 :: r := by
  induction l with
  | nil => exact ⟨rfl, rfl⟩
  | cons b l ih =>
    have h0 := h b (by simp)
    have := ih (fun x hx => h x (by simp [hx]))
    simp [h0, this.1, this.2]
theorem small_same {l : List UInt8} (h : ∀ b ∈ l, 97 ≤ (b.toNat : Int)) : smallL l = l := by
  unfold smallL
  conv => rhs; rw [← List.map_id l]
  apply List.map_congr_left
  intro b hb
  have := h b hb
  unfold smallZ
  rw [if_neg (by omega)]
  exact toB_inv b
/-- AN OK ADDRESS IS READ BACK FROM ITS TEXT -/
theorem read_back {A : Ad} (h : okB A = true) : readF (textL A) = some A := by
  have h60 := (Dr.ok_parts h).2.2.2.2.2
  have hc := cut_no 35 (textL A) (fun b hb => (text_bytes h b hb).1)
  unfold readF
  rw [if_neg (by omega), hc]
  have e1 : (textL A).take 2 = [47, 47] := rfl
  have e2 : (textL A).drop 2 = A.house.data.toList ++ pathL A := rfl
  dsimp only
  rw [if_pos e1, e2]
  have hp : pathL A = 47 :: (joinL A.parts ++ if A.asks then 63 :: A.ask.data.toList else []) := rfl
  have hw := while_app (l := A.house.data.toList) (r := joinL A.parts ++ if A.asks then 63 :: A.ask.data.toList else []) (fun b hb => by
    have := house_letters h b hb
    unfold goesOn
    have h1 : ((b.toNat : Int) == 47) = false := by simp; omega
    have h2 : ((b.toNat : Int) == 63) = false := by simp; omega
    rw [h1, h2]; rfl)
  rw [← hp] at hw
  unfold wholeF
  rw [hw.1, hw.2, small_same (fun b hb => (house_letters h b hb).1), bs_data]
  exact way_back h
end Go.Proofs.YtcohaalgefcjnaaGreatDoor.RB
/- What is written of an address is drawn: at most 60 bytes, all ASCII. -/
namespace Go.Proofs.YtcohaalgefcjnaaGreatDoor.Dr
open Go.RowKit Go.Proofs.YtcohaalgefcjnaaGreatDoor.St Go.Proofs.YtcohaalgefcjnaaGreatDoor.AddrM Go.Proofs.YtcohaalgefcjnaaGreatDoor.EscL Go.Proofs.YtcohaalgefcjnaaGreatDoor.Ad1

def asciiB (s : ByteArray) : Bool := s.data.toList.all fun b => decide (b.toNat < 128)
theorem asciiB_app {a b : ByteArray} (ha : asciiB a = true) (hb : asciiB b = true) : asciiB (a ++ b) = true := by
  unfold asciiB at *
  rw [data_append, List.all_append, ha, hb]; rfl
theorem asciiB_text (A : Ad) : asciiB (textF A) = true := by
  unfold asciiB
  rw [List.all_eq_true]
  intro b hb
  cases h : okB A with
  | false =>
    have e2 : textF A = ⟨#[]⟩ := by unfold textF; rw [h]; rfl
    rw [e2] at hb; cases hb
  | true =>
    have e2 : textF A = textS A := by unfold textF; rw [h]; rfl
    rw [e2] at hb
    exact decide_eq_true (RB.text_bytes h b (by simpa [textS] using hb)).2
def fine (s : ByteArray) : Bool := decide (s.size ≤ 20) && asciiB s
theorem fine_parts {s : ByteArray} (h : fine s = true) : s.size ≤ 20 ∧ asciiB s = true := by
  unfold fine at h
  simp only [Bool.and_eq_true, decide_eq_true_eq] at h
  exact h

set_option maxRecDepth 100000 in
set_option maxHeartbeats 3200000 in
theorem ref_small (B r q : Nat) (w : World) (h : IsRd B w r q) (hq : q ≤ 9000) :
    Calls Tryz.prog 134 #[.pointer (some ⟨r, 0, none⟩)] w fun e w' => ∃ s, e = .returned (.string s) ∧ s.size ≤ 32 ∧ asciiB s = true ∧ IsRd B w' r (q + 7) ∧ w.grownBy w' (some r) := by
  have HR0 : Hid (IsRd B w r q) := h
  clear h
  go_enter Tryz.func134, Tryz.ntmps134
  go_wp2_with fail
  refine (pick_any B r q 8 _ HR0.out (by omega) (by omega) (by omega)).mono ?_
  rintro e w1 ⟨y, rfl, hy, hr1, hg1⟩
  have HR1 : Hid (IsRd B w1 r (q + 1)) := hr1
  have HG1 : Hid (w.grownBy w1 (some r)) := hg1
  clear hr1 hg1
  by_cases h0 : y = 0
  · subst h0
    go_wp2_with fail
    refine (addr_small B r (q + 1) _ HR1.out (by omega)).mono ?_
    rintro e w2 ⟨s, rfl, hs, hr2, hg2, ⟨A, hA⟩, hs3⟩
    have HA : Hid (asciiB s = true) := by show _ = _; rw [hA]; exact asciiB_text A
    clear hA
    go_wp2
    go_ret
    exact ⟨s, rfl, by omega, HA.out, hr2.mono (by omega), grown_trans HG1.out hg2⟩
  have e0 : ((y : Int) == 0) = false := by simp; omega
  by_cases h1 : y = 1
  · subst h1
    go_wp2_with fail
    refine (addr_small B r (q + 1) _ HR1.out (by omega)).mono ?_
    rintro e w2 ⟨s, rfl, hs, hr2, hg2, ⟨A, hA⟩, hs3⟩
    have HA : Hid (asciiB s = true) := by show _ = _; rw [hA]; exact asciiB_text A
    clear hA
    go_wp2
    go_ret
    exact ⟨s, rfl, by omega, HA.out, hr2.mono (by omega), grown_trans HG1.out hg2⟩
  have e1 : ((y : Int) == 1) = false := by simp; omega
  by_cases h2 : y = 2
  · subst h2
    go_wp2_with fail
    refine (of_new B r (q + 1) 6 _ fine w1 HR1.out (by omega) (by decide) (by decide) (by decide) (by decide)).mono ?_
    rintro e w2 ⟨t, rfl, ht, hr2, hg2⟩
    have HT : Hid _ := fine_parts ht
    have hts := (fine_parts ht).1
    clear ht
    go_wp2
    go_ret
    refine ⟨_, rfl, ?_, asciiB_app (by decide) HT.out.2, hr2.mono (by omega), grown_trans HG1.out hg2⟩
    rw [ByteArray.size_append]
    have : (⟨#[47]⟩ : ByteArray).size = 1 := rfl
    omega
  have e2 : ((y : Int) == 2) = false := by simp; omega
  by_cases h3 : y = 3
  · subst h3
    go_wp2_with fail
    refine (of_new B r (q + 1) 5 _ fine w1 HR1.out (by omega) (by decide) (by decide) (by decide) (by decide)).mono ?_
    rintro e w2 ⟨t, rfl, ht, hr2, hg2⟩
    have HT : Hid _ := fine_parts ht
    clear ht
    go_wp2
    go_ret
    exact ⟨_, rfl, Nat.le_trans HT.out.1 (by decide), HT.out.2, hr2.mono (by omega), grown_trans HG1.out hg2⟩
  have e3 : ((y : Int) == 3) = false := by simp; omega
  by_cases h4 : y = 4
  · subst h4
    go_wp2_with fail
    refine (of_new B r (q + 1) 6 _ fine w1 HR1.out (by omega) (by decide) (by decide) (by decide) (by decide)).mono ?_
    rintro e w2 ⟨t, rfl, ht, hr2, hg2⟩
    have HT : Hid _ := fine_parts ht
    clear ht
    go_wp2
    go_ret
    exact ⟨_, rfl, Nat.le_trans HT.out.1 (by decide), HT.out.2, hr2.mono (by omega), grown_trans HG1.out hg2⟩
  have e4 : ((y : Int) == 4) = false := by simp; omega
  by_cases h5 : y = 5
  · subst h5
    go_wp2_with fail
    refine (of_new B r (q + 1) 7 _ fine w1 HR1.out (by omega) (by decide) (by decide) (by decide) (by decide)).mono ?_
    rintro e w2 ⟨t, rfl, ht, hr2, hg2⟩
    have HT : Hid _ := fine_parts ht
    clear ht
    go_wp2
    go_ret
    exact ⟨_, rfl, Nat.le_trans HT.out.1 (by decide), HT.out.2, hr2.mono (by omega), grown_trans HG1.out hg2⟩
  · have e5 : ((y : Int) == 5) = false := by simp; omega
    go_wp2_with fail
    refine (of_new B r (q + 1) 4 _ fine w1 HR1.out (by omega) (by decide) (by decide) (by decide) (by decide)).mono ?_
    rintro e w2 ⟨t, rfl, ht, hr2, hg2⟩
    have HT : Hid _ := fine_parts ht
    clear ht
    go_wp2
    go_ret
    exact ⟨_, rfl, Nat.le_trans HT.out.1 (by decide), HT.out.2, hr2.mono (by omega), grown_trans HG1.out hg2⟩
theorem ref_any (B r q : Nat) (w : World) (h : IsRd B w r q) (hq : q ≤ 9000) :
    Calls Tryz.prog 134 #[.pointer (some ⟨r, 0, none⟩)] w fun e w' => ∃ s, e = .returned (.string s) ∧ s.size ≤ 60 ∧ asciiB s = true ∧ IsRd B w' r (q + 7) ∧ w.grownBy w' (some r) :=
  (ref_small B r q w h hq).mono fun _ _ ⟨s, e, h1, h2, h3, h4⟩ => ⟨s, e, Nat.le_trans h1 (by decide), h2, h3, h4⟩
end Go.Proofs.YtcohaalgefcjnaaGreatDoor.Dr
/- A page's text is drawn: all ASCII, at most 600 bytes. -/
namespace Go.Proofs.YtcohaalgefcjnaaGreatDoor.Dr
open Go.RowKit Go.Proofs.YtcohaalgefcjnaaGreatDoor.St Go.Proofs.YtcohaalgefcjnaaGreatDoor.AddrM Go.Proofs.YtcohaalgefcjnaaGreatDoor.EscL Go.Proofs.YtcohaalgefcjnaaGreatDoor.Ad1

theorem sz_app (a b : ByteArray) : (a ++ b).size = a.size + b.size := ByteArray.size_append

set_option maxRecDepth 100000 in
set_option maxHeartbeats 6400000 in
theorem page_small (B r q : Nat) (w : World) (h : IsRd B w r q) (hq : q ≤ 8000) :
    Calls Tryz.prog 100 #[.pointer (some ⟨r, 0, none⟩)] w fun e w' => ∃ s, e = .returned (.string s) ∧ s.size ≤ 300 ∧ asciiB s = true ∧ IsRd B w' r (q + 70) ∧ w.grownBy w' (some r) := by
  have HR0 : Hid (IsRd B w r q) := h
  clear h
  go_enter Tryz.func100, Tryz.ntmps100
  go_wp2_with fail
  refine (pick_any B r q 5 _ HR0.out (by omega) (by omega) (by omega)).mono ?_
  rintro e w1 ⟨x, rfl, hx, hr1, hg1⟩
  have HR1 : Hid (IsRd B w1 r (q + 1)) := hr1
  have HG1 : Hid (w.grownBy w1 (some r)) := hg1
  clear hr1 hg1
  go_wp2
  go_loopw [3, 4] (fun v i wr => ∃ (k : Nat) (s : ByteArray), k ≤ 4 ∧ i = .int .i64 k ∧ v = .string s ∧ s.size ≤ (4 - k) * 70 ∧ Hid (asciiB s = true) ∧ Hid (IsRd B wr r (q + 1 + (4 - k) * 16)) ∧ Hid (w.grownBy wr (some r)))
    (fun _ i _ => (intOf i).toNat)
  case atStart => exact ⟨x, ByteArray.empty, by omega, rfl, rfl, by simp, (by show asciiB _ = true; decide), HR1.out.mono (by omega), HG1⟩
  case round =>
    obtain ⟨k, s, hk, rfl, rfl, hs, HA, HR, HG⟩ := hrel
    by_cases hlt : 0 < k
    · go_wp2_with fail
      refine (pick_any B r _ 9 _ HR.out (by omega) (by omega) (by omega)).mono ?_
      rintro e w2 ⟨y, rfl, hy, hr2, hg2⟩
      have HR2 : Hid (IsRd B w2 r (q + 1 + (4 - k) * 16 + 1)) := hr2
      have HG2 : Hid (w.grownBy w2 (some r)) := grown_trans HG.out hg2
      clear hr2 hg2
      by_cases h0 : y = 0
      · subst h0
        go_wp2_with fail
        refine (ref_small B r _ _ HR2.out (by omega)).mono ?_
        rintro e w3 ⟨t, rfl, ht, hta, hr3, hg3⟩
        have HT : Hid (asciiB t = true) := hta
        have HR3 : Hid (IsRd B w3 r (q + 1 + (4 - k) * 16 + 1 + 7)) := hr3
        have HG3 : Hid (w.grownBy w3 (some r)) := grown_trans HG2.out hg3
        clear hta hr3 hg3
        go_wp2_with fail
        refine (ref_small B r _ _ HR3.out (by omega)).mono ?_
        rintro e w4 ⟨t2, rfl, ht2, hta2, hr4, hg4⟩
        have HT2 : Hid (asciiB t2 = true) := hta2
        have HR4 : Hid (IsRd B w4 r (q + 1 + (4 - k) * 16 + 1 + 7 + 7)) := hr4
        have HG4 : Hid (w.grownBy w4 (some r)) := grown_trans HG3.out hg4
        clear hta2 hr4 hg4
        go_wp2
        go_roundw
        case rel =>
          refine ⟨k - 1, _, by omega, by go_num, rfl, ?_, ?_, HR4.out.mono (by omega), HG4⟩
          · simp only [sz_app]
            have e1 : (⟨#[40]⟩ : ByteArray).size = 1 := rfl
            have e2 : (⟨#[60]⟩ : ByteArray).size = 1 := rfl
            have e3 : (⟨#[62, 41]⟩ : ByteArray).size = 2 := rfl
            omega
          · exact asciiB_app (asciiB_app (asciiB_app (asciiB_app (asciiB_app HA.out (by decide)) HT.out) (by decide)) HT2.out) (by decide)
        case measure => simp [intOf]; omega
      have n0 : ((y : Int) == 0) = false := by simp; omega
      by_cases h1 : y = 1
      · subst h1
        go_wp2_with fail
        refine (ref_small B r _ _ HR2.out (by omega)).mono ?_
        rintro e w3 ⟨t, rfl, ht, hta, hr3, hg3⟩
        have HT : Hid (asciiB t = true) := hta
        have HR3 : Hid (IsRd B w3 r (q + 1 + (4 - k) * 16 + 1 + 7)) := hr3
        have HG3 : Hid (w.grownBy w3 (some r)) := grown_trans HG2.out hg3
        clear hta hr3 hg3
        go_wp2
        go_roundw
        case rel =>
          refine ⟨k - 1, _, by omega, by go_num, rfl, ?_, ?_, HR3.out.mono (by omega), HG3⟩
          · simp only [sz_app]
            have e1 : (⟨#[60, 33]⟩ : ByteArray).size = 2 := rfl
            have e2 : (⟨#[62]⟩ : ByteArray).size = 1 := rfl
            omega
          · exact asciiB_app (asciiB_app (asciiB_app HA.out (by decide)) HT.out) (by decide)
        case measure => simp [intOf]; omega
      have n1 : ((y : Int) == 1) = false := by simp; omega
      by_cases h2 : y = 2
      · subst h2
        go_wp2_with fail
        refine (ref_small B r _ _ HR2.out (by omega)).mono ?_
        rintro e w3 ⟨t, rfl, ht, hta, hr3, hg3⟩
        have HT : Hid (asciiB t = true) := hta
        have HR3 : Hid (IsRd B w3 r (q + 1 + (4 - k) * 16 + 1 + 7)) := hr3
        have HG3 : Hid (w.grownBy w3 (some r)) := grown_trans HG2.out hg3
        clear hta hr3 hg3
        go_wp2
        go_roundw
        case rel =>
          refine ⟨k - 1, _, by omega, by go_num, rfl, ?_, ?_, HR3.out.mono (by omega), HG3⟩
          · simp only [sz_app]
            have e1 : (⟨#[60, 64]⟩ : ByteArray).size = 2 := rfl
            have e2 : (⟨#[62]⟩ : ByteArray).size = 1 := rfl
            omega
          · exact asciiB_app (asciiB_app (asciiB_app HA.out (by decide)) HT.out) (by decide)
        case measure => simp [intOf]; omega
      have n2 : ((y : Int) == 2) = false := by simp; omega
      by_cases h3 : y = 3
      · subst h3
        go_wp2_with fail
        refine (of_new B r _ 6 _ fine w2 HR2.out (by omega) (by decide) (by decide) (by decide) (by decide)).mono ?_
        rintro e w3 ⟨t, rfl, ht, hr3, hg3⟩
        have hts := (fine_parts ht).1
        have HT : Hid (asciiB t = true) := (fine_parts ht).2
        have HR3 : Hid (IsRd B w3 r (q + 1 + (4 - k) * 16 + 1 + 1)) := hr3
        have HG3 : Hid (w.grownBy w3 (some r)) := grown_trans HG2.out hg3
        clear ht hr3 hg3
        go_wp2
        go_roundw
        case rel =>
          refine ⟨k - 1, _, by omega, by go_num, rfl, ?_, asciiB_app HA.out HT.out, HR3.out.mono (by omega), HG3⟩
          simp only [sz_app]
          omega
        case measure => simp [intOf]; omega
      · have n3 : ((y : Int) == 3) = false := by simp; omega
        go_wp2_with fail
        refine (ref_small B r _ _ HR2.out (by omega)).mono ?_
        rintro e w3 ⟨t, rfl, ht, hta, hr3, hg3⟩
        have HT : Hid (asciiB t = true) := hta
        have HR3 : Hid (IsRd B w3 r (q + 1 + (4 - k) * 16 + 1 + 7)) := hr3
        have HG3 : Hid (w.grownBy w3 (some r)) := grown_trans HG2.out hg3
        clear hta hr3 hg3
        go_wp2
        go_roundw
        case rel =>
          refine ⟨k - 1, _, by omega, by go_num, rfl, ?_, ?_, HR3.out.mono (by omega), HG3⟩
          · simp only [sz_app]
            have e1 : (⟨#[60]⟩ : ByteArray).size = 1 := rfl
            have e2 : (⟨#[62]⟩ : ByteArray).size = 1 := rfl
            omega
          · exact asciiB_app (asciiB_app (asciiB_app HA.out (by decide)) HT.out) (by decide)
        case measure => simp [intOf]; omega
    · go_wp2
      go_ret
      exact ⟨s, rfl, by omega, HA.out, HR.out.mono (by omega), HG.out⟩
theorem page_any (B r q : Nat) (w : World) (h : IsRd B w r q) (hq : q ≤ 8000) :
    Calls Tryz.prog 100 #[.pointer (some ⟨r, 0, none⟩)] w fun e w' => ∃ s, e = .returned (.string s) ∧ s.size ≤ 600 ∧ asciiB s = true ∧ IsRd B w' r (q + 70) ∧ w.grownBy w' (some r) :=
  (page_small B r q w h hq).mono fun _ _ ⟨s, e, h1, h2⟩ => ⟨s, e, Nat.le_trans h1 (by decide), h2⟩

end Go.Proofs.YtcohaalgefcjnaaGreatDoor.Dr
