/- Several texts in one: Draw5, Draw6, Draw7. -/
import Derived.Test.YtjgaddchkoonpaaGreatDoorDraw3
import Derived.Test.YtjgaddchkoonpaaGreatDoorAddr6
import Derived.Test.YtjgaddchkoonpaaGreatDoorRead3Pk
import Derived.Test.YtjgaddchkoonpaaGreatDoorStep
import Derived.Test.YtjgaddchkoonpaaGreatDoorDrawG
import Derived.Deep.RegionHeld3
/- An address is drawn: its text. -/
namespace Go.Proofs.YtjgaddchkoonpaaGreatDoor.Dr
open Go.RowKit Go.Proofs.YtjgaddchkoonpaaGreatDoor.St Go.Proofs.YtjgaddchkoonpaaGreatDoor.AddrM Go.Proofs.YtjgaddchkoonpaaGreatDoor.EscL Go.Proofs.YtjgaddchkoonpaaGreatDoor.Ad1

theorem textF_size (A : Ad) : (textF A).size ≤ 60 := by
  unfold textF
  cases h : okB A with
  | false => show (0 : Nat) ≤ 60; omega
  | true =>
    unfold okB at h
    simp only [Bool.and_eq_true, decide_eq_true_eq] at h
    show (textL A).toArray.size ≤ 60
    simpa using h.2
theorem pathF_size (A : Ad) : (pathF A).size ≤ 60 := by
  unfold pathF
  cases h : okB A with
  | false => show (0 : Nat) ≤ 60; omega
  | true =>
    unfold okB at h
    simp only [Bool.and_eq_true, decide_eq_true_eq] at h
    have h2 := h.2
    unfold textL at h2
    simp only [List.length_cons, List.length_append] at h2
    show (pathL A).toArray.size ≤ 60
    simp; omega

theorem houses_any (w : World) : Calls Tryz.prog 68 #[] w fun e w' => e = .returned (.slice (some ⟨w.heap.size, 0, none⟩) 4 4) ∧ w' = w.alloc (.cells #[.string ⟨#[97, 98]⟩, .string ⟨#[99, 100]⟩, .string ⟨#[101]⟩, .string ⟨#[102, 111, 120]⟩] 9) := by
  go_enter Tryz.func68, Tryz.ntmps68
  go_wp2
  go_ret
  exact ⟨rfl, rfl⟩

/-- a struct of an address lies in a block -/
def Box (w : World) (G : Nat) (x0 x1 x2 x3 : Value) : Prop :=
  w.heap[G]? = some (.cells #[x0, x1, x2, x3] 25 (0, 0))
theorem Box.cells {w : World} {G : Nat} {x0 x1 x2 x3 : Value} (h : Box w G x0 x1 x2 x3) : (w.cell? ⟨G, 0, none⟩ = some x0 ∧ w.cell? ⟨G, 1, none⟩ = some x1 ∧ w.cell? ⟨G, 2, none⟩ = some x2 ∧ w.cell? ⟨G, 3, none⟩ = some x3) ∧ ∀ j, w.frozen? ⟨G, j, none⟩ = false := by
  unfold Box at h
  refine ⟨⟨?_, ?_, ?_, ?_⟩, fun j => ?_⟩
  · simp [World.cell?, h]
  · simp [World.cell?, h]
  · simp [World.cell?, h]
  · simp [World.cell?, h]
  · simp [World.frozen?, h]
theorem Box.lt {w : World} {G : Nat} {x0 x1 x2 x3 : Value} (h : Box w G x0 x1 x2 x3) : G < w.heap.size := (Array.getElem?_eq_some_iff.1 h).1
theorem Box.grown {w w' : World} {G : Nat} {x0 x1 x2 x3 : Value} {row : Option Nat} (h : Box w G x0 x1 x2 x3) (hg : w.grownBy w' row) (hr : row ≠ some G) : Box w' G x0 x1 x2 x3 := by
  unfold Box
  rw [hg.block G h.lt (fun e => hr e.symm)]; exact h
theorem Box.set1 {w : World} {G : Nat} {x0 x1 x2 x3 : Value} (h : Box w G x0 x1 x2 x3) (y : Value) : Box (w.setCell ⟨G, 1, none⟩ y) G x0 y x2 x3 := by
  unfold Box at h ⊢
  simp only [World.setCell, Array.getElem?_modify, if_true, h, Option.map_some]
  simp [Array.setIfInBounds]
theorem Box.set0 {w : World} {G : Nat} {x0 x1 x2 x3 : Value} (h : Box w G x0 x1 x2 x3) (y : Value) : Box (w.setCell ⟨G, 0, none⟩ y) G y x1 x2 x3 := by
  unfold Box at h ⊢
  simp only [World.setCell, Array.getElem?_modify, if_true, h, Option.map_some]
  simp [Array.setIfInBounds]
theorem Box.set2 {w : World} {G : Nat} {x0 x1 x2 x3 : Value} (h : Box w G x0 x1 x2 x3) (y : Value) : Box (w.setCell ⟨G, 2, none⟩ y) G x0 x1 y x3 := by
  unfold Box at h ⊢
  simp only [World.setCell, Array.getElem?_modify, if_true, h, Option.map_some]
  simp [Array.setIfInBounds]
theorem Box.set3 {w : World} {G : Nat} {x0 x1 x2 x3 : Value} (h : Box w G x0 x1 x2 x3) (y : Value) : Box (w.setCell ⟨G, 3, none⟩ y) G x0 x1 x2 y := by
  unfold Box at h ⊢
  simp only [World.setCell, Array.getElem?_modify, if_true, h, Option.map_some]
  simp [Array.setIfInBounds]
theorem Box.heapEq {w w' : World} {G : Nat} {x0 x1 x2 x3 : Value} (h : Box w G x0 x1 x2 x3) (e : w'.heap = w.heap) : Box w' G x0 x1 x2 x3 := by unfold Box; rw [e]; exact h

theorem sum_snoc (L : List ByteArray) (t : ByteArray) : sumS (L ++ [t]) = sumS L + t.size := by rw [ReadM.sumS_append]; simp [sumS]

set_option maxRecDepth 100000 in
set_option maxHeartbeats 1600000 in
theorem addr_any (B r q : Nat) (w : World) (h : IsRd B w r q) (hq : q ≤ 10000) :
    Calls Tryz.prog 39 #[.pointer (some ⟨r, 0, none⟩)] w fun e w' => ∃ s, e = .returned (.string s) ∧ s.size ≤ 60 ∧ IsRd B w' r (q + 6) ∧ w.grownBy w' (some r) ∧ ∃ A, s = textF A := by
  obtain ⟨i0, hi, hz0, hz1, hz2⟩ := info_parts Tryz.infoS
  have hle := h.le
  have HR0 : Hid (IsRd B w r q) := h
  clear h
  go_enter Tryz.func39, Tryz.ntmps39
  go_wp2_with fail
  refine (houses_any w).mono ?_
  rintro e w0 ⟨rfl, rfl⟩
  go_wp2_with fail
  refine (pick_any B r q 4 _ (HR0.out.alloc _) (by omega) (by omega) (by omega)).mono ?_
  rintro e w1 ⟨x, rfl, hx, hr1, hg1⟩
  obtain ⟨s0, hs0, hp0⟩ := lit_cell (x := x) (P := fun s => decide (s.size ≤ 5)) (heap_new w _) (by decide) hg1 (by omega) (by simp; omega)
  have hz5 : s0.size ≤ 5 := of_decide_eq_true hp0
  have hg01 : w.grownBy w1 (some r) := grown_trans (grown_alloc _ _ _) hg1
  have HG1 : Hid _ := hg01
  have HR1 : Hid (IsRd B w1 r (q + 1)) := hr1
  have hw1 : w.heap.size < w1.heap.size := by have := hg1.size; simp at this; omega
  clear hp0 hg1 hg01 hr1
  obtain ⟨G, hG⟩ : ∃ G, w1.heap.size = G := ⟨_, rfl⟩
  have hwG : w.heap.size < G := by omega
  go_wp2_with fail
  refine (pick_any B r (q + 1) 3 _ (HR1.out.alloc _) (by omega) (by omega) (by omega)).mono ?_
  rintro e w2 ⟨n0, rfl, hn0, hr2, hg2⟩
  have HR2 : Hid (IsRd B w2 r (q + 2)) := hr2
  have HX2 : Hid (Box w2 G (.string s0) (.slice none 0 0) (.bool false) (.string ⟨#[]⟩)) := by
    rw [← hG]
    exact Box.grown (heap_new w1 _) hg2 (by intro e; have := Option.some.inj e; omega)
  have HG2 : Hid (w.grownBy w2 (some r)) := grown_trans HG1.out (grown_trans (grown_alloc _ _ _) hg2)
  have hw2 : G < w2.heap.size := by have := hg2.size; simp at this; omega
  clear hr2 hg2 hs0
  clear hG hw1 HG1 HR1
  go_wp2
  go_loopw [4] (fun i wr => ∃ (k : Nat) (L : List ByteArray) (a0 : Option Addr) (cap : Nat), k ≤ 2 ∧ i = .int .i64 (k : Int) ∧ L.length + k ≤ 2 ∧ Hid (sumS L ≤ 6 * L.length) ∧ Hid (Box wr G (.string s0) (.slice a0 L.length cap) (.bool false) (.string ⟨#[]⟩)) ∧ Hid (Owns wr (G + 1) (.slice a0 L.length cap) L) ∧ Hid (IsRd B wr r (q + 4 - k)) ∧ Hid (w.grownBy wr (some r)) ∧ G + 1 ≤ wr.heap.size) (fun i _ => (intOf i).toNat)
  case atStart => exact ⟨n0, [], none, 0, by omega, rfl, by simp; omega, by show _ ≤ _; simp [sumS], HX2, Owns.nil _ _, HR2.out.mono (by omega), HG2, by omega⟩
  case round =>
    obtain ⟨k, L, a0, cap, hk, rfl, hLk, HL, HX, HO, HR, HG, hwr⟩ := hrel
    have hx := HX.out
    obtain ⟨⟨c0, c1, c2, c3⟩, fz⟩ := hx.cells
    clear hx
    by_cases hlt : 0 < k
    · go_wp2_with fail
      have c1d : wr.drew.cell? ⟨G, 1, none⟩ = some (.slice a0 L.length cap) := c1
      have c1a : ∀ o, (wr.alloc o).cell? ⟨G, 1, none⟩ = some (.slice a0 L.length cap) := fun o => (HX.out.grown (grown_alloc wr o none) (by simp)).cells.1.2.1
      have c1ad : ∀ o, (wr.alloc o).drew.cell? ⟨G, 1, none⟩ = some (.slice a0 L.length cap) := fun o => c1a o
      have c1da : ∀ o, (wr.drew.alloc o).cell? ⟨G, 1, none⟩ = some (.slice a0 L.length cap) := fun o => c1a o
      go_region_law
        (first
        | (go_simp
           go_at_call 41
           refine (of_newD B r (q + 4 - k) 4 _ (fun s => decide (s.size ≤ 6)) wr HR.out (by omega) (by decide) (by decide) (by decide) (by decide)).mono ?_
           rintro e w3 ⟨t, rfl, ht, hr3, hg3⟩
           have ht6 : t.size ≤ 6 := of_decide_eq_true ht
           have HX3 : Hid (Box w3 G (.string s0) (.slice a0 L.length cap) (.bool false) (.string ⟨#[]⟩)) := HX.out.grown hg3 (by intro e; have := Option.some.inj e; omega)
           have HO3 : Hid (Owns w3 (G + 1) (.slice a0 L.length cap) L) := Owns.kept HO.out hg3 (by omega)
           have HR3 : Hid (IsRd B w3 r (q + 4 - k + 1)) := hr3
           have HG3 : Hid (w.grownBy w3 (some r)) := grown_trans HG.out hg3
           have hw3 : G + 1 ≤ w3.heap.size := Nat.le_trans hwr hg3.size
           have cw : w3.cell? ⟨G, 1, none⟩ = some (.slice a0 L.length cap) := HX3.out.cells.1.2.1
           have c3d : w3.drew.cell? ⟨G, 1, none⟩ = some (.slice a0 L.length cap) := cw
           have c3a : ∀ o, (w3.alloc o).cell? ⟨G, 1, none⟩ = some (.slice a0 L.length cap) := fun o => (HX3.out.grown (grown_alloc w3 o none) (by simp)).cells.1.2.1
           have c3ad : ∀ o, (w3.alloc o).drew.cell? ⟨G, 1, none⟩ = some (.slice a0 L.length cap) := fun o => c3a o
           have c3da : ∀ o, (w3.drew.alloc o).cell? ⟨G, 1, none⟩ = some (.slice a0 L.length cap) := fun o => c3a o
           clear ht hr3 hg3
           dsimp only)
        | (refine step_app rfl (.tmp 18) (.tmp 22) 23 rfl (G + 1) 9 i0 (.string ⟨#[]⟩) 1 16 Tryz.underlying23 hi hz0 hz1 hz2 rfl (by decide) (.slice a0 L.length cap) L.length (cellsS L) rfl (Owns.heapEq (Owns.keep HO3.out (alloc_keep w3 _)) rfl) (some ⟨w3.heap.size, 0, none⟩) 1 1 [.string t] rfl (by intro e; cases e) rfl (by intro ad e; cases e; exact cell_one_new w3 _ _) (by intro u hu; simp at hu; subst hu; rfl) (by unfold maxLen; omega) (by omega) (by simp; omega) ?_
           intro v4 w4 hO4 hg4
           obtain ⟨a4, c4, hv4, hS4⟩ := (Owns.append hO4).strs
           subst hv4
           have HO4 : Hid (Owns w4 (G + 1) (.slice a4 (L ++ [t]).length c4) (L ++ [t])) := Owns.append hO4
           have HX4 : Hid (Box w4 G (.string s0) (.slice a0 L.length cap) (.bool false) (.string ⟨#[]⟩)) := ((HX3.out.grown (grown_alloc w3 _ none) (by simp)).heapEq rfl).grown hg4 (own_ne HO3.out (by omega))
           have cw4 : w4.cell? ⟨G, 1, none⟩ = some (.slice a0 L.length cap) := HX4.out.cells.1.2.1
           have fz4 : ∀ j, w4.frozen? ⟨G, j, none⟩ = false := HX4.out.cells.2
           have hgA : w3.grownBy w4 (Value.slice a0 L.length cap).ownBlock := (by refine grown_trans ?_ hg4; exact ⟨rfl, rfl, rfl, by simp, fun k hk _ => Below.heap_alloc w3 _ k hk⟩)
           have HR4 : Hid (IsRd B w4 r (q + 4 - k + 1)) := HR3.out.grownRow (base := G + 1) hgA (by omega) (Owns.block HO3.out)
           have HG4 : Hid (w.grownBy w4 (some r)) := grown_past HG3.out hgA (fun k hk => by have := Owns.block HO3.out k hk; omega)
           have hw4 : G + 1 ≤ w4.heap.size := Nat.le_trans hw3 hgA.size
           clear hO4 hS4 hg4 hgA)
        | fail)
      all_goals (
        go_wp2
        go_roundw
        case rel =>
          refine ⟨k - 1, L ++ [t], a4, c4, by omega, by go_num, by rw [len_snoc]; omega, ?_, ?_, ?_, ?_, ?_, by simp [World.setCell]; omega⟩
          · show _ ≤ _
            rw [sum_snoc, len_snoc]; have := HL.out; omega
          · rw [len_snoc]; exact HX4.out.set1 _
          · exact ownsRow_setCell_below HO4.out (by dsimp only; omega) _
          · exact (HR4.out.grownRow (base := G) (grown_set 1 _) (by omega) (fun k hk => by have := Option.some.inj hk; omega)).mono (by omega)
          · exact grown_past HG4.out (grown_set 1 _) (fun k hk => by have := Option.some.inj hk; omega)
        case measure => simp [intOf]; omega)
    · have hk0 : k = 0 := by omega
      subst hk0
      go_wp2_with fail
      refine (pick_any B r (q + 4) 8 _ HR.out (by omega) (by omega) (by omega)).mono ?_
      rintro e w5 ⟨y, rfl, hy, hr5, hg5⟩
      have HX5 : Hid (Box w5 G (.string s0) (.slice a0 L.length cap) (.bool false) (.string ⟨#[]⟩)) := HX.out.grown hg5 (by intro e; have := Option.some.inj e; omega)
      have HO5 : Hid (Owns w5 (G + 1) (.slice a0 L.length cap) L) := Owns.kept HO.out hg5 (by omega)
      have HR5 : Hid (IsRd B w5 r (q + 5)) := hr5
      have HG5 : Hid (w.grownBy w5 (some r)) := grown_trans HG.out hg5
      have hw5 : G + 1 ≤ w5.heap.size := Nat.le_trans hwr hg5.size
      clear hr5 hg5 c0 c1 c2 c3 fz
      have hx5 := HX5.out
      obtain ⟨⟨c0, c1, c2, c3⟩, fz⟩ := hx5.cells
      clear hx5
      by_cases hy0 : y = 0
      · subst hy0
        have HX6 : Hid (Box (w5.setCell ⟨G, 2, none⟩ (.bool true)) G (.string s0) (.slice a0 L.length cap) (.bool true) (.string ⟨#[]⟩)) := HX5.out.set2 _
        have HO6 : Hid (Owns (w5.setCell ⟨G, 2, none⟩ (.bool true)) (G + 1) (.slice a0 L.length cap) L) := ownsRow_setCell_below HO5.out (by dsimp only; omega) _
        have HR6 : Hid (IsRd B (w5.setCell ⟨G, 2, none⟩ (.bool true)) r (q + 5)) := HR5.out.grownRow (base := G) (grown_set 2 _) (by omega) (fun k hk => by have := Option.some.inj hk; omega)
        have HG6 : Hid (w.grownBy (w5.setCell ⟨G, 2, none⟩ (.bool true)) (some r)) := grown_past HG5.out (grown_set 2 _) (fun k hk => by have := Option.some.inj hk; omega)
        have hw6 : (w5.setCell ⟨G, 2, none⟩ (.bool true)).heap.size = w5.heap.size := by simp [World.setCell]
        have HW6 : Hid _ := hw6
        clear hw6
        go_wp2_with fail
        refine (of_newG B r (q + 5) 3 _ _ (fun s => decide (s.size ≤ 6)) _ HW6.out HR6.out (by omega) (by decide) (by decide) (by decide) (by decide)).mono ?_
        rintro e w7 ⟨t, rfl, ht, hr7, hg7⟩
        have ht6 : t.size ≤ 6 := of_decide_eq_true ht
        have HX7 : Hid (Box w7 G (.string s0) (.slice a0 L.length cap) (.bool true) (.string ⟨#[]⟩)) := HX6.out.grown hg7 (by intro e; have := Option.some.inj e; omega)
        have HO7 : Hid (Owns w7 (G + 1) (.slice a0 L.length cap) L) := Owns.kept HO6.out hg7 (by omega)
        have HR7 : Hid (IsRd B w7 r (q + 6)) := hr7
        have HG7 : Hid (w.grownBy w7 (some r)) := grown_trans HG6.out hg7
        have hw7 : G + 1 ≤ w7.heap.size := by have := hg7.size; have := HW6.out; omega
        clear hr7 hg7 ht c0 c1 c2 c3 fz HX6 HO6 HR6 HG6
        have hx7 := HX7.out
        obtain ⟨⟨c0, c1, c2, c3⟩, fz⟩ := hx7.cells
        clear hx7
        go_wp2_with fail
        refine (specAddrText_any ⟨s0, L, true, t⟩ a0 cap _ (Owns.strsOf (ownsRow_setCell_below HO7.out (by dsimp only; omega) _ : Owns _ (G + 1) _ L)) (by show s0.size + sumS L + L.length + t.size ≤ _; have := HL.out; omega)).mono ?_
        rintro e w8 ⟨rfl, hb8⟩
        go_wp2
        go_ret
        refine ⟨_, rfl, textF_size _, IsRd.below (HR7.out.grownRow (base := G) (grown_set 3 _) (by omega) (fun k hk => by have := Option.some.inj hk; omega)) hb8, ?_⟩
        exact ⟨grown_past (grown_past HG7.out (grown_set 3 _) (fun k hk => by have := Option.some.inj hk; omega)) (grown_of_below none hb8) (fun k hk => by cases hk), _, rfl⟩
      · have hy1 : ((y : Int) == 0) = false := by simp; omega
        go_wp2_with fail
        refine (specAddrText_any ⟨s0, L, false, ⟨#[]⟩⟩ a0 cap _ (Owns.strsOf HO5.out) (by show s0.size + sumS L + L.length + 0 ≤ _; have := HL.out; omega)).mono ?_
        rintro e w6 ⟨rfl, hb6⟩
        go_wp2
        go_ret
        exact ⟨_, rfl, textF_size _, (HR5.out.below hb6).mono (by omega), grown_past HG5.out (grown_of_below none hb6) (fun k hk => by cases hk), _, rfl⟩
end Go.Proofs.YtjgaddchkoonpaaGreatDoor.Dr
/- An address is drawn: as a struct, some spoilt. -/
namespace Go.Proofs.YtjgaddchkoonpaaGreatDoor.Dr
open Go.RowKit Go.Proofs.YtjgaddchkoonpaaGreatDoor.St Go.Proofs.YtjgaddchkoonpaaGreatDoor.AddrM Go.Proofs.YtjgaddchkoonpaaGreatDoor.EscL Go.Proofs.YtjgaddchkoonpaaGreatDoor.Ad1 Go.Proofs.YtjgaddchkoonpaaGreatDoor.ReadM Go.Proofs.YtjgaddchkoonpaaGreatDoor.Rd1

theorem sum_join : ∀ L : List ByteArray, sumS L ≤ (joinL L).length := by
  intro L
  induction L with
  | nil => simp [sumS]
  | cons y L ih =>
    have : y.data.toList.length = y.size := by simp
    rcases L with _ | ⟨z, L⟩
    · simp [joinL, sumS]
    · simp only [joinL, sumS, List.length_append, List.length_cons] at ih ⊢
      omega
theorem ok_parts {A : Ad} (h : okB A = true) : houseB A.house = true ∧ A.parts.length ≤ 5 ∧ A.parts.all partB = true ∧ (A.asks || A.ask.toList.isEmpty) = true ∧ normB A.ask = true ∧ (textL A).length ≤ 60 := by
  unfold okB at h
  simp only [Bool.and_eq_true, decide_eq_true_eq] at h
  exact ⟨h.1.1.1.1.1, h.1.1.1.1.2, h.1.1.1.2, h.1.1.2, h.1.2, h.2⟩
theorem ok_bulk {A : Ad} (h : okB A = true) : bulkA A ≤ 70 := by
  obtain ⟨_, h2, _, h4, _, h6⟩ := ok_parts h
  have hj := sum_join A.parts
  have hh : A.house.data.toList.length = A.house.size := by simp
  have ha : A.ask.data.toList.length = A.ask.size := by simp
  unfold bulkA
  unfold textL pathL at h6
  simp only [List.length_cons, List.length_append] at h6
  cases hq : A.asks with
  | true => rw [hq] at h6; simp only [if_true, List.length_cons] at h6; omega
  | false =>
    rw [hq] at h4 h6
    simp only [Bool.false_or] at h4
    rw [ByteArray.toList_eq] at h4
    have h0 : A.ask.data.toList.length = 0 := by rw [List.isEmpty_iff.1 h4]; rfl
    omega
theorem way_ok {house : ByteArray} {frm : List ByteArray} {way : ByteArray} {A : Ad} (h : wayF house frm way = some A) : okB A = true := by
  unfold wayF at h
  split at h
  · cases h
  · split at h
    · split at h
      · rename_i hk; cases h; exact hk
      · cases h
    · cases h
theorem read_ok {l : List UInt8} {A : Ad} (h : readF l = some A) : okB A = true := by
  unfold readF at h
  split at h
  · cases h
  · split at h
    · exact way_ok h
    · cases h
theorem reads_bulk {l : List UInt8} {A : Ad} {ok : Bool} (h : (ok = true ∧ readF l = some A) ∨ (ok = false ∧ readF l = none ∧ A = zeroAd)) : bulkA A ≤ 70 := by
  rcases h with ⟨_, h⟩ | ⟨_, _, rfl⟩
  · exact ok_bulk (read_ok h)
  · decide

/-- what is drawn -/
def Drawn (B r q : Nat) (w : World) (e : Ending) (w' : World) : Prop :=
  ∃ (A : Ad) (a1 : Option Addr) (c1 : Nat), e = .returned (.agg #[.string A.house, .slice a1 A.parts.length c1, .bool A.asks, .string A.ask]) ∧ Owns w' w.heap.size (.slice a1 A.parts.length c1) A.parts ∧ bulkA A ≤ 1000 ∧ IsRd B w' r q ∧ w.grownBy w' (some r)

theorem own_not_box {w : World} {base G : Nat} {v : Value} {L : List ByteArray} {x0 x1 x2 x3 : Value} (h : Owns w base v L) (hx : Box w G x0 x1 x2 x3) : v.ownBlock ≠ some G := by
  obtain ⟨_, ⟨rfl, _⟩ | ⟨g, cap, cur, rfl, _, hc, _⟩⟩ := h
  · intro e; simp [Value.ownBlock] at e
  · intro e
    have e' : g = G := by simpa [Value.ownBlock] using e
    subst e'
    unfold Box at hx
    rw [hc] at hx
    injection hx with hx
    injection hx with _ h2 _
    exact absurd h2 (by decide)
theorem Owns.setBox {w : World} {base G j : Nat} {v y : Value} {L : List ByteArray} {x0 x1 x2 x3 : Value} (h : Owns w base v L) (hx : Box w G x0 x1 x2 x3) : Owns (w.setCell ⟨G, j, none⟩ y) base v L := by
  have hne := own_not_box h hx
  refine World.ownsRow.kept h (grown_set j y) ?_
  cases hv : v.ownBlock with
  | none => exact Or.inl rfl
  | some g => right; rw [hv] at hne; exact hne
theorem drawn_end {B r q b0 : Nat} {w W : World} {A : Ad} {a1 : Option Addr} {c1 : Nat} (x0 x1 x2 x3 : Value) (hO : Owns W b0 (.slice a1 A.parts.length c1) A.parts) (hk : bulkA A ≤ 1000) (hR : IsRd B W r q) (hG : w.grownBy W (some r)) (hb : w.heap.size < b0) (hr : r < w.heap.size) :
    Drawn B r q w (.returned (.agg #[.string A.house, .slice a1 A.parts.length c1, .bool A.asks, .string A.ask])) ((((W.setCell ⟨w.heap.size, 0, none⟩ x0).setCell ⟨w.heap.size, 1, none⟩ x1).setCell ⟨w.heap.size, 2, none⟩ x2).setCell ⟨w.heap.size, 3, none⟩ x3) := by
  refine ⟨A, a1, c1, rfl, ?_, hk, ?_, ?_⟩
  · refine Owns.mono (?_ : Owns _ b0 _ _) (by omega)
    iterate 4 refine ownsRow_setCell_below ?_ (by dsimp only; omega) _
    exact hO
  · iterate 4 refine IsRd.grownRow (base := w.heap.size) ?_ (grown_set _ _) hr (fun k hk => by have := Option.some.inj hk; omega)
    exact hR
  · iterate 4 refine grown_past ?_ (grown_set _ _) (fun k hk => by have := Option.some.inj hk; omega)
    exact hG
theorem bulk_house {A : Ad} {t : ByteArray} (h : bulkA A ≤ 70) (ht : t.size ≤ 10) : bulkA ⟨t, A.parts, A.asks, A.ask⟩ ≤ 1000 := by unfold bulkA at *; dsimp only; omega
theorem bulk_ask {A : Ad} {t : ByteArray} (h : bulkA A ≤ 70) (ht : t.size ≤ 10) : bulkA ⟨A.house, A.parts, A.asks, t⟩ ≤ 1000 := by unfold bulkA at *; dsimp only; omega
theorem bulk_more {A : Ad} {M : List ByteArray} (h : bulkA A ≤ 70) (ht : sumS M + M.length ≤ 100) : bulkA ⟨A.house, A.parts ++ M, A.asks, A.ask⟩ ≤ 1000 := by
  unfold bulkA at *; dsimp only; rw [sumS_append, List.length_append]; omega

theorem cells_new (w : World) (C : Array Value) (t : TypeId) : ∀ j u, C.toList[j]? = some u → (w.alloc (.cells C t)).cell? ((⟨w.heap.size, 0, none⟩ : Addr).add j) = some u := by
  intro j u hj
  rw [add_mk]
  have hb := heap_new w (.cells C t)
  have : C[j]? = some u := by rw [← Array.getElem?_toList]; exact hj
  unfold World.cell?
  dsimp only
  rw [hb]; simpa using this
def fiveS : List ByteArray := [⟨#[97]⟩, ⟨#[98]⟩, ⟨#[99]⟩, ⟨#[97]⟩, ⟨#[98]⟩]

set_option maxRecDepth 100000 in
set_option maxHeartbeats 3200000 in
theorem struct_any (B r q : Nat) (w : World) (h : IsRd B w r q) (hq : q ≤ 9000) :
    Calls Tryz.prog 15 #[.pointer (some ⟨r, 0, none⟩)] w fun e w' => Drawn B r (q + 8) w e w' := by
  obtain ⟨i0, hi, hz0, hz1, hz2⟩ := info_parts Tryz.infoS
  have hle := h.le
  have HR0 : Hid (IsRd B w r q) := h
  clear h
  go_enter Tryz.func15, Tryz.ntmps15
  go_wp2_with fail
  refine (addr_any B r q _ (HR0.out.alloc _) (by omega)).mono ?_
  rintro e w1 ⟨s, rfl, hs, hr1, hg1, _⟩
  have HR1 : Hid (IsRd B w1 r (q + 6)) := hr1
  have HXR1 : Hid (Box w1 w.heap.size (.string ⟨#[]⟩) (.slice none 0 0) (.bool false) (.string ⟨#[]⟩)) := Box.grown (heap_new w _) hg1 (by intro e; have := Option.some.inj e; omega)
  have HG1 : Hid (w.grownBy w1 (some r)) := grown_trans (grown_alloc _ _ _) hg1
  have hw1 : w.heap.size < w1.heap.size := by have := hg1.size; simp at this; omega
  clear hr1 hg1
  go_wp2_with fail
  refine (specRead_any s _ (by omega)).mono ?_
  rintro e w2 ⟨A, ok, a1, c1, rfl, hans, hO, hb2⟩
  have HBK : Hid (bulkA A ≤ 70) := reads_bulk hans
  have HO2 : Hid (Owns w2 w1.heap.size (.slice a1 A.parts.length c1) A.parts) := hO
  have HXR2 : Hid (Box w2 w.heap.size (.string ⟨#[]⟩) (.slice none 0 0) (.bool false) (.string ⟨#[]⟩)) := HXR1.out.grown (grown_of_below none hb2) (by simp)
  have HR2 : Hid (IsRd B w2 r (q + 6)) := HR1.out.below hb2
  have HG2 : Hid (w.grownBy w2 (some r)) := grown_past HG1.out (grown_of_below none hb2) (fun k hk => by cases hk)
  have hw2 : w1.heap.size ≤ w2.heap.size := hb2.size
  clear hans hO hb2
  obtain ⟨b0, hb0⟩ : ∃ b, b = w1.heap.size := ⟨_, rfl⟩
  rw [← hb0] at HO2 hw2 hw1
  clear hb0 HR1 HXR1 HG1
  obtain ⟨G, hGe⟩ : ∃ G, w2.heap.size = G := ⟨_, rfl⟩
  have hGw : b0 ≤ G := by omega
  go_wp2_with fail
  refine (pick_any B r (q + 6) 12 _ (HR2.out.alloc _) (by omega) (by omega) (by omega)).mono ?_
  rintro e w3 ⟨y, rfl, hy, hr3, hg3⟩
  have hgA : w2.grownBy w3 (some r) := grown_trans (grown_alloc _ _ _) hg3
  have HX3 : Hid (Box w3 G (.string A.house) (.slice a1 A.parts.length c1) (.bool A.asks) (.string A.ask)) := by
    rw [← hGe]
    exact Box.grown (heap_new w2 _) hg3 (by intro e; have := Option.some.inj e; omega)
  have HXR3 : Hid (Box w3 w.heap.size (.string ⟨#[]⟩) (.slice none 0 0) (.bool false) (.string ⟨#[]⟩)) := HXR2.out.grown hgA (by intro e; have := Option.some.inj e; omega)
  have HO3 : Hid (Owns w3 b0 (.slice a1 A.parts.length c1) A.parts) := Owns.kept HO2.out hgA (by omega)
  have HR3 : Hid (IsRd B w3 r (q + 7)) := hr3
  have HG3 : Hid (w.grownBy w3 (some r)) := grown_trans HG2.out hgA
  have hw3 : G + 1 ≤ w3.heap.size := by have := hg3.size; simp at this; omega
  clear hr3 hg3 hgA hGe HR2 HXR2 HG2 HO2 hw2
  have hx3 := HX3.out
  obtain ⟨⟨c0, c1', c2, c3⟩, fz⟩ := hx3.cells
  have hxr3 := HXR3.out
  obtain ⟨⟨d0, d1, d2, d3⟩, dz⟩ := hxr3.cells
  clear hx3 hxr3
  have hRG : w.heap.size ≠ G := by omega
  by_cases hy0 : y = 0
  · subst hy0
    have hpl : A.parts.length ≤ 70 := by have := HBK.out; unfold bulkA at this; omega
    have g1d : w3.drew.cell? ⟨G, 1, none⟩ = some (.slice a1 A.parts.length c1) := c1'
    have g1a : ∀ o, (w3.alloc o).cell? ⟨G, 1, none⟩ = some (.slice a1 A.parts.length c1) := fun o => (HX3.out.grown (grown_alloc w3 o none) (by simp)).cells.1.2.1
    have g1ad : ∀ o, (w3.alloc o).drew.cell? ⟨G, 1, none⟩ = some (.slice a1 A.parts.length c1) := fun o => g1a o
    have g1da : ∀ o, (w3.drew.alloc o).cell? ⟨G, 1, none⟩ = some (.slice a1 A.parts.length c1) := fun o => g1a o
    go_wp2_with fail
    go_region_law
      (first
      | (go_simp
         go_at_call 41
         refine (of_newD B r (q + 7) 6 _ (fun s => decide (s.size ≤ 10)) w3 HR3.out (by omega) (by decide) (by decide) (by decide) (by decide)).mono ?_
         rintro e w4 ⟨t, rfl, ht, hr4, hg4⟩
         have ht10 : t.size ≤ 10 := of_decide_eq_true ht
         have HX4 : Hid (Box w4 G (.string A.house) (.slice a1 A.parts.length c1) (.bool A.asks) (.string A.ask)) := HX3.out.grown hg4 (by intro e; have := Option.some.inj e; omega)
         have HXR4 : Hid (Box w4 w.heap.size (.string ⟨#[]⟩) (.slice none 0 0) (.bool false) (.string ⟨#[]⟩)) := HXR3.out.grown hg4 (by intro e; have := Option.some.inj e; omega)
         have HO4 : Hid (Owns w4 b0 (.slice a1 A.parts.length c1) A.parts) := Owns.kept HO3.out hg4 (by omega)
         have HR4 : Hid (IsRd B w4 r (q + 8)) := hr4
         have HG4 : Hid (w.grownBy w4 (some r)) := grown_trans HG3.out hg4
         have hw4 : G + 1 ≤ w4.heap.size := Nat.le_trans hw3 hg4.size
         have cw : w4.cell? ⟨G, 1, none⟩ = some (.slice a1 A.parts.length c1) := HX4.out.cells.1.2.1
         have k3d : w4.drew.cell? ⟨G, 1, none⟩ = some (.slice a1 A.parts.length c1) := cw
         have k3a : ∀ o, (w4.alloc o).cell? ⟨G, 1, none⟩ = some (.slice a1 A.parts.length c1) := fun o => (HX4.out.grown (grown_alloc w4 o none) (by simp)).cells.1.2.1
         have k3ad : ∀ o, (w4.alloc o).drew.cell? ⟨G, 1, none⟩ = some (.slice a1 A.parts.length c1) := fun o => k3a o
         have k3da : ∀ o, (w4.drew.alloc o).cell? ⟨G, 1, none⟩ = some (.slice a1 A.parts.length c1) := fun o => k3a o
         clear ht hr4 hg4
         dsimp only)
      | (refine step_app rfl (.tmp 16) (.tmp 20) 23 rfl b0 9 i0 (.string ⟨#[]⟩) 1 16 Tryz.underlying23 hi hz0 hz1 hz2 rfl (by decide) (.slice a1 A.parts.length c1) A.parts.length (cellsS A.parts) rfl (Owns.heapEq (Owns.keep HO4.out (alloc_keep w4 _)) rfl) (some ⟨w4.heap.size, 0, none⟩) 1 1 [.string t] rfl (by intro e; cases e) rfl (by intro ad e; cases e; exact cell_one_new w4 _ _) (by intro u hu; simp at hu; subst hu; rfl) (by unfold maxLen; omega) (by omega) (by simp; omega) ?_
         intro v5 w5 hO5 hg5
         obtain ⟨a5, c5, hv5, hS5⟩ := (Owns.append hO5).strs
         subst hv5
         have HO5 : Hid (Owns w5 b0 (.slice a5 (A.parts ++ [t]).length c5) (A.parts ++ [t])) := Owns.append hO5
         have hgA : w4.grownBy w5 (Value.slice a1 A.parts.length c1).ownBlock := (by refine grown_trans ?_ hg5; exact ⟨rfl, rfl, rfl, by simp, fun k hk _ => Below.heap_alloc w4 _ k hk⟩)
         have HX5 : Hid (Box w5 G (.string A.house) (.slice a1 A.parts.length c1) (.bool A.asks) (.string A.ask)) := HX4.out.grown hgA (own_not_box HO4.out HX4.out)
         have HXR5 : Hid (Box w5 w.heap.size (.string ⟨#[]⟩) (.slice none 0 0) (.bool false) (.string ⟨#[]⟩)) := HXR4.out.grown hgA (own_not_box HO4.out HXR4.out)
         have HR5 : Hid (IsRd B w5 r (q + 8)) := HR4.out.grownRow (base := b0) hgA (by omega) (Owns.block HO4.out)
         have HG5 : Hid (w.grownBy w5 (some r)) := grown_past HG4.out hgA (fun k hk => by have := Owns.block HO4.out k hk; omega)
         have cw5 : w5.cell? ⟨G, 1, none⟩ = some (.slice a1 A.parts.length c1) := HX5.out.cells.1.2.1
         have fz5 : ∀ j, w5.frozen? ⟨G, j, none⟩ = false := HX5.out.cells.2
         clear hO5 hS5 hg5 hgA)
      | fail)
    all_goals (
      clear c0 c1' c2 c3 fz d0 d1 d2 d3 dz g1d g1a g1ad g1da k3d k3a k3ad k3da cw cw5 fz5
      have hx5 := HX5.out
      obtain ⟨⟨c0, c1', c2, c3⟩, fz⟩ := hx5.cells
      have hxr5 := HXR5.out
      obtain ⟨⟨d0, d1, d2, d3⟩, dz⟩ := hxr5.cells
      clear hx5 hxr5
      go_wp2
      refine bodyPost_ret (v := .agg #[.string A.house, .slice a5 (A.parts ++ [t]).length c5, .bool A.asks, .string A.ask]) (by simp [results, Tryz.results15, go_sem, d0, d1, d2, d3]) rfl ?_
      exact drawn_end (A := ⟨A.house, A.parts ++ [t], A.asks, A.ask⟩) _ _ _ _ (Owns.setBox HO5.out HX5.out) (bulk_more HBK.out (by simp [sumS]; omega)) (HR5.out.grownRow (base := G) (grown_set 1 _) (by omega) (fun k hk => by have := Option.some.inj hk; omega)) (grown_past HG5.out (grown_set 1 _) (fun k hk => by have := Option.some.inj hk; omega)) hw1 hle.2)
  have e0 : ((y : Int) == 0) = false := by simp; omega
  by_cases hy1 : y = 1
  · subst hy1
    go_wp2_with fail
    refine (of_new B r (q + 7) 4 _ (fun s => decide (s.size ≤ 10)) w3 HR3.out (by omega) (by decide) (by decide) (by decide) (by decide)).mono ?_
    rintro e w4 ⟨t, rfl, ht, hr4, hg4⟩
    have ht10 : t.size ≤ 10 := of_decide_eq_true ht
    have HX4 : Hid (Box w4 G (.string A.house) (.slice a1 A.parts.length c1) (.bool A.asks) (.string A.ask)) := HX3.out.grown hg4 (by intro e; have := Option.some.inj e; omega)
    have HXR4 : Hid (Box w4 w.heap.size (.string ⟨#[]⟩) (.slice none 0 0) (.bool false) (.string ⟨#[]⟩)) := HXR3.out.grown hg4 (by intro e; have := Option.some.inj e; omega)
    have HO4 : Hid (Owns w4 b0 (.slice a1 A.parts.length c1) A.parts) := Owns.kept HO3.out hg4 (by omega)
    have HR4 : Hid (IsRd B w4 r (q + 8)) := hr4
    have HG4 : Hid (w.grownBy w4 (some r)) := grown_trans HG3.out hg4
    clear hr4 hg4 ht c0 c1' c2 c3 fz d0 d1 d2 d3 dz
    have hx4 := HX4.out
    obtain ⟨⟨c0, c1', c2, c3⟩, fz⟩ := hx4.cells
    have hxr4 := HXR4.out
    obtain ⟨⟨d0, d1, d2, d3⟩, dz⟩ := hxr4.cells
    clear hx4 hxr4
    go_wp2
    refine bodyPost_ret (v := .agg #[.string t, .slice a1 A.parts.length c1, .bool A.asks, .string A.ask]) (by simp [results, Tryz.results15, go_sem, d0, d1, d2, d3]) rfl ?_
    exact drawn_end (A := ⟨t, A.parts, A.asks, A.ask⟩) _ _ _ _ (Owns.setBox HO4.out HX4.out) (bulk_house HBK.out ht10) (HR4.out.grownRow (base := G) (grown_set 0 _) (by omega) (fun k hk => by have := Option.some.inj hk; omega)) (grown_past HG4.out (grown_set 0 _) (fun k hk => by have := Option.some.inj hk; omega)) hw1 hle.2
  have e1 : ((y : Int) == 1) = false := by simp; omega
  by_cases hy2 : y = 2
  · subst hy2
    go_wp2
    refine bodyPost_ret (v := .agg #[.string A.house, .slice a1 A.parts.length c1, .bool A.asks, .string ⟨#[120]⟩]) (by simp [results, Tryz.results15, go_sem, d0, d1, d2, d3]) rfl ?_
    exact drawn_end (A := ⟨A.house, A.parts, A.asks, ⟨#[120]⟩⟩) _ _ _ _ (Owns.setBox HO3.out HX3.out) (bulk_ask HBK.out (by decide)) ((HR3.out.mono (by omega)).grownRow (base := G) (grown_set 3 _) (by omega) (fun k hk => by have := Option.some.inj hk; omega)) (grown_past HG3.out (grown_set 3 _) (fun k hk => by have := Option.some.inj hk; omega)) hw1 hle.2
  have e2 : ((y : Int) == 2) = false := by simp; omega
  by_cases hy3 : y = 3
  · subst hy3
    have hpl : A.parts.length ≤ 70 := by have := HBK.out; unfold bulkA at this; omega
    go_wp2_with (at_builtin; refine wpList_append_own _ rfl _ _ 23 rfl b0 9 i0 (.string ⟨#[]⟩) 1 16 Tryz.underlying23 hi hz0 hz1 hz2 rfl (by decide) _ _ _ rfl (World.ownsRow.alloc HO3.out _) ⟨w3.heap.size, 0, none⟩ 5 5 (cellsS fiveS) rfl rfl (cells_new w3 _ _) ?c2 ?c3 ?c4 ?c5 ?_)
    case c2 => exact cellsS_one _
    case c3 => unfold maxLen; omega
    case c4 => omega
    case c5 => simp; omega
    intro v4 w4 hO4 hg4 _
    have hO4' : Owns w4 b0 v4 (A.parts ++ fiveS) := Owns.of_row hO4 (by simp [fiveS]) (by rw [cellsS_append])
    obtain ⟨a4, c4, hv4, hS4⟩ := hO4'.strs
    subst hv4
    have HO4 : Hid (Owns w4 b0 (.slice a4 (A.parts ++ fiveS).length c4) (A.parts ++ fiveS)) := hO4'
    have hgA : w3.grownBy w4 (Value.slice a1 A.parts.length c1).ownBlock := (by refine grown_trans ?_ hg4; exact ⟨rfl, rfl, rfl, by simp, fun k hk _ => Below.heap_alloc w3 _ k hk⟩)
    have HX4 : Hid (Box w4 G (.string A.house) (.slice a1 A.parts.length c1) (.bool A.asks) (.string A.ask)) := HX3.out.grown hgA (own_not_box HO3.out HX3.out)
    have HXR4 : Hid (Box w4 w.heap.size (.string ⟨#[]⟩) (.slice none 0 0) (.bool false) (.string ⟨#[]⟩)) := HXR3.out.grown hgA (own_not_box HO3.out HXR3.out)
    have HR4 : Hid (IsRd B w4 r (q + 7)) := HR3.out.grownRow (base := b0) hgA (by omega) (Owns.block HO3.out)
    have HG4 : Hid (w.grownBy w4 (some r)) := grown_past HG3.out hgA (fun k hk => by have := Owns.block HO3.out k hk; omega)
    clear hO4 hO4' hS4 hg4 hgA c0 c1' c2 c3 fz d0 d1 d2 d3 dz
    have hx4 := HX4.out
    obtain ⟨⟨c0, c1', c2, c3⟩, fz⟩ := hx4.cells
    have hxr4 := HXR4.out
    obtain ⟨⟨d0, d1, d2, d3⟩, dz⟩ := hxr4.cells
    clear hx4 hxr4
    generalize hM : A.parts ++ fiveS = M at *
    have HM : Hid _ := hM
    clear hM
    go_wp2
    refine bodyPost_ret (v := .agg #[.string A.house, .slice a4 M.length c4, .bool A.asks, .string A.ask]) (by simp [results, Tryz.results15, go_sem, d0, d1, d2, d3]) rfl ?_
    exact drawn_end (A := ⟨A.house, M, A.asks, A.ask⟩) _ _ _ _ (Owns.setBox HO4.out HX4.out) (by rw [← HM.out]; exact bulk_more HBK.out (by decide)) ((HR4.out.mono (by omega)).grownRow (base := G) (grown_set 1 _) (by omega) (fun k hk => by have := Option.some.inj hk; omega)) (grown_past HG4.out (grown_set 1 _) (fun k hk => by have := Option.some.inj hk; omega)) hw1 hle.2
  · have e3 : ((y : Int) == 3) = false := by simp; omega
    go_wp2
    refine bodyPost_ret (v := .agg #[.string A.house, .slice a1 A.parts.length c1, .bool A.asks, .string A.ask]) (by simp [results, Tryz.results15, go_sem, d0, d1, d2, d3]) rfl ?_
    exact drawn_end (A := A) _ _ _ _ HO3.out (Nat.le_trans HBK.out (by decide)) (HR3.out.mono (by omega)) HG3.out hw1 hle.2
end Go.Proofs.YtjgaddchkoonpaaGreatDoor.Dr
/- The drawn addresses of the laws. -/
namespace Go.Proofs.YtjgaddchkoonpaaGreatDoor.Dr
open Go.RowKit Go.Proofs.YtjgaddchkoonpaaGreatDoor.St Go.Proofs.YtjgaddchkoonpaaGreatDoor.AddrM Go.Proofs.YtjgaddchkoonpaaGreatDoor.EscL Go.Proofs.YtjgaddchkoonpaaGreatDoor.Ad1 Go.Proofs.YtjgaddchkoonpaaGreatDoor.ReadM Go.Proofs.YtjgaddchkoonpaaGreatDoor.Rd1

/-- an address that is drawn of a code -/
def DrawnA (w : World) (e : Ending) (w' : World) : Prop :=
  ∃ (A : Ad) (a1 : Option Addr) (c1 : Nat), e = .returned (.agg #[.string A.house, .slice a1 A.parts.length c1, .bool A.asks, .string A.ask]) ∧ Owns w' w.heap.size (.slice a1 A.parts.length c1) A.parts ∧ bulkA A ≤ 1000 ∧ Below w.heap.size w w'

end Go.Proofs.YtjgaddchkoonpaaGreatDoor.Dr
