/- The program's steps through a page, one a byte. -/
import Derived.Test.YtboncolbijicfaaGreatDoorPageMath
import Derived.Test.YtboncolbijicfaaGreatDoorEscMeantPk
import Derived.Test.YtboncolbijicfaaGreatDoorStep
import Derived.Test.YtboncolbijicfaaGreatDoorDraw5Pk
namespace Go.Proofs.YtboncolbijicfaaGreatDoor.Pg
open Go.RowKit Go.Proofs.YtboncolbijicfaaGreatDoor.EscM Go.Proofs.YtboncolbijicfaaGreatDoor.EscL Go.Proofs.YtboncolbijicfaaGreatDoor.ReadM Go.Proofs.YtboncolbijicfaaGreatDoor.St Go.Proofs.YtboncolbijicfaaGreatDoor.PgM Go.Proofs.YtboncolbijicfaaGreatDoor.Dr

def OwnsB (w : World) (base : Nat) (v : Value) (m : List UInt8) : Prop := w.ownsRow base 5 1 v m.length (cellsB m)
theorem OwnsB.form {w : World} {base : Nat} {v : Value} {m : List UInt8} (h : OwnsB w base v m) : ∃ a c, v = .slice a m.length c := by
  obtain ⟨_, ⟨rfl, hn⟩ | ⟨g, cap, cur, rfl, _⟩⟩ := h
  · exact ⟨none, 0, by rw [hn]⟩
  · exact ⟨_, _, rfl⟩
theorem OwnsB.keep {w w' : World} {base : Nat} {v : Value} {m : List UInt8} (h : OwnsB w base v m) (hb : ∀ k, k < w.heap.size → w'.heap[k]? = w.heap[k]?) : OwnsB w' base v m := by
  obtain ⟨h1, h2 | ⟨g, cap, cur, hv, hg, hc, r⟩⟩ := h
  · exact ⟨h1, Or.inl h2⟩
  · refine ⟨h1, Or.inr ⟨g, cap, cur, hv, hg, ?_, r⟩⟩
    rw [hb g (Array.getElem?_eq_some_iff.1 hc).1]; exact hc
theorem OwnsB.nil (w : World) (base : Nat) : OwnsB w base (.slice none 0 0) [] := World.ownsRow_nil _ _ _ _
theorem OwnsB.lt {w : World} {base : Nat} {v : Value} {m : List UInt8} (h : OwnsB w base v m) : ∀ g, v.ownBlock = some g → base ≤ g ∧ g < w.heap.size := fun g hg => World.ownsRow.lt h g hg
theorem OwnsB.snoc {w : World} {base : Nat} {v : Value} {m : List UInt8} {b : UInt8} (h : w.ownsRow base 5 1 v (m.length + 1) (cellsB m ++ [.int .u8 (b.toNat : Int)])) : OwnsB w base v (m ++ [b]) := by
  unfold OwnsB
  rw [cellsB_append]
  simpa [cellsB] using h
/-- rows of bytes and rows of texts lie in blocks of their own -/
theorem rows_apart {w : World} {b1 b2 : Nat} {v u : Value} {m : List UInt8} {L : List ByteArray} (h : OwnsB w b1 v m) (k : Owns w b2 u L) : ∀ g, v.ownBlock = some g → u.ownBlock ≠ some g := by
  intro g hg hu
  obtain ⟨_, ⟨rfl, _⟩ | ⟨x, cap, cur, rfl, _, hc, _⟩⟩ := h
  · simp [Value.ownBlock] at hg
  · obtain ⟨_, ⟨rfl, _⟩ | ⟨y, cap', cur', rfl, _, hc', _⟩⟩ := k
    · simp [Value.ownBlock] at hu
    · simp [Value.ownBlock] at hg hu
      subst hg
      subst hu
      rw [hc] at hc'
      injection hc' with hc'
      injection hc' with _ ht _
      cases ht
theorem OwnsB.kept {w w' : World} {base : Nat} {v : Value} {m : List UInt8} {row : Option Nat} (h : OwnsB w base v m) (hg : w.grownBy w' row) (hr : ∀ g, v.ownBlock = some g → row ≠ some g) : OwnsB w' base v m := by
  refine World.ownsRow.kept h hg ?_
  cases hv : v.ownBlock with
  | none => exact Or.inl rfl
  | some g => exact Or.inr (fun e => hr g hv e.symm)
theorem owns_kept {w w' : World} {base : Nat} {v : Value} {L : List ByteArray} {row : Option Nat} (h : Owns w base v L) (hg : w.grownBy w' row) (hr : ∀ g, v.ownBlock = some g → row ≠ some g) : Owns w' base v L := by
  refine World.ownsRow.kept h hg ?_
  cases hv : v.ownBlock with
  | none => exact Or.inl rfl
  | some g => exact Or.inr (fun e => hr g hv e.symm)

/-- a struct of a walk lies in a block -/
def Box3 (w : World) (G : Nat) (x0 x1 x2 : Value) : Prop := w.heap[G]? = some (.cells #[x0, x1, x2] 227 (0, 0))
theorem Box3.cells {w : World} {G : Nat} {x0 x1 x2 : Value} (h : Box3 w G x0 x1 x2) : (w.cell? ⟨G, 0, none⟩ = some x0 ∧ w.cell? ⟨G, 1, none⟩ = some x1 ∧ w.cell? ⟨G, 2, none⟩ = some x2) ∧ ∀ j, w.frozen? ⟨G, j, none⟩ = false := by
  unfold Box3 at h
  refine ⟨⟨?_, ?_, ?_⟩, fun j => ?_⟩
  · simp [World.cell?, h]
  · simp [World.cell?, h]
  · simp [World.cell?, h]
  · simp [World.frozen?, h]
theorem Box3.lt {w : World} {G : Nat} {x0 x1 x2 : Value} (h : Box3 w G x0 x1 x2) : G < w.heap.size := (Array.getElem?_eq_some_iff.1 h).1
theorem Box3.grown {w w' : World} {G : Nat} {x0 x1 x2 : Value} {row : Option Nat} (h : Box3 w G x0 x1 x2) (hg : w.grownBy w' row) (hr : row ≠ some G) : Box3 w' G x0 x1 x2 := by
  unfold Box3
  rw [hg.block G h.lt (fun e => hr e.symm)]; exact h
theorem Box3.below {w w' : World} {B G : Nat} {x0 x1 x2 : Value} (h : Box3 w G x0 x1 x2) (hb : Below B w w') (hG : G < B) : Box3 w' G x0 x1 x2 := by
  unfold Box3
  rw [hb.block G hG]; exact h

def IsBox (w : World) (G : Nat) : Prop := ∃ C, w.heap[G]? = some (.cells C 227 (0, 0))
theorem Box3.is {w : World} {G : Nat} {x0 x1 x2 : Value} (h : Box3 w G x0 x1 x2) : IsBox w G := ⟨_, h⟩
theorem IsBox.set {w : World} {G : Nat} (h : IsBox w G) (G' j : Nat) (y : Value) : IsBox (w.setCell ⟨G', j, none⟩ y) G := by
  obtain ⟨C, h⟩ := h
  unfold IsBox
  by_cases e : G' = G
  · subst e
    refine ⟨C.setIfInBounds j y, ?_⟩
    simp only [World.setCell, Array.getElem?_modify, if_true, h, Option.map_some]
    rfl
  · refine ⟨C, ?_⟩
    rw [Below.heap_setCell _ _ _ _ (by exact fun h => e h.symm)]; exact h
theorem row_set {w : World} {base G j : Nat} {e : TypeId} {v y : Value} {n : Nat} {xs : List Value} (h : w.ownsRow base e 1 v n xs) (hx : IsBox w G) (he : e ≠ 227) : (w.setCell ⟨G, j, none⟩ y).ownsRow base e 1 v n xs := by
  refine World.ownsRow.kept h (grown_set j y) ?_
  obtain ⟨_, ⟨rfl, _⟩ | ⟨g, cap, cur, rfl, _, hc, _⟩⟩ := h
  · exact Or.inl rfl
  · refine Or.inr ?_
    intro e2
    have e3 : g = G := by simpa [Value.ownBlock] using e2
    subst e3
    obtain ⟨C, hC⟩ := hx
    rw [hc] at hC
    injection hC with hC
    injection hC with _ ht _
    exact he ht
theorem OwnsB.set {w : World} {base G : Nat} {v : Value} {m : List UInt8} (h : OwnsB w base v m) (hx : IsBox w G) (j : Nat) (y : Value) : OwnsB (w.setCell ⟨G, j, none⟩ y) base v m := row_set h hx (by decide)
theorem owns_set {w : World} {base G : Nat} {v : Value} {L : List ByteArray} (h : Owns w base v L) (hx : IsBox w G) (j : Nat) (y : Value) : Owns (w.setCell ⟨G, j, none⟩ y) base v L := row_set h hx (by decide)

/-- a walk: where it stands, what of a mark is read, all whole marks -/
def WalkAt (w : World) (base p : Nat) (m : List UInt8) (M : List ByteArray) (v : Value) : Prop :=
  ∃ (am : Option Addr) (cm : Nat) (ax : Option Addr) (cs : Nat), v = .agg #[.int .i64 (p : Int), .slice am m.length cm, .slice ax M.length cs] ∧ OwnsB w base (.slice am m.length cm) m ∧ Owns w base (.slice ax M.length cs) M

theorem nextP_0 (b : UInt8) : nextP 0 b = if (b.toNat : Int) = 60 then 1 else if (b.toNat : Int) = 40 then 2 else 0 := rfl
theorem nextM_0 (m : List UInt8) (b : UInt8) : nextM 0 m b = if (b.toNat : Int) = 60 then [] else m := rfl
theorem out_0 (m : List UInt8) (b : UInt8) : outM 0 m b = [] := rfl
theorem nextP_2 (b : UInt8) : nextP 2 b = if (b.toNat : Int) = 41 then 0 else 2 := rfl
theorem nextM_2 (m : List UInt8) (b : UInt8) : nextM 2 m b = m := rfl
theorem out_2 (m : List UInt8) (b : UInt8) : outM 2 m b = [] := rfl
theorem nextP_1 (b : UInt8) : nextP 1 b = if (b.toNat : Int) = 62 then 0 else 1 := rfl
theorem nextM_1 (m : List UInt8) (b : UInt8) : nextM 1 m b = if (b.toNat : Int) = 62 then m else m ++ [b] := rfl
theorem out_1 (m : List UInt8) (b : UInt8) : outM 1 m b = if (b.toNat : Int) = 62 then [bs m] else [] := by
  unfold outM
  by_cases h : (b.toNat : Int) = 62
  · rw [if_pos ⟨rfl, h⟩, if_pos h]
  · rw [if_neg (fun e => h e.2), if_neg h]

theorem keep2 (w : World) (o o' : Obj) : ∀ k, k < w.heap.size → ((w.alloc o).alloc o').heap[k]? = w.heap[k]? := fun k hk => by rw [alloc_keep _ _ k (by simp; omega), alloc_keep _ _ k hk]
theorem below2 (w : World) {base : Nat} (o o' : Obj) (hb : base ≤ w.heap.size) : Below base w ((w.alloc o).alloc o') := ((Below.refl base w).alloc hb _).alloc (by simp; omega) _

set_option maxRecDepth 100000 in
set_option maxHeartbeats 1600000 in
theorem outside_any (base : Nat) (m : List UInt8) (M : List ByteArray) (b : UInt8) (v : Value) (w : World) (h : WalkAt w base 0 m M v) (hb : base ≤ w.heap.size) :
    Calls Tryz.prog 210 #[v, .int .u8 (b.toNat : Int)] w fun e w' => ∃ u, e = .returned u ∧ WalkAt w' base (nextP 0 b) (nextM 0 m b) (M ++ outM 0 m b) u ∧ Below base w w' := by
  obtain ⟨am, cm, ax, cs, rfl, hm, hs⟩ := h
  have HM : Hid _ := hm
  have HS : Hid _ := hs
  clear hm hs
  rw [nextP_0, nextM_0, out_0, List.append_nil]
  by_cases h60 : (b.toNat : Int) = 60
  · rw [if_pos h60, if_pos h60]
    go_enter Tryz.func210, Tryz.ntmps210
    go_wp2
    refine bodyPost_ret (v := .agg #[.int .i64 1, .slice none 0 0, .slice ax M.length cs]) (by simp [results, Tryz.results210, go_sem]) rfl ?_
    exact ⟨_, rfl, ⟨none, 0, ax, cs, rfl, OwnsB.nil _ _, Owns.keep HS.out (keep2 w _ _)⟩, below2 w _ _ hb⟩
  · rw [if_neg h60, if_neg h60]
    have e60 : ((b.toNat : Int) == 60) = false := by simp; omega
    by_cases h40 : (b.toNat : Int) = 40
    · rw [if_pos h40]
      go_enter Tryz.func210, Tryz.ntmps210
      go_wp2
      refine bodyPost_ret (v := .agg #[.int .i64 2, .slice am m.length cm, .slice ax M.length cs]) (by simp [results, Tryz.results210, go_sem]) rfl ?_
      exact ⟨_, rfl, ⟨am, cm, ax, cs, rfl, OwnsB.keep HM.out (keep2 w _ _), Owns.keep HS.out (keep2 w _ _)⟩, below2 w _ _ hb⟩
    · rw [if_neg h40]
      have e40 : ((b.toNat : Int) == 40) = false := by simp; omega
      go_enter Tryz.func210, Tryz.ntmps210
      go_wp2
      refine bodyPost_ret (v := .agg #[.int .i64 0, .slice am m.length cm, .slice ax M.length cs]) (by simp [results, Tryz.results210, go_sem]) rfl ?_
      exact ⟨_, rfl, ⟨am, cm, ax, cs, rfl, OwnsB.keep HM.out (keep2 w _ _), Owns.keep HS.out (keep2 w _ _)⟩, below2 w _ _ hb⟩

set_option maxRecDepth 100000 in
set_option maxHeartbeats 1600000 in
theorem brackets_any (base : Nat) (m : List UInt8) (M : List ByteArray) (b : UInt8) (v : Value) (w : World) (h : WalkAt w base 2 m M v) (hb : base ≤ w.heap.size) :
    Calls Tryz.prog 212 #[v, .int .u8 (b.toNat : Int)] w fun e w' => ∃ u, e = .returned u ∧ WalkAt w' base (nextP 2 b) (nextM 2 m b) (M ++ outM 2 m b) u ∧ Below base w w' := by
  obtain ⟨am, cm, ax, cs, rfl, hm, hs⟩ := h
  have HM : Hid _ := hm
  have HS : Hid _ := hs
  clear hm hs
  rw [nextP_2, nextM_2, out_2, List.append_nil]
  by_cases h41 : (b.toNat : Int) = 41
  · rw [if_pos h41]
    go_enter Tryz.func212, Tryz.ntmps212
    go_wp2
    refine bodyPost_ret (v := .agg #[.int .i64 0, .slice am m.length cm, .slice ax M.length cs]) (by simp [results, Tryz.results212, go_sem]) rfl ?_
    exact ⟨_, rfl, ⟨am, cm, ax, cs, rfl, OwnsB.keep HM.out (keep2 w _ _), Owns.keep HS.out (keep2 w _ _)⟩, below2 w _ _ hb⟩
  · rw [if_neg h41]
    have e41 : ((b.toNat : Int) == 41) = false := by simp; omega
    go_enter Tryz.func212, Tryz.ntmps212
    go_wp2
    refine bodyPost_ret (v := .agg #[.int .i64 2, .slice am m.length cm, .slice ax M.length cs]) (by simp [results, Tryz.results212, go_sem]) rfl ?_
    exact ⟨_, rfl, ⟨am, cm, ax, cs, rfl, OwnsB.keep HM.out (keep2 w _ _), Owns.keep HS.out (keep2 w _ _)⟩, below2 w _ _ hb⟩

theorem cell_third (w : World) (o o' : Obj) (x : Value) (t : TypeId) : ∀ j u, [x][j]? = some u → (((w.alloc o).alloc o').alloc (.cells #[x] t)).cell? ((⟨w.heap.size + 1 + 1, 0, none⟩ : Addr).add j) = some u := by
  have h := cell_one_new ((w.alloc o).alloc o') x t
  have e : ((w.alloc o).alloc o').heap.size = w.heap.size + 1 + 1 := by simp
  rwa [e] at h
theorem keep3 (w : World) (o o' o'' : Obj) : ∀ k, k < w.heap.size → (((w.alloc o).alloc o').alloc o'').heap[k]? = w.heap[k]? := fun k hk => by rw [alloc_keep _ _ k (by simp; omega), keep2 w o o' k hk]
/-- the boxes of a step, behind an append -/
theorem boxes_past {w w1 : World} {base : Nat} {x0 x1 x2 y0 y1 y2 : Value} {o : Obj} {row : Option Nat} (hg : (((w.alloc (.cells #[x0, x1, x2] 227)).alloc (.cells #[y0, y1, y2] 227)).alloc o).grownBy w1 row) (hr : ∀ g, row = some g → base ≤ g ∧ g < w.heap.size) (hb : base ≤ w.heap.size) :
    Box3 w1 w.heap.size x0 x1 x2 ∧ Box3 w1 (w.heap.size + 1) y0 y1 y2 ∧ Below base w w1 ∧ w.heap.size + 1 < w1.heap.size := by
  have e1 : ((w.alloc (.cells #[x0, x1, x2] 227)).alloc (.cells #[y0, y1, y2] 227)).heap.size = w.heap.size + 1 + 1 := by simp
  have b0 : Box3 (w.alloc (.cells #[x0, x1, x2] 227)) w.heap.size x0 x1 x2 := heap_new w _
  have b1 : Box3 ((w.alloc (.cells #[x0, x1, x2] 227)).alloc (.cells #[y0, y1, y2] 227)) (w.heap.size + 1) y0 y1 y2 := by
    have := heap_new (w.alloc (.cells #[x0, x1, x2] 227)) (.cells #[y0, y1, y2] 227)
    have e : (w.alloc (.cells #[x0, x1, x2] 227)).heap.size = w.heap.size + 1 := by simp
    rwa [e] at this
  have b0' : Box3 (((w.alloc (.cells #[x0, x1, x2] 227)).alloc (.cells #[y0, y1, y2] 227)).alloc o) w.heap.size x0 x1 x2 := by
    refine (b0.grown (grown_alloc _ _ none) (by simp)).grown (grown_alloc _ _ none) (by simp)
  have b1' : Box3 (((w.alloc (.cells #[x0, x1, x2] 227)).alloc (.cells #[y0, y1, y2] 227)).alloc o) (w.heap.size + 1) y0 y1 y2 := b1.grown (grown_alloc _ _ none) (by simp)
  refine ⟨b0'.grown hg (by intro e; have := hr _ e; omega), b1'.grown hg (by intro e; have := hr _ e; omega), ?_, ?_⟩
  · exact Below.grown (((below2 w _ _ hb).alloc (by simp; omega) _)) hg (by simp; omega) (fun g e => (hr g e).1)
  · have := hg.size; simp at this; omega

set_option maxRecDepth 100000 in
set_option maxHeartbeats 1600000 in
theorem mark_any (base : Nat) (m : List UInt8) (M : List ByteArray) (b : UInt8) (v : Value) (w : World) (h : WalkAt w base 1 m M v) (hb : base ≤ w.heap.size) (hm1 : m.length ≤ 1000) (hs1 : M.length ≤ 1000) :
    Calls Tryz.prog 211 #[v, .int .u8 (b.toNat : Int)] w fun e w' => ∃ u, e = .returned u ∧ WalkAt w' base (nextP 1 b) (nextM 1 m b) (M ++ outM 1 m b) u ∧ Below base w w' := by
  obtain ⟨i0, hi, hz0, hz1, hz2⟩ := info_parts Tryz.info8
  obtain ⟨j0, hj, hy0, hy1, hy2⟩ := info_parts Tryz.infoS
  obtain ⟨am, cm, ax, cs, rfl, hm, hs⟩ := h
  have HM : Hid (OwnsB w base (.slice am m.length cm) m) := hm
  have HS : Hid (Owns w base (.slice ax M.length cs) M) := hs
  clear hm hs
  rw [nextP_1, nextM_1, out_1]
  by_cases h62 : (b.toNat : Int) = 62
  · rw [if_pos h62, if_pos h62, if_pos h62]
    have hbs : (⟨m.toArray⟩ : ByteArray) = bs m := rfl
    have HBS : Hid _ := hbs
    clear hbs
    have hstr : ∀ o o' : Obj, (convert 119 9 (.slice am m.length cm)).run Tryz.prog ((w.alloc o).alloc o') = .ok (.string ⟨m.toArray⟩) ((w.alloc o).alloc o') := fun o o' => string_own (OwnsB.keep HM.out (keep2 w o o'))
    go_enter Tryz.func211, Tryz.ntmps211
    go_wp2_with (at_builtin; refine wpList_append_own _ rfl _ _ 24 rfl base 9 j0 (.string ⟨#[]⟩) 1 16 Tryz.underlying24 hj hy0 hy1 hy2 rfl (by decide) _ _ _ rfl (((World.ownsRow.alloc HS.out _).alloc _).alloc _) ⟨w.heap.size + 1 + 1, 0, none⟩ 1 1 [.string ⟨m.toArray⟩] rfl rfl ?c1 ?c2 ?c3 ?c4 ?c5 ?_)
    case c1 => exact cell_third w _ _ _ _
    case c2 => intro u hu; simp at hu; subst hu; rfl
    case c3 => unfold maxLen; omega
    case c4 => omega
    case c5 => simp; omega
    intro v' w1 hown' hgrow _
    have hO1 : Owns w1 base v' (M ++ [bs m]) := Owns.append hown'
    obtain ⟨a1, c1, hv1, _⟩ := hO1.strs
    subst hv1
    have HO1 : Hid (Owns w1 base (.slice a1 (M ++ [bs m]).length c1) (M ++ [bs m])) := hO1
    have hbx := boxes_past hgrow (fun g hg => World.ownsRow.lt HS.out g hg) hb
    have hM1 : OwnsB w1 base (.slice am m.length cm) m := OwnsB.kept (OwnsB.keep HM.out (keep3 w _ _ _)) hgrow (fun g hg e => rows_apart HM.out HS.out g hg e)
    have HM1 : Hid _ := hM1
    obtain ⟨bx0, bx1, hbl, hsz⟩ := hbx
    have HX0 : Hid (IsBox w1 _) := bx0.is
    have HX1 : Hid (IsBox w1 _) := bx1.is
    have HBL : Hid (Below base w w1) := hbl
    obtain ⟨⟨p0, p1, p2⟩, pf⟩ := bx0.cells
    obtain ⟨⟨q0, q1, q2⟩, qf⟩ := bx1.cells
    clear hown' hgrow hO1 hM1 bx0 bx1 hbl hstr
    go_wp2
    refine bodyPost_ret (v := .agg #[.int .i64 0, .slice am m.length cm, .slice a1 (M ++ [bs m]).length c1]) (by simp [results, Tryz.results211, go_sem, q0, q1, q2]) rfl ?_
    refine ⟨_, rfl, ⟨am, cm, a1, c1, rfl, ?_, ?_⟩, ?_⟩
    · have b0 := HX0.out
      have b1 := HX1.out
      exact (((OwnsB.set HM1.out b0 _ _).set (b1.set _ _ _) _ _).set ((b1.set _ _ _).set _ _ _) _ _).set (((b1.set _ _ _).set _ _ _).set _ _ _) _ _
    · have b0 := HX0.out
      have b1 := HX1.out
      exact owns_set (owns_set (owns_set (owns_set HO1.out b0 _ _) (b1.set _ _ _) _ _) ((b1.set _ _ _).set _ _ _) _ _) (((b1.set _ _ _).set _ _ _).set _ _ _) _ _
    · have hbl := HBL.out
      iterate 4 refine Below.setCell ?_ (by dsimp only; omega) _
      exact hbl
  · rw [if_neg h62, if_neg h62, if_neg h62, List.append_nil]
    have e62 : ((b.toNat : Int) == 62) = false := by simp; omega
    go_enter Tryz.func211, Tryz.ntmps211
    go_wp2_with (at_builtin; refine wpList_append_own _ rfl _ _ 119 rfl base 5 i0 (.int .u8 0) 1 1 Tryz.underlying119 hi hz0 hz1 hz2 rfl (by decide) _ _ _ rfl (((World.ownsRow.alloc HM.out _).alloc _).alloc _) ⟨w.heap.size + 1 + 1, 0, none⟩ 1 1 [.int .u8 (b.toNat : Int)] rfl rfl ?c1 ?c2 ?c3 ?c4 ?c5 ?_)
    case c1 => exact cell_third w _ _ _ _
    case c2 => intro u hu; simp at hu; subst hu; rfl
    case c3 => unfold maxLen; omega
    case c4 => omega
    case c5 => simp; omega
    intro v' w1 hown' hgrow _
    have hO1 : OwnsB w1 base v' (m ++ [b]) := OwnsB.snoc hown'
    obtain ⟨a1, c1, hv1⟩ := hO1.form
    subst hv1
    have HO1 : Hid (OwnsB w1 base (.slice a1 (m ++ [b]).length c1) (m ++ [b])) := hO1
    have hbx := boxes_past hgrow (OwnsB.lt HM.out) hb
    have hS1 : Owns w1 base (.slice ax M.length cs) M := owns_kept (Owns.keep HS.out (keep3 w _ _ _)) hgrow (fun g hg e => rows_apart HM.out HS.out g e hg)
    have HS1 : Hid _ := hS1
    obtain ⟨bx0, bx1, hbl, hsz⟩ := hbx
    have HX0 : Hid (IsBox w1 _) := bx0.is
    have HX1 : Hid (IsBox w1 _) := bx1.is
    have HBL : Hid (Below base w w1) := hbl
    obtain ⟨⟨p0, p1, p2⟩, pf⟩ := bx0.cells
    obtain ⟨⟨q0, q1, q2⟩, qf⟩ := bx1.cells
    clear hown' hgrow hO1 hS1 bx0 bx1 hbl
    go_wp2
    refine bodyPost_ret (v := .agg #[.int .i64 1, .slice a1 (m ++ [b]).length c1, .slice ax M.length cs]) (by simp [results, Tryz.results211, go_sem, q0, q1, q2]) rfl ?_
    refine ⟨_, rfl, ⟨a1, c1, ax, cs, rfl, ?_, ?_⟩, ?_⟩
    · have b0 := HX0.out
      have b1 := HX1.out
      exact (((HO1.out.set b0 _ _).set (b1.set _ _ _) _ _).set ((b1.set _ _ _).set _ _ _) _ _).set (((b1.set _ _ _).set _ _ _).set _ _ _) _ _
    · have b0 := HX0.out
      have b1 := HX1.out
      exact owns_set (owns_set (owns_set (owns_set HS1.out b0 _ _) (b1.set _ _ _) _ _) ((b1.set _ _ _).set _ _ _) _ _) (((b1.set _ _ _).set _ _ _).set _ _ _) _ _
    · have hbl := HBL.out
      iterate 4 refine Below.setCell ?_ (by dsimp only; omega) _
      exact hbl
end Go.Proofs.YtboncolbijicfaaGreatDoor.Pg
