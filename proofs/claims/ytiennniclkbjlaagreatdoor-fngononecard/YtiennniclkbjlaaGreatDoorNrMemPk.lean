/- Several texts in one: NrMem, Nr1, Nr1b, Nr1c, Nr2. -/
import Derived.Test.YtiennniclkbjlaaGreatDoorDraw14Pk
import Derived.Deep.AppendLies
import Derived.Test.YtiennniclkbjlaaGreatDoorGrpMathPk
import Derived.Test.YtiennniclkbjlaaGreatDoorEscLeafPk
import Derived.Test.YtiennniclkbjlaaGreatDoorRead1Pk
/- Groups while they are read: the last one is written into. -/
namespace Go.Proofs.YtiennniclkbjlaaGreatDoor.NrW
open Go.RowKit Go.Proofs.YtiennniclkbjlaaGreatDoor.EscM Go.Proofs.YtiennniclkbjlaaGreatDoor.St Go.Proofs.YtiennniclkbjlaaGreatDoor.RR Go.Proofs.YtiennniclkbjlaaGreatDoor.LetM Go.Proofs.YtiennniclkbjlaaGreatDoor.Nm Go.Proofs.YtiennniclkbjlaaGreatDoor.GrM Go.Proofs.YtiennniclkbjlaaGreatDoor.Dr

theorem own_setL {w : World} {base k n g cap j : Nat} {t : TypeId} {y : Value} {xs : List Value} (h : w.ownsRow base t k (.slice (some ⟨g, 0, none⟩) n cap) n xs) : (w.setCell ⟨g, j, none⟩ y).ownsRow base t k (.slice (some ⟨g, 0, none⟩) n cap) n (xs.set j y) := by
  obtain ⟨h1, ⟨hv, _⟩ | ⟨g', cap', cur, hv, hb, hh, h3, h4, h5, h6⟩⟩ := h
  · injection hv with e; cases e
  · injection hv with e1 _ e3
    injection e1 with e1
    injection e1 with e1
    subst e1; subst e3
    refine ⟨by simp [h1], Or.inr ⟨g, cap, cur.setIfInBounds j y, rfl, hb, Bx.set (t := t) hh j y, h3, h4, by simp [h5], ?_⟩⟩
    rw [Array.toList_setIfInBounds, List.take_set, h6]
def nmBlk (g : Gr) : Option Nat := (Value.slice g.na g.nm.length g.nc).ownBlock
/-- no two share a list of names -/
def ApartN (L : List Gr) : Prop := L.Pairwise fun g h => ∀ b, nmBlk g = some b → nmBlk h ≠ some b
/-- groups of the call's own, each list in a block of its own -/
def GsOwn (w : World) (base base2 : Nat) (v : Value) (L : List Gr) : Prop := OwnsR FGr 35 w base v L ∧ GrsOwn w base2 L ∧ Apart L ∧ ApartN L
theorem GsOwn.keep {w w' : World} {base base2 : Nat} {v : Value} {L : List Gr} (h : GsOwn w base base2 v L) (hb : ∀ k, k < w.heap.size → w'.heap[k]? = w.heap[k]?) : GsOwn w' base base2 v L := ⟨h.1.keep hb, h.2.1.keep hb, h.2.2⟩
theorem GsOwn.below {w w' : World} {base base2 : Nat} {v : Value} {L : List Gr} (h : GsOwn w base base2 v L) (hb : Below w.heap.size w w') : GsOwn w' base base2 v L := h.keep fun k hk => hb.block k hk
theorem GsOwn.alloc {w : World} {base base2 : Nat} {v : Value} {L : List Gr} (h : GsOwn w base base2 v L) (o : Obj) : GsOwn (w.alloc o) base base2 v L := h.keep (alloc_keep _ _)
theorem GsOwn.drew {w : World} {base base2 : Nat} {v : Value} {L : List Gr} (h : GsOwn w base base2 v L) : GsOwn w.drew base base2 v L := h.keep fun _ _ => rfl
theorem GsOwn.nil (w : World) (base base2 : Nat) : GsOwn w base base2 (.slice none 0 0) [] := ⟨OwnsR.nil _ _ _ _, (fun g hg => by cases hg), List.Pairwise.nil, List.Pairwise.nil⟩
theorem GsOwn.empty (w : World) (base2 : Nat) : GsOwn (w.alloc (.cells #[] 35)) w.heap.size base2 (.slice (some ⟨w.heap.size, 0, none⟩) 0 0) [] := ⟨OwnsR.empty _ _ _ _ (Nat.le_refl _), (fun g hg => by cases hg), List.Pairwise.nil, List.Pairwise.nil⟩
theorem GsOwn.at {w : World} {base base2 : Nat} {v : Value} {L : List Gr} (h : GsOwn w base base2 v L) : ∃ a0 cap, v = .slice a0 L.length cap ∧ IsRows FGr w a0 cap L ∧ GrsAt w L := by
  obtain ⟨a0, cap, e, hr⟩ := h.1.rows
  exact ⟨a0, cap, e, hr, h.2.1.at⟩
theorem own_past {w w' : World} {base k n : Nat} {t : TypeId} {v : Value} {xs : List Value} {r : Option Nat} (h : w.ownsRow base t k v n xs) (hg : w.grownBy w' r) (hr : ∀ b, v.ownBlock = some b → r ≠ some b) : w'.ownsRow base t k v n xs := by
  refine World.ownsRow.kept h hg ?_
  cases hv : v.ownBlock with
  | none => exact Or.inl rfl
  | some b => right; intro e; exact hr b hv e.symm
/-- a group more -/
theorem GsOwn.more {w w2 : World} {base base2 : Nat} {v v' : Value} {L : List Gr} {g : Gr} (h : GsOwn w base base2 v L) (hgo : GrOwn w base2 g) (hn : ∀ x ∈ L, ∀ b, nmBlk x = some b → nmBlk g ≠ some b) (hr : ∀ x ∈ L, ∀ b, ruBlk x = some b → ruBlk g ≠ some b)
    (hO : w2.ownsRow base 35 3 v' (L.length + 1) (FGr.cells L ++ FGr.enc g)) (hg : w.grownBy w2 v.ownBlock) : GsOwn w2 base base2 v' (L ++ [g]) := by
  obtain ⟨h1, h2, h3, h4⟩ := h
  refine ⟨OwnsR.append (F := FGr) hO, ?_, h3.snoc hr, ?_⟩
  · intro x hx
    rcases List.mem_append.1 hx with hx | hx
    · exact (h2 x hx).apart h1 (by decide) (by decide) hg
    · simp at hx; subst hx; exact hgo.apart h1 (by decide) (by decide) hg
  · unfold ApartN
    rw [List.pairwise_append]
    refine ⟨h4, List.pairwise_singleton _ _, ?_⟩
    intro a ha b hb
    simp at hb; subst hb; exact hn a ha
theorem cells_lastG (M : List Gr) (g g' : Gr) (j : Nat) (y : Value) (hj : (FGr.enc g).set j y = FGr.enc g') (h3 : j < 3) : (FGr.cells (M ++ [g])).set (M.length * 3 + j) y = FGr.cells (M ++ [g']) := by
  rw [FGr.cells_append, FGr.cells_append, List.set_append_right _ _ (by rw [FGr.cells_len]; show M.length * 3 ≤ _; omega), FGr.cells_len]
  rw [show M.length * 3 + j - M.length * FGr.k = j from by show M.length * 3 + j - M.length * 3 = j; omega]
  have e1 : FGr.cells [g] = FGr.enc g := by simp [Frm.cells]
  have e2 : FGr.cells [g'] = FGr.enc g' := by simp [Frm.cells]
  rw [e1, e2, hj]
theorem own_ne_type {w : World} {base base2 k k2 n m : Nat} {t t2 : TypeId} {v v2 : Value} {xs ys : List Value} (h : w.ownsRow base t k v n xs) (h2 : w.ownsRow base2 t2 k2 v2 m ys) (ht : t ≠ t2) : ∀ b, v.ownBlock = some b → v2.ownBlock ≠ some b := by
  intro b hb e
  obtain ⟨c, hc⟩ := own_block_type h hb
  obtain ⟨c2, hc2⟩ := own_block_type h2 e
  rw [hc] at hc2
  injection hc2 with hc2
  injection hc2 with _ ht2
  exact ht ht2
/-- the last one has a name more -/
theorem GsOwn.name {w w1 : World} {base base2 b cap H : Nat} {M : List Gr} {g : Gr} {g1 c1 : Nat} {s : ByteArray} (h : GsOwn w base base2 (.slice (some ⟨b, 0, none⟩) (M.length + 1) cap) (M ++ [g]))
    (hO : w1.ownsRow base2 9 1 (.slice (some ⟨g1, 0, none⟩) (g.nm.length + 1) c1) (g.nm.length + 1) (cellsS g.nm ++ [.string s])) (hg : w.grownBy w1 (Value.slice g.na g.nm.length g.nc).ownBlock) (hat : (Value.slice g.na g.nm.length g.nc).ownBlock = some g1 ∨ g1 = H) (hH : w.heap.size ≤ H) :
    GsOwn (w1.setCell ⟨b, M.length * 3, none⟩ (.slice (some ⟨g1, 0, none⟩) (g.nm.length + 1) c1)) base base2 (.slice (some ⟨b, 0, none⟩) (M.length + 1) cap) (M ++ [{ g with nm := g.nm ++ [s], na := some ⟨g1, 0, none⟩, nc := c1 }]) := by
  obtain ⟨h1, h2, h3, h4⟩ := h
  have hl : (M ++ [g]).length = M.length + 1 := by simp
  have h1' : w.ownsRow base 35 3 (.slice (some ⟨b, 0, none⟩) (M.length + 1) cap) (M.length + 1) (FGr.cells (M ++ [g])) := by
    have := h1; unfold OwnsR at this; rwa [hl] at this
  have hgm : GrOwn w base2 g := h2 g (by simp)
  have hp := List.pairwise_append.1 h4
  have hdif : ∀ x ∈ M, ∀ k, nmBlk x = some k → (Value.slice g.na g.nm.length g.nc).ownBlock ≠ some k := fun x hx k hk => hp.2.2 x hx g (by simp) k hk
  have r1 : w1.ownsRow base 35 3 (.slice (some ⟨b, 0, none⟩) (M.length + 1) cap) (M.length + 1) (FGr.cells (M ++ [g])) := own_past h1' hg (fun k hk => own_ne_type h1' hgm.1 (by decide) k hk)
  have rM : ∀ x ∈ M, GrOwn w1 base2 x := fun x hx => ⟨own_past (h2 x (by simp [hx])).1 hg (fun k hk e => hdif x hx k hk e), own_past (h2 x (by simp [hx])).2 hg (fun k hk => own_ne_type (h2 x (by simp [hx])).2 hgm.1 (by decide) k hk)⟩
  have rg : OwnsR FRu 135 w1 base2 (.slice g.ra g.ru.length g.rc) g.ru := own_past hgm.2 hg (fun k hk => own_ne_type hgm.2 hgm.1 (by decide) k hk)
  have rn : Owns w1 base2 (.slice (some ⟨g1, 0, none⟩) (g.nm ++ [s]).length c1) (g.nm ++ [s]) := by
    have := Owns.append (X := g.nm) hO
    rw [List.length_append]; exact this
  obtain ⟨C, hC⟩ := own_block_type r1 (b := b) rfl
  have hs : w1.grownBy (w1.setCell ⟨b, M.length * 3, none⟩ (.slice (some ⟨g1, 0, none⟩) (g.nm.length + 1) c1)) (some b) := grown_set _ _
  refine ⟨?_, ?_, ?_, ?_⟩
  · have := own_setL (j := M.length * 3 + 0) (y := .slice (some ⟨g1, 0, none⟩) (g.nm.length + 1) c1) r1
    rw [cells_lastG M g { g with nm := g.nm ++ [s], na := some ⟨g1, 0, none⟩, nc := c1 } 0 _ (by simp [FGr]) (by decide)] at this
    exact OwnsR.of_row (F := FGr) this (by simp) rfl
  · intro x hx
    rcases List.mem_append.1 hx with hx | hx
    · exact ⟨own_type (rM x hx).1 hC (by decide) hs, own_type (rM x hx).2 hC (by decide) hs⟩
    · simp at hx; subst hx
      exact ⟨own_type rn hC (by decide) hs, own_type rg hC (by decide) hs⟩
  · have hp3 := List.pairwise_append.1 h3
    unfold Apart
    rw [List.pairwise_append]
    refine ⟨hp3.1, List.pairwise_singleton _ _, ?_⟩
    intro x hx y hy
    simp at hy; subst hy
    exact hp3.2.2 x hx g (by simp)
  · unfold ApartN
    rw [List.pairwise_append]
    refine ⟨hp.1, List.pairwise_singleton _ _, ?_⟩
    intro x hx y hy
    simp at hy; subst hy
    intro k hk e
    have e' : g1 = k := by simpa [nmBlk, Value.ownBlock] using e
    subst e'
    rcases hat with hat | hat
    · exact hdif x hx g1 hk hat
    · have := own_lt (h2 x (by simp [hx])).1 g1 hk
      omega
/-- the last one has a rule more -/
theorem GsOwn.rule {w w1 : World} {base base2 b cap H : Nat} {M : List Gr} {g : Gr} {g1 c1 : Nat} {x0 : Ru} (h : GsOwn w base base2 (.slice (some ⟨b, 0, none⟩) (M.length + 1) cap) (M ++ [g]))
    (hO : w1.ownsRow base2 135 2 (.slice (some ⟨g1, 0, none⟩) (g.ru.length + 1) c1) (g.ru.length + 1) (FRu.cells g.ru ++ FRu.enc x0)) (hg : w.grownBy w1 (Value.slice g.ra g.ru.length g.rc).ownBlock) (hat : (Value.slice g.ra g.ru.length g.rc).ownBlock = some g1 ∨ g1 = H) (hH : w.heap.size ≤ H) :
    GsOwn (w1.setCell ⟨b, M.length * 3 + 1, none⟩ (.slice (some ⟨g1, 0, none⟩) (g.ru.length + 1) c1)) base base2 (.slice (some ⟨b, 0, none⟩) (M.length + 1) cap) (M ++ [{ g with ru := g.ru ++ [x0], ra := some ⟨g1, 0, none⟩, rc := c1 }]) := by
  obtain ⟨h1, h2, h3, h4⟩ := h
  have hl : (M ++ [g]).length = M.length + 1 := by simp
  have h1' : w.ownsRow base 35 3 (.slice (some ⟨b, 0, none⟩) (M.length + 1) cap) (M.length + 1) (FGr.cells (M ++ [g])) := by
    have := h1; unfold OwnsR at this; rwa [hl] at this
  have hgm : GrOwn w base2 g := h2 g (by simp)
  have hp := List.pairwise_append.1 h3
  have hdif : ∀ x ∈ M, ∀ k, ruBlk x = some k → (Value.slice g.ra g.ru.length g.rc).ownBlock ≠ some k := fun x hx k hk => hp.2.2 x hx g (by simp) k hk
  have r1 : w1.ownsRow base 35 3 (.slice (some ⟨b, 0, none⟩) (M.length + 1) cap) (M.length + 1) (FGr.cells (M ++ [g])) := own_past h1' hg (fun k hk => own_ne_type h1' hgm.2 (by decide) k hk)
  have rM : ∀ x ∈ M, GrOwn w1 base2 x := fun x hx => ⟨own_past (h2 x (by simp [hx])).1 hg (fun k hk => own_ne_type (h2 x (by simp [hx])).1 hgm.2 (by decide) k hk), own_past (h2 x (by simp [hx])).2 hg (fun k hk e => hdif x hx k hk e)⟩
  have rg : Owns w1 base2 (.slice g.na g.nm.length g.nc) g.nm := own_past hgm.1 hg (fun k hk => own_ne_type hgm.1 hgm.2 (by decide) k hk)
  have rn : OwnsR FRu 135 w1 base2 (.slice (some ⟨g1, 0, none⟩) (g.ru ++ [x0]).length c1) (g.ru ++ [x0]) := by
    have := OwnsR.append (F := FRu) (X := g.ru) (x := x0) hO
    rw [List.length_append]; exact this
  obtain ⟨C, hC⟩ := own_block_type r1 (b := b) rfl
  have hs : w1.grownBy (w1.setCell ⟨b, M.length * 3 + 1, none⟩ (.slice (some ⟨g1, 0, none⟩) (g.ru.length + 1) c1)) (some b) := grown_set _ _
  refine ⟨?_, ?_, ?_, ?_⟩
  · have := own_setL (j := M.length * 3 + 1) (y := .slice (some ⟨g1, 0, none⟩) (g.ru.length + 1) c1) r1
    rw [cells_lastG M g { g with ru := g.ru ++ [x0], ra := some ⟨g1, 0, none⟩, rc := c1 } 1 _ (by simp [FGr]) (by decide)] at this
    exact OwnsR.of_row (F := FGr) this (by simp) rfl
  · intro x hx
    rcases List.mem_append.1 hx with hx | hx
    · exact ⟨own_type (rM x hx).1 hC (by decide) hs, own_type (rM x hx).2 hC (by decide) hs⟩
    · simp at hx; subst hx
      exact ⟨own_type rg hC (by decide) hs, own_type rn hC (by decide) hs⟩
  · unfold Apart
    rw [List.pairwise_append]
    refine ⟨hp.1, List.pairwise_singleton _ _, ?_⟩
    intro x hx y hy
    simp at hy; subst hy
    intro k hk e
    have e' : g1 = k := by simpa [ruBlk, Value.ownBlock] using e
    subst e'
    rcases hat with hat | hat
    · exact hdif x hx g1 hk hat
    · have := own_lt (h2 x (by simp [hx])).2 g1 hk
      omega
  · have hp3 := List.pairwise_append.1 h4
    unfold ApartN
    rw [List.pairwise_append]
    refine ⟨hp3.1, List.pairwise_singleton _ _, ?_⟩
    intro x hx y hy
    simp at hy; subst hy
    exact hp3.2.2 x hx g (by simp)
/-- the last one's Wait is set -/
theorem GsOwn.wait {w : World} {base base2 b cap : Nat} {M : List Gr} {g : Gr} (n : Int) (h : GsOwn w base base2 (.slice (some ⟨b, 0, none⟩) (M.length + 1) cap) (M ++ [g])) :
    GsOwn (w.setCell ⟨b, M.length * 3 + 2, none⟩ (.int .i64 n)) base base2 (.slice (some ⟨b, 0, none⟩) (M.length + 1) cap) (M ++ [{ g with wait := n }]) := by
  obtain ⟨h1, h2, h3, h4⟩ := h
  have hl : (M ++ [g]).length = M.length + 1 := by simp
  have h1' : w.ownsRow base 35 3 (.slice (some ⟨b, 0, none⟩) (M.length + 1) cap) (M.length + 1) (FGr.cells (M ++ [g])) := by
    have := h1; unfold OwnsR at this; rwa [hl] at this
  obtain ⟨C, hC⟩ := own_block_type h1' (b := b) rfl
  have hs : w.grownBy (w.setCell ⟨b, M.length * 3 + 2, none⟩ (.int .i64 n)) (some b) := grown_set _ _
  refine ⟨?_, ?_, ?_, ?_⟩
  · have := own_setL (j := M.length * 3 + 2) (y := .int .i64 n) h1'
    rw [cells_lastG M g { g with wait := n } 2 _ (by simp [FGr]) (by decide)] at this
    exact OwnsR.of_row (F := FGr) this (by simp) rfl
  · intro x hx
    have hk : ∀ u ∈ M ++ [g], GrOwn (w.setCell ⟨b, M.length * 3 + 2, none⟩ (.int .i64 n)) base2 u := fun u hu => ⟨own_type (h2 u hu).1 hC (by decide) hs, own_type (h2 u hu).2 hC (by decide) hs⟩
    rcases List.mem_append.1 hx with hx | hx
    · exact hk x (by simp [hx])
    · simp at hx; subst hx
      exact hk g (by simp)
  · have hp := List.pairwise_append.1 h3
    unfold Apart
    rw [List.pairwise_append]
    refine ⟨hp.1, List.pairwise_singleton _ _, ?_⟩
    intro x hx y hy
    simp at hy; subst hy
    exact hp.2.2 x hx g (by simp)
  · have hp := List.pairwise_append.1 h4
    unfold ApartN
    rw [List.pairwise_append]
    refine ⟨hp.1, List.pairwise_singleton _ _, ?_⟩
    intro x hx y hy
    simp at hy; subst hy
    exact hp.2.2 x hx g (by simp)
/-- where the last one lies -/
theorem GsOwn.last {w : World} {base base2 : Nat} {v : Value} {M : List Gr} {g : Gr} (h : GsOwn w base base2 v (M ++ [g])) : ∃ b cap, v = .slice (some ⟨b, 0, none⟩) (M.length + 1) cap ∧ base ≤ b ∧ b < w.heap.size ∧ (∀ j, w.frozen? ⟨b, j, none⟩ = false) ∧ w.cell? ⟨b, M.length * 3, none⟩ = some (.slice g.na g.nm.length g.nc) ∧ w.cell? ⟨b, M.length * 3 + 1, none⟩ = some (.slice g.ra g.ru.length g.rc) ∧ w.cell? ⟨b, M.length * 3 + 2, none⟩ = some (.int .i64 g.wait) := by
  have h1 := h.1
  unfold OwnsR at h1
  have hl : (M ++ [g]).length = M.length + 1 := by simp
  rw [hl] at h1
  obtain ⟨b, cap, hv, hb, hlt⟩ := World.ownsRow.form h1 (by omega)
  subst hv
  refine ⟨b, cap, rfl, hb, hlt, World.ownsRow.frozenAt h1, ?_⟩
  have hr := OwnsR.rowsOf (n := M.length + 1) h.1
  obtain ⟨b', off, e, c0, c1, c2⟩ := gr_at hr (i := M.length) (by simp)
  injection e with e; injection e with e1 e2 _
  subst e1; subst e2
  simp at c0 c1 c2
  exact ⟨c0, c1, c2⟩
/-- what such a step leaves as it was -/
def Fr (base base2 : Nat) (w w' : World) : Prop := Below base w w' ∧ ∀ k C t fz, k < base2 → w.heap[k]? = some (.cells C t fz) → t ≠ 35 → w'.heap[k]? = w.heap[k]?
theorem Fr.refl (base base2 : Nat) (w : World) : Fr base base2 w w := ⟨Below.refl _ _, fun _ _ _ _ _ _ _ => rfl⟩
theorem Fr.trans {base base2 : Nat} {w w1 w2 : World} (h : Fr base base2 w w1) (h2 : Fr base base2 w1 w2) : Fr base base2 w w2 :=
  ⟨h.1.trans h2.1, fun k C t fz hk hc ht => by
    have e := h.2 k C t fz hk hc ht
    rw [h2.2 k C t fz hk (e.trans hc) ht]; exact e⟩
theorem Fr.below {base base2 : Nat} {w w' : World} (h : Below w.heap.size w w') (h1 : base ≤ w.heap.size) (h2 : base2 ≤ w.heap.size) : Fr base base2 w w' :=
  ⟨h.mono h1, fun k _ _ _ hk _ _ => h.block k (by omega)⟩
theorem Fr.alloc (base base2 : Nat) (w : World) (o : Obj) (h1 : base ≤ w.heap.size) (h2 : base2 ≤ w.heap.size) : Fr base base2 w (w.alloc o) := Fr.below ((Below.refl _ _).alloc (Nat.le_refl _) _) h1 h2
/-- a list grows -/
theorem Fr.far {base base2 : Nat} {w w' : World} {r : Option Nat} (hg : w.grownBy w' r) (h1 : base ≤ w.heap.size) (hr : ∀ k, r = some k → base ≤ k ∧ base2 ≤ k) : Fr base base2 w w' :=
  ⟨Below.grown (Below.refl _ _) hg h1 (fun k hk => (hr k hk).1), fun k C t fz hk hc _ => hg.block k (Array.getElem?_eq_some_iff.1 hc).1 (fun e => by have := (hr k e.symm).2; omega)⟩
/-- groups grow -/
theorem Fr.row {base base2 : Nat} {w w' : World} {v : Value} {L : List Gr} (h : OwnsR FGr 35 w base v L) (hg : w.grownBy w' v.ownBlock) (h1 : base ≤ w.heap.size) : Fr base base2 w w' :=
  ⟨Below.grown (Below.refl _ _) hg h1 (OwnsR.block h), fun k C t fz hk hc ht => hg.block k (Array.getElem?_eq_some_iff.1 hc).1 (fun e => by
    obtain ⟨c, hc2⟩ := own_block_type h e.symm
    rw [hc] at hc2
    injection hc2 with hc2
    injection hc2 with _ ht2
    exact ht ht2)⟩
theorem Fr.rows {base base2 b0 cap : Nat} {w w' : World} {a0 : Option Addr} {L : List ByteArray} (h : Fr base base2 w w') (hO : Owns w b0 (.slice a0 L.length cap) L) (hlt : ∀ k, (Value.slice a0 L.length cap).ownBlock = some k → k < base2) : Owns w' b0 (.slice a0 L.length cap) L := by
  obtain ⟨h1, h2 | ⟨g, cp, cur, hv, hg, hc, r⟩⟩ := hO
  · exact ⟨h1, Or.inl h2⟩
  · refine ⟨h1, Or.inr ⟨g, cp, cur, hv, hg, ?_, r⟩⟩
    rw [h.2 g _ _ _ (hlt g (by rw [hv]; rfl)) hc (by decide)]
    exact hc
theorem GsOwn.row1 {w w1 : World} {base base2 : Nat} {v : Value} {M : List Gr} {g : Gr} (h : GsOwn w base base2 v (M ++ [g])) (hg : w.grownBy w1 (Value.slice g.na g.nm.length g.nc).ownBlock) : OwnsR FGr 35 w1 base v (M ++ [g]) :=
  own_past h.1 hg (fun k hk => own_ne_type h.1 (h.2.1 g (by simp)).1 (by decide) k hk)
theorem GsOwn.row2 {w w1 : World} {base base2 : Nat} {v : Value} {M : List Gr} {g : Gr} (h : GsOwn w base base2 v (M ++ [g])) (hg : w.grownBy w1 (Value.slice g.ra g.ru.length g.rc).ownBlock) : OwnsR FGr 35 w1 base v (M ++ [g]) :=
  own_past h.1 hg (fun k hk => own_ne_type h.1 (h.2.1 g (by simp)).2 (by decide) k hk)
theorem row_last {w : World} {base b cap n : Nat} {M : List Gr} {g : Gr} (h : OwnsR FGr 35 w base (.slice (some ⟨b, 0, none⟩) n cap) (M ++ [g])) : (∀ j, w.frozen? ⟨b, j, none⟩ = false) ∧ w.cell? ⟨b, M.length * 3, none⟩ = some (.slice g.na g.nm.length g.nc) ∧ w.cell? ⟨b, M.length * 3 + 1, none⟩ = some (.slice g.ra g.ru.length g.rc) ∧ w.cell? ⟨b, M.length * 3 + 2, none⟩ = some (.int .i64 g.wait) := by
  have hn : (M ++ [g]).length = M.length + 1 := by simp
  have h' : w.ownsRow base 35 FGr.k (.slice (some ⟨b, 0, none⟩) n cap) (M ++ [g]).length (FGr.cells (M ++ [g])) := h
  have hfz : ∀ j, w.frozen? ⟨b, j, none⟩ = false := by
    obtain ⟨C, hC⟩ := own_block_type h' (b := b) rfl
    intro j
    exact Bx.free (t := 35) hC j
  refine ⟨hfz, ?_⟩
  have hr := OwnsR.rowsOf h
  obtain ⟨b', off, e, c0, c1, c2⟩ := gr_at hr (i := M.length) (by simp)
  injection e with e; injection e with e1 e2 _
  subst e1; subst e2
  simp at c0 c1 c2
  exact ⟨c0, c1, c2⟩
theorem Fr.set {base base2 b j n cap : Nat} {w : World} {L : List Gr} {y : Value} (h : OwnsR FGr 35 w base (.slice (some ⟨b, 0, none⟩) n cap) L) (h1 : base ≤ w.heap.size) : Fr base base2 w (w.setCell ⟨b, j, none⟩ y) :=
  Fr.row h (grown_set j y) h1
end Go.Proofs.YtiennniclkbjlaaGreatDoor.NrW
/- A notice is read: of the model. -/
namespace Go.Proofs.YtiennniclkbjlaaGreatDoor.NrS
open Go.RowKit Go.Proofs.YtiennniclkbjlaaGreatDoor.EscM Go.Proofs.YtiennniclkbjlaaGreatDoor.EscL Go.Proofs.YtiennniclkbjlaaGreatDoor.RuleM Go.Proofs.YtiennniclkbjlaaGreatDoor.Ru1 Go.Proofs.YtiennniclkbjlaaGreatDoor.ReadM Go.Proofs.YtiennniclkbjlaaGreatDoor.St Go.Proofs.YtiennniclkbjlaaGreatDoor.RR Go.Proofs.YtiennniclkbjlaaGreatDoor.LetM Go.Proofs.YtiennniclkbjlaaGreatDoor.Nm Go.Proofs.YtiennniclkbjlaaGreatDoor.GrM Go.Proofs.YtiennniclkbjlaaGreatDoor.Dr Go.Proofs.YtiennniclkbjlaaGreatDoor.NrM Go.Proofs.YtiennniclkbjlaaGreatDoor.NrW

theorem data_at (s : ByteArray) (k : Nat) (h : k < s.size) (h2 : k < s.data.toList.length) : s.data.toList[k]'h2 = s[k]'h := rfl

theorem wd_iff (s : ByteArray) (l : List UInt8) : (s.toList == l) = decide (s.data.toList = l) := by
  rw [ByteArray.toList_eq]
  by_cases h : s.data.toList = l
  · rw [decide_eq_true h]; simp [h]
  · rw [decide_eq_false h]; simp [h]
/-- one line, read: what holds behind it -/
def Read (base base2 : Nat) (w : World) (S : Nr) (e : Ending) (w' : World) : Prop := ∃ v' L', e = .returned (.tuple #[v', .bool S.bg]) ∧ GsOwn w' base base2 v' L' ∧ L'.map grp = S.gs ∧ Fr base base2 w w'
theorem map_last (M : List Gr) (g : Gr) : lastG ((M ++ [g]).map grp) = grp g := by rw [List.map_append]; exact last_snoc _ _
theorem map_drop (M : List Gr) (g : Gr) : ((M ++ [g]).map grp).dropLast = M.map grp := by rw [List.map_append]; exact List.dropLast_concat
theorem map_ne (M : List Gr) (g : Gr) : (M ++ [g]).map grp ≠ [] := by simp
theorem new_blk {w : World} {base2 m : Nat} {L : List Gr} (h : GrsOwn w base2 L) (hm : w.heap.size ≤ m) : ∀ x ∈ L, ∀ b, nmBlk x = some b → (Value.slice (some ⟨m, 0, none⟩) 1 1).ownBlock ≠ some b := by
  intro x hx b hb e
  have h1 := own_lt (h x hx).1 b hb
  have e' : m = b := by simpa [Value.ownBlock] using e
  omega
theorem new_blkR {w : World} {base2 m : Nat} {L : List Gr} (h : GrsOwn w base2 L) (hm : w.heap.size ≤ m) : ∀ x ∈ L, ∀ b, ruBlk x = some b → (Value.slice (some ⟨m, 0, none⟩) 0 0).ownBlock ≠ some b := by
  intro x hx b hb e
  have h1 := own_lt (h x hx).2 b hb
  have e' : m = b := by simpa [Value.ownBlock] using e
  omega

end Go.Proofs.YtiennniclkbjlaaGreatDoor.NrS
/- A line of a notice is read, of the model: a name more. -/
namespace Go.Proofs.YtiennniclkbjlaaGreatDoor.NrS
open Go.RowKit Go.Proofs.YtiennniclkbjlaaGreatDoor.EscM Go.Proofs.YtiennniclkbjlaaGreatDoor.EscL Go.Proofs.YtiennniclkbjlaaGreatDoor.RuleM Go.Proofs.YtiennniclkbjlaaGreatDoor.Ru1 Go.Proofs.YtiennniclkbjlaaGreatDoor.ReadM Go.Proofs.YtiennniclkbjlaaGreatDoor.St Go.Proofs.YtiennniclkbjlaaGreatDoor.RR Go.Proofs.YtiennniclkbjlaaGreatDoor.LetM Go.Proofs.YtiennniclkbjlaaGreatDoor.Nm Go.Proofs.YtiennniclkbjlaaGreatDoor.GrM Go.Proofs.YtiennniclkbjlaaGreatDoor.Dr Go.Proofs.YtiennniclkbjlaaGreatDoor.NrM Go.Proofs.YtiennniclkbjlaaGreatDoor.NrW
end Go.Proofs.YtiennniclkbjlaaGreatDoor.NrS
/- A line of a notice is read, of the model: what is left. -/
namespace Go.Proofs.YtiennniclkbjlaaGreatDoor.NrS
open Go.RowKit Go.Proofs.YtiennniclkbjlaaGreatDoor.EscM Go.Proofs.YtiennniclkbjlaaGreatDoor.EscL Go.Proofs.YtiennniclkbjlaaGreatDoor.RuleM Go.Proofs.YtiennniclkbjlaaGreatDoor.Ru1 Go.Proofs.YtiennniclkbjlaaGreatDoor.ReadM Go.Proofs.YtiennniclkbjlaaGreatDoor.St Go.Proofs.YtiennniclkbjlaaGreatDoor.RR Go.Proofs.YtiennniclkbjlaaGreatDoor.LetM Go.Proofs.YtiennniclkbjlaaGreatDoor.Nm Go.Proofs.YtiennniclkbjlaaGreatDoor.GrM Go.Proofs.YtiennniclkbjlaaGreatDoor.Dr Go.Proofs.YtiennniclkbjlaaGreatDoor.NrM Go.Proofs.YtiennniclkbjlaaGreatDoor.NrW

end Go.Proofs.YtiennniclkbjlaaGreatDoor.NrS
/- A notice is read: of the model, whole. -/
namespace Go.Proofs.YtiennniclkbjlaaGreatDoor.NrS
open Go.RowKit Go.Proofs.YtiennniclkbjlaaGreatDoor.EscM Go.Proofs.YtiennniclkbjlaaGreatDoor.EscL Go.Proofs.YtiennniclkbjlaaGreatDoor.RuleM Go.Proofs.YtiennniclkbjlaaGreatDoor.Ru1 Go.Proofs.YtiennniclkbjlaaGreatDoor.ReadM Go.Proofs.YtiennniclkbjlaaGreatDoor.Rd1 Go.Proofs.YtiennniclkbjlaaGreatDoor.St Go.Proofs.YtiennniclkbjlaaGreatDoor.RR Go.Proofs.YtiennniclkbjlaaGreatDoor.LetM Go.Proofs.YtiennniclkbjlaaGreatDoor.Nm Go.Proofs.YtiennniclkbjlaaGreatDoor.GrM Go.Proofs.YtiennniclkbjlaaGreatDoor.Dr Go.Proofs.YtiennniclkbjlaaGreatDoor.NrM Go.Proofs.YtiennniclkbjlaaGreatDoor.NrW

theorem word_is (s : ByteArray) (l m : List UInt8) (h : s.data.toList = l) (hm : l = m) : (s.toList == m) = true := by rw [wd_iff]; exact decide_eq_true (h.trans hm)
theorem word_not (s : ByteArray) (m : List UInt8) (h : s.data.toList ≠ m) : (s.toList == m) = false := by rw [wd_iff]; exact decide_eq_false h
theorem says_c {wd rs : ByteArray} (h : wd.data.toList = wCall) (hc : callB rs = true) : saysF wd rs = some (.c rs) := by unfold saysF; rw [if_pos ⟨h, hc⟩]
theorem says_cn {wd rs : ByteArray} (h : wd.data.toList = wCall) (hc : callB rs = false) : saysF wd rs = none := by
  unfold saysF
  rw [if_neg (fun e => by rw [hc] at e; exact absurd e.2 (by decide)), if_neg (fun e => by rw [h] at e; exact absurd e.1 (by decide)), if_neg (fun e => by rw [h] at e; exact absurd e.1 (by decide)), if_neg (fun e => by rw [h] at e; exact absurd e (by decide))]
theorem says_l {wd rs : ByteArray} (h : wd.data.toList = wLet) : saysF wd rs = if ruleL rs.data.toList = true then some (.r ⟨true, rs⟩) else none := by
  unfold saysF
  rw [if_neg (fun e => by rw [h] at e; exact absurd e.1 (by decide))]
  by_cases hr : ruleL rs.data.toList = true
  · rw [if_pos ⟨h, hr⟩, if_pos hr]
  · rw [if_neg (fun e => hr e.2), if_neg (fun e => hr e.2), if_neg (fun e => by rw [h] at e; exact absurd e (by decide)), if_neg hr]
theorem says_b {wd rs : ByteArray} (h : wd.data.toList = wBar) : saysF wd rs = if ruleL rs.data.toList = true then some (.r ⟨false, rs⟩) else none := by
  unfold saysF
  rw [if_neg (fun e => by rw [h] at e; exact absurd e.1 (by decide)), if_neg (fun e => by rw [h] at e; exact absurd e.1 (by decide))]
  by_cases hr : ruleL rs.data.toList = true
  · rw [if_pos ⟨h, hr⟩, if_pos hr]
  · rw [if_neg (fun e => hr e.2), if_neg (fun e => by rw [h] at e; exact absurd e (by decide)), if_neg hr]
theorem says_w {wd rs : ByteArray} (h : wd.data.toList = wWait) : saysF wd rs = some (.t (numF rs.data.toList)) := by
  unfold saysF
  rw [if_neg (fun e => by rw [h] at e; exact absurd e.1 (by decide)), if_neg (fun e => by rw [h] at e; exact absurd e.1 (by decide)), if_neg (fun e => by rw [h] at e; exact absurd e.1 (by decide)), if_pos h]
theorem says_no {wd rs : ByteArray} (h1 : wd.data.toList ≠ wCall) (h2 : wd.data.toList ≠ wLet) (h3 : wd.data.toList ≠ wBar) (h4 : wd.data.toList ≠ wWait) : saysF wd rs = none := by
  unfold saysF
  rw [if_neg (fun e => h1 e.1), if_neg (fun e => h2 e.1), if_neg (fun e => h3 e.1), if_neg h4]
theorem step_nil {wd rs : ByteArray} {bg : Bool} (h : wd.data.toList ≠ wCall) : stepF ⟨[], bg⟩ (saysF wd rs) = ⟨[], bg⟩ := by
  by_cases h2 : wd.data.toList = wLet
  · rw [says_l h2]; split <;> rfl
  by_cases h3 : wd.data.toList = wBar
  · rw [says_b h3]; split <;> rfl
  by_cases h4 : wd.data.toList = wWait
  · rw [says_w h4]; rfl
  · rw [says_no h h2 h3 h4]; rfl

theorem GsOwn_mono2 {w : World} {base base2 base3 : Nat} {v : Value} {L : List Gr} (h : GsOwn w base base2 v L) (hb : base3 ≤ base2) : GsOwn w base base3 v L := ⟨h.1, h.2.1.mono hb, h.2.2⟩
theorem cut_le (s : ByteArray) : (restF s).size ≤ s.size := by
  unfold restF
  rw [bs_size]
  have := (cut_len 32 s.data.toList).1
  simp at this; omega
theorem says_okM {s : ByteArray} {x : Lk} (h : lineM s = some x) : LkOk x := says_ok h
theorem split_at (c : Int) : ∀ l : List UInt8, ∀ x ∈ splitL c l, x.length ≤ l.length := by
  intro l
  induction l with
  | nil => intro x hx; simp [splitL] at hx; subst hx; exact Nat.le_refl _
  | cons b r ih =>
    intro x hx
    rw [split_cons] at hx
    split at hx
    · rcases List.mem_cons.1 hx with rfl | hx
      · exact Nat.zero_le _
      · have := ih x hx; simp; omega
    · rcases List.mem_cons.1 hx with rfl | hx
      · have hne := split_ne c r
        cases hs : splitL c r with
        | nil => exact absurd hs hne
        | cons y t =>
          have := ih y (by rw [hs]; exact List.mem_cons_self ..)
          simp; omega
      · have := ih x (List.mem_of_mem_tail hx); simp; omega
theorem splitS_at {c : Int} {s x : ByteArray} (h : x ∈ splitS c s) : x.size ≤ s.size := by
  unfold splitS at h
  obtain ⟨l, hl, rfl⟩ := List.mem_map.1 h
  have := split_at c _ l hl
  rw [bs_size]; simpa using this

end Go.Proofs.YtiennniclkbjlaaGreatDoor.NrS
