/- Groups while they are read: the last one is written into. -/
import Derived.Test.YtmgcdfmgmpnonaaGreatDoorDraw14Pk
import Derived.Deep.AppendLies
namespace Go.Proofs.YtmgcdfmgmpnonaaGreatDoor.NrW
open Go.RowKit Go.Proofs.YtmgcdfmgmpnonaaGreatDoor.EscM Go.Proofs.YtmgcdfmgmpnonaaGreatDoor.St Go.Proofs.YtmgcdfmgmpnonaaGreatDoor.RR Go.Proofs.YtmgcdfmgmpnonaaGreatDoor.LetM Go.Proofs.YtmgcdfmgmpnonaaGreatDoor.Nm Go.Proofs.YtmgcdfmgmpnonaaGreatDoor.GrM Go.Proofs.YtmgcdfmgmpnonaaGreatDoor.Dr

theorem own_setL {w : World} {base k n g cap j : Nat} {t : TypeId} {y : Value} {xs : List Value} (h : w.ownsRow base t k (.slice (some ⟨g, 0, none⟩) n cap) n xs) : (w.setCell ⟨g, j, none⟩ y).ownsRow base t k (.slice (some ⟨g, 0, none⟩) n cap) n (xs.set j y) := by
  obtain ⟨h1, ⟨hv, _⟩ | ⟨g', cap', cur, hv, hb, hh, h3, h4, h5, h6⟩⟩ := h
  · injection hv with e; cases e
  · injection hv with e1 _ e3
    injection e1 with e1
    injection e1 with e1
    subst e1; subst e3
    refine ⟨by simp [h1], Or.inr ⟨g, cap, cur.setIfInBounds j y, rfl, hb, Bx.set (t := t) hh j y, h3, h4, by simp [h5], ?_⟩⟩
    rw [Array.toList_setIfInBounds, List.take_set, h6]
def nmBlk (g : Gr) : Option Nat := (Value.slice g.na g.nm.length g.nc).ownBlock
/-- no two share a list of names -/
def ApartN (L : List Gr) : Prop := L.Pairwise fun g h => ∀ b, nmBlk g = some b → nmBlk h ≠ some b
/-- groups of the call's own, each list in a block of its own -/
def GsOwn (w : World) (base base2 : Nat) (v : Value) (L : List Gr) : Prop := OwnsR FGr 29 w base v L ∧ GrsOwn w base2 L ∧ Apart L ∧ ApartN L
theorem GsOwn.keep {w w' : World} {base base2 : Nat} {v : Value} {L : List Gr} (h : GsOwn w base base2 v L) (hb : ∀ k, k < w.heap.size → w'.heap[k]? = w.heap[k]?) : GsOwn w' base base2 v L := ⟨h.1.keep hb, h.2.1.keep hb, h.2.2⟩
theorem GsOwn.below {w w' : World} {base base2 : Nat} {v : Value} {L : List Gr} (h : GsOwn w base base2 v L) (hb : Below w.heap.size w w') : GsOwn w' base base2 v L := h.keep fun k hk => hb.block k hk
theorem GsOwn.alloc {w : World} {base base2 : Nat} {v : Value} {L : List Gr} (h : GsOwn w base base2 v L) (o : Obj) : GsOwn (w.alloc o) base base2 v L := h.keep (alloc_keep _ _)
theorem GsOwn.drew {w : World} {base base2 : Nat} {v : Value} {L : List Gr} (h : GsOwn w base base2 v L) : GsOwn w.drew base base2 v L := h.keep fun _ _ => rfl
theorem GsOwn.nil (w : World) (base base2 : Nat) : GsOwn w base base2 (.slice none 0 0) [] := ⟨OwnsR.nil _ _ _ _, (fun g hg => by cases hg), List.Pairwise.nil, List.Pairwise.nil⟩
theorem GsOwn.empty (w : World) (base2 : Nat) : GsOwn (w.alloc (.cells #[] 29)) w.heap.size base2 (.slice (some ⟨w.heap.size, 0, none⟩) 0 0) [] := ⟨OwnsR.empty _ _ _ _ (Nat.le_refl _), (fun g hg => by cases hg), List.Pairwise.nil, List.Pairwise.nil⟩
theorem GsOwn.at {w : World} {base base2 : Nat} {v : Value} {L : List Gr} (h : GsOwn w base base2 v L) : ∃ a0 cap, v = .slice a0 L.length cap ∧ IsRows FGr w a0 cap L ∧ GrsAt w L := by
  obtain ⟨a0, cap, e, hr⟩ := h.1.rows
  exact ⟨a0, cap, e, hr, h.2.1.at⟩
theorem own_past {w w' : World} {base k n : Nat} {t : TypeId} {v : Value} {xs : List Value} {r : Option Nat} (h : w.ownsRow base t k v n xs) (hg : w.grownBy w' r) (hr : ∀ b, v.ownBlock = some b → r ≠ some b) : w'.ownsRow base t k v n xs := by
  refine World.ownsRow.kept h hg ?_
  cases hv : v.ownBlock with
  | none => exact Or.inl rfl
  | some b => right; intro e; exact hr b hv e.symm
/-- a group more -/
theorem GsOwn.more {w w2 : World} {base base2 : Nat} {v v' : Value} {L : List Gr} {g : Gr} (h : GsOwn w base base2 v L) (hgo : GrOwn w base2 g) (hn : ∀ x ∈ L, ∀ b, nmBlk x = some b → nmBlk g ≠ some b) (hr : ∀ x ∈ L, ∀ b, ruBlk x = some b → ruBlk g ≠ some b)
    (hO : w2.ownsRow base 29 3 v' (L.length + 1) (FGr.cells L ++ FGr.enc g)) (hg : w.grownBy w2 v.ownBlock) : GsOwn w2 base base2 v' (L ++ [g]) := by
  obtain ⟨h1, h2, h3, h4⟩ := h
  refine ⟨OwnsR.append (F := FGr) hO, ?_, h3.snoc hr, ?_⟩
  · intro x hx
    rcases List.mem_append.1 hx with hx | hx
    · exact (h2 x hx).apart h1 (by decide) (by decide) hg
    · simp at hx; subst hx; exact hgo.apart h1 (by decide) (by decide) hg
  · unfold ApartN
    rw [List.pairwise_append]
    refine ⟨h4, List.pairwise_singleton _ _, ?_⟩
    intro a ha b hb
    simp at hb; subst hb; exact hn a ha
theorem cells_lastG (M : List Gr) (g g' : Gr) (j : Nat) (y : Value) (hj : (FGr.enc g).set j y = FGr.enc g') (h3 : j < 3) : (FGr.cells (M ++ [g])).set (M.length * 3 + j) y = FGr.cells (M ++ [g']) := by
  rw [FGr.cells_append, FGr.cells_append, List.set_append_right _ _ (by rw [FGr.cells_len]; show M.length * 3 ≤ _; omega), FGr.cells_len]
  rw [show M.length * 3 + j - M.length * FGr.k = j from by show M.length * 3 + j - M.length * 3 = j; omega]
  have e1 : FGr.cells [g] = FGr.enc g := by simp [Frm.cells]
  have e2 : FGr.cells [g'] = FGr.enc g' := by simp [Frm.cells]
  rw [e1, e2, hj]
theorem own_ne_type {w : World} {base base2 k k2 n m : Nat} {t t2 : TypeId} {v v2 : Value} {xs ys : List Value} (h : w.ownsRow base t k v n xs) (h2 : w.ownsRow base2 t2 k2 v2 m ys) (ht : t ≠ t2) : ∀ b, v.ownBlock = some b → v2.ownBlock ≠ some b := by
  intro b hb e
  obtain ⟨c, hc⟩ := own_block_type h hb
  obtain ⟨c2, hc2⟩ := own_block_type h2 e
  rw [hc] at hc2
  injection hc2 with hc2
  injection hc2 with _ ht2
  exact ht ht2
/-- the last one has a name more -/
theorem GsOwn.name {w w1 : World} {base base2 b cap H : Nat} {M : List Gr} {g : Gr} {g1 c1 : Nat} {s : ByteArray} (h : GsOwn w base base2 (.slice (some ⟨b, 0, none⟩) (M.length + 1) cap) (M ++ [g]))
    (hO : w1.ownsRow base2 9 1 (.slice (some ⟨g1, 0, none⟩) (g.nm.length + 1) c1) (g.nm.length + 1) (cellsS g.nm ++ [.string s])) (hg : w.grownBy w1 (Value.slice g.na g.nm.length g.nc).ownBlock) (hat : (Value.slice g.na g.nm.length g.nc).ownBlock = some g1 ∨ g1 = H) (hH : w.heap.size ≤ H) :
    GsOwn (w1.setCell ⟨b, M.length * 3, none⟩ (.slice (some ⟨g1, 0, none⟩) (g.nm.length + 1) c1)) base base2 (.slice (some ⟨b, 0, none⟩) (M.length + 1) cap) (M ++ [{ g with nm := g.nm ++ [s], na := some ⟨g1, 0, none⟩, nc := c1 }]) := by
  obtain ⟨h1, h2, h3, h4⟩ := h
  have hl : (M ++ [g]).length = M.length + 1 := by simp
  have h1' : w.ownsRow base 29 3 (.slice (some ⟨b, 0, none⟩) (M.length + 1) cap) (M.length + 1) (FGr.cells (M ++ [g])) := by
    have := h1; unfold OwnsR at this; rwa [hl] at this
  have hgm : GrOwn w base2 g := h2 g (by simp)
  have hp := List.pairwise_append.1 h4
  have hdif : ∀ x ∈ M, ∀ k, nmBlk x = some k → (Value.slice g.na g.nm.length g.nc).ownBlock ≠ some k := fun x hx k hk => hp.2.2 x hx g (by simp) k hk
  have r1 : w1.ownsRow base 29 3 (.slice (some ⟨b, 0, none⟩) (M.length + 1) cap) (M.length + 1) (FGr.cells (M ++ [g])) := own_past h1' hg (fun k hk => own_ne_type h1' hgm.1 (by decide) k hk)
  have rM : ∀ x ∈ M, GrOwn w1 base2 x := fun x hx => ⟨own_past (h2 x (by simp [hx])).1 hg (fun k hk e => hdif x hx k hk e), own_past (h2 x (by simp [hx])).2 hg (fun k hk => own_ne_type (h2 x (by simp [hx])).2 hgm.1 (by decide) k hk)⟩
  have rg : OwnsR FRu 81 w1 base2 (.slice g.ra g.ru.length g.rc) g.ru := own_past hgm.2 hg (fun k hk => own_ne_type hgm.2 hgm.1 (by decide) k hk)
  have rn : Owns w1 base2 (.slice (some ⟨g1, 0, none⟩) (g.nm ++ [s]).length c1) (g.nm ++ [s]) := by
    have := Owns.append (X := g.nm) hO
    rw [List.length_append]; exact this
  obtain ⟨C, hC⟩ := own_block_type r1 (b := b) rfl
  have hs : w1.grownBy (w1.setCell ⟨b, M.length * 3, none⟩ (.slice (some ⟨g1, 0, none⟩) (g.nm.length + 1) c1)) (some b) := grown_set _ _
  refine ⟨?_, ?_, ?_, ?_⟩
  · have := own_setL (j := M.length * 3 + 0) (y := .slice (some ⟨g1, 0, none⟩) (g.nm.length + 1) c1) r1
    rw [cells_lastG M g { g with nm := g.nm ++ [s], na := some ⟨g1, 0, none⟩, nc := c1 } 0 _ (by simp [FGr]) (by decide)] at this
    exact OwnsR.of_row (F := FGr) this (by simp) rfl
  · intro x hx
    rcases List.mem_append.1 hx with hx | hx
    · exact ⟨own_type (rM x hx).1 hC (by decide) hs, own_type (rM x hx).2 hC (by decide) hs⟩
    · simp at hx; subst hx
      exact ⟨own_type rn hC (by decide) hs, own_type rg hC (by decide) hs⟩
  · have hp3 := List.pairwise_append.1 h3
    unfold Apart
    rw [List.pairwise_append]
    refine ⟨hp3.1, List.pairwise_singleton _ _, ?_⟩
    intro x hx y hy
    simp at hy; subst hy
    exact hp3.2.2 x hx g (by simp)
  · unfold ApartN
    rw [List.pairwise_append]
    refine ⟨hp.1, List.pairwise_singleton _ _, ?_⟩
    intro x hx y hy
    simp at hy; subst hy
    intro k hk e
    have e' : g1 = k := by simpa [nmBlk, Value.ownBlock] using e
    subst e'
    rcases hat with hat | hat
    · exact hdif x hx g1 hk hat
    · have := own_lt (h2 x (by simp [hx])).1 g1 hk
      omega
/-- the last one has a rule more -/
theorem GsOwn.rule {w w1 : World} {base base2 b cap H : Nat} {M : List Gr} {g : Gr} {g1 c1 : Nat} {x0 : Ru} (h : GsOwn w base base2 (.slice (some ⟨b, 0, none⟩) (M.length + 1) cap) (M ++ [g]))
    (hO : w1.ownsRow base2 81 2 (.slice (some ⟨g1, 0, none⟩) (g.ru.length + 1) c1) (g.ru.length + 1) (FRu.cells g.ru ++ FRu.enc x0)) (hg : w.grownBy w1 (Value.slice g.ra g.ru.length g.rc).ownBlock) (hat : (Value.slice g.ra g.ru.length g.rc).ownBlock = some g1 ∨ g1 = H) (hH : w.heap.size ≤ H) :
    GsOwn (w1.setCell ⟨b, M.length * 3 + 1, none⟩ (.slice (some ⟨g1, 0, none⟩) (g.ru.length + 1) c1)) base base2 (.slice (some ⟨b, 0, none⟩) (M.length + 1) cap) (M ++ [{ g with ru := g.ru ++ [x0], ra := some ⟨g1, 0, none⟩, rc := c1 }]) := by
  obtain ⟨h1, h2, h3, h4⟩ := h
  have hl : (M ++ [g]).length = M.length + 1 := by simp
  have h1' : w.ownsRow base 29 3 (.slice (some ⟨b, 0, none⟩) (M.length + 1) cap) (M.length + 1) (FGr.cells (M ++ [g])) := by
    have := h1; unfold OwnsR at this; rwa [hl] at this
  have hgm : GrOwn w base2 g := h2 g (by simp)
  have hp := List.pairwise_append.1 h3
  have hdif : ∀ x ∈ M, ∀ k, ruBlk x = some k → (Value.slice g.ra g.ru.length g.rc).ownBlock ≠ some k := fun x hx k hk => hp.2.2 x hx g (by simp) k hk
  have r1 : w1.ownsRow base 29 3 (.slice (some ⟨b, 0, none⟩) (M.length + 1) cap) (M.length + 1) (FGr.cells (M ++ [g])) := own_past h1' hg (fun k hk => own_ne_type h1' hgm.2 (by decide) k hk)
  have rM : ∀ x ∈ M, GrOwn w1 base2 x := fun x hx => ⟨own_past (h2 x (by simp [hx])).1 hg (fun k hk => own_ne_type (h2 x (by simp [hx])).1 hgm.2 (by decide) k hk), own_past (h2 x (by simp [hx])).2 hg (fun k hk e => hdif x hx k hk e)⟩
  have rg : Owns w1 base2 (.slice g.na g.nm.length g.nc) g.nm := own_past hgm.1 hg (fun k hk => own_ne_type hgm.1 hgm.2 (by decide) k hk)
  have rn : OwnsR FRu 81 w1 base2 (.slice (some ⟨g1, 0, none⟩) (g.ru ++ [x0]).length c1) (g.ru ++ [x0]) := by
    have := OwnsR.append (F := FRu) (X := g.ru) (x := x0) hO
    rw [List.length_append]; exact this
  obtain ⟨C, hC⟩ := own_block_type r1 (b := b) rfl
  have hs : w1.grownBy (w1.setCell ⟨b, M.length * 3 + 1, none⟩ (.slice (some ⟨g1, 0, none⟩) (g.ru.length + 1) c1)) (some b) := grown_set _ _
  refine ⟨?_, ?_, ?_, ?_⟩
  · have := own_setL (j := M.length * 3 + 1) (y := .slice (some ⟨g1, 0, none⟩) (g.ru.length + 1) c1) r1
    rw [cells_lastG M g { g with ru := g.ru ++ [x0], ra := some ⟨g1, 0, none⟩, rc := c1 } 1 _ (by simp [FGr]) (by decide)] at this
    exact OwnsR.of_row (F := FGr) this (by simp) rfl
  · intro x hx
    rcases List.mem_append.1 hx with hx | hx
    · exact ⟨own_type (rM x hx).1 hC (by decide) hs, own_type (rM x hx).2 hC (by decide) hs⟩
    · simp at hx; subst hx
      exact ⟨own_type rg hC (by decide) hs, own_type rn hC (by decide) hs⟩
  · unfold Apart
    rw [List.pairwise_append]
    refine ⟨hp.1, List.pairwise_singleton _ _, ?_⟩
    intro x hx y hy
    simp at hy; subst hy
    intro k hk e
    have e' : g1 = k := by simpa [ruBlk, Value.ownBlock] using e
    subst e'
    rcases hat with hat | hat
    · exact hdif x hx g1 hk hat
    · have := own_lt (h2 x (by simp [hx])).2 g1 hk
      omega
  · have hp3 := List.pairwise_append.1 h4
    unfold ApartN
    rw [List.pairwise_append]
    refine ⟨hp3.1, List.pairwise_singleton _ _, ?_⟩
    intro x hx y hy
    simp at hy; subst hy
    exact hp3.2.2 x hx g (by simp)
/-- the last one's Wait is set -/
theorem GsOwn.wait {w : World} {base base2 b cap : Nat} {M : List Gr} {g : Gr} (n : Int) (h : GsOwn w base base2 (.slice (some ⟨b, 0, none⟩) (M.length + 1) cap) (M ++ [g])) :
    GsOwn (w.setCell ⟨b, M.length * 3 + 2, none⟩ (.int .i64 n)) base base2 (.slice (some ⟨b, 0, none⟩) (M.length + 1) cap) (M ++ [{ g with wait := n }]) := by
  obtain ⟨h1, h2, h3, h4⟩ := h
  have hl : (M ++ [g]).length = M.length + 1 := by simp
  have h1' : w.ownsRow base 29 3 (.slice (some ⟨b, 0, none⟩) (M.length + 1) cap) (M.length + 1) (FGr.cells (M ++ [g])) := by
    have := h1; unfold OwnsR at this; rwa [hl] at this
  obtain ⟨C, hC⟩ := own_block_type h1' (b := b) rfl
  have hs : w.grownBy (w.setCell ⟨b, M.length * 3 + 2, none⟩ (.int .i64 n)) (some b) := grown_set _ _
  refine ⟨?_, ?_, ?_, ?_⟩
  · have := own_setL (j := M.length * 3 + 2) (y := .int .i64 n) h1'
    rw [cells_lastG M g { g with wait := n } 2 _ (by simp [FGr]) (by decide)] at this
    exact OwnsR.of_row (F := FGr) this (by simp) rfl
  · intro x hx
    have hk : ∀ u ∈ M ++ [g], GrOwn (w.setCell ⟨b, M.length * 3 + 2, none⟩ (.int .i64 n)) base2 u := fun u hu => ⟨own_type (h2 u hu).1 hC (by decide) hs, own_type (h2 u hu).2 hC (by decide) hs⟩
    rcases List.mem_append.1 hx with hx | hx
    · exact hk x (by simp [hx])
    · simp at hx; subst hx
      exact hk g (by simp)
  · have hp := List.pairwise_append.1 h3
    unfold Apart
    rw [List.pairwise_append]
    refine ⟨hp.1, List.pairwise_singleton _ _, ?_⟩
    intro x hx y hy
    simp at hy; subst hy
    exact hp.2.2 x hx g (by simp)
  · have hp := List.pairwise_append.1 h4
    unfold ApartN
    rw [List.pairwise_append]
    refine ⟨hp.1, List.pairwise_singleton _ _, ?_⟩
    intro x hx y hy
    simp at hy; subst hy
    exact hp.2.2 x hx g (by simp)
/-- where the last one lies -/
theorem GsOwn.last {w : World} {base base2 : Nat} {v : Value} {M : List Gr} {g : Gr} (h : GsOwn w base base2 v (M ++ [g])) : ∃ b cap, v = .slice (some ⟨b, 0, none⟩) (M.length + 1) cap ∧ base ≤ b ∧ b < w.heap.size ∧ (∀ j, w.frozen? ⟨b, j, none⟩ = false) ∧ w.cell? ⟨b, M.length * 3, none⟩ = some (.slice g.na g.nm.length g.nc) ∧ w.cell? ⟨b, M.length * 3 + 1, none⟩ = some (.slice g.ra g.ru.length g.rc) ∧ w.cell? ⟨b, M.length * 3 + 2, none⟩ = some (.int .i64 g.wait) := by
  have h1 := h.1
  unfold OwnsR at h1
  have hl : (M ++ [g]).length = M.length + 1 := by simp
  rw [hl] at h1
  obtain ⟨b, cap, hv, hb, hlt⟩ := World.ownsRow.form h1 (by omega)
  subst hv
  refine ⟨b, cap, rfl, hb, hlt, World.ownsRow.frozenAt h1, ?_⟩
  have hr := OwnsR.rowsOf (n := M.length + 1) h.1
  obtain ⟨b', off, e, c0, c1, c2⟩ := gr_at hr (i := M.length) (by simp)
  injection e with e; injection e with e1 e2 _
  subst e1; subst e2
  simp at c0 c1 c2
  exact ⟨c0, c1, c2⟩
/-- what such a step leaves as it was -/
def Fr (base base2 : Nat) (w w' : World) : Prop := Below base w w' ∧ ∀ k C t fz, k < base2 → w.heap[k]? = some (.cells C t fz) → t ≠ 29 → w'.heap[k]? = w.heap[k]?
theorem Fr.refl (base base2 : Nat) (w : World) : Fr base base2 w w := ⟨Below.refl _ _, fun _ _ _ _ _ _ _ => rfl⟩
theorem Fr.trans {base base2 : Nat} {w w1 w2 : World} (h : Fr base base2 w w1) (h2 : Fr base base2 w1 w2) : Fr base base2 w w2 :=
  ⟨h.1.trans h2.1, fun k C t fz hk hc ht => by
    have e := h.2 k C t fz hk hc ht
    rw [h2.2 k C t fz hk (e.trans hc) ht]; exact e⟩
theorem Fr.below {base base2 : Nat} {w w' : World} (h : Below w.heap.size w w') (h1 : base ≤ w.heap.size) (h2 : base2 ≤ w.heap.size) : Fr base base2 w w' :=
  ⟨h.mono h1, fun k _ _ _ hk _ _ => h.block k (by omega)⟩
theorem Fr.alloc (base base2 : Nat) (w : World) (o : Obj) (h1 : base ≤ w.heap.size) (h2 : base2 ≤ w.heap.size) : Fr base base2 w (w.alloc o) := Fr.below ((Below.refl _ _).alloc (Nat.le_refl _) _) h1 h2
/-- a list grows -/
theorem Fr.far {base base2 : Nat} {w w' : World} {r : Option Nat} (hg : w.grownBy w' r) (h1 : base ≤ w.heap.size) (hr : ∀ k, r = some k → base ≤ k ∧ base2 ≤ k) : Fr base base2 w w' :=
  ⟨Below.grown (Below.refl _ _) hg h1 (fun k hk => (hr k hk).1), fun k C t fz hk hc _ => hg.block k (Array.getElem?_eq_some_iff.1 hc).1 (fun e => by have := (hr k e.symm).2; omega)⟩
/-- groups grow -/
theorem Fr.row {base base2 : Nat} {w w' : World} {v : Value} {L : List Gr} (h : OwnsR FGr 29 w base v L) (hg : w.grownBy w' v.ownBlock) (h1 : base ≤ w.heap.size) : Fr base base2 w w' :=
  ⟨Below.grown (Below.refl _ _) hg h1 (OwnsR.block h), fun k C t fz hk hc ht => hg.block k (Array.getElem?_eq_some_iff.1 hc).1 (fun e => by
    obtain ⟨c, hc2⟩ := own_block_type h e.symm
    rw [hc] at hc2
    injection hc2 with hc2
    injection hc2 with _ ht2
    exact ht ht2)⟩
theorem Fr.rows {base base2 b0 cap : Nat} {w w' : World} {a0 : Option Addr} {L : List ByteArray} (h : Fr base base2 w w') (hO : Owns w b0 (.slice a0 L.length cap) L) (hlt : ∀ k, (Value.slice a0 L.length cap).ownBlock = some k → k < base2) : Owns w' b0 (.slice a0 L.length cap) L := by
  obtain ⟨h1, h2 | ⟨g, cp, cur, hv, hg, hc, r⟩⟩ := hO
  · exact ⟨h1, Or.inl h2⟩
  · refine ⟨h1, Or.inr ⟨g, cp, cur, hv, hg, ?_, r⟩⟩
    rw [h.2 g _ _ _ (hlt g (by rw [hv]; rfl)) hc (by decide)]
    exact hc
theorem GsOwn.row1 {w w1 : World} {base base2 : Nat} {v : Value} {M : List Gr} {g : Gr} (h : GsOwn w base base2 v (M ++ [g])) (hg : w.grownBy w1 (Value.slice g.na g.nm.length g.nc).ownBlock) : OwnsR FGr 29 w1 base v (M ++ [g]) :=
  own_past h.1 hg (fun k hk => own_ne_type h.1 (h.2.1 g (by simp)).1 (by decide) k hk)
theorem GsOwn.row2 {w w1 : World} {base base2 : Nat} {v : Value} {M : List Gr} {g : Gr} (h : GsOwn w base base2 v (M ++ [g])) (hg : w.grownBy w1 (Value.slice g.ra g.ru.length g.rc).ownBlock) : OwnsR FGr 29 w1 base v (M ++ [g]) :=
  own_past h.1 hg (fun k hk => own_ne_type h.1 (h.2.1 g (by simp)).2 (by decide) k hk)
theorem row_last {w : World} {base b cap n : Nat} {M : List Gr} {g : Gr} (h : OwnsR FGr 29 w base (.slice (some ⟨b, 0, none⟩) n cap) (M ++ [g])) : (∀ j, w.frozen? ⟨b, j, none⟩ = false) ∧ w.cell? ⟨b, M.length * 3, none⟩ = some (.slice g.na g.nm.length g.nc) ∧ w.cell? ⟨b, M.length * 3 + 1, none⟩ = some (.slice g.ra g.ru.length g.rc) ∧ w.cell? ⟨b, M.length * 3 + 2, none⟩ = some (.int .i64 g.wait) := by
  have hn : (M ++ [g]).length = M.length + 1 := by simp
  have h' : w.ownsRow base 29 FGr.k (.slice (some ⟨b, 0, none⟩) n cap) (M ++ [g]).length (FGr.cells (M ++ [g])) := h
  have hfz : ∀ j, w.frozen? ⟨b, j, none⟩ = false := by
    obtain ⟨C, hC⟩ := own_block_type h' (b := b) rfl
    intro j
    exact Bx.free (t := 29) hC j
  refine ⟨hfz, ?_⟩
  have hr := OwnsR.rowsOf h
  obtain ⟨b', off, e, c0, c1, c2⟩ := gr_at hr (i := M.length) (by simp)
  injection e with e; injection e with e1 e2 _
  subst e1; subst e2
  simp at c0 c1 c2
  exact ⟨c0, c1, c2⟩
theorem Fr.set {base base2 b j n cap : Nat} {w : World} {L : List Gr} {y : Value} (h : OwnsR FGr 29 w base (.slice (some ⟨b, 0, none⟩) n cap) L) (h1 : base ≤ w.heap.size) : Fr base base2 w (w.setCell ⟨b, j, none⟩ y) :=
  Fr.row h (grown_set j y) h1
end Go.Proofs.YtmgcdfmgmpnonaaGreatDoor.NrW
