/- Several texts in one: NrMem, Nr1, Nr1b, Nr1c, Nr2. -/
import Derived.Test.YtmgcdfmgmpnonaaGreatDoorDraw14Pk
import Derived.Deep.AppendLies
import Derived.Test.YtmgcdfmgmpnonaaGreatDoorGrpMathPk
import Derived.Test.YtmgcdfmgmpnonaaGreatDoorEscLeafPk
import Derived.Test.YtmgcdfmgmpnonaaGreatDoorRead1Pk
/- Groups while they are read: the last one is written into. -/
namespace Go.Proofs.YtmgcdfmgmpnonaaGreatDoor.NrW
open Go.RowKit Go.Proofs.YtmgcdfmgmpnonaaGreatDoor.EscM Go.Proofs.YtmgcdfmgmpnonaaGreatDoor.St Go.Proofs.YtmgcdfmgmpnonaaGreatDoor.RR Go.Proofs.YtmgcdfmgmpnonaaGreatDoor.LetM Go.Proofs.YtmgcdfmgmpnonaaGreatDoor.Nm Go.Proofs.YtmgcdfmgmpnonaaGreatDoor.GrM Go.Proofs.YtmgcdfmgmpnonaaGreatDoor.Dr

theorem own_setL {w : World} {base k n g cap j : Nat} {t : TypeId} {y : Value} {xs : List Value} (h : w.ownsRow base t k (.slice (some ⟨g, 0, none⟩) n cap) n xs) : (w.setCell ⟨g, j, none⟩ y).ownsRow base t k (.slice (some ⟨g, 0, none⟩) n cap) n (xs.set j y) := by
  obtain ⟨h1, ⟨hv, _⟩ | ⟨g', cap', cur, hv, hb, hh, h3, h4, h5, h6⟩⟩ := h
  · injection hv with e; cases e
  · injection hv with e1 _ e3
    injection e1 with e1
    injection e1 with e1
    subst e1; subst e3
    refine ⟨by simp [h1], Or.inr ⟨g, cap, cur.setIfInBounds j y, rfl, hb, Bx.set (t := t) hh j y, h3, h4, by simp [h5], ?_⟩⟩
    rw [Array.toList_setIfInBounds, List.take_set, h6]
def nmBlk (g : Gr) : Option Nat := (Value.slice g.na g.nm.length g.nc).ownBlock
/-- no two share a list of names -/
def ApartN (L : List Gr) : Prop := L.Pairwise fun g h => ∀ b, nmBlk g = some b → nmBlk h ≠ some b
/-- groups of the call's own, each list in a block of its own -/
def GsOwn (w : World) (base base2 : Nat) (v : Value) (L : List Gr) : Prop := OwnsR FGr 29 w base v L ∧ GrsOwn w base2 L ∧ Apart L ∧ ApartN L
theorem GsOwn.keep {w w' : World} {base base2 : Nat} {v : Value} {L : List Gr} (h : GsOwn w base base2 v L) (hb : ∀ k, k < w.heap.size → w'.heap[k]? = w.heap[k]?) : GsOwn w' base base2 v L := ⟨h.1.keep hb, h.2.1.keep hb, h.2.2⟩
theorem GsOwn.below {w w' : World} {base base2 : Nat} {v : Value} {L : List Gr} (h : GsOwn w base base2 v L) (hb : Below w.heap.size w w') : GsOwn w' base base2 v L := h.keep fun k hk => hb.block k hk
theorem GsOwn.alloc {w : World} {base base2 : Nat} {v : Value} {L : List Gr} (h : GsOwn w base base2 v L) (o : Obj) : GsOwn (w.alloc o) base base2 v L := h.keep (alloc_keep _ _)
theorem GsOwn.drew {w : World} {base base2 : Nat} {v : Value} {L : List Gr} (h : GsOwn w base base2 v L) : GsOwn w.drew base base2 v L := h.keep fun _ _ => rfl
theorem GsOwn.nil (w : World) (base base2 : Nat) : GsOwn w base base2 (.slice none 0 0) [] := ⟨OwnsR.nil _ _ _ _, (fun g hg => by cases hg), List.Pairwise.nil, List.Pairwise.nil⟩
theorem GsOwn.empty (w : World) (base2 : Nat) : GsOwn (w.alloc (.cells #[] 29)) w.heap.size base2 (.slice (some ⟨w.heap.size, 0, none⟩) 0 0) [] := ⟨OwnsR.empty _ _ _ _ (Nat.le_refl _), (fun g hg => by cases hg), List.Pairwise.nil, List.Pairwise.nil⟩
theorem GsOwn.at {w : World} {base base2 : Nat} {v : Value} {L : List Gr} (h : GsOwn w base base2 v L) : ∃ a0 cap, v = .slice a0 L.length cap ∧ IsRows FGr w a0 cap L ∧ GrsAt w L := by
  obtain ⟨a0, cap, e, hr⟩ := h.1.rows
  exact ⟨a0, cap, e, hr, h.2.1.at⟩
theorem own_past {w w' : World} {base k n : Nat} {t : TypeId} {v : Value} {xs : List Value} {r : Option Nat} (h : w.ownsRow base t k v n xs) (hg : w.grownBy w' r) (hr : ∀ b, v.ownBlock = some b → r ≠ some b) : w'.ownsRow base t k v n xs := by
  refine World.ownsRow.kept h hg ?_
  cases hv : v.ownBlock with
  | none => exact Or.inl rfl
  | some b => right; intro e; exact hr b hv e.symm
/-- a group more -/
theorem GsOwn.more {w w2 : World} {base base2 : Nat} {v v' : Value} {L : List Gr} {g : Gr} (h : GsOwn w base base2 v L) (hgo : GrOwn w base2 g) (hn : ∀ x ∈ L, ∀ b, nmBlk x = some b → nmBlk g ≠ some b) (hr : ∀ x ∈ L, ∀ b, ruBlk x = some b → ruBlk g ≠ some b)
    (hO : w2.ownsRow base 29 3 v' (L.length + 1) (FGr.cells L ++ FGr.enc g)) (hg : w.grownBy w2 v.ownBlock) : GsOwn w2 base base2 v' (L ++ [g]) := by
  obtain ⟨h1, h2, h3, h4⟩ := h
  refine ⟨OwnsR.append (F := FGr) hO, ?_, h3.snoc hr, ?_⟩
  · intro x hx
    rcases List.mem_append.1 hx with hx | hx
    · exact (h2 x hx).apart h1 (by decide) (by decide) hg
    · simp at hx; subst hx; exact hgo.apart h1 (by decide) (by decide) hg
  · unfold ApartN
    rw [List.pairwise_append]
    refine ⟨h4, List.pairwise_singleton _ _, ?_⟩
    intro a ha b hb
    simp at hb; subst hb; exact hn a ha
theorem cells_lastG (M : List Gr) (g g' : Gr) (j : Nat) (y : Value) (hj : (FGr.enc g).set j y = FGr.enc g') (h3 : j < 3) : (FGr.cells (M ++ [g])).set (M.length * 3 + j) y = FGr.cells (M ++ [g']) := by
  rw [FGr.cells_append, FGr.cells_append, List.set_append_right _ _ (by rw [FGr.cells_len]; show M.length * 3 ≤ _; omega), FGr.cells_len]
  rw [show M.length * 3 + j - M.length * FGr.k = j from by show M.length * 3 + j - M.length * 3 = j; omega]
  have e1 : FGr.cells [g] = FGr.enc g := by simp [Frm.cells]
  have e2 : FGr.cells [g'] = FGr.enc g' := by simp [Frm.cells]
  rw [e1, e2, hj]
theorem own_ne_type {w : World} {base base2 k k2 n m : Nat} {t t2 : TypeId} {v v2 : Value} {xs ys : List Value} (h : w.ownsRow base t k v n xs) (h2 : w.ownsRow base2 t2 k2 v2 m ys) (ht : t ≠ t2) : ∀ b, v.ownBlock = some b → v2.ownBlock ≠ some b := by
  intro b hb e
  obtain ⟨c, hc⟩ := own_block_type h hb
  obtain ⟨c2, hc2⟩ := own_block_type h2 e
  rw [hc] at hc2
  injection hc2 with hc2
  injection hc2 with _ ht2
  exact ht ht2
/-- the last one has a name more -/
theorem GsOwn.name {w w1 : World} {base base2 b cap H : Nat} {M : List Gr} {g : Gr} {g1 c1 : Nat} {s : ByteArray} (h : GsOwn w base base2 (.slice (some ⟨b, 0, none⟩) (M.length + 1) cap) (M ++ [g]))
    (hO : w1.ownsRow base2 9 1 (.slice (some ⟨g1, 0, none⟩) (g.nm.length + 1) c1) (g.nm.length + 1) (cellsS g.nm ++ [.string s])) (hg : w.grownBy w1 (Value.slice g.na g.nm.length g.nc).ownBlock) (hat : (Value.slice g.na g.nm.length g.nc).ownBlock = some g1 ∨ g1 = H) (hH : w.heap.size ≤ H) :
    GsOwn (w1.setCell ⟨b, M.length * 3, none⟩ (.slice (some ⟨g1, 0, none⟩) (g.nm.length + 1) c1)) base base2 (.slice (some ⟨b, 0, none⟩) (M.length + 1) cap) (M ++ [{ g with nm := g.nm ++ [s], na := some ⟨g1, 0, none⟩, nc := c1 }]) := by
  obtain ⟨h1, h2, h3, h4⟩ := h
  have hl : (M ++ [g]).length = M.length + 1 := by simp
  have h1' : w.ownsRow base 29 3 (.slice (some ⟨b, 0, none⟩) (M.length + 1) cap) (M.length + 1) (FGr.cells (M ++ [g])) := by
    have := h1; unfold OwnsR at this; rwa [hl] at this
  have hgm : GrOwn w base2 g := h2 g (by simp)
  have hp := List.pairwise_append.1 h4
  have hdif : ∀ x ∈ M, ∀ k, nmBlk x = some k → (Value.slice g.na g.nm.length g.nc).ownBlock ≠ some k := fun x hx k hk => hp.2.2 x hx g (by simp) k hk
  have r1 : w1.ownsRow base 29 3 (.slice (some ⟨b, 0, none⟩) (M.length + 1) cap) (M.length + 1) (FGr.cells (M ++ [g])) := own_past h1' hg (fun k hk => own_ne_type h1' hgm.1 (by decide) k hk)
  have rM : ∀ x ∈ M, GrOwn w1 base2 x := fun x hx => ⟨own_past (h2 x (by simp [hx])).1 hg (fun k hk e => hdif x hx k hk e), own_past (h2 x (by simp [hx])).2 hg (fun k hk => own_ne_type (h2 x (by simp [hx])).2 hgm.1 (by decide) k hk)⟩
  have rg : OwnsR FRu 81 w1 base2 (.slice g.ra g.ru.length g.rc) g.ru := own_past hgm.2 hg (fun k hk => own_ne_type hgm.2 hgm.1 (by decide) k hk)
  have rn : Owns w1 base2 (.slice (some ⟨g1, 0, none⟩) (g.nm ++ [s]).length c1) (g.nm ++ [s]) := by
    have := Owns.append (X := g.nm) hO
    rw [List.length_append]; exact this
  obtain ⟨C, hC⟩ := own_block_type r1 (b := b) rfl
  have hs : w1.grownBy (w1.setCell ⟨b, M.length * 3, none⟩ (.slice (some ⟨g1, 0, none⟩) (g.nm.length + 1) c1)) (some b) := grown_set _ _
  refine ⟨?_, ?_, ?_, ?_⟩
  · have := own_setL (j := M.length * 3 + 0) (y := .slice (some ⟨g1, 0, none⟩) (g.nm.length + 1) c1) r1
    rw [cells_lastG M g { g with nm := g.nm ++ [s], na := some ⟨g1, 0, none⟩, nc := c1 } 0 _ (by simp [FGr]) (by decide)] at this
    exact OwnsR.of_row (F := FGr) this (by simp) rfl
  · intro x hx
    rcases List.mem_append.1 hx with hx | hx
    · exact ⟨own_type (rM x hx).1 hC (by decide) hs, own_type (rM x hx).2 hC (by decide) hs⟩
    · simp at hx; subst hx
      exact ⟨own_type rn hC (by decide) hs, own_type rg hC (by decide) hs⟩
  · have hp3 := List.pairwise_append.1 h3
    unfold Apart
    rw [List.pairwise_append]
    refine ⟨hp3.1, List.pairwise_singleton _ _, ?_⟩
    intro x hx y hy
    simp at hy; subst hy
    exact hp3.2.2 x hx g (by simp)
  · unfold ApartN
    rw [List.pairwise_append]
    refine ⟨hp.1, List.pairwise_singleton _ _, ?_⟩
    intro x hx y hy
    simp at hy; subst hy
    intro k hk e
    have e' : g1 = k := by simpa [nmBlk, Value.ownBlock] using e
    subst e'
    rcases hat with hat | hat
    · exact hdif x hx g1 hk hat
    · have := own_lt (h2 x (by simp [hx])).1 g1 hk
      omega
/-- the last one has a rule more -/
theorem GsOwn.rule {w w1 : World} {base base2 b cap H : Nat} {M : List Gr} {g : Gr} {g1 c1 : Nat} {x0 : Ru} (h : GsOwn w base base2 (.slice (some ⟨b, 0, none⟩) (M.length + 1) cap) (M ++ [g]))
    (hO : w1.ownsRow base2 81 2 (.slice (some ⟨g1, 0, none⟩) (g.ru.length + 1) c1) (g.ru.length + 1) (FRu.cells g.ru ++ FRu.enc x0)) (hg : w.grownBy w1 (Value.slice g.ra g.ru.length g.rc).ownBlock) (hat : (Value.slice g.ra g.ru.length g.rc).ownBlock = some g1 ∨ g1 = H) (hH : w.heap.size ≤ H) :
    GsOwn (w1.setCell ⟨b, M.length * 3 + 1, none⟩ (.slice (some ⟨g1, 0, none⟩) (g.ru.length + 1) c1)) base base2 (.slice (some ⟨b, 0, none⟩) (M.length + 1) cap) (M ++ [{ g with ru := g.ru ++ [x0], ra := some ⟨g1, 0, none⟩, rc := c1 }]) := by
  obtain ⟨h1, h2, h3, h4⟩ := h
  have hl : (M ++ [g]).length = M.length + 1 := by simp
  have h1' : w.ownsRow base 29 3 (.slice (some ⟨b, 0, none⟩) (M.length + 1) cap) (M.length + 1) (FGr.cells (M ++ [g])) := by
    have := h1; unfold OwnsR at this; rwa [hl] at this
  have hgm : GrOwn w base2 g := h2 g (by simp)
  have hp := List.pairwise_append.1 h3
  have hdif : ∀ x ∈ M, ∀ k, ruBlk x = some k → (Value.slice g.ra g.ru.length g.rc).ownBlock ≠ some k := fun x hx k hk => hp.2.2 x hx g (by simp) k hk
  have r1 : w1.ownsRow base 29 3 (.slice (some ⟨b, 0, none⟩) (M.length + 1) cap) (M.length + 1) (FGr.cells (M ++ [g])) := own_past h1' hg (fun k hk => own_ne_type h1' hgm.2 (by decide) k hk)
  have rM : ∀ x ∈ M, GrOwn w1 base2 x := fun x hx => ⟨own_past (h2 x (by simp [hx])).1 hg (fun k hk => own_ne_type (h2 x (by simp [hx])).1 hgm.2 (by decide) k hk), own_past (h2 x (by simp [hx])).2 hg (fun k hk e => hdif x hx k hk e)⟩
  have rg : Owns w1 base2 (.slice g.na g.nm.length g.nc) g.nm := own_past hgm.1 hg (fun k hk => own_ne_type hgm.1 hgm.2 (by decide) k hk)
  have rn : OwnsR FRu 81 w1 base2 (.slice (some ⟨g1, 0, none⟩) (g.ru ++ [x0]).length c1) (g.ru ++ [x0]) := by
    have := OwnsR.append (F := FRu) (X := g.ru) (x := x0) hO
    rw [List.length_append]; exact this
  obtain ⟨C, hC⟩ := own_block_type r1 (b := b) rfl
  have hs : w1.grownBy (w1.setCell ⟨b, M.length * 3 + 1, none⟩ (.slice (some ⟨g1, 0, none⟩) (g.ru.length + 1) c1)) (some b) := grown_set _ _
  refine ⟨?_, ?_, ?_, ?_⟩
  · have := own_setL (j := M.length * 3 + 1) (y := .slice (some ⟨g1, 0, none⟩) (g.ru.length + 1) c1) r1
    rw [cells_lastG M g { g with ru := g.ru ++ [x0], ra := some ⟨g1, 0, none⟩, rc := c1 } 1 _ (by simp [FGr]) (by decide)] at this
    exact OwnsR.of_row (F := FGr) this (by simp) rfl
  · intro x hx
    rcases List.mem_append.1 hx with hx | hx
    · exact ⟨own_type (rM x hx).1 hC (by decide) hs, own_type (rM x hx).2 hC (by decide) hs⟩
    · simp at hx; subst hx
      exact ⟨own_type rg hC (by decide) hs, own_type rn hC (by decide) hs⟩
  · unfold Apart
    rw [List.pairwise_append]
    refine ⟨hp.1, List.pairwise_singleton _ _, ?_⟩
    intro x hx y hy
    simp at hy; subst hy
    intro k hk e
    have e' : g1 = k := by simpa [ruBlk, Value.ownBlock] using e
    subst e'
    rcases hat with hat | hat
    · exact hdif x hx g1 hk hat
    · have := own_lt (h2 x (by simp [hx])).2 g1 hk
      omega
  · have hp3 := List.pairwise_append.1 h4
    unfold ApartN
    rw [List.pairwise_append]
    refine ⟨hp3.1, List.pairwise_singleton _ _, ?_⟩
    intro x hx y hy
    simp at hy; subst hy
    exact hp3.2.2 x hx g (by simp)
/-- the last one's Wait is set -/
theorem GsOwn.wait {w : World} {base base2 b cap : Nat} {M : List Gr} {g : Gr} (n : Int) (h : GsOwn w base base2 (.slice (some ⟨b, 0, none⟩) (M.length + 1) cap) (M ++ [g])) :
    GsOwn (w.setCell ⟨b, M.length * 3 + 2, none⟩ (.int .i64 n)) base base2 (.slice (some ⟨b, 0, none⟩) (M.length + 1) cap) (M ++ [{ g with wait := n }]) := by
  obtain ⟨h1, h2, h3, h4⟩ := h
  have hl : (M ++ [g]).length = M.length + 1 := by simp
  have h1' : w.ownsRow base 29 3 (.slice (some ⟨b, 0, none⟩) (M.length + 1) cap) (M.length + 1) (FGr.cells (M ++ [g])) := by
    have := h1; unfold OwnsR at this; rwa [hl] at this
  obtain ⟨C, hC⟩ := own_block_type h1' (b := b) rfl
  have hs : w.grownBy (w.setCell ⟨b, M.length * 3 + 2, none⟩ (.int .i64 n)) (some b) := grown_set _ _
  refine ⟨?_, ?_, ?_, ?_⟩
  · have := own_setL (j := M.length * 3 + 2) (y := .int .i64 n) h1'
    rw [cells_lastG M g { g with wait := n } 2 _ (by simp [FGr]) (by decide)] at this
    exact OwnsR.of_row (F := FGr) this (by simp) rfl
  · intro x hx
    have hk : ∀ u ∈ M ++ [g], GrOwn (w.setCell ⟨b, M.length * 3 + 2, none⟩ (.int .i64 n)) base2 u := fun u hu => ⟨own_type (h2 u hu).1 hC (by decide) hs, own_type (h2 u hu).2 hC (by decide) hs⟩
    rcases List.mem_append.1 hx with hx | hx
    · exact hk x (by simp [hx])
    · simp at hx; subst hx
      exact hk g (by simp)
  · have hp := List.pairwise_append.1 h3
    unfold Apart
    rw [List.pairwise_append]
    refine ⟨hp.1, List.pairwise_singleton _ _, ?_⟩
    intro x hx y hy
    simp at hy; subst hy
    exact hp.2.2 x hx g (by simp)
  · have hp := List.pairwise_append.1 h4
    unfold ApartN
    rw [List.pairwise_append]
    refine ⟨hp.1, List.pairwise_singleton _ _, ?_⟩
    intro x hx y hy
    simp at hy; subst hy
    exact hp.2.2 x hx g (by simp)
/-- where the last one lies -/
theorem GsOwn.last {w : World} {base base2 : Nat} {v : Value} {M : List Gr} {g : Gr} (h : GsOwn w base base2 v (M ++ [g])) : ∃ b cap, v = .slice (some ⟨b, 0, none⟩) (M.length + 1) cap ∧ base ≤ b ∧ b < w.heap.size ∧ (∀ j, w.frozen? ⟨b, j, none⟩ = false) ∧ w.cell? ⟨b, M.length * 3, none⟩ = some (.slice g.na g.nm.length g.nc) ∧ w.cell? ⟨b, M.length * 3 + 1, none⟩ = some (.slice g.ra g.ru.length g.rc) ∧ w.cell? ⟨b, M.length * 3 + 2, none⟩ = some (.int .i64 g.wait) := by
  have h1 := h.1
  unfold OwnsR at h1
  have hl : (M ++ [g]).length = M.length + 1 := by simp
  rw [hl] at h1
  obtain ⟨b, cap, hv, hb, hlt⟩ := World.ownsRow.form h1 (by omega)
  subst hv
  refine ⟨b, cap, rfl, hb, hlt, World.ownsRow.frozenAt h1, ?_⟩
  have hr := OwnsR.rowsOf (n := M.length + 1) h.1
  obtain ⟨b', off, e, c0, c1, c2⟩ := gr_at hr (i := M.length) (by simp)
  injection e with e; injection e with e1 e2 _
  subst e1; subst e2
  simp at c0 c1 c2
  exact ⟨c0, c1, c2⟩
/-- what such a step leaves as it was -/
def Fr (base base2 : Nat) (w w' : World) : Prop := Below base w w' ∧ ∀ k C t fz, k < base2 → w.heap[k]? = some (.cells C t fz) → t ≠ 29 → w'.heap[k]? = w.heap[k]?
theorem Fr.refl (base base2 : Nat) (w : World) : Fr base base2 w w := ⟨Below.refl _ _, fun _ _ _ _ _ _ _ => rfl⟩
theorem Fr.trans {base base2 : Nat} {w w1 w2 : World} (h : Fr base base2 w w1) (h2 : Fr base base2 w1 w2) : Fr base base2 w w2 :=
  ⟨h.1.trans h2.1, fun k C t fz hk hc ht => by
    have e := h.2 k C t fz hk hc ht
    rw [h2.2 k C t fz hk (e.trans hc) ht]; exact e⟩
theorem Fr.below {base base2 : Nat} {w w' : World} (h : Below w.heap.size w w') (h1 : base ≤ w.heap.size) (h2 : base2 ≤ w.heap.size) : Fr base base2 w w' :=
  ⟨h.mono h1, fun k _ _ _ hk _ _ => h.block k (by omega)⟩
theorem Fr.alloc (base base2 : Nat) (w : World) (o : Obj) (h1 : base ≤ w.heap.size) (h2 : base2 ≤ w.heap.size) : Fr base base2 w (w.alloc o) := Fr.below ((Below.refl _ _).alloc (Nat.le_refl _) _) h1 h2
/-- a list grows -/
theorem Fr.far {base base2 : Nat} {w w' : World} {r : Option Nat} (hg : w.grownBy w' r) (h1 : base ≤ w.heap.size) (hr : ∀ k, r = some k → base ≤ k ∧ base2 ≤ k) : Fr base base2 w w' :=
  ⟨Below.grown (Below.refl _ _) hg h1 (fun k hk => (hr k hk).1), fun k C t fz hk hc _ => hg.block k (Array.getElem?_eq_some_iff.1 hc).1 (fun e => by have := (hr k e.symm).2; omega)⟩
/-- groups grow -/
theorem Fr.row {base base2 : Nat} {w w' : World} {v : Value} {L : List Gr} (h : OwnsR FGr 29 w base v L) (hg : w.grownBy w' v.ownBlock) (h1 : base ≤ w.heap.size) : Fr base base2 w w' :=
  ⟨Below.grown (Below.refl _ _) hg h1 (OwnsR.block h), fun k C t fz hk hc ht => hg.block k (Array.getElem?_eq_some_iff.1 hc).1 (fun e => by
    obtain ⟨c, hc2⟩ := own_block_type h e.symm
    rw [hc] at hc2
    injection hc2 with hc2
    injection hc2 with _ ht2
    exact ht ht2)⟩
theorem Fr.rows {base base2 b0 cap : Nat} {w w' : World} {a0 : Option Addr} {L : List ByteArray} (h : Fr base base2 w w') (hO : Owns w b0 (.slice a0 L.length cap) L) (hlt : ∀ k, (Value.slice a0 L.length cap).ownBlock = some k → k < base2) : Owns w' b0 (.slice a0 L.length cap) L := by
  obtain ⟨h1, h2 | ⟨g, cp, cur, hv, hg, hc, r⟩⟩ := hO
  · exact ⟨h1, Or.inl h2⟩
  · refine ⟨h1, Or.inr ⟨g, cp, cur, hv, hg, ?_, r⟩⟩
    rw [h.2 g _ _ _ (hlt g (by rw [hv]; rfl)) hc (by decide)]
    exact hc
theorem GsOwn.row1 {w w1 : World} {base base2 : Nat} {v : Value} {M : List Gr} {g : Gr} (h : GsOwn w base base2 v (M ++ [g])) (hg : w.grownBy w1 (Value.slice g.na g.nm.length g.nc).ownBlock) : OwnsR FGr 29 w1 base v (M ++ [g]) :=
  own_past h.1 hg (fun k hk => own_ne_type h.1 (h.2.1 g (by simp)).1 (by decide) k hk)
theorem GsOwn.row2 {w w1 : World} {base base2 : Nat} {v : Value} {M : List Gr} {g : Gr} (h : GsOwn w base base2 v (M ++ [g])) (hg : w.grownBy w1 (Value.slice g.ra g.ru.length g.rc).ownBlock) : OwnsR FGr 29 w1 base v (M ++ [g]) :=
  own_past h.1 hg (fun k hk => own_ne_type h.1 (h.2.1 g (by simp)).2 (by decide) k hk)
theorem row_last {w : World} {base b cap n : Nat} {M : List Gr} {g : Gr} (h : OwnsR FGr 29 w base (.slice (some ⟨b, 0, none⟩) n cap) (M ++ [g])) : (∀ j, w.frozen? ⟨b, j, none⟩ = false) ∧ w.cell? ⟨b, M.length * 3, none⟩ = some (.slice g.na g.nm.length g.nc) ∧ w.cell? ⟨b, M.length * 3 + 1, none⟩ = some (.slice g.ra g.ru.length g.rc) ∧ w.cell? ⟨b, M.length * 3 + 2, none⟩ = some (.int .i64 g.wait) := by
  have hn : (M ++ [g]).length = M.length + 1 := by simp
  have h' : w.ownsRow base 29 FGr.k (.slice (some ⟨b, 0, none⟩) n cap) (M ++ [g]).length (FGr.cells (M ++ [g])) := h
  have hfz : ∀ j, w.frozen? ⟨b, j, none⟩ = false := by
    obtain ⟨C, hC⟩ := own_block_type h' (b := b) rfl
    intro j
    exact Bx.free (t := 29) hC j
  refine ⟨hfz, ?_⟩
  have hr := OwnsR.rowsOf h
  obtain ⟨b', off, e, c0, c1, c2⟩ := gr_at hr (i := M.length) (by simp)
  injection e with e; injection e with e1 e2 _
  subst e1; subst e2
  simp at c0 c1 c2
  exact ⟨c0, c1, c2⟩
theorem Fr.set {base base2 b j n cap : Nat} {w : World} {L : List Gr} {y : Value} (h : OwnsR FGr 29 w base (.slice (some ⟨b, 0, none⟩) n cap) L) (h1 : base ≤ w.heap.size) : Fr base base2 w (w.setCell ⟨b, j, none⟩ y) :=
  Fr.row h (grown_set j y) h1
end Go.Proofs.YtmgcdfmgmpnonaaGreatDoor.NrW
/- A notice is read: of the model. -/
namespace Go.Proofs.YtmgcdfmgmpnonaaGreatDoor.NrS
open Go.RowKit Go.Proofs.YtmgcdfmgmpnonaaGreatDoor.EscM Go.Proofs.YtmgcdfmgmpnonaaGreatDoor.EscL Go.Proofs.YtmgcdfmgmpnonaaGreatDoor.RuleM Go.Proofs.YtmgcdfmgmpnonaaGreatDoor.Ru1 Go.Proofs.YtmgcdfmgmpnonaaGreatDoor.ReadM Go.Proofs.YtmgcdfmgmpnonaaGreatDoor.St Go.Proofs.YtmgcdfmgmpnonaaGreatDoor.RR Go.Proofs.YtmgcdfmgmpnonaaGreatDoor.LetM Go.Proofs.YtmgcdfmgmpnonaaGreatDoor.Nm Go.Proofs.YtmgcdfmgmpnonaaGreatDoor.GrM Go.Proofs.YtmgcdfmgmpnonaaGreatDoor.Dr Go.Proofs.YtmgcdfmgmpnonaaGreatDoor.NrM Go.Proofs.YtmgcdfmgmpnonaaGreatDoor.NrW

theorem data_at (s : ByteArray) (k : Nat) (h : k < s.size) (h2 : k < s.data.toList.length) : s.data.toList[k]'h2 = s[k]'h := rfl
set_option maxRecDepth 100000 in
set_option maxHeartbeats 1600000 in
theorem specNum_any (s : ByteArray) (w : World) (hs : s.size ≤ 4194304) :
    Calls Tryz.prog 145 #[.string s, .int .i64 20] w fun e w' => e = .returned (.int .i64 (numF s.data.toList : Int)) ∧ w' = w := by
  go_enter Tryz.func145, Tryz.ntmps145
  go_wp2
  go_loopw [5, 6] (fun n i wr => ∃ (k m : Nat), k ≤ s.size ∧ i = .int .i64 (k : Int) ∧ n = .int .i64 (m : Int) ∧ m ≤ 20 ∧ wr = w ∧ Hid (numF s.data.toList = (numGo m (s.data.toList.drop k)).getD 0)) (fun _ i _ => s.size - (intOf i).toNat)
  case atStart => exact ⟨0, 0, Nat.zero_le _, rfl, rfl, by omega, rfl, rfl⟩
  case round =>
    obtain ⟨k, m, hk, rfl, rfl, hm, rfl, HN⟩ := hrel
    by_cases hlt : k < s.size
    · have hl2 : k < s.data.toList.length := by simpa using hlt
      have HT : Hid _ := num_take hl2 HN.out
      rw [data_at s k hlt hl2] at HT
      by_cases h1 : ((s[k]'hlt).toNat : Int) < 48
      · have HZ : Hid (numF s.data.toList = 0) := HT.out.2 (by omega)
        clear HT
        go_wp2
        go_ret
        exact ⟨ret_int (by rw [HZ.out]; rfl), rfl⟩
      by_cases h2 : (57 : Int) < ((s[k]'hlt).toNat : Int)
      · have HZ : Hid (numF s.data.toList = 0) := HT.out.2 (by omega)
        clear HT
        go_wp2
        go_ret
        exact ⟨ret_int (by rw [HZ.out]; rfl), rfl⟩
      have HX : Hid (numF s.data.toList = (numGo (min (m * 10 + ((s[k]'hlt).toNat - 48)) 20) (s.data.toList.drop (k + 1))).getD 0) := HT.out.1 (by omega)
      clear HT
      obtain ⟨d, hd, hd9⟩ : ∃ d : Nat, (s[k]'hlt).toNat = 48 + d ∧ d ≤ 9 := ⟨(s[k]'hlt).toNat - 48, by omega, by omega⟩
      have e0 : ((s[k]'hlt).toNat : Int) - 48 = (d : Int) := by omega
      have e1 : IntKind.u8.wrap (((s[k]'hlt).toNat : Int) - 48) = (d : Int) := by
        rw [e0]
        have : d = 0 ∨ d = 1 ∨ d = 2 ∨ d = 3 ∨ d = 4 ∨ d = 5 ∨ d = 6 ∨ d = 7 ∨ d = 8 ∨ d = 9 := by omega
        rcases this with rfl | rfl | rfl | rfl | rfl | rfl | rfl | rfl | rfl | rfl <;> decide
      have e2 : IntKind.i64.wrap ((m : Int) * 10) = (m : Int) * 10 := IntWalk.i64_in _ (by omega)
      have e3 : IntKind.i64.wrap ((m : Int) * 10 + (d : Int)) = (m : Int) * 10 + (d : Int) := IntWalk.i64_in _ (by omega)
      have e4 : IntKind.i64.wrap (d : Int) = (d : Int) := IntWalk.i64_in _ (by omega)
      have HX2 : Hid (numF s.data.toList = (numGo (min (m * 10 + d) 20) (s.data.toList.drop (k + 1))).getD 0) := by show _ = _; rw [HX.out, hd]; congr 4; omega
      go_wp2
      go_roundw
      case rel => exact ⟨k + 1, min (m * 10 + d) 20, by omega, by go_num, by go_num, Nat.min_le_right _ _, by trivial, HX2⟩
      case measure => simp [intOf]; omega
    · have HE : Hid (numF s.data.toList = m) := by
        show _ = _
        rw [HN.out, List.drop_of_length_le (by simp; omega)]; rfl
      go_wp2
      go_ret
      exact ⟨ret_int (by rw [HE.out]), rfl⟩

theorem wd_iff (s : ByteArray) (l : List UInt8) : (s.toList == l) = decide (s.data.toList = l) := by
  rw [ByteArray.toList_eq]
  by_cases h : s.data.toList = l
  · rw [decide_eq_true h]; simp [h]
  · rw [decide_eq_false h]; simp [h]
/-- one line, read: what holds behind it -/
def Read (base base2 : Nat) (w : World) (S : Nr) (e : Ending) (w' : World) : Prop := ∃ v' L', e = .returned (.tuple #[v', .bool S.bg]) ∧ GsOwn w' base base2 v' L' ∧ L'.map grp = S.gs ∧ Fr base base2 w w'
theorem map_last (M : List Gr) (g : Gr) : lastG ((M ++ [g]).map grp) = grp g := by rw [List.map_append]; exact last_snoc _ _
theorem map_drop (M : List Gr) (g : Gr) : ((M ++ [g]).map grp).dropLast = M.map grp := by rw [List.map_append]; exact List.dropLast_concat
theorem map_ne (M : List Gr) (g : Gr) : (M ++ [g]).map grp ≠ [] := by simp
theorem new_blk {w : World} {base2 m : Nat} {L : List Gr} (h : GrsOwn w base2 L) (hm : w.heap.size ≤ m) : ∀ x ∈ L, ∀ b, nmBlk x = some b → (Value.slice (some ⟨m, 0, none⟩) 1 1).ownBlock ≠ some b := by
  intro x hx b hb e
  have h1 := own_lt (h x hx).1 b hb
  have e' : m = b := by simpa [Value.ownBlock] using e
  omega
theorem new_blkR {w : World} {base2 m : Nat} {L : List Gr} (h : GrsOwn w base2 L) (hm : w.heap.size ≤ m) : ∀ x ∈ L, ∀ b, ruBlk x = some b → (Value.slice (some ⟨m, 0, none⟩) 0 0).ownBlock ≠ some b := by
  intro x hx b hb e
  have h1 := own_lt (h x hx).2 b hb
  have e' : m = b := by simpa [Value.ownBlock] using e
  omega

set_option maxRecDepth 100000 in
set_option maxHeartbeats 3200000 in
theorem line_new (base base2 : Nat) (v : Value) (L : List Gr) (wd rs : ByteArray) (w : World) (h : GsOwn w base base2 v L) (hb : base ≤ w.heap.size) (hb2 : base2 ≤ w.heap.size) (hl : L.length ≤ 1000) (hr : rs.size ≤ 4194304)
    (hw : (wd.toList == [99, 97, 108, 108, 101, 114]) = true) (hc : callB rs = true) :
    Calls Tryz.prog 114 #[v, .string wd, .string rs, .bool true] w fun e w' => Read base base2 w ⟨L.map grp ++ [([rs], [], 0)], false⟩ e w' := by
  obtain ⟨i0, hi, hz0, hz1, hz2⟩ := info_group
  obtain ⟨a0, cap, hv, hI, _⟩ := h.at
  subst hv
  have HG : Hid (GsOwn w base base2 (.slice a0 L.length cap) L) := h
  have hc1 : L.length ≤ cap := hI.1
  have hc2 := hI.2.1
  unfold maxLen at hc2
  have HC : Hid (callB rs = true) := hc
  clear h hI hc
  have HN1 : Hid (GsOwn (w.alloc (.cells #[.string rs] 9)) base base2 (.slice a0 L.length cap) L) := HG.out.alloc _
  have HN2 : Hid (GsOwn ((w.alloc (.cells #[.string rs] 9)).alloc (.cells #[] 81)) base base2 (.slice a0 L.length cap) L) := HN1.out.alloc _
  obtain ⟨g, hg⟩ : ∃ g : Gr, g = ⟨[rs], some ⟨w.heap.size, 0, none⟩, 1, [], some ⟨w.heap.size + 1, 0, none⟩, 0, 0⟩ := ⟨_, rfl⟩
  have HGN : Hid (grp g = ([rs], [], 0)) := by rw [hg]; rfl
  have HEN : Hid (FGr.enc g = [.slice (some ⟨w.heap.size, 0, none⟩) 1 1, .slice (some ⟨w.heap.size + 1, 0, none⟩) 0 0, .int .i64 0]) := by rw [hg]; rfl
  have HGO : Hid (GrOwn ((w.alloc (.cells #[.string rs] 9)).alloc (.cells #[] 81)) base2 g) := by
    rw [hg]
    refine ⟨(Owns.lit1 w base2 rs hb2).keep (alloc_keep _ _), ?_⟩
    have := OwnsR.empty FRu 81 (w.alloc (.cells #[.string rs] 9)) base2 (by simp; omega)
    simpa using this
  have HDN : Hid (∀ x ∈ L, ∀ b, nmBlk x = some b → nmBlk g ≠ some b) := by rw [hg]; exact new_blk HG.out.2.1 (Nat.le_refl _)
  have HDR : Hid (∀ x ∈ L, ∀ b, ruBlk x = some b → ruBlk g ≠ some b) := by rw [hg]; exact new_blkR HG.out.2.1 (by omega)
  have HFR : Hid (Fr base base2 w ((w.alloc (.cells #[.string rs] 9)).alloc (.cells #[] 81))) := (Fr.alloc base base2 w _ hb hb2).trans (Fr.alloc base base2 _ _ (by simp; omega) (by simp; omega))
  have hsz : ((w.alloc (.cells #[.string rs] 9)).alloc (.cells #[] 81)).heap.size = w.heap.size + 1 + 1 := by simp
  have HX2 : Hid (∀ j u, (FGr.enc g)[j]? = some u → (((w.alloc (.cells #[.string rs] 9)).alloc (.cells #[] 81)).alloc (.cells #[.slice (some ⟨w.heap.size, 0, none⟩) 1 1, .slice (some ⟨w.heap.size + 1, 0, none⟩) 0 0, .int .i64 0] 29)).cell? ((⟨w.heap.size + 1 + 1, 0, none⟩ : Addr).add j) = some u) := HEN.out ▸ cell_three_newE hsz _ _ _ _
  clear hg hsz
  cases hstar : (rs.toList == [42]) with
  | true =>
    go_enter Tryz.func114, Tryz.ntmps114
    go_wp2_with (at_builtin; refine wpList_append_own _ rfl _ _ 35 rfl base 29 i0 (.agg #[.slice none 0 0, .slice none 0 0, .int .i64 0]) 3 56 Tryz.underlying35 hi hz0 hz1 hz2 rfl (by decide) _ _ _ rfl (HN2.out.alloc _).1 ⟨w.heap.size + 1 + 1, 0, none⟩ 1 1 (FGr.enc g) rfl rfl HX2.out (FGr.one g) ?c3 ?c4 ?c5 ?_)
    case c3 => first | (unfold maxLen; omega) | (simp [maxLen])
    case c4 => first | omega | simp
    case c5 => simp; omega
    intro v8 w8 hown8 hgrow8 _
    have H8 : Hid (GsOwn w8 base base2 v8 (L ++ [g])) := (HN2.out.alloc _).more (HGO.out.keep (alloc_keep _ _)) HDN.out HDR.out hown8 hgrow8
    have HF8 : Hid (Fr base base2 w w8) := (HFR.out.trans (Fr.alloc base base2 _ _ (by simp; omega) (by simp; omega))).trans (Fr.row (HN2.out.alloc _).1 hgrow8 (by simp; omega))
    clear hown8 hgrow8
    go_wp2
    go_ret2
    exact ⟨v8, L ++ [g], rfl, H8.out, by rw [List.map_append, List.map_cons, List.map_nil, HGN.out], HF8.out⟩
  | false =>
    have hnb : nameB rs = true := by
      have := HC.out
      unfold callB at this
      rw [hstar] at this
      exact this
    go_enter Tryz.func114, Tryz.ntmps114
    go_wp2_with (first | (go_at_call 44; refine (specName_any rs _ (by unfold maxLen; omega)).mono ?_; rintro e w1 ⟨rfl, e1⟩; have e2 := e1.symm; subst e2) | (at_builtin; refine wpList_append_own _ rfl _ _ 35 rfl base 29 i0 (.agg #[.slice none 0 0, .slice none 0 0, .int .i64 0]) 3 56 Tryz.underlying35 hi hz0 hz1 hz2 rfl (by decide) _ _ _ rfl (HN2.out.alloc _).1 ⟨w.heap.size + 1 + 1, 0, none⟩ 1 1 (FGr.enc g) rfl rfl HX2.out (FGr.one g) ?c3 ?c4 ?c5 ?_))
    case c3 => first | (unfold maxLen; omega) | (simp [maxLen])
    case c4 => first | omega | simp
    case c5 => simp; omega
    intro v8 w8 hown8 hgrow8 _
    have H8 : Hid (GsOwn w8 base base2 v8 (L ++ [g])) := (HN2.out.alloc _).more (HGO.out.keep (alloc_keep _ _)) HDN.out HDR.out hown8 hgrow8
    have HF8 : Hid (Fr base base2 w w8) := (HFR.out.trans (Fr.alloc base base2 _ _ (by simp; omega) (by simp; omega))).trans (Fr.row (HN2.out.alloc _).1 hgrow8 (by simp; omega))
    clear hown8 hgrow8
    go_wp2
    go_ret2
    exact ⟨v8, L ++ [g], rfl, H8.out, by rw [List.map_append, List.map_cons, List.map_nil, HGN.out], HF8.out⟩
set_option maxRecDepth 100000 in
set_option maxHeartbeats 3200000 in
theorem line_new0 (base base2 : Nat) (v : Value) (wd rs : ByteArray) (w : World) (h : GsOwn w base base2 v []) (hb : base ≤ w.heap.size) (hb2 : base2 ≤ w.heap.size) (hr : rs.size ≤ 4194304)
    (hw : (wd.toList == [99, 97, 108, 108, 101, 114]) = true) (hc : callB rs = true) :
    Calls Tryz.prog 114 #[v, .string wd, .string rs, .bool false] w fun e w' => Read base base2 w ⟨[([rs], [], 0)], false⟩ e w' := by
  obtain ⟨i0, hi, hz0, hz1, hz2⟩ := info_group
  obtain ⟨a0, cap, hv, hI, _⟩ := h.at
  have hv : v = .slice a0 0 cap := hv
  subst hv
  have HG : Hid (GsOwn w base base2 (.slice a0 0 cap) []) := h
  have hc1 : 0 ≤ cap := hI.1
  have hc2 := hI.2.1
  unfold maxLen at hc2
  have HC : Hid (callB rs = true) := hc
  clear h hI hc
  have HN1 : Hid (GsOwn (w.alloc (.cells #[.string rs] 9)) base base2 (.slice a0 0 cap) []) := HG.out.alloc _
  have HN2 : Hid (GsOwn ((w.alloc (.cells #[.string rs] 9)).alloc (.cells #[] 81)) base base2 (.slice a0 0 cap) []) := HN1.out.alloc _
  obtain ⟨g, hg⟩ : ∃ g : Gr, g = ⟨[rs], some ⟨w.heap.size, 0, none⟩, 1, [], some ⟨w.heap.size + 1, 0, none⟩, 0, 0⟩ := ⟨_, rfl⟩
  have HGN : Hid (grp g = ([rs], [], 0)) := by rw [hg]; rfl
  have HEN : Hid (FGr.enc g = [.slice (some ⟨w.heap.size, 0, none⟩) 1 1, .slice (some ⟨w.heap.size + 1, 0, none⟩) 0 0, .int .i64 0]) := by rw [hg]; rfl
  have HGO : Hid (GrOwn ((w.alloc (.cells #[.string rs] 9)).alloc (.cells #[] 81)) base2 g) := by
    rw [hg]
    refine ⟨(Owns.lit1 w base2 rs hb2).keep (alloc_keep _ _), ?_⟩
    have := OwnsR.empty FRu 81 (w.alloc (.cells #[.string rs] 9)) base2 (by simp; omega)
    simpa using this
  have HDN : Hid (∀ x ∈ [], ∀ b, nmBlk x = some b → nmBlk g ≠ some b) := by rw [hg]; exact new_blk HG.out.2.1 (Nat.le_refl _)
  have HDR : Hid (∀ x ∈ [], ∀ b, ruBlk x = some b → ruBlk g ≠ some b) := by rw [hg]; exact new_blkR HG.out.2.1 (by omega)
  have HFR : Hid (Fr base base2 w ((w.alloc (.cells #[.string rs] 9)).alloc (.cells #[] 81))) := (Fr.alloc base base2 w _ hb hb2).trans (Fr.alloc base base2 _ _ (by simp; omega) (by simp; omega))
  have hsz : ((w.alloc (.cells #[.string rs] 9)).alloc (.cells #[] 81)).heap.size = w.heap.size + 1 + 1 := by simp
  have HX2 : Hid (∀ j u, (FGr.enc g)[j]? = some u → (((w.alloc (.cells #[.string rs] 9)).alloc (.cells #[] 81)).alloc (.cells #[.slice (some ⟨w.heap.size, 0, none⟩) 1 1, .slice (some ⟨w.heap.size + 1, 0, none⟩) 0 0, .int .i64 0] 29)).cell? ((⟨w.heap.size + 1 + 1, 0, none⟩ : Addr).add j) = some u) := HEN.out ▸ cell_three_newE hsz _ _ _ _
  clear hg hsz
  cases hstar : (rs.toList == [42]) with
  | true =>
    go_enter Tryz.func114, Tryz.ntmps114
    go_wp2_with (at_builtin; refine wpList_append_own _ rfl _ _ 35 rfl base 29 i0 (.agg #[.slice none 0 0, .slice none 0 0, .int .i64 0]) 3 56 Tryz.underlying35 hi hz0 hz1 hz2 rfl (by decide) _ _ _ rfl (HN2.out.alloc _).1 ⟨w.heap.size + 1 + 1, 0, none⟩ 1 1 (FGr.enc g) rfl rfl HX2.out (FGr.one g) ?c3 ?c4 ?c5 ?_)
    case c3 => first | (unfold maxLen; omega) | (simp [maxLen])
    case c4 => first | omega | simp
    case c5 => simp; omega
    intro v8 w8 hown8 hgrow8 _
    have H8 : Hid (GsOwn w8 base base2 v8 ([] ++ [g])) := (HN2.out.alloc _).more (HGO.out.keep (alloc_keep _ _)) HDN.out HDR.out hown8 hgrow8
    have HF8 : Hid (Fr base base2 w w8) := (HFR.out.trans (Fr.alloc base base2 _ _ (by simp; omega) (by simp; omega))).trans (Fr.row (HN2.out.alloc _).1 hgrow8 (by simp; omega))
    clear hown8 hgrow8
    go_wp2
    go_ret2
    exact ⟨v8, [] ++ [g], rfl, H8.out, by rw [List.map_append, List.map_cons, List.map_nil, HGN.out]; rfl, HF8.out⟩
  | false =>
    have hnb : nameB rs = true := by
      have := HC.out
      unfold callB at this
      rw [hstar] at this
      exact this
    go_enter Tryz.func114, Tryz.ntmps114
    go_wp2_with (first | (go_at_call 44; refine (specName_any rs _ (by unfold maxLen; omega)).mono ?_; rintro e w1 ⟨rfl, e1⟩; have e2 := e1.symm; subst e2) | (at_builtin; refine wpList_append_own _ rfl _ _ 35 rfl base 29 i0 (.agg #[.slice none 0 0, .slice none 0 0, .int .i64 0]) 3 56 Tryz.underlying35 hi hz0 hz1 hz2 rfl (by decide) _ _ _ rfl (HN2.out.alloc _).1 ⟨w.heap.size + 1 + 1, 0, none⟩ 1 1 (FGr.enc g) rfl rfl HX2.out (FGr.one g) ?c3 ?c4 ?c5 ?_))
    case c3 => first | (unfold maxLen; omega) | (simp [maxLen])
    case c4 => first | omega | simp
    case c5 => simp; omega
    intro v8 w8 hown8 hgrow8 _
    have H8 : Hid (GsOwn w8 base base2 v8 ([] ++ [g])) := (HN2.out.alloc _).more (HGO.out.keep (alloc_keep _ _)) HDN.out HDR.out hown8 hgrow8
    have HF8 : Hid (Fr base base2 w w8) := (HFR.out.trans (Fr.alloc base base2 _ _ (by simp; omega) (by simp; omega))).trans (Fr.row (HN2.out.alloc _).1 hgrow8 (by simp; omega))
    clear hown8 hgrow8
    go_wp2
    go_ret2
    exact ⟨v8, [] ++ [g], rfl, H8.out, by rw [List.map_append, List.map_cons, List.map_nil, HGN.out]; rfl, HF8.out⟩
end Go.Proofs.YtmgcdfmgmpnonaaGreatDoor.NrS
/- A line of a notice is read, of the model: a name more. -/
namespace Go.Proofs.YtmgcdfmgmpnonaaGreatDoor.NrS
open Go.RowKit Go.Proofs.YtmgcdfmgmpnonaaGreatDoor.EscM Go.Proofs.YtmgcdfmgmpnonaaGreatDoor.EscL Go.Proofs.YtmgcdfmgmpnonaaGreatDoor.RuleM Go.Proofs.YtmgcdfmgmpnonaaGreatDoor.Ru1 Go.Proofs.YtmgcdfmgmpnonaaGreatDoor.ReadM Go.Proofs.YtmgcdfmgmpnonaaGreatDoor.St Go.Proofs.YtmgcdfmgmpnonaaGreatDoor.RR Go.Proofs.YtmgcdfmgmpnonaaGreatDoor.LetM Go.Proofs.YtmgcdfmgmpnonaaGreatDoor.Nm Go.Proofs.YtmgcdfmgmpnonaaGreatDoor.GrM Go.Proofs.YtmgcdfmgmpnonaaGreatDoor.Dr Go.Proofs.YtmgcdfmgmpnonaaGreatDoor.NrM Go.Proofs.YtmgcdfmgmpnonaaGreatDoor.NrW

set_option maxRecDepth 100000 in
set_option maxHeartbeats 3200000 in
theorem line_name (base base2 n : Nat) (v : Value) (M : List Gr) (g : Gr) (wd rs : ByteArray) (w : World) (hn : M.length = n) (h : GsOwn w base base2 v (M ++ [g])) (hbb : base ≤ base2) (hb2 : base2 ≤ w.heap.size) (hl : n ≤ 1000) (hl2 : g.nm.length ≤ 1000) (hr : rs.size ≤ 4194304)
    (hw : (wd.toList == [99, 97, 108, 108, 101, 114]) = true) (hc : callB rs = true) :
    Calls Tryz.prog 114 #[v, .string wd, .string rs, .bool false] w fun e w' => Read base base2 w ⟨M.map grp ++ [(g.nm ++ [rs], g.ru, g.wait)], false⟩ e w' := by
  obtain ⟨i9, hi9, hz90, hz91, hz92⟩ := info_parts Tryz.infoS
  obtain ⟨b, cap, hv, hbb1, hblt, f0, c0, c1, c2⟩ := h.last
  rw [hn] at hv c0 c1 c2
  subst hv
  have HG : Hid (GsOwn (w.alloc (.cells #[.string rs] 9)) base base2 (.slice (some ⟨b, 0, none⟩) (n + 1) cap) (M ++ [g])) := h.alloc _
  have hI := OwnsR.rowsOf h.1
  have hc1 : n + 1 ≤ cap := by have := hI.1; rw [List.length_append, hn] at this; exact this
  have hc2 := hI.2.1
  unfold maxLen at hc2
  have HC : Hid (callB rs = true) := hc
  have HNO : Hid (Owns (w.alloc (.cells #[.string rs] 9)) base2 (.slice g.na g.nm.length g.nc) g.nm) := (HG.out.2.1 g (by simp)).1
  have HX2 : Hid (∀ j u, [Value.string rs][j]? = some u → (w.alloc (.cells #[.string rs] 9)).cell? ((⟨w.heap.size, 0, none⟩ : Addr).add j) = some u) := cell_one_new w _ _
  have HFA : Hid (Fr base base2 w (w.alloc (.cells #[.string rs] 9))) := Fr.alloc base base2 w _ (by omega) hb2
  have HN : Hid (M.length = n) := hn
  clear h hI hc hn
  have hw3 : IntKind.i64.wrap (n : Int) = (n : Int) := IntWalk.i64_in _ (by omega)
  have hn0 : (0 : Int) ≤ (n : Int) := by omega
  have hn1 : (n : Int) ≤ (cap : Int) := by omega
  cases hstar : (rs.toList == [42]) with
  | true =>
    go_enter Tryz.func114, Tryz.ntmps114
    go_wp2_with (at_builtin; refine wpList_append_lies _ rfl _ _ 26 rfl base2 9 i9 (.string ⟨#[]⟩) 1 16 Tryz.underlying26 hi9 hz90 hz91 hz92 rfl (by decide) _ _ _ rfl HNO.out ⟨w.heap.size, 0, none⟩ 1 1 [.string rs] rfl rfl HX2.out ?c2 (by omega) ?c3 ?c4 ?c5 (w.heap.size + 1) ?c6 ?_)
    case c2 => intro u hu; simp at hu; subst hu; rfl
    case c3 => unfold maxLen; omega
    case c4 => omega
    case c5 => simp; omega
    case c6 => simp
    intro g1 k1 w8 hown8 hgrow8 hat8 hlt8
    have hr8 := HG.out.row1 hgrow8
    have H9 : Hid (GsOwn (w8.setCell ⟨b, M.length * 3, none⟩ (.slice (some ⟨g1, 0, none⟩) (g.nm.length + 1) k1)) base base2 (.slice (some ⟨b, 0, none⟩) (M.length + 1) cap) (M ++ [{ g with nm := g.nm ++ [rs], na := some ⟨g1, 0, none⟩, nc := k1 }])) := GsOwn.name (by rw [HN.out]; exact HG.out) hown8 hgrow8 hat8 (by simp)
    have HF8 : Hid (Fr base base2 w (w8.setCell ⟨b, M.length * 3, none⟩ (.slice (some ⟨g1, 0, none⟩) (g.nm.length + 1) k1))) := (HFA.out.trans (Fr.far hgrow8 (by simp; omega) (fun k hk => by have := Owns.block HNO.out k hk; omega))).trans (Fr.set hr8 (by have := hgrow8.size; simp at this; omega))
    have hl8 := row_last hr8
    rw [HN.out] at hl8 H9 HF8
    obtain ⟨f8, p0, _, _⟩ := hl8
    clear hown8 hgrow8 hat8 hr8 f0 c0 c1 c2
    go_wp2
    go_ret2
    exact ⟨.slice (some ⟨b, 0, none⟩) (n + 1) cap, M ++ [{ g with nm := g.nm ++ [rs], na := some ⟨g1, 0, none⟩, nc := k1 }], rfl, H9.out, by rw [List.map_append]; rfl, HF8.out⟩
  | false =>
    have hnb : nameB rs = true := by
      have := HC.out
      unfold callB at this
      rw [hstar] at this
      exact this
    go_enter Tryz.func114, Tryz.ntmps114
    go_wp2_with (first | (go_at_call 44; refine (specName_any rs _ (by unfold maxLen; omega)).mono ?_; rintro e w1 ⟨rfl, e1⟩; have e2 := e1.symm; subst e2) | (at_builtin; refine wpList_append_lies _ rfl _ _ 26 rfl base2 9 i9 (.string ⟨#[]⟩) 1 16 Tryz.underlying26 hi9 hz90 hz91 hz92 rfl (by decide) _ _ _ rfl HNO.out ⟨w.heap.size, 0, none⟩ 1 1 [.string rs] rfl rfl HX2.out ?c2 (by omega) ?c3 ?c4 ?c5 (w.heap.size + 1) ?c6 ?_))
    case c2 => intro u hu; simp at hu; subst hu; rfl
    case c3 => unfold maxLen; omega
    case c4 => omega
    case c5 => simp; omega
    case c6 => simp
    intro g1 k1 w8 hown8 hgrow8 hat8 hlt8
    have hr8 := HG.out.row1 hgrow8
    have H9 : Hid (GsOwn (w8.setCell ⟨b, M.length * 3, none⟩ (.slice (some ⟨g1, 0, none⟩) (g.nm.length + 1) k1)) base base2 (.slice (some ⟨b, 0, none⟩) (M.length + 1) cap) (M ++ [{ g with nm := g.nm ++ [rs], na := some ⟨g1, 0, none⟩, nc := k1 }])) := GsOwn.name (by rw [HN.out]; exact HG.out) hown8 hgrow8 hat8 (by simp)
    have HF8 : Hid (Fr base base2 w (w8.setCell ⟨b, M.length * 3, none⟩ (.slice (some ⟨g1, 0, none⟩) (g.nm.length + 1) k1))) := (HFA.out.trans (Fr.far hgrow8 (by simp; omega) (fun k hk => by have := Owns.block HNO.out k hk; omega))).trans (Fr.set hr8 (by have := hgrow8.size; simp at this; omega))
    have hl8 := row_last hr8
    rw [HN.out] at hl8 H9 HF8
    obtain ⟨f8, p0, _, _⟩ := hl8
    clear hown8 hgrow8 hat8 hr8 f0 c0 c1 c2
    go_wp2
    go_ret2
    exact ⟨.slice (some ⟨b, 0, none⟩) (n + 1) cap, M ++ [{ g with nm := g.nm ++ [rs], na := some ⟨g1, 0, none⟩, nc := k1 }], rfl, H9.out, by rw [List.map_append]; rfl, HF8.out⟩
end Go.Proofs.YtmgcdfmgmpnonaaGreatDoor.NrS
/- A line of a notice is read, of the model: what is left. -/
namespace Go.Proofs.YtmgcdfmgmpnonaaGreatDoor.NrS
open Go.RowKit Go.Proofs.YtmgcdfmgmpnonaaGreatDoor.EscM Go.Proofs.YtmgcdfmgmpnonaaGreatDoor.EscL Go.Proofs.YtmgcdfmgmpnonaaGreatDoor.RuleM Go.Proofs.YtmgcdfmgmpnonaaGreatDoor.Ru1 Go.Proofs.YtmgcdfmgmpnonaaGreatDoor.ReadM Go.Proofs.YtmgcdfmgmpnonaaGreatDoor.St Go.Proofs.YtmgcdfmgmpnonaaGreatDoor.RR Go.Proofs.YtmgcdfmgmpnonaaGreatDoor.LetM Go.Proofs.YtmgcdfmgmpnonaaGreatDoor.Nm Go.Proofs.YtmgcdfmgmpnonaaGreatDoor.GrM Go.Proofs.YtmgcdfmgmpnonaaGreatDoor.Dr Go.Proofs.YtmgcdfmgmpnonaaGreatDoor.NrM Go.Proofs.YtmgcdfmgmpnonaaGreatDoor.NrW

set_option maxRecDepth 100000 in
set_option maxHeartbeats 3200000 in
theorem skip0_call (base base2 : Nat) (v : Value) (bg : Bool) (wd rs : ByteArray) (w : World)
    (h : GsOwn w base base2 v []) (_hr : rs.size ≤ 4194304) (hcall : (wd.toList == [99, 97, 108, 108, 101, 114]) = true) (hc : callB rs = false) :
    Calls Tryz.prog 114 #[v, .string wd, .string rs, .bool bg] w fun e w' => Read base base2 w ⟨[], bg⟩ e w' := by
  obtain ⟨a0, cap, hv, _⟩ := h.at
  have hv : v = .slice a0 0 cap := hv
  subst hv
  have HG : Hid (GsOwn w base base2 (.slice a0 0 cap) []) := h
  clear h
  cases hstar : (rs.toList == [42]) with
  | true =>
    have := hc
    unfold callB at this
    rw [hstar] at this
    cases this
  | false =>
    have hnb : nameB rs = false := by
      have := hc
      unfold callB at this
      rw [hstar] at this
      exact this
    clear hc
    go_enter Tryz.func114, Tryz.ntmps114
    go_wp2_with (go_at_call 44; refine (specName_any rs _ (by unfold maxLen; omega)).mono ?_; rintro e w1 ⟨rfl, e1⟩; have e2 := e1.symm; subst e2)
    go_ret2
    exact ⟨.slice a0 0 cap, [], rfl, HG.out, rfl, Fr.refl _ _ _⟩
set_option maxRecDepth 100000 in
set_option maxHeartbeats 3200000 in
theorem skip0_other (base base2 : Nat) (v : Value) (bg : Bool) (wd rs : ByteArray) (w : World)
    (h : GsOwn w base base2 v []) (_hr : rs.size ≤ 4194304) (hcall : (wd.toList == [99, 97, 108, 108, 101, 114]) = false) :
    Calls Tryz.prog 114 #[v, .string wd, .string rs, .bool bg] w fun e w' => Read base base2 w ⟨[], bg⟩ e w' := by
  obtain ⟨a0, cap, hv, _⟩ := h.at
  have hv : v = .slice a0 0 cap := hv
  subst hv
  have HG : Hid (GsOwn w base base2 (.slice a0 0 cap) []) := h
  clear h
  go_enter Tryz.func114, Tryz.ntmps114
  go_wp2
  go_ret2
  exact ⟨.slice a0 0 cap, [], rfl, HG.out, rfl, Fr.refl _ _ _⟩
set_option maxRecDepth 100000 in
set_option maxHeartbeats 3200000 in
theorem skipM_call (base base2 n : Nat) (v : Value) (M : List Gr) (g : Gr) (bg : Bool) (wd rs : ByteArray) (w : World)
    (hn : M.length = n) (h : GsOwn w base base2 v (M ++ [g])) (hl : n ≤ 1000) (_hr : rs.size ≤ 4194304) (_hcall : (wd.toList == [99, 97, 108, 108, 101, 114]) = true) (_hlet : (wd.toList == [108, 101, 116]) = false) (_hbar : (wd.toList == [98, 97, 114]) = false) (_hwait : (wd.toList == [119, 97, 105, 116]) = false) (hc : callB rs = false) :
    Calls Tryz.prog 114 #[v, .string wd, .string rs, .bool bg] w fun e w' => Read base base2 w ⟨(M ++ [g]).map grp, bg⟩ e w' := by
  obtain ⟨b, cap, hv, hbb1, hblt, f0, c0, c1, c2⟩ := h.last
  rw [hn] at hv c0 c1 c2
  subst hv
  have HG : Hid (GsOwn w base base2 (.slice (some ⟨b, 0, none⟩) (n + 1) cap) (M ++ [g])) := h
  have hI := OwnsR.rowsOf h.1
  have hc1 : n + 1 ≤ cap := by have := hI.1; rw [List.length_append, hn] at this; exact this
  have hc2 := hI.2.1
  unfold maxLen at hc2
  have HN : Hid (M.length = n) := hn
  clear h hI hn
  have hw3 : IntKind.i64.wrap (n : Int) = (n : Int) := IntWalk.i64_in _ (by omega)
  have hn0 : (0 : Int) ≤ (n : Int) := by omega
  have hn1 : (n : Int) ≤ (cap : Int) := by omega
  have hnl : decide ((n : Int) < 0) = false := decide_eq_false (by omega)
  cases hstar : (rs.toList == [42]) with
  | true =>
    have := hc
    unfold callB at this
    rw [hstar] at this
    cases this
  | false =>
    have hnb : nameB rs = false := by
      have := hc
      unfold callB at this
      rw [hstar] at this
      exact this
    clear hc
    go_enter Tryz.func114, Tryz.ntmps114
    go_wp2_with (go_at_call 44; refine (specName_any rs _ (by unfold maxLen; omega)).mono ?_; rintro e w1 ⟨rfl, e1⟩; have e2 := e1.symm; subst e2)
    go_ret2
    exact ⟨.slice (some ⟨b, 0, none⟩) (n + 1) cap, M ++ [g], rfl, HG.out, rfl, Fr.refl _ _ _⟩
set_option maxRecDepth 100000 in
set_option maxHeartbeats 3200000 in
theorem skipM_let (base base2 n : Nat) (v : Value) (M : List Gr) (g : Gr) (bg : Bool) (wd rs : ByteArray) (w : World)
    (hn : M.length = n) (h : GsOwn w base base2 v (M ++ [g])) (hl : n ≤ 1000) (_hr : rs.size ≤ 4194304) (_hcall : (wd.toList == [99, 97, 108, 108, 101, 114]) = false) (_hlet : (wd.toList == [108, 101, 116]) = true) (_hbar : (wd.toList == [98, 97, 114]) = false) (_hwait : (wd.toList == [119, 97, 105, 116]) = false) (hc : ruleL rs.data.toList = false) :
    Calls Tryz.prog 114 #[v, .string wd, .string rs, .bool bg] w fun e w' => Read base base2 w ⟨(M ++ [g]).map grp, bg⟩ e w' := by
  obtain ⟨b, cap, hv, hbb1, hblt, f0, c0, c1, c2⟩ := h.last
  rw [hn] at hv c0 c1 c2
  subst hv
  have HG : Hid (GsOwn w base base2 (.slice (some ⟨b, 0, none⟩) (n + 1) cap) (M ++ [g])) := h
  have hI := OwnsR.rowsOf h.1
  have hc1 : n + 1 ≤ cap := by have := hI.1; rw [List.length_append, hn] at this; exact this
  have hc2 := hI.2.1
  unfold maxLen at hc2
  have HN : Hid (M.length = n) := hn
  clear h hI hn
  have hw3 : IntKind.i64.wrap (n : Int) = (n : Int) := IntWalk.i64_in _ (by omega)
  have hn0 : (0 : Int) ≤ (n : Int) := by omega
  have hn1 : (n : Int) ≤ (cap : Int) := by omega
  have hnl : decide ((n : Int) < 0) = false := decide_eq_false (by omega)
  have HRU : Hid (∀ W : World, Calls Tryz.prog 144 #[.string rs] W fun e w' => e = .returned (.bool (ruleL rs.data.toList)) ∧ w' = W) := fun W => specRule_any rs W (by unfold maxLen; omega)
  generalize ruleL rs.data.toList = R at *
  subst hc
  go_enter Tryz.func114, Tryz.ntmps114
  go_wp2_with (go_at_call 144; refine (HRU.out _).mono ?_; rintro e w1 ⟨rfl, e1⟩; have e2 := e1.symm; subst e2)
  go_ret2
  exact ⟨.slice (some ⟨b, 0, none⟩) (n + 1) cap, M ++ [g], rfl, HG.out, rfl, Fr.refl _ _ _⟩
set_option maxRecDepth 100000 in
set_option maxHeartbeats 3200000 in
theorem full_let (base base2 n : Nat) (v : Value) (M : List Gr) (g : Gr) (bg : Bool) (wd rs : ByteArray) (w : World)
    (hn : M.length = n) (h : GsOwn w base base2 v (M ++ [g])) (hl : n ≤ 1000) (_hr : rs.size ≤ 4194304) (_hcall : (wd.toList == [99, 97, 108, 108, 101, 114]) = false) (_hlet : (wd.toList == [108, 101, 116]) = true) (_hbar : (wd.toList == [98, 97, 114]) = false) (_hwait : (wd.toList == [119, 97, 105, 116]) = false) (hc : ruleL rs.data.toList = true) (h6 : 6 ≤ g.ru.length) :
    Calls Tryz.prog 114 #[v, .string wd, .string rs, .bool bg] w fun e w' => Read base base2 w ⟨(M ++ [g]).map grp, bg⟩ e w' := by
  obtain ⟨b, cap, hv, hbb1, hblt, f0, c0, c1, c2⟩ := h.last
  rw [hn] at hv c0 c1 c2
  subst hv
  have HG : Hid (GsOwn w base base2 (.slice (some ⟨b, 0, none⟩) (n + 1) cap) (M ++ [g])) := h
  have hI := OwnsR.rowsOf h.1
  have hc1 : n + 1 ≤ cap := by have := hI.1; rw [List.length_append, hn] at this; exact this
  have hc2 := hI.2.1
  unfold maxLen at hc2
  have HN : Hid (M.length = n) := hn
  clear h hI hn
  have hw3 : IntKind.i64.wrap (n : Int) = (n : Int) := IntWalk.i64_in _ (by omega)
  have hn0 : (0 : Int) ≤ (n : Int) := by omega
  have hn1 : (n : Int) ≤ (cap : Int) := by omega
  have hnl : decide ((n : Int) < 0) = false := decide_eq_false (by omega)
  have HRU : Hid (∀ W : World, Calls Tryz.prog 144 #[.string rs] W fun e w' => e = .returned (.bool (ruleL rs.data.toList)) ∧ w' = W) := fun W => specRule_any rs W (by unfold maxLen; omega)
  generalize ruleL rs.data.toList = R at *
  subst hc
  go_enter Tryz.func114, Tryz.ntmps114
  go_wp2_with (go_at_call 144; refine (HRU.out _).mono ?_; rintro e w1 ⟨rfl, e1⟩; have e2 := e1.symm; subst e2)
  go_ret2
  exact ⟨.slice (some ⟨b, 0, none⟩) (n + 1) cap, M ++ [g], rfl, HG.out, rfl, Fr.refl _ _ _⟩
set_option maxRecDepth 100000 in
set_option maxHeartbeats 3200000 in
theorem skipM_bar (base base2 n : Nat) (v : Value) (M : List Gr) (g : Gr) (bg : Bool) (wd rs : ByteArray) (w : World)
    (hn : M.length = n) (h : GsOwn w base base2 v (M ++ [g])) (hl : n ≤ 1000) (_hr : rs.size ≤ 4194304) (_hcall : (wd.toList == [99, 97, 108, 108, 101, 114]) = false) (_hlet : (wd.toList == [108, 101, 116]) = false) (_hbar : (wd.toList == [98, 97, 114]) = true) (_hwait : (wd.toList == [119, 97, 105, 116]) = false) (hc : ruleL rs.data.toList = false) :
    Calls Tryz.prog 114 #[v, .string wd, .string rs, .bool bg] w fun e w' => Read base base2 w ⟨(M ++ [g]).map grp, bg⟩ e w' := by
  obtain ⟨b, cap, hv, hbb1, hblt, f0, c0, c1, c2⟩ := h.last
  rw [hn] at hv c0 c1 c2
  subst hv
  have HG : Hid (GsOwn w base base2 (.slice (some ⟨b, 0, none⟩) (n + 1) cap) (M ++ [g])) := h
  have hI := OwnsR.rowsOf h.1
  have hc1 : n + 1 ≤ cap := by have := hI.1; rw [List.length_append, hn] at this; exact this
  have hc2 := hI.2.1
  unfold maxLen at hc2
  have HN : Hid (M.length = n) := hn
  clear h hI hn
  have hw3 : IntKind.i64.wrap (n : Int) = (n : Int) := IntWalk.i64_in _ (by omega)
  have hn0 : (0 : Int) ≤ (n : Int) := by omega
  have hn1 : (n : Int) ≤ (cap : Int) := by omega
  have hnl : decide ((n : Int) < 0) = false := decide_eq_false (by omega)
  have HRU : Hid (∀ W : World, Calls Tryz.prog 144 #[.string rs] W fun e w' => e = .returned (.bool (ruleL rs.data.toList)) ∧ w' = W) := fun W => specRule_any rs W (by unfold maxLen; omega)
  generalize ruleL rs.data.toList = R at *
  subst hc
  go_enter Tryz.func114, Tryz.ntmps114
  go_wp2_with (go_at_call 144; refine (HRU.out _).mono ?_; rintro e w1 ⟨rfl, e1⟩; have e2 := e1.symm; subst e2)
  go_ret2
  exact ⟨.slice (some ⟨b, 0, none⟩) (n + 1) cap, M ++ [g], rfl, HG.out, rfl, Fr.refl _ _ _⟩
set_option maxRecDepth 100000 in
set_option maxHeartbeats 3200000 in
theorem full_bar (base base2 n : Nat) (v : Value) (M : List Gr) (g : Gr) (bg : Bool) (wd rs : ByteArray) (w : World)
    (hn : M.length = n) (h : GsOwn w base base2 v (M ++ [g])) (hl : n ≤ 1000) (_hr : rs.size ≤ 4194304) (_hcall : (wd.toList == [99, 97, 108, 108, 101, 114]) = false) (_hlet : (wd.toList == [108, 101, 116]) = false) (_hbar : (wd.toList == [98, 97, 114]) = true) (_hwait : (wd.toList == [119, 97, 105, 116]) = false) (hc : ruleL rs.data.toList = true) (h6 : 6 ≤ g.ru.length) :
    Calls Tryz.prog 114 #[v, .string wd, .string rs, .bool bg] w fun e w' => Read base base2 w ⟨(M ++ [g]).map grp, bg⟩ e w' := by
  obtain ⟨b, cap, hv, hbb1, hblt, f0, c0, c1, c2⟩ := h.last
  rw [hn] at hv c0 c1 c2
  subst hv
  have HG : Hid (GsOwn w base base2 (.slice (some ⟨b, 0, none⟩) (n + 1) cap) (M ++ [g])) := h
  have hI := OwnsR.rowsOf h.1
  have hc1 : n + 1 ≤ cap := by have := hI.1; rw [List.length_append, hn] at this; exact this
  have hc2 := hI.2.1
  unfold maxLen at hc2
  have HN : Hid (M.length = n) := hn
  clear h hI hn
  have hw3 : IntKind.i64.wrap (n : Int) = (n : Int) := IntWalk.i64_in _ (by omega)
  have hn0 : (0 : Int) ≤ (n : Int) := by omega
  have hn1 : (n : Int) ≤ (cap : Int) := by omega
  have hnl : decide ((n : Int) < 0) = false := decide_eq_false (by omega)
  have HRU : Hid (∀ W : World, Calls Tryz.prog 144 #[.string rs] W fun e w' => e = .returned (.bool (ruleL rs.data.toList)) ∧ w' = W) := fun W => specRule_any rs W (by unfold maxLen; omega)
  generalize ruleL rs.data.toList = R at *
  subst hc
  go_enter Tryz.func114, Tryz.ntmps114
  go_wp2_with (go_at_call 144; refine (HRU.out _).mono ?_; rintro e w1 ⟨rfl, e1⟩; have e2 := e1.symm; subst e2)
  go_ret2
  exact ⟨.slice (some ⟨b, 0, none⟩) (n + 1) cap, M ++ [g], rfl, HG.out, rfl, Fr.refl _ _ _⟩
set_option maxRecDepth 100000 in
set_option maxHeartbeats 3200000 in
theorem skipM_none (base base2 n : Nat) (v : Value) (M : List Gr) (g : Gr) (bg : Bool) (wd rs : ByteArray) (w : World)
    (hn : M.length = n) (h : GsOwn w base base2 v (M ++ [g])) (hl : n ≤ 1000) (_hr : rs.size ≤ 4194304) (_hcall : (wd.toList == [99, 97, 108, 108, 101, 114]) = false) (_hlet : (wd.toList == [108, 101, 116]) = false) (_hbar : (wd.toList == [98, 97, 114]) = false) (_hwait : (wd.toList == [119, 97, 105, 116]) = false)  :
    Calls Tryz.prog 114 #[v, .string wd, .string rs, .bool bg] w fun e w' => Read base base2 w ⟨(M ++ [g]).map grp, bg⟩ e w' := by
  obtain ⟨b, cap, hv, hbb1, hblt, f0, c0, c1, c2⟩ := h.last
  rw [hn] at hv c0 c1 c2
  subst hv
  have HG : Hid (GsOwn w base base2 (.slice (some ⟨b, 0, none⟩) (n + 1) cap) (M ++ [g])) := h
  have hI := OwnsR.rowsOf h.1
  have hc1 : n + 1 ≤ cap := by have := hI.1; rw [List.length_append, hn] at this; exact this
  have hc2 := hI.2.1
  unfold maxLen at hc2
  have HN : Hid (M.length = n) := hn
  clear h hI hn
  have hw3 : IntKind.i64.wrap (n : Int) = (n : Int) := IntWalk.i64_in _ (by omega)
  have hn0 : (0 : Int) ≤ (n : Int) := by omega
  have hn1 : (n : Int) ≤ (cap : Int) := by omega
  have hnl : decide ((n : Int) < 0) = false := decide_eq_false (by omega)
  go_enter Tryz.func114, Tryz.ntmps114
  go_wp2
  go_ret2
  exact ⟨.slice (some ⟨b, 0, none⟩) (n + 1) cap, M ++ [g], rfl, HG.out, rfl, Fr.refl _ _ _⟩
set_option maxRecDepth 100000 in
set_option maxHeartbeats 3200000 in
theorem line_wait (base base2 n : Nat) (v : Value) (M : List Gr) (g : Gr) (bg : Bool) (wd rs : ByteArray) (w : World)
    (hn : M.length = n) (h : GsOwn w base base2 v (M ++ [g])) (hbb : base ≤ base2) (hb2 : base2 ≤ w.heap.size) (hl : n ≤ 1000) (_hr : rs.size ≤ 4194304) (_hcall : (wd.toList == [99, 97, 108, 108, 101, 114]) = false) (_hlet : (wd.toList == [108, 101, 116]) = false) (_hbar : (wd.toList == [98, 97, 114]) = false) (_hwait : (wd.toList == [119, 97, 105, 116]) = true)  :
    Calls Tryz.prog 114 #[v, .string wd, .string rs, .bool bg] w fun e w' => Read base base2 w ⟨M.map grp ++ [(g.nm, g.ru, (numF rs.data.toList : Int))], true⟩ e w' := by
  obtain ⟨b, cap, hv, hbb1, hblt, f0, c0, c1, c2⟩ := h.last
  rw [hn] at hv c0 c1 c2
  subst hv
  have HG : Hid (GsOwn w base base2 (.slice (some ⟨b, 0, none⟩) (n + 1) cap) (M ++ [g])) := h
  have hI := OwnsR.rowsOf h.1
  have hc1 : n + 1 ≤ cap := by have := hI.1; rw [List.length_append, hn] at this; exact this
  have hc2 := hI.2.1
  unfold maxLen at hc2
  have HN : Hid (M.length = n) := hn
  clear h hI hn
  have hw3 : IntKind.i64.wrap (n : Int) = (n : Int) := IntWalk.i64_in _ (by omega)
  have hn0 : (0 : Int) ≤ (n : Int) := by omega
  have hn1 : (n : Int) ≤ (cap : Int) := by omega
  have hnl : decide ((n : Int) < 0) = false := decide_eq_false (by omega)
  have hW := HG.out
  have H9 : Hid (GsOwn (w.setCell ⟨b, n * 3 + 2, none⟩ (.int .i64 (numF rs.data.toList : Int))) base base2 (.slice (some ⟨b, 0, none⟩) (n + 1) cap) (M ++ [{ g with wait := (numF rs.data.toList : Int) }])) := by
    have := GsOwn.wait (M := M) (numF rs.data.toList : Int) (by rw [HN.out]; exact hW)
    rw [HN.out] at this; exact this
  have HF9 : Hid (Fr base base2 w (w.setCell ⟨b, n * 3 + 2, none⟩ (.int .i64 (numF rs.data.toList : Int)))) := Fr.set hW.1 (by omega)
  have HNM : Hid (∀ W : World, Calls Tryz.prog 145 #[.string rs, .int .i64 20] W fun e w' => e = .returned (.int .i64 (numF rs.data.toList : Int)) ∧ w' = W) := fun W => specNum_any rs W (by omega)
  clear hW
  generalize numF rs.data.toList = q at *
  go_enter Tryz.func114, Tryz.ntmps114
  go_wp2_with (go_at_call 145; refine (HNM.out _).mono ?_; rintro e w1 ⟨rfl, e1⟩; have e2 := e1.symm; subst e2)
  go_ret2
  exact ⟨.slice (some ⟨b, 0, none⟩) (n + 1) cap, M ++ [{ g with wait := (q : Int) }], rfl, H9.out, by rw [List.map_append]; rfl, HF9.out⟩
set_option maxRecDepth 100000 in
set_option maxHeartbeats 3200000 in
theorem line_let (base base2 n : Nat) (v : Value) (M : List Gr) (g : Gr) (bg : Bool) (wd rs : ByteArray) (w : World)
    (hn : M.length = n) (h : GsOwn w base base2 v (M ++ [g])) (hbb : base ≤ base2) (hb2 : base2 ≤ w.heap.size) (hl : n ≤ 1000) (_hr : rs.size ≤ 4194304) (_hcall : (wd.toList == [99, 97, 108, 108, 101, 114]) = false) (_hlet : (wd.toList == [108, 101, 116]) = true) (_hbar : (wd.toList == [98, 97, 114]) = false) (_hwait : (wd.toList == [119, 97, 105, 116]) = false) (hc : ruleL rs.data.toList = true) (h6 : g.ru.length < 6) :
    Calls Tryz.prog 114 #[v, .string wd, .string rs, .bool bg] w fun e w' => Read base base2 w ⟨M.map grp ++ [(g.nm, g.ru ++ [⟨true, rs⟩], g.wait)], true⟩ e w' := by
  obtain ⟨i9, hi9, hz90, hz91, hz92⟩ := info_rule
  obtain ⟨b, cap, hv, hbb1, hblt, f0, c0, c1, c2⟩ := h.last
  rw [hn] at hv c0 c1 c2
  subst hv
  have HG : Hid (GsOwn w base base2 (.slice (some ⟨b, 0, none⟩) (n + 1) cap) (M ++ [g])) := h
  have hI := OwnsR.rowsOf h.1
  have hc1 : n + 1 ≤ cap := by have := hI.1; rw [List.length_append, hn] at this; exact this
  have hc2 := hI.2.1
  unfold maxLen at hc2
  have HN : Hid (M.length = n) := hn
  clear h hI hn
  have hw3 : IntKind.i64.wrap (n : Int) = (n : Int) := IntWalk.i64_in _ (by omega)
  have hn0 : (0 : Int) ≤ (n : Int) := by omega
  have hn1 : (n : Int) ≤ (cap : Int) := by omega
  have hnl : decide ((n : Int) < 0) = false := decide_eq_false (by omega)
  have HRU : Hid (∀ W : World, Calls Tryz.prog 144 #[.string rs] W fun e w' => e = .returned (.bool (ruleL rs.data.toList)) ∧ w' = W) := fun W => specRule_any rs W (by unfold maxLen; omega)
  have HA : Hid (GsOwn (w.alloc (.cells #[.bool true, .string rs] 81)) base base2 (.slice (some ⟨b, 0, none⟩) (n + 1) cap) (M ++ [g])) := HG.out.alloc _
  have HNO : Hid (OwnsR FRu 81 (w.alloc (.cells #[.bool true, .string rs] 81)) base2 (.slice g.ra g.ru.length g.rc) g.ru) := (HA.out.2.1 g (by simp)).2
  have HX2 : Hid (∀ j u, (FRu.enc ⟨true, rs⟩)[j]? = some u → (w.alloc (.cells #[.bool true, .string rs] 81)).cell? ((⟨w.heap.size, 0, none⟩ : Addr).add j) = some u) := cell_two_new w _ _ _
  have HFA : Hid (Fr base base2 w (w.alloc (.cells #[.bool true, .string rs] 81))) := Fr.alloc base base2 w _ (by omega) hb2
  generalize ruleL rs.data.toList = R at *
  subst hc
  go_enter Tryz.func114, Tryz.ntmps114
  go_wp2_with (first | (go_at_call 144; refine (HRU.out _).mono ?_; rintro e w1 ⟨rfl, e1⟩; have e2 := e1.symm; subst e2) | (at_builtin; refine wpList_append_lies _ rfl _ _ 27 rfl base2 81 i9 (.agg #[.bool false, .string ⟨#[]⟩]) 2 24 Tryz.underlying27 hi9 hz90 hz91 hz92 rfl (by decide) _ _ _ rfl HNO.out ⟨w.heap.size, 0, none⟩ 1 1 (FRu.enc ⟨true, rs⟩) rfl rfl HX2.out (FRu.one ⟨true, rs⟩) (by omega) ?c3 ?c4 ?c5 (w.heap.size + 1) ?c6 ?_))
  case c3 => unfold maxLen; omega
  case c4 => omega
  case c5 => simp; omega
  case c6 => simp
  intro g1 k1 w8 hown8 hgrow8 hat8 hlt8
  have hr8 := HA.out.row2 hgrow8
  have H9 : Hid (GsOwn (w8.setCell ⟨b, M.length * 3 + 1, none⟩ (.slice (some ⟨g1, 0, none⟩) (g.ru.length + 1) k1)) base base2 (.slice (some ⟨b, 0, none⟩) (M.length + 1) cap) (M ++ [{ g with ru := g.ru ++ [⟨true, rs⟩], ra := some ⟨g1, 0, none⟩, rc := k1 }])) := GsOwn.rule (by rw [HN.out]; exact HA.out) hown8 hgrow8 hat8 (by simp)
  have HF8 : Hid (Fr base base2 w (w8.setCell ⟨b, M.length * 3 + 1, none⟩ (.slice (some ⟨g1, 0, none⟩) (g.ru.length + 1) k1))) := (HFA.out.trans (Fr.far hgrow8 (by simp; omega) (fun k hk => by have := OwnsR.block HNO.out k hk; omega))).trans (Fr.set hr8 (by have := hgrow8.size; simp at this; omega))
  have hl8 := row_last hr8
  rw [HN.out] at hl8 H9 HF8
  obtain ⟨f8, _, p1, _⟩ := hl8
  clear hown8 hgrow8 hat8 hr8 f0 c0 c1 c2
  go_wp2
  go_ret2
  exact ⟨.slice (some ⟨b, 0, none⟩) (n + 1) cap, M ++ [{ g with ru := g.ru ++ [⟨true, rs⟩], ra := some ⟨g1, 0, none⟩, rc := k1 }], rfl, H9.out, by rw [List.map_append]; rfl, HF8.out⟩
set_option maxRecDepth 100000 in
set_option maxHeartbeats 3200000 in
theorem line_bar (base base2 n : Nat) (v : Value) (M : List Gr) (g : Gr) (bg : Bool) (wd rs : ByteArray) (w : World)
    (hn : M.length = n) (h : GsOwn w base base2 v (M ++ [g])) (hbb : base ≤ base2) (hb2 : base2 ≤ w.heap.size) (hl : n ≤ 1000) (_hr : rs.size ≤ 4194304) (_hcall : (wd.toList == [99, 97, 108, 108, 101, 114]) = false) (_hlet : (wd.toList == [108, 101, 116]) = false) (_hbar : (wd.toList == [98, 97, 114]) = true) (_hwait : (wd.toList == [119, 97, 105, 116]) = false) (hc : ruleL rs.data.toList = true) (h6 : g.ru.length < 6) :
    Calls Tryz.prog 114 #[v, .string wd, .string rs, .bool bg] w fun e w' => Read base base2 w ⟨M.map grp ++ [(g.nm, g.ru ++ [⟨false, rs⟩], g.wait)], true⟩ e w' := by
  obtain ⟨i9, hi9, hz90, hz91, hz92⟩ := info_rule
  obtain ⟨b, cap, hv, hbb1, hblt, f0, c0, c1, c2⟩ := h.last
  rw [hn] at hv c0 c1 c2
  subst hv
  have HG : Hid (GsOwn w base base2 (.slice (some ⟨b, 0, none⟩) (n + 1) cap) (M ++ [g])) := h
  have hI := OwnsR.rowsOf h.1
  have hc1 : n + 1 ≤ cap := by have := hI.1; rw [List.length_append, hn] at this; exact this
  have hc2 := hI.2.1
  unfold maxLen at hc2
  have HN : Hid (M.length = n) := hn
  clear h hI hn
  have hw3 : IntKind.i64.wrap (n : Int) = (n : Int) := IntWalk.i64_in _ (by omega)
  have hn0 : (0 : Int) ≤ (n : Int) := by omega
  have hn1 : (n : Int) ≤ (cap : Int) := by omega
  have hnl : decide ((n : Int) < 0) = false := decide_eq_false (by omega)
  have HRU : Hid (∀ W : World, Calls Tryz.prog 144 #[.string rs] W fun e w' => e = .returned (.bool (ruleL rs.data.toList)) ∧ w' = W) := fun W => specRule_any rs W (by unfold maxLen; omega)
  have HA : Hid (GsOwn (w.alloc (.cells #[.bool false, .string rs] 81)) base base2 (.slice (some ⟨b, 0, none⟩) (n + 1) cap) (M ++ [g])) := HG.out.alloc _
  have HNO : Hid (OwnsR FRu 81 (w.alloc (.cells #[.bool false, .string rs] 81)) base2 (.slice g.ra g.ru.length g.rc) g.ru) := (HA.out.2.1 g (by simp)).2
  have HX2 : Hid (∀ j u, (FRu.enc ⟨false, rs⟩)[j]? = some u → (w.alloc (.cells #[.bool false, .string rs] 81)).cell? ((⟨w.heap.size, 0, none⟩ : Addr).add j) = some u) := cell_two_new w _ _ _
  have HFA : Hid (Fr base base2 w (w.alloc (.cells #[.bool false, .string rs] 81))) := Fr.alloc base base2 w _ (by omega) hb2
  generalize ruleL rs.data.toList = R at *
  subst hc
  go_enter Tryz.func114, Tryz.ntmps114
  go_wp2_with (first | (go_at_call 144; refine (HRU.out _).mono ?_; rintro e w1 ⟨rfl, e1⟩; have e2 := e1.symm; subst e2) | (at_builtin; refine wpList_append_lies _ rfl _ _ 27 rfl base2 81 i9 (.agg #[.bool false, .string ⟨#[]⟩]) 2 24 Tryz.underlying27 hi9 hz90 hz91 hz92 rfl (by decide) _ _ _ rfl HNO.out ⟨w.heap.size, 0, none⟩ 1 1 (FRu.enc ⟨false, rs⟩) rfl rfl HX2.out (FRu.one ⟨false, rs⟩) (by omega) ?c3 ?c4 ?c5 (w.heap.size + 1) ?c6 ?_))
  case c3 => unfold maxLen; omega
  case c4 => omega
  case c5 => simp; omega
  case c6 => simp
  intro g1 k1 w8 hown8 hgrow8 hat8 hlt8
  have hr8 := HA.out.row2 hgrow8
  have H9 : Hid (GsOwn (w8.setCell ⟨b, M.length * 3 + 1, none⟩ (.slice (some ⟨g1, 0, none⟩) (g.ru.length + 1) k1)) base base2 (.slice (some ⟨b, 0, none⟩) (M.length + 1) cap) (M ++ [{ g with ru := g.ru ++ [⟨false, rs⟩], ra := some ⟨g1, 0, none⟩, rc := k1 }])) := GsOwn.rule (by rw [HN.out]; exact HA.out) hown8 hgrow8 hat8 (by simp)
  have HF8 : Hid (Fr base base2 w (w8.setCell ⟨b, M.length * 3 + 1, none⟩ (.slice (some ⟨g1, 0, none⟩) (g.ru.length + 1) k1))) := (HFA.out.trans (Fr.far hgrow8 (by simp; omega) (fun k hk => by have := OwnsR.block HNO.out k hk; omega))).trans (Fr.set hr8 (by have := hgrow8.size; simp at this; omega))
  have hl8 := row_last hr8
  rw [HN.out] at hl8 H9 HF8
  obtain ⟨f8, _, p1, _⟩ := hl8
  clear hown8 hgrow8 hat8 hr8 f0 c0 c1 c2
  go_wp2
  go_ret2
  exact ⟨.slice (some ⟨b, 0, none⟩) (n + 1) cap, M ++ [{ g with ru := g.ru ++ [⟨false, rs⟩], ra := some ⟨g1, 0, none⟩, rc := k1 }], rfl, H9.out, by rw [List.map_append]; rfl, HF8.out⟩
end Go.Proofs.YtmgcdfmgmpnonaaGreatDoor.NrS
/- A notice is read: of the model, whole. -/
namespace Go.Proofs.YtmgcdfmgmpnonaaGreatDoor.NrS
open Go.RowKit Go.Proofs.YtmgcdfmgmpnonaaGreatDoor.EscM Go.Proofs.YtmgcdfmgmpnonaaGreatDoor.EscL Go.Proofs.YtmgcdfmgmpnonaaGreatDoor.RuleM Go.Proofs.YtmgcdfmgmpnonaaGreatDoor.Ru1 Go.Proofs.YtmgcdfmgmpnonaaGreatDoor.ReadM Go.Proofs.YtmgcdfmgmpnonaaGreatDoor.Rd1 Go.Proofs.YtmgcdfmgmpnonaaGreatDoor.St Go.Proofs.YtmgcdfmgmpnonaaGreatDoor.RR Go.Proofs.YtmgcdfmgmpnonaaGreatDoor.LetM Go.Proofs.YtmgcdfmgmpnonaaGreatDoor.Nm Go.Proofs.YtmgcdfmgmpnonaaGreatDoor.GrM Go.Proofs.YtmgcdfmgmpnonaaGreatDoor.Dr Go.Proofs.YtmgcdfmgmpnonaaGreatDoor.NrM Go.Proofs.YtmgcdfmgmpnonaaGreatDoor.NrW

theorem word_is (s : ByteArray) (l m : List UInt8) (h : s.data.toList = l) (hm : l = m) : (s.toList == m) = true := by rw [wd_iff]; exact decide_eq_true (h.trans hm)
theorem word_not (s : ByteArray) (m : List UInt8) (h : s.data.toList ≠ m) : (s.toList == m) = false := by rw [wd_iff]; exact decide_eq_false h
theorem says_c {wd rs : ByteArray} (h : wd.data.toList = wCall) (hc : callB rs = true) : saysF wd rs = some (.c rs) := by unfold saysF; rw [if_pos ⟨h, hc⟩]
theorem says_cn {wd rs : ByteArray} (h : wd.data.toList = wCall) (hc : callB rs = false) : saysF wd rs = none := by
  unfold saysF
  rw [if_neg (fun e => by rw [hc] at e; exact absurd e.2 (by decide)), if_neg (fun e => by rw [h] at e; exact absurd e.1 (by decide)), if_neg (fun e => by rw [h] at e; exact absurd e.1 (by decide)), if_neg (fun e => by rw [h] at e; exact absurd e (by decide))]
theorem says_l {wd rs : ByteArray} (h : wd.data.toList = wLet) : saysF wd rs = if ruleL rs.data.toList = true then some (.r ⟨true, rs⟩) else none := by
  unfold saysF
  rw [if_neg (fun e => by rw [h] at e; exact absurd e.1 (by decide))]
  by_cases hr : ruleL rs.data.toList = true
  · rw [if_pos ⟨h, hr⟩, if_pos hr]
  · rw [if_neg (fun e => hr e.2), if_neg (fun e => hr e.2), if_neg (fun e => by rw [h] at e; exact absurd e (by decide)), if_neg hr]
theorem says_b {wd rs : ByteArray} (h : wd.data.toList = wBar) : saysF wd rs = if ruleL rs.data.toList = true then some (.r ⟨false, rs⟩) else none := by
  unfold saysF
  rw [if_neg (fun e => by rw [h] at e; exact absurd e.1 (by decide)), if_neg (fun e => by rw [h] at e; exact absurd e.1 (by decide))]
  by_cases hr : ruleL rs.data.toList = true
  · rw [if_pos ⟨h, hr⟩, if_pos hr]
  · rw [if_neg (fun e => hr e.2), if_neg (fun e => by rw [h] at e; exact absurd e (by decide)), if_neg hr]
theorem says_w {wd rs : ByteArray} (h : wd.data.toList = wWait) : saysF wd rs = some (.t (numF rs.data.toList)) := by
  unfold saysF
  rw [if_neg (fun e => by rw [h] at e; exact absurd e.1 (by decide)), if_neg (fun e => by rw [h] at e; exact absurd e.1 (by decide)), if_neg (fun e => by rw [h] at e; exact absurd e.1 (by decide)), if_pos h]
theorem says_no {wd rs : ByteArray} (h1 : wd.data.toList ≠ wCall) (h2 : wd.data.toList ≠ wLet) (h3 : wd.data.toList ≠ wBar) (h4 : wd.data.toList ≠ wWait) : saysF wd rs = none := by
  unfold saysF
  rw [if_neg (fun e => h1 e.1), if_neg (fun e => h2 e.1), if_neg (fun e => h3 e.1), if_neg h4]
theorem step_nil {wd rs : ByteArray} {bg : Bool} (h : wd.data.toList ≠ wCall) : stepF ⟨[], bg⟩ (saysF wd rs) = ⟨[], bg⟩ := by
  by_cases h2 : wd.data.toList = wLet
  · rw [says_l h2]; split <;> rfl
  by_cases h3 : wd.data.toList = wBar
  · rw [says_b h3]; split <;> rfl
  by_cases h4 : wd.data.toList = wWait
  · rw [says_w h4]; rfl
  · rw [says_no h h2 h3 h4]; rfl

theorem specLine_any (base base2 : Nat) (v : Value) (L : List Gr) (bg : Bool) (wd rs : ByteArray) (w : World) (h : GsOwn w base base2 v L) (hok : NrOk ⟨L.map grp, bg⟩) (hsz : NrSz ⟨L.map grp, bg⟩ 1000) (hbb : base ≤ base2) (hb2 : base2 ≤ w.heap.size) (hr : rs.size ≤ 4194304) :
    Calls Tryz.prog 114 #[v, .string wd, .string rs, .bool bg] w fun e w' => Read base base2 w (stepF ⟨L.map grp, bg⟩ (saysF wd rs)) e w' := by
  rcases List.eq_nil_or_concat L with rfl | ⟨M, g, e⟩
  · by_cases h1 : wd.data.toList = wCall
    · cases hc : callB rs with
      | true =>
        rw [says_c h1 hc]
        show Calls _ _ _ _ fun e w' => Read base base2 w (addF ⟨[], bg⟩ (.c rs)) e w'
        rw [add_c, if_pos (Or.inl rfl)]
        cases bg with
        | true => exact line_new base base2 v [] wd rs w h (by omega) hb2 (by simp) hr (word_is _ _ _ h1 rfl) hc
        | false => exact line_new0 base base2 v wd rs w h (by omega) hb2 hr (word_is _ _ _ h1 rfl) hc
      | false =>
        rw [says_cn h1 hc]
        exact skip0_call base base2 v bg wd rs w h hr (word_is _ _ _ h1 rfl) hc
    · rw [show (⟨List.map grp [], bg⟩ : Nr) = ⟨[], bg⟩ from rfl, step_nil h1]
      exact skip0_other base base2 v bg wd rs w h hr (word_not _ _ h1)
  · rw [List.concat_eq_append] at e
    subst e
    have hMl : M.length ≤ 1000 := by have := hsz.1; simp at this; omega
    have hgs := hsz.2 (grp g) (by simp)
    have hnm : g.nm.length ≤ 1000 := hgs.1
    have hS : ∀ S : Nr, S = ⟨(M ++ [g]).map grp, bg⟩ → S.gs ≠ [] := by rintro S rfl; exact map_ne M g
    by_cases h1 : wd.data.toList = wCall
    · cases hc : callB rs with
      | true =>
        rw [says_c h1 hc]
        show Calls _ _ _ _ fun e w' => Read base base2 w (addF ⟨(M ++ [g]).map grp, bg⟩ (.c rs)) e w'
        rw [add_c]
        cases bg with
        | true =>
          rw [if_pos (Or.inr rfl)]
          exact line_new base base2 v (M ++ [g]) wd rs w h (by omega) hb2 (by simp; have := hsz.1; simp at this; omega) hr (word_is _ _ _ h1 rfl) hc
        | false =>
          rw [if_neg (fun e => by rcases e with e | e; exact map_ne M g e; cases e)]
          dsimp only
          rw [map_last, map_drop]
          exact line_name base base2 M.length v M g wd rs w rfl h hbb hb2 hMl hnm hr (word_is _ _ _ h1 rfl) hc
      | false =>
        rw [says_cn h1 hc]
        exact skipM_call base base2 M.length v M g bg wd rs w rfl h hMl hr (word_is _ _ _ h1 rfl) (word_not _ _ (by rw [h1]; decide)) (word_not _ _ (by rw [h1]; decide)) (word_not _ _ (by rw [h1]; decide)) hc
    · by_cases h2 : wd.data.toList = wLet
      · rw [says_l h2]
        cases hc : ruleL rs.data.toList with
        | true =>
          rw [if_pos rfl]
          show Calls _ _ _ _ fun e w' => Read base base2 w (addF ⟨(M ++ [g]).map grp, bg⟩ (.r ⟨true, rs⟩)) e w'
          rw [add_r, if_neg (map_ne M g)]
          dsimp only
          rw [map_last, map_drop]
          by_cases h6 : g.ru.length < 6
          · rw [if_pos (show (grp g).2.1.length < 6 from h6)]
            exact line_let base base2 M.length v M g bg wd rs w rfl h hbb hb2 hMl hr (word_not _ _ h1) (word_is _ _ _ h2 rfl) (word_not _ _ (by rw [h2]; decide)) (word_not _ _ (by rw [h2]; decide)) hc h6
          · rw [if_neg (show ¬ (grp g).2.1.length < 6 from h6)]
            have hb : bg = true := hok.2 (by dsimp only; rw [map_last]; intro e; have e' : g.ru = [] := e; rw [e'] at h6; simp at h6)
            subst hb
            exact full_let base base2 M.length v M g true wd rs w rfl h hMl hr (word_not _ _ h1) (word_is _ _ _ h2 rfl) (word_not _ _ (by rw [h2]; decide)) (word_not _ _ (by rw [h2]; decide)) hc (by omega)
        | false =>
          rw [if_neg (by decide)]
          exact skipM_let base base2 M.length v M g bg wd rs w rfl h hMl hr (word_not _ _ h1) (word_is _ _ _ h2 rfl) (word_not _ _ (by rw [h2]; decide)) (word_not _ _ (by rw [h2]; decide)) hc
      · by_cases h3 : wd.data.toList = wBar
        · rw [says_b h3]
          cases hc : ruleL rs.data.toList with
          | true =>
            rw [if_pos rfl]
            show Calls _ _ _ _ fun e w' => Read base base2 w (addF ⟨(M ++ [g]).map grp, bg⟩ (.r ⟨false, rs⟩)) e w'
            rw [add_r, if_neg (map_ne M g)]
            dsimp only
            rw [map_last, map_drop]
            by_cases h6 : g.ru.length < 6
            · rw [if_pos (show (grp g).2.1.length < 6 from h6)]
              exact line_bar base base2 M.length v M g bg wd rs w rfl h hbb hb2 hMl hr (word_not _ _ h1) (word_not _ _ h2) (word_is _ _ _ h3 rfl) (word_not _ _ (by rw [h3]; decide)) hc h6
            · rw [if_neg (show ¬ (grp g).2.1.length < 6 from h6)]
              have hb : bg = true := hok.2 (by dsimp only; rw [map_last]; intro e; have e' : g.ru = [] := e; rw [e'] at h6; simp at h6)
              subst hb
              exact full_bar base base2 M.length v M g true wd rs w rfl h hMl hr (word_not _ _ h1) (word_not _ _ h2) (word_is _ _ _ h3 rfl) (word_not _ _ (by rw [h3]; decide)) hc (by omega)
          | false =>
            rw [if_neg (by decide)]
            exact skipM_bar base base2 M.length v M g bg wd rs w rfl h hMl hr (word_not _ _ h1) (word_not _ _ h2) (word_is _ _ _ h3 rfl) (word_not _ _ (by rw [h3]; decide)) hc
        · by_cases h4 : wd.data.toList = wWait
          · rw [says_w h4]
            show Calls _ _ _ _ fun e w' => Read base base2 w (addF ⟨(M ++ [g]).map grp, bg⟩ (.t (numF rs.data.toList))) e w'
            rw [add_t, if_neg (map_ne M g)]
            dsimp only
            rw [map_last, map_drop]
            exact line_wait base base2 M.length v M g bg wd rs w rfl h hbb hb2 hMl hr (word_not _ _ h1) (word_not _ _ h2) (word_not _ _ h3) (word_is _ _ _ h4 rfl)
          · rw [says_no h1 h2 h3 h4]
            exact skipM_none base base2 M.length v M g bg wd rs w rfl h hMl hr (word_not _ _ h1) (word_not _ _ h2) (word_not _ _ h3) (word_not _ _ h4)
theorem GsOwn_mono2 {w : World} {base base2 base3 : Nat} {v : Value} {L : List Gr} (h : GsOwn w base base2 v L) (hb : base3 ≤ base2) : GsOwn w base base3 v L := ⟨h.1, h.2.1.mono hb, h.2.2⟩
theorem cut_le (s : ByteArray) : (restF s).size ≤ s.size := by
  unfold restF
  rw [bs_size]
  have := (cut_len 32 s.data.toList).1
  simp at this; omega
theorem says_okM {s : ByteArray} {x : Lk} (h : lineM s = some x) : LkOk x := says_ok h
theorem split_at (c : Int) : ∀ l : List UInt8, ∀ x ∈ splitL c l, x.length ≤ l.length := by
  intro l
  induction l with
  | nil => intro x hx; simp [splitL] at hx; subst hx; exact Nat.le_refl _
  | cons b r ih =>
    intro x hx
    rw [split_cons] at hx
    split at hx
    · rcases List.mem_cons.1 hx with rfl | hx
      · exact Nat.zero_le _
      · have := ih x hx; simp; omega
    · rcases List.mem_cons.1 hx with rfl | hx
      · have hne := split_ne c r
        cases hs : splitL c r with
        | nil => exact absurd hs hne
        | cons y t =>
          have := ih y (by rw [hs]; exact List.mem_cons_self ..)
          simp; omega
      · have := ih x (List.mem_of_mem_tail hx); simp; omega
theorem splitS_at {c : Int} {s x : ByteArray} (h : x ∈ splitS c s) : x.size ≤ s.size := by
  unfold splitS at h
  obtain ⟨l, hl, rfl⟩ := List.mem_map.1 h
  have := split_at c _ l hl
  rw [bs_size]; simpa using this

set_option maxRecDepth 100000 in
set_option maxHeartbeats 3200000 in
theorem specRead_notice (s : ByteArray) (w : World) (hs : s.size ≤ 1000000) :
    Calls Tryz.prog 80 #[.string s] w fun e w' => ∃ v L, e = .returned v ∧ GsOwn w' w.heap.size w.heap.size v L ∧ L.map grp = (readTo lineM (splitS 10 s) (min 40 (splitS 10 s).length)).gs ∧ Below w.heap.size w w' := by
  go_enter Tryz.func80, Tryz.ntmps80
  go_wp2_with fail
  refine (specSplit_any s 10 _ hs (by decide) (by decide)).mono ?_
  rintro e w1 ⟨v1, rfl, hO, hb1⟩
  obtain ⟨a0, cap, hv1, hI⟩ := hO.strs
  subst hv1
  have hLn : (splitS 10 s).length ≤ 1000001 := by
    have := split_len 10 s.data.toList
    unfold splitS; simp at this ⊢; omega
  have HZ : Hid (∀ x ∈ splitS 10 s, x.size ≤ 1000000) := fun x hx => by have := splitS_at hx; omega
  generalize hLs : splitS 10 s = Ls at *
  have HLs : Hid (splitS 10 s = Ls) := hLs
  clear hLs
  have HB0 : Hid (Below w.heap.size w w1) := ((Below.refl _ w).alloc (Nat.le_refl _) _).trans (hb1.mono (by simp))
  have HG0 : Hid (GsOwn w1 w.heap.size w1.heap.size (.slice (some ⟨w.heap.size, 0, none⟩) 0 0) []) := (GsOwn.empty w w1.heap.size).below hb1
  have HO0 : Hid (Owns w1 (w.heap.size + 1) (.slice a0 Ls.length cap) Ls) := by
    have := hO
    rwa [show (w.alloc (.cells #[] 29)).heap.size = w.heap.size + 1 by simp] at this
  have HLT : Hid (∀ k, (Value.slice a0 Ls.length cap).ownBlock = some k → k < w1.heap.size) := own_lt hO
  have hw1 : w.heap.size ≤ w1.heap.size := HB0.out.size
  clear hO hI hb1
  go_wp2
  go_loopw [3, 4, 6] (fun v b i wr => ∃ (k : Nat) (L : List Gr) (bg : Bool), k ≤ Ls.length ∧ k ≤ 40 ∧ i = .int .i64 (k : Int) ∧ b = .bool bg ∧ Hid (GsOwn wr w.heap.size w1.heap.size v L) ∧ Hid ((⟨L.map grp, bg⟩ : Nr) = readTo lineM Ls k) ∧ Hid (Owns wr (w.heap.size + 1) (.slice a0 Ls.length cap) Ls) ∧ Hid (Below w.heap.size w wr) ∧ w1.heap.size ≤ wr.heap.size) (fun _ _ i _ => Ls.length - (intOf i).toNat)
  case atStart => exact ⟨0, [], false, Nat.zero_le _, by omega, rfl, rfl, HG0, rfl, HO0, HB0, Nat.le_refl _⟩
  case round =>
    obtain ⟨k, L, bg, hk, hk40, rfl, rfl, HG, HR, HO, HB, hsz⟩ := hrel
    by_cases hlt : k < Ls.length
    · by_cases h40 : k < 40
      · obtain ⟨b, o, e1, c1⟩ := HO.out.strsOf.at hlt
        have e1' := e1
        subst e1'
        have hz := HZ.out Ls[k] (List.getElem_mem hlt)
        have hcl := cut_le Ls[k]
        have HST : Hid (readTo lineM Ls (k + 1) = stepF ⟨L.map grp, bg⟩ (saysF (wordF Ls[k]) (restF Ls[k]))) := by
          show _ = _
          rw [read_step hlt, ← HR.out]; rfl
        have HOK : Hid (NrOk ⟨L.map grp, bg⟩) := by rw [HR.out]; exact ok_read _ _ _
        have HSZ : Hid (NrSz ⟨L.map grp, bg⟩ 1000) := by rw [HR.out]; exact sz_mono (sz_read _ (fun _ _ h => says_okM h) _ _) (by omega)
        clear HR
        go_wp2_with fail
        refine (specCut_any Ls[k] 32 _ (by omega) (by decide) (by decide)).mono ?_
        rintro e w2 ⟨rfl, n, rfl⟩
        have HG2 : Hid (GsOwn (wr.drewN n) w.heap.size w1.heap.size u3 L) := HG.out.keep fun _ _ => rfl
        have HO2 : Hid (Owns (wr.drewN n) (w.heap.size + 1) (.slice (some ⟨b, o, none⟩) Ls.length cap) Ls) := Owns.keep HO.out fun _ _ => rfl
        have HB2 : Hid (Below w.heap.size w (wr.drewN n)) := below_drewN HB.out n
        have hsz2 : w1.heap.size ≤ (wr.drewN n).heap.size := hsz
        have ew : bs (cutL 32 Ls[k].data.toList).1 = wordF Ls[k] := rfl
        have er : bs (cutL 32 Ls[k].data.toList).2.1 = restF Ls[k] := rfl
        rw [ew, er]
        clear ew er HG HO HB c1
        generalize wr.drewN n = w2 at *
        generalize wordF Ls[k] = wd at *
        generalize restF Ls[k] = rs at *
        generalize (cutL 32 Ls[k].data.toList).2.2 = bb at *
        go_wp2_with fail
        refine (specLine_any w.heap.size w1.heap.size u3 L bg wd rs _ HG2.out HOK.out HSZ.out hw1 hsz2 (by omega)).mono ?_
        rintro e w3 ⟨v3, L3, rfl, hg3, hm3, hf3⟩
        have HG3 : Hid (GsOwn w3 w.heap.size w1.heap.size v3 L3) := hg3
        have HM3 : Hid ((⟨L3.map grp, (stepF ⟨L.map grp, bg⟩ (saysF wd rs)).bg⟩ : Nr) = readTo lineM Ls (k + 1)) := by show _ = _; rw [hm3, HST.out]
        have HO3 : Hid (Owns w3 (w.heap.size + 1) (.slice (some ⟨b, o, none⟩) Ls.length cap) Ls) := hf3.rows HO2.out HLT.out
        have HB3 : Hid (Below w.heap.size w w3) := HB2.out.trans hf3.1
        have hsz3 : w1.heap.size ≤ w3.heap.size := by have := hf3.1.size; omega
        clear hg3 hm3 hf3 HST HOK HSZ
        generalize (stepF ⟨L.map grp, bg⟩ (saysF wd rs)).bg = b3 at *
        go_wp2
        go_roundw
        case rel => exact ⟨k + 1, L3, b3, by omega, by omega, by go_num, rfl, HG3, HM3, HO3, HB3, hsz3⟩
        case measure => simp [intOf]; omega
      · have hk4 : k = 40 := by omega
        subst hk4
        have HE : Hid (L.map grp = (readTo lineM Ls (min 40 Ls.length)).gs) := by
          show _ = _
          rw [Nat.min_eq_left (by omega), ← HR.out]
        go_wp2
        go_ret
        exact ⟨_, L, rfl, GsOwn_mono2 HG.out hw1, by rw [HLs.out]; exact HE.out, HB.out⟩
    · have HE : Hid (L.map grp = (readTo lineM Ls (min 40 Ls.length)).gs) := by
        show _ = _
        have e : min 40 Ls.length = k := by omega
        rw [e, ← HR.out]
      go_wp2
      go_ret
      exact ⟨_, L, rfl, GsOwn_mono2 HG.out hw1, by rw [HLs.out]; exact HE.out, HB.out⟩
end Go.Proofs.YtmgcdfmgmpnonaaGreatDoor.NrS
