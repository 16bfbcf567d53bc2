/- Groups of a notice are drawn. -/
import Derived.Test.YtacelbhoccckbaaDoorDraw12r
import Derived.Test.YtacelbhoccckbaaDoorGrpMathPk
import Derived.Test.YtacelbhoccckbaaDoorDrawG
namespace Go.Proofs.YtacelbhoccckbaaDoor.Dr
open Go.RowKit Go.Proofs.YtacelbhoccckbaaDoor.EscM Go.Proofs.YtacelbhoccckbaaDoor.St Go.Proofs.YtacelbhoccckbaaDoor.RR Go.Proofs.YtacelbhoccckbaaDoor.LetM Go.Proofs.YtacelbhoccckbaaDoor.Nm Go.Proofs.YtacelbhoccckbaaDoor.GrM

theorem Tryd.infoGr : (Tryd.prog.info? 34).map (fun i => (i.zero, i.size, i.bytes)) = some (some (.agg #[.slice none 0 0, .slice none 0 0, .int .i64 0]), 3, 56) := by kernel_rfl
theorem info_group : ∃ i, Tryd.prog.info? 34 = some i ∧ i.zero = some (.agg #[.slice none 0 0, .slice none 0 0, .int .i64 0]) ∧ i.size = 3 ∧ i.bytes = 56 := by
  have h := Tryd.infoGr
  cases hi : Tryd.prog.info? 34 with
  | none => rw [hi] at h; cases h
  | some i =>
    rw [hi] at h
    have := Option.some.inj h
    simp only [Prod.mk.injEq] at this
    exact ⟨i, rfl, this.1, this.2.1, this.2.2⟩

/-- its lists are the call's own -/
def GrOwn (w : World) (base : Nat) (g : Gr) : Prop := Owns w base (.slice g.na g.nm.length g.nc) g.nm ∧ OwnsR FRu 37 w base (.slice g.ra g.ru.length g.rc) g.ru
def GrsOwn (w : World) (base : Nat) (L : List Gr) : Prop := ∀ g ∈ L, GrOwn w base g
theorem GrOwn.at {w : World} {base : Nat} {g : Gr} (h : GrOwn w base g) : GrAt w g := ⟨Owns.strsOf h.1, OwnsR.rowsOf h.2⟩
theorem GrsOwn.at {w : World} {base : Nat} {L : List Gr} (h : GrsOwn w base L) : GrsAt w L := fun g hg => (h g hg).at
theorem GrOwn.mono {w : World} {base base' : Nat} {g : Gr} (h : GrOwn w base g) (hb : base' ≤ base) : GrOwn w base' g := ⟨h.1.mono hb, h.2.mono hb⟩
theorem GrsOwn.mono {w : World} {base base' : Nat} {L : List Gr} (h : GrsOwn w base L) (hb : base' ≤ base) : GrsOwn w base' L := fun g hg => (h g hg).mono hb
theorem GrOwn.keep {w w' : World} {base : Nat} {g : Gr} (h : GrOwn w base g) (hb : ∀ k, k < w.heap.size → w'.heap[k]? = w.heap[k]?) : GrOwn w' base g := ⟨h.1.keep hb, h.2.keep hb⟩
theorem GrsOwn.keep {w w' : World} {base : Nat} {L : List Gr} (h : GrsOwn w base L) (hb : ∀ k, k < w.heap.size → w'.heap[k]? = w.heap[k]?) : GrsOwn w' base L := fun g hg => (h g hg).keep hb
theorem GrOwn.keptR {w w' : World} {base r : Nat} {g : Gr} (h : GrOwn w base g) (hg : w.grownBy w' (some r)) (hr : r < base) : GrOwn w' base g := ⟨h.1.keptR hg hr, h.2.keptR hg hr⟩
theorem GrsOwn.keptR {w w' : World} {base r : Nat} {L : List Gr} (h : GrsOwn w base L) (hg : w.grownBy w' (some r)) (hr : r < base) : GrsOwn w' base L := fun g hg' => (h g hg').keptR hg hr
theorem own_block_type {w : World} {base k n : Nat} {t : TypeId} {v : Value} {xs : List Value} {b : Nat} (h : w.ownsRow base t k v n xs) (hv : v.ownBlock = some b) : ∃ c, w.heap[b]? = some (.cells c t) := by
  obtain ⟨_, ⟨rfl, _⟩ | ⟨g, cap, cur, rfl, hg, hh, _⟩⟩ := h
  · simp [Value.ownBlock] at hv
  · simp [Value.ownBlock] at hv; subst hv; exact ⟨_, hh⟩
/-- a list of another type of elements is not where that row lies -/
theorem own_apart {w w' : World} {base base2 k k2 n m : Nat} {t t2 : TypeId} {v v2 : Value} {xs ys : List Value} (h : w.ownsRow base t k v n xs) (h2 : w.ownsRow base2 t2 k2 v2 m ys) (ht : t ≠ t2) (hg : w.grownBy w' v2.ownBlock) : w'.ownsRow base t k v n xs := by
  refine World.ownsRow.kept h hg ?_
  cases hv : v.ownBlock with
  | none => exact Or.inl rfl
  | some b =>
    right
    intro e
    obtain ⟨c, hc⟩ := own_block_type h hv
    obtain ⟨c2, hc2⟩ := own_block_type h2 e.symm
    rw [hc] at hc2
    injection hc2 with hc2
    injection hc2 with _ ht2
    exact ht ht2
theorem GrOwn.apart {w w' : World} {base base2 k2 m : Nat} {t2 : TypeId} {v2 : Value} {ys : List Value} {g : Gr} (h : GrOwn w base g) (h2 : w.ownsRow base2 t2 k2 v2 m ys) (hs : 9 ≠ t2) (hr : 37 ≠ t2) (hg : w.grownBy w' v2.ownBlock) : GrOwn w' base g :=
  ⟨own_apart h.1 h2 hs hg, own_apart h.2 h2 hr hg⟩
theorem GrsOwn.apart {w w' : World} {base base2 k2 m : Nat} {t2 : TypeId} {v2 : Value} {ys : List Value} {L : List Gr} (h : GrsOwn w base L) (h2 : w.ownsRow base2 t2 k2 v2 m ys) (hs : 9 ≠ t2) (hr : 37 ≠ t2) (hg : w.grownBy w' v2.ownBlock) : GrsOwn w' base L := fun g hg' => (h g hg').apart h2 hs hr hg
/-- how great a drawn group is -/
def GrBd (g : Gr) : Prop := g.nm.length ≤ 2 ∧ (∀ s ∈ g.nm, s.size ≤ 5) ∧ g.ru.length ≤ 4 ∧ (∀ r ∈ g.ru, r.path.size ≤ 16) ∧ 0 ≤ g.wait ∧ g.wait ≤ 6
theorem GrBd.sz {g : Gr} (h : GrBd g) : GrSz g := ⟨by have := h.1; omega, by have := h.2.2.1; omega, fun s hs => Nat.le_trans (h.2.1 s hs) (by decide), fun r hr => Nat.le_trans (h.2.2.2.1 r hr) (by decide)⟩
def ruBlk (g : Gr) : Option Nat := (Value.slice g.ra g.ru.length g.rc).ownBlock
/-- no two share a list of rules -/
def Apart (L : List Gr) : Prop := L.Pairwise fun g h => ∀ b, ruBlk g = some b → ruBlk h ≠ some b

theorem Owns.lit1 (w : World) (base : Nat) (s : ByteArray) (hb : base ≤ w.heap.size) : Owns (w.alloc (.cells #[.string s] 9)) base (.slice (some ⟨w.heap.size, 0, none⟩) 1 1) [s] := by
  refine ⟨by simp [cellsS], Or.inr ⟨w.heap.size, 1, #[.string s], rfl, hb, ?_, Nat.le_refl _, by decide, rfl, by simp [cellsS]⟩⟩
  show (w.heap.push _)[w.heap.size]? = _
  simp
theorem cell_three_new (w : World) (x y z : Value) (t : TypeId) : ∀ (j : Nat) (u : Value), [x, y, z][j]? = some u → (w.alloc (.cells #[x, y, z] t)).cell? ((⟨w.heap.size, 0, none⟩ : Addr).add j) = some u := by
  intro j u hu
  have hb : (w.alloc (.cells #[x, y, z] t)).heap[w.heap.size]? = some (.cells #[x, y, z] t) := by show (w.heap.push _)[w.heap.size]? = _; simp
  rw [add_mk, Nat.zero_add]
  unfold World.cell?
  dsimp only
  rw [hb]
  simpa using hu

theorem cell_three_newE {w : World} {g : Nat} (e : w.heap.size = g) (x y z : Value) (t : TypeId) : ∀ (j : Nat) (u : Value), [x, y, z][j]? = some u → (w.alloc (.cells #[x, y, z] t)).cell? ((⟨g, 0, none⟩ : Addr).add j) = some u := by
  subst e; exact cell_three_new w x y z t
/-- what is drawn so far, in the world w1 behind w -/
def GI (B r q : Nat) (w w1 : World) (v : Value) (L : List Gr) : Prop :=
  OwnsR FGr 34 w1 w.heap.size v L ∧ GrsOwn w1 w.heap.size L ∧ IsRd B w1 r q ∧ w.grownBy w1 (some r) ∧ w.heap.size < w1.heap.size ∧ r < w.heap.size
theorem GI.step {B r q q' : Nat} {w w1 w2 : World} {v : Value} {L : List Gr} (h : GI B r q w w1 v L) (hg : w1.grownBy w2 (some r)) (hr : IsRd B w2 r q') : GI B r q' w w2 v L := by
  obtain ⟨h1, h2, h3, h4, h5, h6⟩ := h
  exact ⟨h1.keptR hg h6, h2.keptR hg h6, hr, grown_trans h4 hg, by have := hg.size; omega, h6⟩
theorem GI.alloc {B r q : Nat} {w w1 : World} {v : Value} {L : List Gr} (h : GI B r q w w1 v L) (o : Obj) : GI B r q w (w1.alloc o) v L :=
  h.step (grown_alloc _ _ _) (h.2.2.1.alloc o)
theorem GI.rd {B r q : Nat} {w w1 : World} {v : Value} {L : List Gr} (h : GI B r q w w1 v L) : IsRd B w1 r q := h.2.2.1
theorem GI.mono {B r q q' : Nat} {w w1 : World} {v : Value} {L : List Gr} (h : GI B r q w w1 v L) (hq : q ≤ q') : GI B r q' w w1 v L := ⟨h.1, h.2.1, h.2.2.1.mono hq, h.2.2.2⟩
/-- where another list of one's own grows -/
theorem GI.past {B r q : Nat} {w w1 w2 : World} {v : Value} {L : List Gr} (h : GI B r q w w1 v L) {base2 k2 m : Nat} {t2 : TypeId} {v2 : Value} {ys : List Value} (h2 : w1.ownsRow base2 t2 k2 v2 m ys) (hb : w1.heap.size ≤ base2 ∨ w.heap.size ≤ base2) (hnew : ∀ g ∈ L, GrOwn w2 w.heap.size g) (ht : 34 ≠ t2) (hg : w1.grownBy w2 v2.ownBlock) : GI B r q w w2 v L := by
  obtain ⟨h1, h2', h3, h4, h5, h6⟩ := h
  have hbb : w.heap.size ≤ base2 := by omega
  have hblk : ∀ k, v2.ownBlock = some k → w.heap.size ≤ k := by
    intro k hk
    obtain ⟨_, ⟨rfl, _⟩ | ⟨g, cap, cur, rfl, hg', _⟩⟩ := h2
    · simp [Value.ownBlock] at hk
    · simp [Value.ownBlock] at hk; omega
  exact ⟨own_apart h1 h2 ht hg, hnew, h3.grownRow (base := w.heap.size) hg h6 hblk, grown_past h4 hg hblk, by have := hg.size; omega, h6⟩
/-- a group more -/
theorem GI.more {B r q : Nat} {w w1 w2 : World} {v v' : Value} {L : List Gr} {g : Gr} (h : GI B r q w w1 v L) (hgo : GrOwn w1 w.heap.size g) (hO : w2.ownsRow w.heap.size 34 3 v' (L.length + 1) (FGr.cells L ++ FGr.enc g)) (hg : w1.grownBy w2 v.ownBlock) : GI B r q w w2 v' (L ++ [g]) := by
  obtain ⟨h1, h2, h3, h4, h5, h6⟩ := h
  refine ⟨OwnsR.append (F := FGr) hO, ?_, h3.grownRow (base := w.heap.size) hg h6 (OwnsR.block h1), grown_past h4 hg (OwnsR.block h1), by have := hg.size; omega, h6⟩
  intro x hx
  rcases List.mem_append.1 hx with hx | hx
  · exact (h2 x hx).apart h1 (by decide) (by decide) hg
  · simp at hx; subst hx; exact hgo.apart h1 (by decide) (by decide) hg
theorem Apart.snoc {L : List Gr} {g : Gr} (h : Apart L) (hn : ∀ x ∈ L, ∀ b, ruBlk x = some b → ruBlk g ≠ some b) : Apart (L ++ [g]) := by
  unfold Apart
  rw [List.pairwise_append]
  refine ⟨h, List.pairwise_singleton _ _, ?_⟩
  intro a ha b hb
  simp at hb; subst hb; exact hn a ha
theorem own_lt {w : World} {base k n : Nat} {t : TypeId} {v : Value} {xs : List Value} (h : w.ownsRow base t k v n xs) : ∀ b, v.ownBlock = some b → b < w.heap.size := by
  intro b hb
  obtain ⟨c, hc⟩ := own_block_type h hb
  exact (Array.getElem?_eq_some_iff.1 hc).1
theorem new_apart {w w1 : World} {base b2 : Nat} {L : List Gr} {g : Gr} (h : GrsOwn w base L) (hs : w.heap.size ≤ b2) (h2 : OwnsR FRu 37 w1 b2 (.slice g.ra g.ru.length g.rc) g.ru) : ∀ x ∈ L, ∀ b, ruBlk x = some b → ruBlk g ≠ some b := by
  intro x hx b hb e
  have h1 := own_lt (h x hx).2 b hb
  have h3 := OwnsR.block h2 b e
  omega

theorem own_type {w w' : World} {base k n G : Nat} {t t2 : TypeId} {v : Value} {xs : List Value} {C : Array Value} (h : w.ownsRow base t k v n xs) (hG : w.heap[G]? = some (.cells C t2 (0, 0))) (ht : t ≠ t2) (hg : w.grownBy w' (some G)) : w'.ownsRow base t k v n xs := by
  refine World.ownsRow.kept h hg ?_
  cases hv : v.ownBlock with
  | none => exact Or.inl rfl
  | some b =>
    right
    intro e
    have e := Option.some.inj e
    subst e
    obtain ⟨c, hc⟩ := own_block_type h hv
    rw [hc] at hG
    injection hG with hG
    injection hG with _ hG
    exact ht hG
/-- its lists lie below a block -/
def GrLt (M : Nat) (g : Gr) : Prop := (∀ b, (Value.slice g.na g.nm.length g.nc).ownBlock = some b → b < M) ∧ ∀ b, (Value.slice g.ra g.ru.length g.rc).ownBlock = some b → b < M
theorem GrOwn.lt {w : World} {base : Nat} {g : Gr} (h : GrOwn w base g) : GrLt w.heap.size g := ⟨own_lt h.1, own_lt h.2⟩
theorem own_far {w w' : World} {base k n c M : Nat} {t : TypeId} {v : Value} {xs : List Value} (h : w.ownsRow base t k v n xs) (hl : ∀ b, v.ownBlock = some b → b < M) (hg : w.grownBy w' (some c)) (hc : M ≤ c) : w'.ownsRow base t k v n xs := by
  refine World.ownsRow.kept h hg ?_
  cases hv : v.ownBlock with
  | none => exact Or.inl rfl
  | some b =>
    right
    intro e
    have := hl b hv
    have := Option.some.inj e
    omega
theorem GrOwn.far {w w' : World} {base c M : Nat} {g : Gr} (h : GrOwn w base g) (hl : GrLt M g) (hg : w.grownBy w' (some c)) (hc : M ≤ c) : GrOwn w' base g := ⟨own_far h.1 hl.1 hg hc, own_far h.2 hl.2 hg hc⟩
theorem GI.far {B r q c M : Nat} {w w1 w2 : World} {v : Value} {L : List Gr} (h : GI B r q w w1 v L) (hv : ∀ b, v.ownBlock = some b → b < M) (hL : ∀ g ∈ L, GrLt M g) (hg : w1.grownBy w2 (some c)) (hc : M ≤ c) (hw : w.heap.size ≤ c) : GI B r q w w2 v L := by
  obtain ⟨h1, h2, h3, h4, h5, h6⟩ := h
  exact ⟨own_far h1 hv hg hc, fun g hg' => (h2 g hg').far (hL g hg') hg hc, h3.grownRow (base := w.heap.size) hg h6 (fun k hk => by have := Option.some.inj hk; omega), grown_past h4 hg (fun k hk => by have := Option.some.inj hk; omega), by have := hg.size; omega, h6⟩

set_option maxRecDepth 100000 in
set_option maxHeartbeats 6400000 in
theorem groups_any (B r q : Nat) (w : World) (h : IsRd B w r q) (hq : q ≤ 8000) :
    Calls Tryd.prog 16 #[.pointer (some ⟨r, 0, none⟩)] w fun e w' => ∃ (L : List Gr) (a1 : Option Addr) (c1 : Nat), e = .returned (.slice a1 L.length c1) ∧ GI B r (q + 44) w w' (.slice a1 L.length c1) L ∧ Apart L ∧ L.length ≤ 4 ∧ (∀ g ∈ L, GrBd g) := by
  obtain ⟨i0, hi, hz0, hz1, hz2⟩ := info_group
  obtain ⟨i9, hi9, hz90, hz91, hz92⟩ := info_parts Tryd.infoS
  have hle := h.le
  have HR0 : Hid (IsRd B w r q) := h
  clear h
  go_enter Tryd.func16, Tryd.ntmps16
  go_wp2_with fail
  refine (pick_any B r q 4 _ (HR0.out.alloc _) (by omega) (by omega) (by omega)).mono ?_
  rintro e w1 ⟨n0, rfl, hn0, hr1, hg1⟩
  have HI1 : Hid (GI B r (q + 1) w w1 (.slice (some ⟨w.heap.size, 0, none⟩) 0 0) []) :=
    ⟨(OwnsR.empty FGr 34 w w.heap.size (Nat.le_refl _)).keptR hg1 hle.2, (fun x hx => by cases hx), hr1, grown_trans (grown_alloc _ _ _) hg1, by have := hg1.size; simp at this; omega, hle.2⟩
  clear hr1 hg1
  go_wp2
  go_loopw [3, 4] (fun v i wr => ∃ (k : Nat) (L : List Gr), k ≤ 3 ∧ i = .int .i64 (k : Int) ∧ L.length + k ≤ 3 ∧ Hid (∀ g ∈ L, GrBd g) ∧ Hid (GI B r (q + 43 - 14 * k) w wr v L) ∧ Hid (Apart L)) (fun _ i _ => (intOf i).toNat)
  case atStart => exact ⟨n0, [], by omega, rfl, by simp; omega, (fun x hx => by cases hx), HI1.out.mono (by omega), List.Pairwise.nil⟩
  case round =>
    obtain ⟨k, L, hk, rfl, hLk, HL, HI, HA⟩ := hrel
    have hrl := HI.out.rd.le
    have hwr : w.heap.size < wr.heap.size := HI.out.2.2.2.2.1
    have HLT : Hid (∀ g ∈ L, GrLt wr.heap.size g) := fun g hg => (HI.out.2.1 g hg).lt
    have HVT : Hid (∀ b, u3.ownBlock = some b → b < wr.heap.size) := own_lt HI.out.1
    by_cases hlt : 0 < k
    · go_wp2_with fail
      refine (of_lit B r (q + 43 - 14 * k) wr.heap.size 3 _ _ (fun s => decide (s.size ≤ 5)) _ (HI.out.rd.alloc _) (by omega) (by omega) (heap_new _ _) rfl (by decide) (by decide) (by decide)).mono ?_
      rintro e w2 ⟨s1, rfl, hs1, hr2, hg2⟩
      have hs1' : s1.size ≤ 5 := of_decide_eq_true hs1
      have HI2 : Hid (GI B r (q + 43 - 14 * k + 1) w w2 u3 L) := (HI.out.alloc _).step hg2 hr2
      have hw2 : w.heap.size < w2.heap.size := HI2.out.2.2.2.2.1
      have hwr2 : wr.heap.size < w2.heap.size := by have := hg2.size; simp at this; omega
      clear hs1 hr2 hg2
      go_wp2_with fail
      refine (rules_any B r _ _ (HI2.out.rd.alloc _) (by omega)).mono ?_
      rintro e w3 ⟨R, a3, c3, rfl, hO3, hR4, hRs, hr3, hg3⟩
      have HN3 : Hid (Owns w3 w.heap.size (.slice (some ⟨w2.heap.size, 0, none⟩) 1 1) [s1]) := (Owns.lit1 w2 w.heap.size s1 (by omega)).keptR hg3 hle.2
      have HI3 : Hid (GI B r (q + 43 - 14 * k + 1 + 9) w w3 u3 L) := (HI2.out.alloc _).step hg3 hr3
      have HNA : Hid (∀ x ∈ L, ∀ b, ruBlk x = some b → (Value.slice a3 R.length c3).ownBlock ≠ some b) := new_apart (g := ⟨[], none, 0, R, a3, c3, 0⟩) (HI2.out.alloc (.cells #[.string s1] 9)).2.1 (Nat.le_refl _) hO3
      have HO3 : Hid (OwnsR FRu 37 w3 w.heap.size (.slice a3 R.length c3) R) := hO3.mono (by simp; omega)
      have HRs : Hid _ := hRs
      have hw3 : w.heap.size < w3.heap.size := HI3.out.2.2.2.2.1
      have hn3 : w2.heap.size < w3.heap.size := by have := hg3.size; simp at this; omega
      clear hO3 hr3 hg3 hRs
      go_wp2_with fail
      refine (pick_any B r _ 4 _ HI3.out.rd (by omega) (by omega) (by omega)).mono ?_
      rintro e w4 ⟨x, rfl, hx, hr4, hg4⟩
      have HN4 : Hid (Owns w4 w.heap.size (.slice (some ⟨w2.heap.size, 0, none⟩) 1 1) [s1]) := HN3.out.keptR hg4 hle.2
      have HO4 : Hid (OwnsR FRu 37 w4 w.heap.size (.slice a3 R.length c3) R) := HO3.out.keptR hg4 hle.2
      have HI4 : Hid (GI B r (q + 43 - 14 * k + 1 + 9 + 1) w w4 u3 L) := HI3.out.step hg4 hr4
      have hn4 : w2.heap.size < w4.heap.size := by have := hg4.size; omega
      clear hr4 hg4
      go_wp2_with fail
      refine (pick_any B r _ 3 _ HI4.out.rd (by omega) (by omega) (by omega)).mono ?_
      rintro e w5 ⟨y, rfl, hy, hr5, hg5⟩
      have HN5 : Hid (Owns w5 w.heap.size (.slice (some ⟨w2.heap.size, 0, none⟩) 1 1) [s1]) := HN4.out.keptR hg5 hle.2
      have HO5 : Hid (OwnsR FRu 37 w5 w.heap.size (.slice a3 R.length c3) R) := HO4.out.keptR hg5 hle.2
      have HI5 : Hid (GI B r (q + 43 - 14 * k + 1 + 9 + 1 + 1) w w5 u3 L) := HI4.out.step hg5 hr5
      have hw5 : w.heap.size < w5.heap.size := HI5.out.2.2.2.2.1
      have hn5 : w2.heap.size < w5.heap.size := by have := hg5.size; omega
      clear hr5 hg5
      obtain ⟨z, hz6, hz⟩ : ∃ z : Nat, z ≤ 6 ∧ (x : Int) * (y : Int) = (z : Int) := ⟨x * y, Nat.le_trans (Nat.mul_le_mul (show x ≤ 3 by omega) (show y ≤ 2 by omega)) (by decide), by simp⟩
      have hzw : IntKind.i64.wrap ((x : Int) * (y : Int)) = (z : Int) := by rw [hz]; exact IntWalk.i64_in _ (by omega)
      go_wp2_with fail
      refine (pick_any B r _ 4 _ (HI5.out.rd.alloc _) (by omega) (by omega) (by omega)).mono ?_
      rintro e w6 ⟨x6, rfl, hx6, hr6, hg6⟩
      obtain ⟨G, hG⟩ : ∃ G, w5.heap.size = G := ⟨_, rfl⟩
      have HX6 : Hid (Bx 34 w6 G #[.slice (some ⟨w2.heap.size, 0, none⟩) 1 1, .slice a3 R.length c3, .int .i64 (z : Int)]) := by
        rw [← hG]; exact (Bx.new 34 w5 _).grown hg6 (by intro e; have := Option.some.inj e; omega)
      have hw6 : w5.heap.size < w6.heap.size := by have := hg6.size; simp at this; omega
      have HN6 : Hid (Owns w6 w.heap.size (.slice (some ⟨w2.heap.size, 0, none⟩) 1 1) [s1]) := (HN5.out.keep (alloc_keep _ _)).keptR hg6 hle.2
      have HO6 : Hid (OwnsR FRu 37 w6 w.heap.size (.slice a3 R.length c3) R) := (HO5.out.keep (alloc_keep _ _)).keptR hg6 hle.2
      have HI6 : Hid (GI B r (q + 43 - 14 * k + 1 + 9 + 1 + 1 + 1) w w6 u3 L) := (HI5.out.alloc _).step hg6 hr6
      clear hr6 hg6 hz hzw
      have hwG : w.heap.size < G := by rw [← hG]; exact hw5
      have hw6' : G < w6.heap.size := by rw [← hG]; exact hw6
      have hw2G : w2.heap.size < G := by rw [← hG]; exact hn5
      rw [hG]
      clear hG hw6
      have HX6' := HX6.out
      have d0 : w6.cell? ⟨G, 0, none⟩ = some (.slice (some ⟨w2.heap.size, 0, none⟩) 1 1) := HX6'.cell 0 rfl
      have d1 : w6.cell? ⟨G, 1, none⟩ = some (.slice a3 R.length c3) := HX6'.cell 1 rfl
      have d2 : w6.cell? ⟨G, 2, none⟩ = some (.int .i64 (z : Int)) := HX6'.cell 2 rfl
      clear HX6'
      by_cases hx0 : x6 = 0
      · subst hx0
        have d0a : ∀ o, (w6.alloc o).cell? ⟨G, 0, none⟩ = some (.slice (some ⟨w2.heap.size, 0, none⟩) 1 1) := fun o => (HX6.out.alloc o).cell 0 rfl
        have d0d : w6.drew.cell? ⟨G, 0, none⟩ = some (.slice (some ⟨w2.heap.size, 0, none⟩) 1 1) := d0
        have d0ad : ∀ o, (w6.alloc o).drew.cell? ⟨G, 0, none⟩ = some (.slice (some ⟨w2.heap.size, 0, none⟩) 1 1) := fun o => d0a o
        have d0da : ∀ o, (w6.drew.alloc o).cell? ⟨G, 0, none⟩ = some (.slice (some ⟨w2.heap.size, 0, none⟩) 1 1) := fun o => d0a o
        go_wp2_with fail
        go_region_law
          (first
          | (go_simp
             go_at_call 31
             refine (of_newD B r _ 3 _ (fun s => decide (s.size ≤ 5)) w6 HI6.out.rd (by omega) (by decide) (by decide) (by decide) (by decide)).mono ?_
             rintro e w7 ⟨t, rfl, ht, hr7, hg7⟩
             have ht5 : t.size ≤ 5 := of_decide_eq_true ht
             have HX7 : Hid (Bx 34 w7 G #[.slice (some ⟨w2.heap.size, 0, none⟩) 1 1, .slice a3 R.length c3, .int .i64 (z : Int)]) := HX6.out.grown hg7 (by intro e; have := Option.some.inj e; omega)
             have HN7 : Hid (Owns w7 w.heap.size (.slice (some ⟨w2.heap.size, 0, none⟩) 1 1) [s1]) := HN6.out.keptR hg7 hle.2
             have HO7 : Hid (OwnsR FRu 37 w7 w.heap.size (.slice a3 R.length c3) R) := HO6.out.keptR hg7 hle.2
             have HI7 : Hid (GI B r (q + 43 - 14 * k + 1 + 9 + 1 + 1 + 1 + 1) w w7 u3 L) := HI6.out.step hg7 hr7
             have hw7 : w.heap.size < w7.heap.size := HI7.out.2.2.2.2.1
             have f0 : w7.cell? ⟨G, 0, none⟩ = some (.slice (some ⟨w2.heap.size, 0, none⟩) 1 1) := HX7.out.cell 0 rfl
             have f0a : ∀ o, (w7.alloc o).cell? ⟨G, 0, none⟩ = some (.slice (some ⟨w2.heap.size, 0, none⟩) 1 1) := fun o => (HX7.out.alloc o).cell 0 rfl
             have f0d : w7.drew.cell? ⟨G, 0, none⟩ = some (.slice (some ⟨w2.heap.size, 0, none⟩) 1 1) := f0
             have f0ad : ∀ o, (w7.alloc o).drew.cell? ⟨G, 0, none⟩ = some (.slice (some ⟨w2.heap.size, 0, none⟩) 1 1) := fun o => f0a o
             have f0da : ∀ o, (w7.drew.alloc o).cell? ⟨G, 0, none⟩ = some (.slice (some ⟨w2.heap.size, 0, none⟩) 1 1) := fun o => f0a o
             clear ht hr7 hg7
             dsimp only)
          | (refine step_app rfl (.tmp 29) (.tmp 33) 31 rfl w.heap.size 9 i9 (.string ⟨#[]⟩) 1 16 Tryd.underlying31 hi9 hz90 hz91 hz92 rfl (by decide) (.slice (some ⟨w2.heap.size, 0, none⟩) 1 1) 1 (cellsS [s1]) rfl (Owns.heapEq (Owns.keep HN7.out (alloc_keep w7 _)) rfl) (some ⟨w7.heap.size, 0, none⟩) 1 1 [.string t] rfl (by intro e; cases e) rfl (by intro ad e; cases e; exact cell_one_new w7 _ _) (by intro u hu; simp at hu; subst hu; rfl) (by decide) (by decide) (by simp; omega) ?_
             intro v8 w8 hO8 hg8
             obtain ⟨a8, c8, hv8, hS8⟩ := (Owns.append (X := [s1]) hO8).strs
             subst hv8
             have HN8 : Hid (Owns w8 w.heap.size (.slice a8 2 c8) [s1, t]) := Owns.append (X := [s1]) hO8
             have hgA : w7.grownBy w8 (some w2.heap.size) := (by refine grown_trans ?_ hg8; exact ⟨rfl, rfl, rfl, by simp, fun k hk _ => Below.heap_alloc w7 _ k hk⟩)
             have HX8 : Hid (Bx 34 w8 G #[.slice (some ⟨w2.heap.size, 0, none⟩) 1 1, .slice a3 R.length c3, .int .i64 (z : Int)]) := HX7.out.grown hgA (by intro e; have := Option.some.inj e; omega)
             have HO8 : Hid (OwnsR FRu 37 w8 w.heap.size (.slice a3 R.length c3) R) := own_apart HO7.out HN7.out (by decide) hgA
             have HI8 : Hid (GI B r (q + 43 - 14 * k + 1 + 9 + 1 + 1 + 1 + 1) w w8 u3 L) := HI7.out.far HVT.out HLT.out hgA (by omega) (by omega)
             have k0 : w8.cell? ⟨G, 0, none⟩ = some (.slice (some ⟨w2.heap.size, 0, none⟩) 1 1) := HX8.out.cell 0 rfl
             have kz : ∀ j, w8.frozen? ⟨G, j, none⟩ = false := HX8.out.free
             have hw8 : w.heap.size < w8.heap.size := HI8.out.2.2.2.2.1
             clear hO8 hS8 hg8 hgA)
          | fail)
        all_goals (
          have HX9 : Hid (Bx 34 (w8.setCell ⟨G, 0, none⟩ (.slice a8 2 c8)) G #[.slice a8 2 c8, .slice a3 R.length c3, .int .i64 (z : Int)]) := HX8.out.set 0 _
          have hgS : w8.grownBy (w8.setCell ⟨G, 0, none⟩ (.slice a8 2 c8)) (some G) := grown_set 0 _
          have hHG : w8.heap[G]? = some (.cells #[.slice (some ⟨w2.heap.size, 0, none⟩) 1 1, .slice a3 R.length c3, .int .i64 (z : Int)] 34 (0, 0)) := HX8.out
          have HN9 : Hid (Owns (w8.setCell ⟨G, 0, none⟩ (.slice a8 2 c8)) w.heap.size (.slice a8 2 c8) [s1, t]) := own_type HN8.out hHG (by decide) hgS
          have HO9 : Hid (OwnsR FRu 37 (w8.setCell ⟨G, 0, none⟩ (.slice a8 2 c8)) w.heap.size (.slice a3 R.length c3) R) := own_type HO8.out hHG (by decide) hgS
          have HI9 : Hid (GI B r (q + 43 - 14 * k + 1 + 9 + 1 + 1 + 1 + 1) w (w8.setCell ⟨G, 0, none⟩ (.slice a8 2 c8)) u3 L) := HI8.out.far HVT.out HLT.out hgS (by omega) (by omega)
          clear hHG hgS HX8 HN8 HO8 HI8 k0 kz f0 f0a f0d f0ad f0da d0 d0a d0d d0ad d0da d1 d2
          generalize w8.setCell ⟨G, 0, none⟩ (.slice a8 2 c8) = w9 at *
          have hw9 : w.heap.size < w9.heap.size := HI9.out.2.2.2.2.1
          have d0 : w9.cell? ⟨G, 0, none⟩ = some (.slice a8 2 c8) := HX9.out.cell 0 rfl
          have d1 : w9.cell? ⟨G, 1, none⟩ = some (.slice a3 R.length c3) := HX9.out.cell 1 rfl
          have d2 : w9.cell? ⟨G, 2, none⟩ = some (.int .i64 (z : Int)) := HX9.out.cell 2 rfl
          obtain ⟨g9, hg9⟩ : ∃ g9 : Gr, g9 = ⟨[s1, t], a8, c8, R, a3, c3, (z : Int)⟩ := ⟨_, rfl⟩
          have HE9 : Hid (FGr.enc g9 = [.slice a8 2 c8, .slice a3 R.length c3, .int .i64 (z : Int)]) := by rw [hg9]; rfl
          have HGO9 : Hid (GrOwn w9 w.heap.size g9) := by rw [hg9]; exact ⟨HN9.out, HO9.out⟩
          have HBD9 : Hid (GrBd g9) := by rw [hg9]; exact ⟨by simp, by intro s hs; simp at hs; rcases hs with hs | hs; (subst hs; exact hs1'); (subst hs; exact ht5), by show R.length ≤ 4; omega, HRs.out, by show (0 : Int) ≤ (z : Int); omega, by show (z : Int) ≤ 6; omega⟩
          have HNA9 : Hid (∀ x ∈ L, ∀ b, ruBlk x = some b → ruBlk g9 ≠ some b) := by rw [hg9]; exact HNA.out
          clear hg9
          by_cases hr0 : 0 < R.length
          · have hr0' : decide ((0 : Int) < (R.length : Int)) = true := by simp; omega
            go_wp2_with (at_builtin; refine wpList_append_own _ rfl _ _ 23 rfl w.heap.size 34 i0 (.agg #[.slice none 0 0, .slice none 0 0, .int .i64 0]) 3 56 Tryd.underlying23 hi hz0 hz1 hz2 rfl (by decide) _ _ _ rfl (HI9.out.alloc _).1 ⟨w9.heap.size, 0, none⟩ 1 1 (FGr.enc g9) rfl rfl (HE9.out ▸ cell_three_new _ _ _ _ _) (FGr.one g9) ?c3 ?c4 ?c5 ?_)
            case c3 => unfold maxLen; omega
            case c4 => omega
            case c5 => simp; omega
            intro v8 w8 hown8 hgrow8 _
            have HI8 : Hid (GI B r (q + 43 - 14 * k + 1 + 9 + 1 + 1 + 1 + 1) w w8 v8 (L ++ [g9])) := (HI9.out.alloc _).more (HGO9.out.keep (alloc_keep _ _)) hown8 hgrow8
            have HL8 : Hid (∀ x ∈ L ++ [g9], GrBd x) := by
              intro x hx
              rcases List.mem_append.1 hx with hx | hx
              · exact HL.out x hx
              · simp at hx; subst hx; exact HBD9.out
            have HA8 : Hid (Apart (L ++ [g9])) := HA.out.snoc HNA9.out
            clear hown8 hgrow8
            go_wp2
            go_roundw
            case rel => exact ⟨k - 1, L ++ [g9], by omega, by go_num, by simp; omega, HL8, HI8.out.mono (by omega), HA8⟩
            case measure => simp [intOf]; omega
          by_cases hz0' : 0 < z
          · have hr0' : decide ((0 : Int) < (R.length : Int)) = false := decide_eq_false (by omega)
            have hz0'' : decide ((0 : Int) < (z : Int)) = true := by simp; omega
            go_wp2_with (at_builtin; refine wpList_append_own _ rfl _ _ 23 rfl w.heap.size 34 i0 (.agg #[.slice none 0 0, .slice none 0 0, .int .i64 0]) 3 56 Tryd.underlying23 hi hz0 hz1 hz2 rfl (by decide) _ _ _ rfl (HI9.out.alloc _).1 ⟨w9.heap.size, 0, none⟩ 1 1 (FGr.enc g9) rfl rfl (HE9.out ▸ cell_three_new _ _ _ _ _) (FGr.one g9) ?c3 ?c4 ?c5 ?_)
            case c3 => unfold maxLen; omega
            case c4 => omega
            case c5 => simp; omega
            intro v8 w8 hown8 hgrow8 _
            have HI8 : Hid (GI B r (q + 43 - 14 * k + 1 + 9 + 1 + 1 + 1 + 1) w w8 v8 (L ++ [g9])) := (HI9.out.alloc _).more (HGO9.out.keep (alloc_keep _ _)) hown8 hgrow8
            have HL8 : Hid (∀ x ∈ L ++ [g9], GrBd x) := by
              intro x hx
              rcases List.mem_append.1 hx with hx | hx
              · exact HL.out x hx
              · simp at hx; subst hx; exact HBD9.out
            have HA8 : Hid (Apart (L ++ [g9])) := HA.out.snoc HNA9.out
            clear hown8 hgrow8
            go_wp2
            go_roundw
            case rel => exact ⟨k - 1, L ++ [g9], by omega, by go_num, by simp; omega, HL8, HI8.out.mono (by omega), HA8⟩
            case measure => simp [intOf]; omega
          · have hr0' : decide ((0 : Int) < (R.length : Int)) = false := decide_eq_false (by omega)
            have hz0'' : decide ((0 : Int) < (z : Int)) = false := by simp; omega
            have hs1 : R.length = 0 := by omega
            have hs2 : z = 0 := by omega
            go_wp2
            go_roundw
            case rel => exact ⟨k - 1, L, by omega, by go_num, by omega, HL, HI9.out.mono (by omega), HA⟩
            case measure => simp [intOf]; omega)
      · have hx0' : ((x6 : Int) == 0) = false := by simp; omega
        obtain ⟨g6, hg6⟩ : ∃ g6 : Gr, g6 = ⟨[s1], some ⟨w2.heap.size, 0, none⟩, 1, R, a3, c3, (z : Int)⟩ := ⟨_, rfl⟩
        have HE6 : Hid (FGr.enc g6 = [.slice (some ⟨w2.heap.size, 0, none⟩) 1 1, .slice a3 R.length c3, .int .i64 (z : Int)]) := by rw [hg6]; rfl
        have HGO6 : Hid (GrOwn w6 w.heap.size g6) := by rw [hg6]; exact ⟨HN6.out, HO6.out⟩
        have HBD6 : Hid (GrBd g6) := by rw [hg6]; exact ⟨by simp, by intro s hs; simp at hs; subst hs; exact hs1', by show R.length ≤ 4; omega, HRs.out, by show (0 : Int) ≤ (z : Int); omega, by show (z : Int) ≤ 6; omega⟩
        have HNA6 : Hid (∀ x ∈ L, ∀ b, ruBlk x = some b → ruBlk g6 ≠ some b) := by rw [hg6]; exact HNA.out
        clear hg6
        by_cases hr0 : 0 < R.length
        · have hr0' : decide ((0 : Int) < (R.length : Int)) = true := by simp; omega
          go_wp2_with (at_builtin; refine wpList_append_own _ rfl _ _ 23 rfl w.heap.size 34 i0 (.agg #[.slice none 0 0, .slice none 0 0, .int .i64 0]) 3 56 Tryd.underlying23 hi hz0 hz1 hz2 rfl (by decide) _ _ _ rfl (HI6.out.alloc _).1 ⟨w6.heap.size, 0, none⟩ 1 1 (FGr.enc g6) rfl rfl (HE6.out ▸ cell_three_new _ _ _ _ _) (FGr.one g6) ?c3 ?c4 ?c5 ?_)
          case c3 => unfold maxLen; omega
          case c4 => omega
          case c5 => simp; omega
          intro v8 w8 hown8 hgrow8 _
          have HI8 : Hid (GI B r (q + 43 - 14 * k + 1 + 9 + 1 + 1 + 1) w w8 v8 (L ++ [g6])) := (HI6.out.alloc _).more (HGO6.out.keep (alloc_keep _ _)) hown8 hgrow8
          have HL8 : Hid (∀ x ∈ L ++ [g6], GrBd x) := by
            intro x hx
            rcases List.mem_append.1 hx with hx | hx
            · exact HL.out x hx
            · simp at hx; subst hx; exact HBD6.out
          have HA8 : Hid (Apart (L ++ [g6])) := HA.out.snoc HNA6.out
          clear hown8 hgrow8
          go_wp2
          go_roundw
          case rel => exact ⟨k - 1, L ++ [g6], by omega, by go_num, by simp; omega, HL8, HI8.out.mono (by omega), HA8⟩
          case measure => simp [intOf]; omega
        by_cases hz0' : 0 < z
        · have hr0' : decide ((0 : Int) < (R.length : Int)) = false := decide_eq_false (by omega)
          have hz0'' : decide ((0 : Int) < (z : Int)) = true := by simp; omega
          go_wp2_with (at_builtin; refine wpList_append_own _ rfl _ _ 23 rfl w.heap.size 34 i0 (.agg #[.slice none 0 0, .slice none 0 0, .int .i64 0]) 3 56 Tryd.underlying23 hi hz0 hz1 hz2 rfl (by decide) _ _ _ rfl (HI6.out.alloc _).1 ⟨w6.heap.size, 0, none⟩ 1 1 (FGr.enc g6) rfl rfl (HE6.out ▸ cell_three_new _ _ _ _ _) (FGr.one g6) ?c3 ?c4 ?c5 ?_)
          case c3 => unfold maxLen; omega
          case c4 => omega
          case c5 => simp; omega
          intro v8 w8 hown8 hgrow8 _
          have HI8 : Hid (GI B r (q + 43 - 14 * k + 1 + 9 + 1 + 1 + 1) w w8 v8 (L ++ [g6])) := (HI6.out.alloc _).more (HGO6.out.keep (alloc_keep _ _)) hown8 hgrow8
          have HL8 : Hid (∀ x ∈ L ++ [g6], GrBd x) := by
            intro x hx
            rcases List.mem_append.1 hx with hx | hx
            · exact HL.out x hx
            · simp at hx; subst hx; exact HBD6.out
          have HA8 : Hid (Apart (L ++ [g6])) := HA.out.snoc HNA6.out
          clear hown8 hgrow8
          go_wp2
          go_roundw
          case rel => exact ⟨k - 1, L ++ [g6], by omega, by go_num, by simp; omega, HL8, HI8.out.mono (by omega), HA8⟩
          case measure => simp [intOf]; omega
        · have hr0' : decide ((0 : Int) < (R.length : Int)) = false := decide_eq_false (by omega)
          have hz0'' : decide ((0 : Int) < (z : Int)) = false := by simp; omega
          have hs1 : R.length = 0 := by omega
          have hs2 : z = 0 := by omega
          go_wp2
          go_roundw
          case rel => exact ⟨k - 1, L, by omega, by go_num, by omega, HL, HI6.out.mono (by omega), HA⟩
          case measure => simp [intOf]; omega
    · have hk0 : k = 0 := by omega
      subst hk0
      go_wp2_with fail
      refine (pick_any B r _ 24 _ HI.out.rd (by omega) (by omega) (by omega)).mono ?_
      rintro e w2 ⟨x, rfl, hx, hr2, hg2⟩
      have HI2 : Hid (GI B r (q + 43 - 14 * 0 + 1) w w2 u3 L) := HI.out.step hg2 hr2
      have hw2 : w.heap.size < w2.heap.size := HI2.out.2.2.2.2.1
      have HNB : Hid (∀ x ∈ L, ∀ b, ruBlk x = some b → (Value.slice none 0 0).ownBlock ≠ some b) := fun _ _ _ _ e => by simp [Value.ownBlock] at e
      clear hr2 hg2
      by_cases hx0 : x = 0
      · subst hx0
        obtain ⟨g7, hg7⟩ : ∃ g7 : Gr, g7 = (⟨[⟨#[120]⟩], some ⟨w2.heap.size, 0, none⟩, 1, [], none, 0, 0⟩ : Gr) := ⟨_, rfl⟩
        have HE7 : Hid (FGr.enc g7 = FGr.enc (⟨[⟨#[120]⟩], some ⟨w2.heap.size, 0, none⟩, 1, [], none, 0, 0⟩ : Gr)) := by rw [hg7]; rfl
        have HI7 : Hid (GI B r (q + 43 - 14 * 0 + 1) w (w2.alloc (.cells #[.string ⟨#[120]⟩] 9)) u3 L) := HI2.out.alloc _
        have HGO7 : Hid (GrOwn (w2.alloc (.cells #[.string ⟨#[120]⟩] 9)) w.heap.size g7) := by rw [hg7]; exact ⟨Owns.lit1 w2 w.heap.size _ (by omega), OwnsR.nil _ _ _ _⟩
        have HBD7 : Hid (GrBd g7) := by rw [hg7]; exact ⟨by simp, (fun s hs => by simp at hs; subst hs; decide), by simp, (fun x hx => by cases hx), by show (0 : Int) ≤ 0; decide, by show (0 : Int) ≤ 6; decide⟩
        have HNA7 : Hid (∀ x ∈ L, ∀ b, ruBlk x = some b → ruBlk g7 ≠ some b) := by rw [hg7]; exact HNB.out
        clear hg7
        go_wp2_with (at_builtin; refine wpList_append_own _ rfl _ _ 23 rfl w.heap.size 34 i0 (.agg #[.slice none 0 0, .slice none 0 0, .int .i64 0]) 3 56 Tryd.underlying23 hi hz0 hz1 hz2 rfl (by decide) _ _ _ rfl (HI7.out.alloc _).1 ⟨w2.heap.size + 1, 0, none⟩ 1 1 (FGr.enc g7) rfl rfl (HE7.out ▸ cell_three_newE (by simp) _ _ _ _) (FGr.one g7) ?c3 ?c4 ?c5 ?_)
        case c3 => unfold maxLen; omega
        case c4 => omega
        case c5 => simp; omega
        intro v8 w8 hown8 hgrow8 _
        have HI8 : Hid (GI B r (q + 43 - 14 * 0 + 1) w w8 v8 (L ++ [g7])) := (HI7.out.alloc _).more (HGO7.out.keep (alloc_keep _ _)) hown8 hgrow8
        have HL8 : Hid (∀ x ∈ L ++ [g7], GrBd x) := by
          intro x hx
          rcases List.mem_append.1 hx with hx | hx
          · exact HL.out x hx
          · simp at hx; subst hx; exact HBD7.out
        have HA8 : Hid (Apart (L ++ [g7])) := HA.out.snoc HNA7.out
        clear hown8 hgrow8
        go_wp2
        go_ret
        obtain ⟨a1, c1, hv, _⟩ := HI8.out.1.rows
        subst hv
        exact ⟨L ++ [g7], a1, c1, rfl, HI8.out.mono (by omega), HA8.out, by simp; omega, HL8.out⟩
      by_cases hx1 : x = 1
      · subst hx1
        obtain ⟨g7, hg7⟩ : ∃ g7 : Gr, g7 = (⟨[], none, 0, [], none, 0, 2⟩ : Gr) := ⟨_, rfl⟩
        have HE7 : Hid (FGr.enc g7 = FGr.enc (⟨[], none, 0, [], none, 0, 2⟩ : Gr)) := by rw [hg7]; rfl
        have HI7 : Hid (GI B r (q + 43 - 14 * 0 + 1) w w2 u3 L) := HI2.out
        have HGO7 : Hid (GrOwn w2 w.heap.size g7) := by rw [hg7]; exact ⟨Owns.nil _ _, OwnsR.nil _ _ _ _⟩
        have HBD7 : Hid (GrBd g7) := by rw [hg7]; exact ⟨by simp, (fun s hs => by cases hs), by simp, (fun x hx => by cases hx), by show (0 : Int) ≤ 2; decide, by show (2 : Int) ≤ 6; decide⟩
        have HNA7 : Hid (∀ x ∈ L, ∀ b, ruBlk x = some b → ruBlk g7 ≠ some b) := by rw [hg7]; exact HNB.out
        clear hg7
        go_wp2_with (at_builtin; refine wpList_append_own _ rfl _ _ 23 rfl w.heap.size 34 i0 (.agg #[.slice none 0 0, .slice none 0 0, .int .i64 0]) 3 56 Tryd.underlying23 hi hz0 hz1 hz2 rfl (by decide) _ _ _ rfl (HI7.out.alloc _).1 ⟨w2.heap.size, 0, none⟩ 1 1 (FGr.enc g7) rfl rfl (HE7.out ▸ cell_three_newE (by rfl) _ _ _ _) (FGr.one g7) ?c3 ?c4 ?c5 ?_)
        case c3 => unfold maxLen; omega
        case c4 => omega
        case c5 => simp; omega
        intro v8 w8 hown8 hgrow8 _
        have HI8 : Hid (GI B r (q + 43 - 14 * 0 + 1) w w8 v8 (L ++ [g7])) := (HI7.out.alloc _).more (HGO7.out.keep (alloc_keep _ _)) hown8 hgrow8
        have HL8 : Hid (∀ x ∈ L ++ [g7], GrBd x) := by
          intro x hx
          rcases List.mem_append.1 hx with hx | hx
          · exact HL.out x hx
          · simp at hx; subst hx; exact HBD7.out
        have HA8 : Hid (Apart (L ++ [g7])) := HA.out.snoc HNA7.out
        clear hown8 hgrow8
        go_wp2
        go_ret
        obtain ⟨a1, c1, hv, _⟩ := HI8.out.1.rows
        subst hv
        exact ⟨L ++ [g7], a1, c1, rfl, HI8.out.mono (by omega), HA8.out, by simp; omega, HL8.out⟩
      by_cases hx2 : x = 2
      · subst hx2
        obtain ⟨g7, hg7⟩ : ∃ g7 : Gr, g7 = (⟨[⟨#[88]⟩], some ⟨w2.heap.size, 0, none⟩, 1, [], none, 0, 2⟩ : Gr) := ⟨_, rfl⟩
        have HE7 : Hid (FGr.enc g7 = FGr.enc (⟨[⟨#[88]⟩], some ⟨w2.heap.size, 0, none⟩, 1, [], none, 0, 2⟩ : Gr)) := by rw [hg7]; rfl
        have HI7 : Hid (GI B r (q + 43 - 14 * 0 + 1) w (w2.alloc (.cells #[.string ⟨#[88]⟩] 9)) u3 L) := HI2.out.alloc _
        have HGO7 : Hid (GrOwn (w2.alloc (.cells #[.string ⟨#[88]⟩] 9)) w.heap.size g7) := by rw [hg7]; exact ⟨Owns.lit1 w2 w.heap.size _ (by omega), OwnsR.nil _ _ _ _⟩
        have HBD7 : Hid (GrBd g7) := by rw [hg7]; exact ⟨by simp, (fun s hs => by simp at hs; subst hs; decide), by simp, (fun x hx => by cases hx), by show (0 : Int) ≤ 2; decide, by show (2 : Int) ≤ 6; decide⟩
        have HNA7 : Hid (∀ x ∈ L, ∀ b, ruBlk x = some b → ruBlk g7 ≠ some b) := by rw [hg7]; exact HNB.out
        clear hg7
        go_wp2_with (at_builtin; refine wpList_append_own _ rfl _ _ 23 rfl w.heap.size 34 i0 (.agg #[.slice none 0 0, .slice none 0 0, .int .i64 0]) 3 56 Tryd.underlying23 hi hz0 hz1 hz2 rfl (by decide) _ _ _ rfl (HI7.out.alloc _).1 ⟨w2.heap.size + 1, 0, none⟩ 1 1 (FGr.enc g7) rfl rfl (HE7.out ▸ cell_three_newE (by simp) _ _ _ _) (FGr.one g7) ?c3 ?c4 ?c5 ?_)
        case c3 => unfold maxLen; omega
        case c4 => omega
        case c5 => simp; omega
        intro v8 w8 hown8 hgrow8 _
        have HI8 : Hid (GI B r (q + 43 - 14 * 0 + 1) w w8 v8 (L ++ [g7])) := (HI7.out.alloc _).more (HGO7.out.keep (alloc_keep _ _)) hown8 hgrow8
        have HL8 : Hid (∀ x ∈ L ++ [g7], GrBd x) := by
          intro x hx
          rcases List.mem_append.1 hx with hx | hx
          · exact HL.out x hx
          · simp at hx; subst hx; exact HBD7.out
        have HA8 : Hid (Apart (L ++ [g7])) := HA.out.snoc HNA7.out
        clear hown8 hgrow8
        go_wp2
        go_ret
        obtain ⟨a1, c1, hv, _⟩ := HI8.out.1.rows
        subst hv
        exact ⟨L ++ [g7], a1, c1, rfl, HI8.out.mono (by omega), HA8.out, by simp; omega, HL8.out⟩
      · have e0 : ((x : Int) == 0) = false := by simp; omega
        have e1 : ((x : Int) == 1) = false := by simp; omega
        have e2 : ((x : Int) == 2) = false := by simp; omega
        go_wp2
        go_ret
        obtain ⟨a1, c1, hv, _⟩ := HI2.out.1.rows
        subst hv
        exact ⟨L, a1, c1, rfl, HI2.out.mono (by omega), HA.out, by omega, HL.out⟩
end Go.Proofs.YtacelbhoccckbaaDoor.Dr
