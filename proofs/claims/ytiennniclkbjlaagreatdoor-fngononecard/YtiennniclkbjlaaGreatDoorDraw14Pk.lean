/- Several texts in one: Draw14, Grp2, Grp3, Grp3b, Grp4, Draw15. -/
import Derived.Test.YtiennniclkbjlaaGreatDoorDraw12r
import Derived.Test.YtiennniclkbjlaaGreatDoorGrpMathPk
import Derived.Test.YtiennniclkbjlaaGreatDoorDrawG
import Derived.Test.YtiennniclkbjlaaGreatDoorEscLeafPk
/- Groups of a notice are drawn. -/
namespace Go.Proofs.YtiennniclkbjlaaGreatDoor.Dr
open Go.RowKit Go.Proofs.YtiennniclkbjlaaGreatDoor.EscM Go.Proofs.YtiennniclkbjlaaGreatDoor.St Go.Proofs.YtiennniclkbjlaaGreatDoor.RR Go.Proofs.YtiennniclkbjlaaGreatDoor.LetM Go.Proofs.YtiennniclkbjlaaGreatDoor.Nm Go.Proofs.YtiennniclkbjlaaGreatDoor.GrM

theorem Tryz.infoGr : (Tryz.prog.info? 35).map (fun i => (i.zero, i.size, i.bytes)) = some (some (.agg #[.slice none 0 0, .slice none 0 0, .int .i64 0]), 3, 56) := by kernel_rfl
theorem info_group : ∃ i, Tryz.prog.info? 35 = some i ∧ i.zero = some (.agg #[.slice none 0 0, .slice none 0 0, .int .i64 0]) ∧ i.size = 3 ∧ i.bytes = 56 := by
  have h := Tryz.infoGr
  cases hi : Tryz.prog.info? 35 with
  | none => rw [hi] at h; cases h
  | some i =>
    rw [hi] at h
    have := Option.some.inj h
    simp only [Prod.mk.injEq] at this
    exact ⟨i, rfl, this.1, this.2.1, this.2.2⟩

/-- its lists are the call's own -/
def GrOwn (w : World) (base : Nat) (g : Gr) : Prop := Owns w base (.slice g.na g.nm.length g.nc) g.nm ∧ OwnsR FRu 135 w base (.slice g.ra g.ru.length g.rc) g.ru
def GrsOwn (w : World) (base : Nat) (L : List Gr) : Prop := ∀ g ∈ L, GrOwn w base g
theorem GrOwn.at {w : World} {base : Nat} {g : Gr} (h : GrOwn w base g) : GrAt w g := ⟨Owns.strsOf h.1, OwnsR.rowsOf h.2⟩
theorem GrsOwn.at {w : World} {base : Nat} {L : List Gr} (h : GrsOwn w base L) : GrsAt w L := fun g hg => (h g hg).at
theorem GrOwn.mono {w : World} {base base' : Nat} {g : Gr} (h : GrOwn w base g) (hb : base' ≤ base) : GrOwn w base' g := ⟨h.1.mono hb, h.2.mono hb⟩
theorem GrsOwn.mono {w : World} {base base' : Nat} {L : List Gr} (h : GrsOwn w base L) (hb : base' ≤ base) : GrsOwn w base' L := fun g hg => (h g hg).mono hb
theorem GrOwn.keep {w w' : World} {base : Nat} {g : Gr} (h : GrOwn w base g) (hb : ∀ k, k < w.heap.size → w'.heap[k]? = w.heap[k]?) : GrOwn w' base g := ⟨h.1.keep hb, h.2.keep hb⟩
theorem GrsOwn.keep {w w' : World} {base : Nat} {L : List Gr} (h : GrsOwn w base L) (hb : ∀ k, k < w.heap.size → w'.heap[k]? = w.heap[k]?) : GrsOwn w' base L := fun g hg => (h g hg).keep hb
theorem GrOwn.keptR {w w' : World} {base r : Nat} {g : Gr} (h : GrOwn w base g) (hg : w.grownBy w' (some r)) (hr : r < base) : GrOwn w' base g := ⟨h.1.keptR hg hr, h.2.keptR hg hr⟩
theorem GrsOwn.keptR {w w' : World} {base r : Nat} {L : List Gr} (h : GrsOwn w base L) (hg : w.grownBy w' (some r)) (hr : r < base) : GrsOwn w' base L := fun g hg' => (h g hg').keptR hg hr
theorem own_block_type {w : World} {base k n : Nat} {t : TypeId} {v : Value} {xs : List Value} {b : Nat} (h : w.ownsRow base t k v n xs) (hv : v.ownBlock = some b) : ∃ c, w.heap[b]? = some (.cells c t) := by
  obtain ⟨_, ⟨rfl, _⟩ | ⟨g, cap, cur, rfl, hg, hh, _⟩⟩ := h
  · simp [Value.ownBlock] at hv
  · simp [Value.ownBlock] at hv; subst hv; exact ⟨_, hh⟩
/-- a list of another type of elements is not where that row lies -/
theorem own_apart {w w' : World} {base base2 k k2 n m : Nat} {t t2 : TypeId} {v v2 : Value} {xs ys : List Value} (h : w.ownsRow base t k v n xs) (h2 : w.ownsRow base2 t2 k2 v2 m ys) (ht : t ≠ t2) (hg : w.grownBy w' v2.ownBlock) : w'.ownsRow base t k v n xs := by
  refine World.ownsRow.kept h hg ?_
  cases hv : v.ownBlock with
  | none => exact Or.inl rfl
  | some b =>
    right
    intro e
    obtain ⟨c, hc⟩ := own_block_type h hv
    obtain ⟨c2, hc2⟩ := own_block_type h2 e.symm
    rw [hc] at hc2
    injection hc2 with hc2
    injection hc2 with _ ht2
    exact ht ht2
theorem GrOwn.apart {w w' : World} {base base2 k2 m : Nat} {t2 : TypeId} {v2 : Value} {ys : List Value} {g : Gr} (h : GrOwn w base g) (h2 : w.ownsRow base2 t2 k2 v2 m ys) (hs : 9 ≠ t2) (hr : 135 ≠ t2) (hg : w.grownBy w' v2.ownBlock) : GrOwn w' base g :=
  ⟨own_apart h.1 h2 hs hg, own_apart h.2 h2 hr hg⟩
theorem GrsOwn.apart {w w' : World} {base base2 k2 m : Nat} {t2 : TypeId} {v2 : Value} {ys : List Value} {L : List Gr} (h : GrsOwn w base L) (h2 : w.ownsRow base2 t2 k2 v2 m ys) (hs : 9 ≠ t2) (hr : 135 ≠ t2) (hg : w.grownBy w' v2.ownBlock) : GrsOwn w' base L := fun g hg' => (h g hg').apart h2 hs hr hg
/-- how great a drawn group is -/
def GrBd (g : Gr) : Prop := g.nm.length ≤ 2 ∧ (∀ s ∈ g.nm, s.size ≤ 5) ∧ g.ru.length ≤ 4 ∧ (∀ r ∈ g.ru, r.path.size ≤ 16) ∧ 0 ≤ g.wait ∧ g.wait ≤ 6
theorem GrBd.sz {g : Gr} (h : GrBd g) : GrSz g := ⟨by have := h.1; omega, by have := h.2.2.1; omega, fun s hs => Nat.le_trans (h.2.1 s hs) (by decide), fun r hr => Nat.le_trans (h.2.2.2.1 r hr) (by decide)⟩
def ruBlk (g : Gr) : Option Nat := (Value.slice g.ra g.ru.length g.rc).ownBlock
/-- no two share a list of rules -/
def Apart (L : List Gr) : Prop := L.Pairwise fun g h => ∀ b, ruBlk g = some b → ruBlk h ≠ some b

theorem Owns.lit1 (w : World) (base : Nat) (s : ByteArray) (hb : base ≤ w.heap.size) : Owns (w.alloc (.cells #[.string s] 9)) base (.slice (some ⟨w.heap.size, 0, none⟩) 1 1) [s] := by
  refine ⟨by simp [cellsS], Or.inr ⟨w.heap.size, 1, #[.string s], rfl, hb, ?_, Nat.le_refl _, by decide, rfl, by simp [cellsS]⟩⟩
  show (w.heap.push _)[w.heap.size]? = _
  simp
theorem cell_three_new (w : World) (x y z : Value) (t : TypeId) : ∀ (j : Nat) (u : Value), [x, y, z][j]? = some u → (w.alloc (.cells #[x, y, z] t)).cell? ((⟨w.heap.size, 0, none⟩ : Addr).add j) = some u := by
  intro j u hu
  have hb : (w.alloc (.cells #[x, y, z] t)).heap[w.heap.size]? = some (.cells #[x, y, z] t) := by show (w.heap.push _)[w.heap.size]? = _; simp
  rw [add_mk, Nat.zero_add]
  unfold World.cell?
  dsimp only
  rw [hb]
  simpa using hu

theorem cell_three_newE {w : World} {g : Nat} (e : w.heap.size = g) (x y z : Value) (t : TypeId) : ∀ (j : Nat) (u : Value), [x, y, z][j]? = some u → (w.alloc (.cells #[x, y, z] t)).cell? ((⟨g, 0, none⟩ : Addr).add j) = some u := by
  subst e; exact cell_three_new w x y z t
/-- what is drawn so far, in the world w1 behind w -/
def GI (B r q : Nat) (w w1 : World) (v : Value) (L : List Gr) : Prop :=
  OwnsR FGr 35 w1 w.heap.size v L ∧ GrsOwn w1 w.heap.size L ∧ IsRd B w1 r q ∧ w.grownBy w1 (some r) ∧ w.heap.size < w1.heap.size ∧ r < w.heap.size
theorem GI.step {B r q q' : Nat} {w w1 w2 : World} {v : Value} {L : List Gr} (h : GI B r q w w1 v L) (hg : w1.grownBy w2 (some r)) (hr : IsRd B w2 r q') : GI B r q' w w2 v L := by
  obtain ⟨h1, h2, h3, h4, h5, h6⟩ := h
  exact ⟨h1.keptR hg h6, h2.keptR hg h6, hr, grown_trans h4 hg, by have := hg.size; omega, h6⟩
theorem GI.alloc {B r q : Nat} {w w1 : World} {v : Value} {L : List Gr} (h : GI B r q w w1 v L) (o : Obj) : GI B r q w (w1.alloc o) v L :=
  h.step (grown_alloc _ _ _) (h.2.2.1.alloc o)
theorem GI.rd {B r q : Nat} {w w1 : World} {v : Value} {L : List Gr} (h : GI B r q w w1 v L) : IsRd B w1 r q := h.2.2.1
theorem GI.mono {B r q q' : Nat} {w w1 : World} {v : Value} {L : List Gr} (h : GI B r q w w1 v L) (hq : q ≤ q') : GI B r q' w w1 v L := ⟨h.1, h.2.1, h.2.2.1.mono hq, h.2.2.2⟩
/-- where another list of one's own grows -/
theorem GI.past {B r q : Nat} {w w1 w2 : World} {v : Value} {L : List Gr} (h : GI B r q w w1 v L) {base2 k2 m : Nat} {t2 : TypeId} {v2 : Value} {ys : List Value} (h2 : w1.ownsRow base2 t2 k2 v2 m ys) (hb : w1.heap.size ≤ base2 ∨ w.heap.size ≤ base2) (hnew : ∀ g ∈ L, GrOwn w2 w.heap.size g) (ht : 35 ≠ t2) (hg : w1.grownBy w2 v2.ownBlock) : GI B r q w w2 v L := by
  obtain ⟨h1, h2', h3, h4, h5, h6⟩ := h
  have hbb : w.heap.size ≤ base2 := by omega
  have hblk : ∀ k, v2.ownBlock = some k → w.heap.size ≤ k := by
    intro k hk
    obtain ⟨_, ⟨rfl, _⟩ | ⟨g, cap, cur, rfl, hg', _⟩⟩ := h2
    · simp [Value.ownBlock] at hk
    · simp [Value.ownBlock] at hk; omega
  exact ⟨own_apart h1 h2 ht hg, hnew, h3.grownRow (base := w.heap.size) hg h6 hblk, grown_past h4 hg hblk, by have := hg.size; omega, h6⟩
/-- a group more -/
theorem GI.more {B r q : Nat} {w w1 w2 : World} {v v' : Value} {L : List Gr} {g : Gr} (h : GI B r q w w1 v L) (hgo : GrOwn w1 w.heap.size g) (hO : w2.ownsRow w.heap.size 35 3 v' (L.length + 1) (FGr.cells L ++ FGr.enc g)) (hg : w1.grownBy w2 v.ownBlock) : GI B r q w w2 v' (L ++ [g]) := by
  obtain ⟨h1, h2, h3, h4, h5, h6⟩ := h
  refine ⟨OwnsR.append (F := FGr) hO, ?_, h3.grownRow (base := w.heap.size) hg h6 (OwnsR.block h1), grown_past h4 hg (OwnsR.block h1), by have := hg.size; omega, h6⟩
  intro x hx
  rcases List.mem_append.1 hx with hx | hx
  · exact (h2 x hx).apart h1 (by decide) (by decide) hg
  · simp at hx; subst hx; exact hgo.apart h1 (by decide) (by decide) hg
theorem Apart.snoc {L : List Gr} {g : Gr} (h : Apart L) (hn : ∀ x ∈ L, ∀ b, ruBlk x = some b → ruBlk g ≠ some b) : Apart (L ++ [g]) := by
  unfold Apart
  rw [List.pairwise_append]
  refine ⟨h, List.pairwise_singleton _ _, ?_⟩
  intro a ha b hb
  simp at hb; subst hb; exact hn a ha
theorem own_lt {w : World} {base k n : Nat} {t : TypeId} {v : Value} {xs : List Value} (h : w.ownsRow base t k v n xs) : ∀ b, v.ownBlock = some b → b < w.heap.size := by
  intro b hb
  obtain ⟨c, hc⟩ := own_block_type h hb
  exact (Array.getElem?_eq_some_iff.1 hc).1
theorem new_apart {w w1 : World} {base b2 : Nat} {L : List Gr} {g : Gr} (h : GrsOwn w base L) (hs : w.heap.size ≤ b2) (h2 : OwnsR FRu 135 w1 b2 (.slice g.ra g.ru.length g.rc) g.ru) : ∀ x ∈ L, ∀ b, ruBlk x = some b → ruBlk g ≠ some b := by
  intro x hx b hb e
  have h1 := own_lt (h x hx).2 b hb
  have h3 := OwnsR.block h2 b e
  omega

theorem own_type {w w' : World} {base k n G : Nat} {t t2 : TypeId} {v : Value} {xs : List Value} {C : Array Value} (h : w.ownsRow base t k v n xs) (hG : w.heap[G]? = some (.cells C t2 (0, 0))) (ht : t ≠ t2) (hg : w.grownBy w' (some G)) : w'.ownsRow base t k v n xs := by
  refine World.ownsRow.kept h hg ?_
  cases hv : v.ownBlock with
  | none => exact Or.inl rfl
  | some b =>
    right
    intro e
    have e := Option.some.inj e
    subst e
    obtain ⟨c, hc⟩ := own_block_type h hv
    rw [hc] at hG
    injection hG with hG
    injection hG with _ hG
    exact ht hG
/-- its lists lie below a block -/
def GrLt (M : Nat) (g : Gr) : Prop := (∀ b, (Value.slice g.na g.nm.length g.nc).ownBlock = some b → b < M) ∧ ∀ b, (Value.slice g.ra g.ru.length g.rc).ownBlock = some b → b < M
theorem GrOwn.lt {w : World} {base : Nat} {g : Gr} (h : GrOwn w base g) : GrLt w.heap.size g := ⟨own_lt h.1, own_lt h.2⟩
theorem own_far {w w' : World} {base k n c M : Nat} {t : TypeId} {v : Value} {xs : List Value} (h : w.ownsRow base t k v n xs) (hl : ∀ b, v.ownBlock = some b → b < M) (hg : w.grownBy w' (some c)) (hc : M ≤ c) : w'.ownsRow base t k v n xs := by
  refine World.ownsRow.kept h hg ?_
  cases hv : v.ownBlock with
  | none => exact Or.inl rfl
  | some b =>
    right
    intro e
    have := hl b hv
    have := Option.some.inj e
    omega
theorem GrOwn.far {w w' : World} {base c M : Nat} {g : Gr} (h : GrOwn w base g) (hl : GrLt M g) (hg : w.grownBy w' (some c)) (hc : M ≤ c) : GrOwn w' base g := ⟨own_far h.1 hl.1 hg hc, own_far h.2 hl.2 hg hc⟩
theorem GI.far {B r q c M : Nat} {w w1 w2 : World} {v : Value} {L : List Gr} (h : GI B r q w w1 v L) (hv : ∀ b, v.ownBlock = some b → b < M) (hL : ∀ g ∈ L, GrLt M g) (hg : w1.grownBy w2 (some c)) (hc : M ≤ c) (hw : w.heap.size ≤ c) : GI B r q w w2 v L := by
  obtain ⟨h1, h2, h3, h4, h5, h6⟩ := h
  exact ⟨own_far h1 hv hg hc, fun g hg' => (h2 g hg').far (hL g hg') hg hc, h3.grownRow (base := w.heap.size) hg h6 (fun k hk => by have := Option.some.inj hk; omega), grown_past h4 hg (fun k hk => by have := Option.some.inj hk; omega), by have := hg.size; omega, h6⟩

set_option maxRecDepth 100000 in
set_option maxHeartbeats 6400000 in
theorem groups_any (B r q : Nat) (w : World) (h : IsRd B w r q) (hq : q ≤ 8000) :
    Calls Tryz.prog 97 #[.pointer (some ⟨r, 0, none⟩)] w fun e w' => ∃ (L : List Gr) (a1 : Option Addr) (c1 : Nat), e = .returned (.slice a1 L.length c1) ∧ GI B r (q + 44) w w' (.slice a1 L.length c1) L ∧ Apart L ∧ L.length ≤ 4 ∧ (∀ g ∈ L, GrBd g) := by
  obtain ⟨i0, hi, hz0, hz1, hz2⟩ := info_group
  obtain ⟨i9, hi9, hz90, hz91, hz92⟩ := info_parts Tryz.infoS
  have hle := h.le
  have HR0 : Hid (IsRd B w r q) := h
  clear h
  go_enter Tryz.func97, Tryz.ntmps97
  go_wp2_with fail
  refine (pick_any B r q 4 _ (HR0.out.alloc _) (by omega) (by omega) (by omega)).mono ?_
  rintro e w1 ⟨n0, rfl, hn0, hr1, hg1⟩
  have HI1 : Hid (GI B r (q + 1) w w1 (.slice (some ⟨w.heap.size, 0, none⟩) 0 0) []) :=
    ⟨(OwnsR.empty FGr 35 w w.heap.size (Nat.le_refl _)).keptR hg1 hle.2, (fun x hx => by cases hx), hr1, grown_trans (grown_alloc _ _ _) hg1, by have := hg1.size; simp at this; omega, hle.2⟩
  clear hr1 hg1
  go_wp2
  go_loopw [3, 4] (fun v i wr => ∃ (k : Nat) (L : List Gr), k ≤ 3 ∧ i = .int .i64 (k : Int) ∧ L.length + k ≤ 3 ∧ Hid (∀ g ∈ L, GrBd g) ∧ Hid (GI B r (q + 43 - 14 * k) w wr v L) ∧ Hid (Apart L)) (fun _ i _ => (intOf i).toNat)
  case atStart => exact ⟨n0, [], by omega, rfl, by simp; omega, (fun x hx => by cases hx), HI1.out.mono (by omega), List.Pairwise.nil⟩
  case round =>
    obtain ⟨k, L, hk, rfl, hLk, HL, HI, HA⟩ := hrel
    have hrl := HI.out.rd.le
    have hwr : w.heap.size < wr.heap.size := HI.out.2.2.2.2.1
    have HLT : Hid (∀ g ∈ L, GrLt wr.heap.size g) := fun g hg => (HI.out.2.1 g hg).lt
    have HVT : Hid (∀ b, u3.ownBlock = some b → b < wr.heap.size) := own_lt HI.out.1
    by_cases hlt : 0 < k
    · go_wp2_with fail
      refine (of_lit B r (q + 43 - 14 * k) wr.heap.size 3 _ _ (fun s => decide (s.size ≤ 5)) _ (HI.out.rd.alloc _) (by omega) (by omega) (heap_new _ _) rfl (by decide) (by decide) (by decide)).mono ?_
      rintro e w2 ⟨s1, rfl, hs1, hr2, hg2⟩
      have hs1' : s1.size ≤ 5 := of_decide_eq_true hs1
      have HI2 : Hid (GI B r (q + 43 - 14 * k + 1) w w2 u3 L) := (HI.out.alloc _).step hg2 hr2
      have hw2 : w.heap.size < w2.heap.size := HI2.out.2.2.2.2.1
      have hwr2 : wr.heap.size < w2.heap.size := by have := hg2.size; simp at this; omega
      clear hs1 hr2 hg2
      go_wp2_with fail
      refine (rules_any B r _ _ (HI2.out.rd.alloc _) (by omega)).mono ?_
      rintro e w3 ⟨R, a3, c3, rfl, hO3, hR4, hRs, hr3, hg3⟩
      have HN3 : Hid (Owns w3 w.heap.size (.slice (some ⟨w2.heap.size, 0, none⟩) 1 1) [s1]) := (Owns.lit1 w2 w.heap.size s1 (by omega)).keptR hg3 hle.2
      have HI3 : Hid (GI B r (q + 43 - 14 * k + 1 + 9) w w3 u3 L) := (HI2.out.alloc _).step hg3 hr3
      have HNA : Hid (∀ x ∈ L, ∀ b, ruBlk x = some b → (Value.slice a3 R.length c3).ownBlock ≠ some b) := new_apart (g := ⟨[], none, 0, R, a3, c3, 0⟩) (HI2.out.alloc (.cells #[.string s1] 9)).2.1 (Nat.le_refl _) hO3
      have HO3 : Hid (OwnsR FRu 135 w3 w.heap.size (.slice a3 R.length c3) R) := hO3.mono (by simp; omega)
      have HRs : Hid _ := hRs
      have hw3 : w.heap.size < w3.heap.size := HI3.out.2.2.2.2.1
      have hn3 : w2.heap.size < w3.heap.size := by have := hg3.size; simp at this; omega
      clear hO3 hr3 hg3 hRs
      go_wp2_with fail
      refine (pick_any B r _ 4 _ HI3.out.rd (by omega) (by omega) (by omega)).mono ?_
      rintro e w4 ⟨x, rfl, hx, hr4, hg4⟩
      have HN4 : Hid (Owns w4 w.heap.size (.slice (some ⟨w2.heap.size, 0, none⟩) 1 1) [s1]) := HN3.out.keptR hg4 hle.2
      have HO4 : Hid (OwnsR FRu 135 w4 w.heap.size (.slice a3 R.length c3) R) := HO3.out.keptR hg4 hle.2
      have HI4 : Hid (GI B r (q + 43 - 14 * k + 1 + 9 + 1) w w4 u3 L) := HI3.out.step hg4 hr4
      have hn4 : w2.heap.size < w4.heap.size := by have := hg4.size; omega
      clear hr4 hg4
      go_wp2_with fail
      refine (pick_any B r _ 3 _ HI4.out.rd (by omega) (by omega) (by omega)).mono ?_
      rintro e w5 ⟨y, rfl, hy, hr5, hg5⟩
      have HN5 : Hid (Owns w5 w.heap.size (.slice (some ⟨w2.heap.size, 0, none⟩) 1 1) [s1]) := HN4.out.keptR hg5 hle.2
      have HO5 : Hid (OwnsR FRu 135 w5 w.heap.size (.slice a3 R.length c3) R) := HO4.out.keptR hg5 hle.2
      have HI5 : Hid (GI B r (q + 43 - 14 * k + 1 + 9 + 1 + 1) w w5 u3 L) := HI4.out.step hg5 hr5
      have hw5 : w.heap.size < w5.heap.size := HI5.out.2.2.2.2.1
      have hn5 : w2.heap.size < w5.heap.size := by have := hg5.size; omega
      clear hr5 hg5
      obtain ⟨z, hz6, hz⟩ : ∃ z : Nat, z ≤ 6 ∧ (x : Int) * (y : Int) = (z : Int) := ⟨x * y, Nat.le_trans (Nat.mul_le_mul (show x ≤ 3 by omega) (show y ≤ 2 by omega)) (by decide), by simp⟩
      have hzw : IntKind.i64.wrap ((x : Int) * (y : Int)) = (z : Int) := by rw [hz]; exact IntWalk.i64_in _ (by omega)
      go_wp2_with fail
      refine (pick_any B r _ 4 _ (HI5.out.rd.alloc _) (by omega) (by omega) (by omega)).mono ?_
      rintro e w6 ⟨x6, rfl, hx6, hr6, hg6⟩
      obtain ⟨G, hG⟩ : ∃ G, w5.heap.size = G := ⟨_, rfl⟩
      have HX6 : Hid (Bx 35 w6 G #[.slice (some ⟨w2.heap.size, 0, none⟩) 1 1, .slice a3 R.length c3, .int .i64 (z : Int)]) := by
        rw [← hG]; exact (Bx.new 35 w5 _).grown hg6 (by intro e; have := Option.some.inj e; omega)
      have hw6 : w5.heap.size < w6.heap.size := by have := hg6.size; simp at this; omega
      have HN6 : Hid (Owns w6 w.heap.size (.slice (some ⟨w2.heap.size, 0, none⟩) 1 1) [s1]) := (HN5.out.keep (alloc_keep _ _)).keptR hg6 hle.2
      have HO6 : Hid (OwnsR FRu 135 w6 w.heap.size (.slice a3 R.length c3) R) := (HO5.out.keep (alloc_keep _ _)).keptR hg6 hle.2
      have HI6 : Hid (GI B r (q + 43 - 14 * k + 1 + 9 + 1 + 1 + 1) w w6 u3 L) := (HI5.out.alloc _).step hg6 hr6
      clear hr6 hg6 hz hzw
      have hwG : w.heap.size < G := by rw [← hG]; exact hw5
      have hw6' : G < w6.heap.size := by rw [← hG]; exact hw6
      have hw2G : w2.heap.size < G := by rw [← hG]; exact hn5
      rw [hG]
      clear hG hw6
      have HX6' := HX6.out
      have d0 : w6.cell? ⟨G, 0, none⟩ = some (.slice (some ⟨w2.heap.size, 0, none⟩) 1 1) := HX6'.cell 0 rfl
      have d1 : w6.cell? ⟨G, 1, none⟩ = some (.slice a3 R.length c3) := HX6'.cell 1 rfl
      have d2 : w6.cell? ⟨G, 2, none⟩ = some (.int .i64 (z : Int)) := HX6'.cell 2 rfl
      clear HX6'
      by_cases hx0 : x6 = 0
      · subst hx0
        have d0a : ∀ o, (w6.alloc o).cell? ⟨G, 0, none⟩ = some (.slice (some ⟨w2.heap.size, 0, none⟩) 1 1) := fun o => (HX6.out.alloc o).cell 0 rfl
        have d0d : w6.drew.cell? ⟨G, 0, none⟩ = some (.slice (some ⟨w2.heap.size, 0, none⟩) 1 1) := d0
        have d0ad : ∀ o, (w6.alloc o).drew.cell? ⟨G, 0, none⟩ = some (.slice (some ⟨w2.heap.size, 0, none⟩) 1 1) := fun o => d0a o
        have d0da : ∀ o, (w6.drew.alloc o).cell? ⟨G, 0, none⟩ = some (.slice (some ⟨w2.heap.size, 0, none⟩) 1 1) := fun o => d0a o
        go_wp2_with fail
        go_region_law
          (first
          | (go_simp
             go_at_call 56
             refine (of_newD B r _ 3 _ (fun s => decide (s.size ≤ 5)) w6 HI6.out.rd (by omega) (by decide) (by decide) (by decide) (by decide)).mono ?_
             rintro e w7 ⟨t, rfl, ht, hr7, hg7⟩
             have ht5 : t.size ≤ 5 := of_decide_eq_true ht
             have HX7 : Hid (Bx 35 w7 G #[.slice (some ⟨w2.heap.size, 0, none⟩) 1 1, .slice a3 R.length c3, .int .i64 (z : Int)]) := HX6.out.grown hg7 (by intro e; have := Option.some.inj e; omega)
             have HN7 : Hid (Owns w7 w.heap.size (.slice (some ⟨w2.heap.size, 0, none⟩) 1 1) [s1]) := HN6.out.keptR hg7 hle.2
             have HO7 : Hid (OwnsR FRu 135 w7 w.heap.size (.slice a3 R.length c3) R) := HO6.out.keptR hg7 hle.2
             have HI7 : Hid (GI B r (q + 43 - 14 * k + 1 + 9 + 1 + 1 + 1 + 1) w w7 u3 L) := HI6.out.step hg7 hr7
             have hw7 : w.heap.size < w7.heap.size := HI7.out.2.2.2.2.1
             have f0 : w7.cell? ⟨G, 0, none⟩ = some (.slice (some ⟨w2.heap.size, 0, none⟩) 1 1) := HX7.out.cell 0 rfl
             have f0a : ∀ o, (w7.alloc o).cell? ⟨G, 0, none⟩ = some (.slice (some ⟨w2.heap.size, 0, none⟩) 1 1) := fun o => (HX7.out.alloc o).cell 0 rfl
             have f0d : w7.drew.cell? ⟨G, 0, none⟩ = some (.slice (some ⟨w2.heap.size, 0, none⟩) 1 1) := f0
             have f0ad : ∀ o, (w7.alloc o).drew.cell? ⟨G, 0, none⟩ = some (.slice (some ⟨w2.heap.size, 0, none⟩) 1 1) := fun o => f0a o
             have f0da : ∀ o, (w7.drew.alloc o).cell? ⟨G, 0, none⟩ = some (.slice (some ⟨w2.heap.size, 0, none⟩) 1 1) := fun o => f0a o
             clear ht hr7 hg7
             dsimp only)
          | (refine step_app rfl (.tmp 29) (.tmp 33) 23 rfl w.heap.size 9 i9 (.string ⟨#[]⟩) 1 16 Tryz.underlying23 hi9 hz90 hz91 hz92 rfl (by decide) (.slice (some ⟨w2.heap.size, 0, none⟩) 1 1) 1 (cellsS [s1]) rfl (Owns.heapEq (Owns.keep HN7.out (alloc_keep w7 _)) rfl) (some ⟨w7.heap.size, 0, none⟩) 1 1 [.string t] rfl (by intro e; cases e) rfl (by intro ad e; cases e; exact cell_one_new w7 _ _) (by intro u hu; simp at hu; subst hu; rfl) (by decide) (by decide) (by simp; omega) ?_
             intro v8 w8 hO8 hg8
             obtain ⟨a8, c8, hv8, hS8⟩ := (Owns.append (X := [s1]) hO8).strs
             subst hv8
             have HN8 : Hid (Owns w8 w.heap.size (.slice a8 2 c8) [s1, t]) := Owns.append (X := [s1]) hO8
             have hgA : w7.grownBy w8 (some w2.heap.size) := (by refine grown_trans ?_ hg8; exact ⟨rfl, rfl, rfl, by simp, fun k hk _ => Below.heap_alloc w7 _ k hk⟩)
             have HX8 : Hid (Bx 35 w8 G #[.slice (some ⟨w2.heap.size, 0, none⟩) 1 1, .slice a3 R.length c3, .int .i64 (z : Int)]) := HX7.out.grown hgA (by intro e; have := Option.some.inj e; omega)
             have HO8 : Hid (OwnsR FRu 135 w8 w.heap.size (.slice a3 R.length c3) R) := own_apart HO7.out HN7.out (by decide) hgA
             have HI8 : Hid (GI B r (q + 43 - 14 * k + 1 + 9 + 1 + 1 + 1 + 1) w w8 u3 L) := HI7.out.far HVT.out HLT.out hgA (by omega) (by omega)
             have k0 : w8.cell? ⟨G, 0, none⟩ = some (.slice (some ⟨w2.heap.size, 0, none⟩) 1 1) := HX8.out.cell 0 rfl
             have kz : ∀ j, w8.frozen? ⟨G, j, none⟩ = false := HX8.out.free
             have hw8 : w.heap.size < w8.heap.size := HI8.out.2.2.2.2.1
             clear hO8 hS8 hg8 hgA)
          | fail)
        all_goals (
          have HX9 : Hid (Bx 35 (w8.setCell ⟨G, 0, none⟩ (.slice a8 2 c8)) G #[.slice a8 2 c8, .slice a3 R.length c3, .int .i64 (z : Int)]) := HX8.out.set 0 _
          have hgS : w8.grownBy (w8.setCell ⟨G, 0, none⟩ (.slice a8 2 c8)) (some G) := grown_set 0 _
          have hHG : w8.heap[G]? = some (.cells #[.slice (some ⟨w2.heap.size, 0, none⟩) 1 1, .slice a3 R.length c3, .int .i64 (z : Int)] 35 (0, 0)) := HX8.out
          have HN9 : Hid (Owns (w8.setCell ⟨G, 0, none⟩ (.slice a8 2 c8)) w.heap.size (.slice a8 2 c8) [s1, t]) := own_type HN8.out hHG (by decide) hgS
          have HO9 : Hid (OwnsR FRu 135 (w8.setCell ⟨G, 0, none⟩ (.slice a8 2 c8)) w.heap.size (.slice a3 R.length c3) R) := own_type HO8.out hHG (by decide) hgS
          have HI9 : Hid (GI B r (q + 43 - 14 * k + 1 + 9 + 1 + 1 + 1 + 1) w (w8.setCell ⟨G, 0, none⟩ (.slice a8 2 c8)) u3 L) := HI8.out.far HVT.out HLT.out hgS (by omega) (by omega)
          clear hHG hgS HX8 HN8 HO8 HI8 k0 kz f0 f0a f0d f0ad f0da d0 d0a d0d d0ad d0da d1 d2
          generalize w8.setCell ⟨G, 0, none⟩ (.slice a8 2 c8) = w9 at *
          have hw9 : w.heap.size < w9.heap.size := HI9.out.2.2.2.2.1
          have d0 : w9.cell? ⟨G, 0, none⟩ = some (.slice a8 2 c8) := HX9.out.cell 0 rfl
          have d1 : w9.cell? ⟨G, 1, none⟩ = some (.slice a3 R.length c3) := HX9.out.cell 1 rfl
          have d2 : w9.cell? ⟨G, 2, none⟩ = some (.int .i64 (z : Int)) := HX9.out.cell 2 rfl
          obtain ⟨g9, hg9⟩ : ∃ g9 : Gr, g9 = ⟨[s1, t], a8, c8, R, a3, c3, (z : Int)⟩ := ⟨_, rfl⟩
          have HE9 : Hid (FGr.enc g9 = [.slice a8 2 c8, .slice a3 R.length c3, .int .i64 (z : Int)]) := by rw [hg9]; rfl
          have HGO9 : Hid (GrOwn w9 w.heap.size g9) := by rw [hg9]; exact ⟨HN9.out, HO9.out⟩
          have HBD9 : Hid (GrBd g9) := by rw [hg9]; exact ⟨by simp, by intro s hs; simp at hs; rcases hs with hs | hs; (subst hs; exact hs1'); (subst hs; exact ht5), by show R.length ≤ 4; omega, HRs.out, by show (0 : Int) ≤ (z : Int); omega, by show (z : Int) ≤ 6; omega⟩
          have HNA9 : Hid (∀ x ∈ L, ∀ b, ruBlk x = some b → ruBlk g9 ≠ some b) := by rw [hg9]; exact HNA.out
          clear hg9
          by_cases hr0 : 0 < R.length
          · have hr0' : decide ((0 : Int) < (R.length : Int)) = true := by simp; omega
            go_wp2_with (at_builtin; refine wpList_append_own _ rfl _ _ 143 rfl w.heap.size 35 i0 (.agg #[.slice none 0 0, .slice none 0 0, .int .i64 0]) 3 56 Tryz.underlying143 hi hz0 hz1 hz2 rfl (by decide) _ _ _ rfl (HI9.out.alloc _).1 ⟨w9.heap.size, 0, none⟩ 1 1 (FGr.enc g9) rfl rfl (HE9.out ▸ cell_three_new _ _ _ _ _) (FGr.one g9) ?c3 ?c4 ?c5 ?_)
            case c3 => unfold maxLen; omega
            case c4 => omega
            case c5 => simp; omega
            intro v8 w8 hown8 hgrow8 _
            have HI8 : Hid (GI B r (q + 43 - 14 * k + 1 + 9 + 1 + 1 + 1 + 1) w w8 v8 (L ++ [g9])) := (HI9.out.alloc _).more (HGO9.out.keep (alloc_keep _ _)) hown8 hgrow8
            have HL8 : Hid (∀ x ∈ L ++ [g9], GrBd x) := by
              intro x hx
              rcases List.mem_append.1 hx with hx | hx
              · exact HL.out x hx
              · simp at hx; subst hx; exact HBD9.out
            have HA8 : Hid (Apart (L ++ [g9])) := HA.out.snoc HNA9.out
            clear hown8 hgrow8
            go_wp2
            go_roundw
            case rel => exact ⟨k - 1, L ++ [g9], by omega, by go_num, by simp; omega, HL8, HI8.out.mono (by omega), HA8⟩
            case measure => simp [intOf]; omega
          by_cases hz0' : 0 < z
          · have hr0' : decide ((0 : Int) < (R.length : Int)) = false := decide_eq_false (by omega)
            have hz0'' : decide ((0 : Int) < (z : Int)) = true := by simp; omega
            go_wp2_with (at_builtin; refine wpList_append_own _ rfl _ _ 143 rfl w.heap.size 35 i0 (.agg #[.slice none 0 0, .slice none 0 0, .int .i64 0]) 3 56 Tryz.underlying143 hi hz0 hz1 hz2 rfl (by decide) _ _ _ rfl (HI9.out.alloc _).1 ⟨w9.heap.size, 0, none⟩ 1 1 (FGr.enc g9) rfl rfl (HE9.out ▸ cell_three_new _ _ _ _ _) (FGr.one g9) ?c3 ?c4 ?c5 ?_)
            case c3 => unfold maxLen; omega
            case c4 => omega
            case c5 => simp; omega
            intro v8 w8 hown8 hgrow8 _
            have HI8 : Hid (GI B r (q + 43 - 14 * k + 1 + 9 + 1 + 1 + 1 + 1) w w8 v8 (L ++ [g9])) := (HI9.out.alloc _).more (HGO9.out.keep (alloc_keep _ _)) hown8 hgrow8
            have HL8 : Hid (∀ x ∈ L ++ [g9], GrBd x) := by
              intro x hx
              rcases List.mem_append.1 hx with hx | hx
              · exact HL.out x hx
              · simp at hx; subst hx; exact HBD9.out
            have HA8 : Hid (Apart (L ++ [g9])) := HA.out.snoc HNA9.out
            clear hown8 hgrow8
            go_wp2
            go_roundw
            case rel => exact ⟨k - 1, L ++ [g9], by omega, by go_num, by simp; omega, HL8, HI8.out.mono (by omega), HA8⟩
            case measure => simp [intOf]; omega
          · have hr0' : decide ((0 : Int) < (R.length : Int)) = false := decide_eq_false (by omega)
            have hz0'' : decide ((0 : Int) < (z : Int)) = false := by simp; omega
            have hs1 : R.length = 0 := by omega
            have hs2 : z = 0 := by omega
            go_wp2
            go_roundw
            case rel => exact ⟨k - 1, L, by omega, by go_num, by omega, HL, HI9.out.mono (by omega), HA⟩
            case measure => simp [intOf]; omega)
      · have hx0' : ((x6 : Int) == 0) = false := by simp; omega
        obtain ⟨g6, hg6⟩ : ∃ g6 : Gr, g6 = ⟨[s1], some ⟨w2.heap.size, 0, none⟩, 1, R, a3, c3, (z : Int)⟩ := ⟨_, rfl⟩
        have HE6 : Hid (FGr.enc g6 = [.slice (some ⟨w2.heap.size, 0, none⟩) 1 1, .slice a3 R.length c3, .int .i64 (z : Int)]) := by rw [hg6]; rfl
        have HGO6 : Hid (GrOwn w6 w.heap.size g6) := by rw [hg6]; exact ⟨HN6.out, HO6.out⟩
        have HBD6 : Hid (GrBd g6) := by rw [hg6]; exact ⟨by simp, by intro s hs; simp at hs; subst hs; exact hs1', by show R.length ≤ 4; omega, HRs.out, by show (0 : Int) ≤ (z : Int); omega, by show (z : Int) ≤ 6; omega⟩
        have HNA6 : Hid (∀ x ∈ L, ∀ b, ruBlk x = some b → ruBlk g6 ≠ some b) := by rw [hg6]; exact HNA.out
        clear hg6
        by_cases hr0 : 0 < R.length
        · have hr0' : decide ((0 : Int) < (R.length : Int)) = true := by simp; omega
          go_wp2_with (at_builtin; refine wpList_append_own _ rfl _ _ 143 rfl w.heap.size 35 i0 (.agg #[.slice none 0 0, .slice none 0 0, .int .i64 0]) 3 56 Tryz.underlying143 hi hz0 hz1 hz2 rfl (by decide) _ _ _ rfl (HI6.out.alloc _).1 ⟨w6.heap.size, 0, none⟩ 1 1 (FGr.enc g6) rfl rfl (HE6.out ▸ cell_three_new _ _ _ _ _) (FGr.one g6) ?c3 ?c4 ?c5 ?_)
          case c3 => unfold maxLen; omega
          case c4 => omega
          case c5 => simp; omega
          intro v8 w8 hown8 hgrow8 _
          have HI8 : Hid (GI B r (q + 43 - 14 * k + 1 + 9 + 1 + 1 + 1) w w8 v8 (L ++ [g6])) := (HI6.out.alloc _).more (HGO6.out.keep (alloc_keep _ _)) hown8 hgrow8
          have HL8 : Hid (∀ x ∈ L ++ [g6], GrBd x) := by
            intro x hx
            rcases List.mem_append.1 hx with hx | hx
            · exact HL.out x hx
            · simp at hx; subst hx; exact HBD6.out
          have HA8 : Hid (Apart (L ++ [g6])) := HA.out.snoc HNA6.out
          clear hown8 hgrow8
          go_wp2
          go_roundw
          case rel => exact ⟨k - 1, L ++ [g6], by omega, by go_num, by simp; omega, HL8, HI8.out.mono (by omega), HA8⟩
          case measure => simp [intOf]; omega
        by_cases hz0' : 0 < z
        · have hr0' : decide ((0 : Int) < (R.length : Int)) = false := decide_eq_false (by omega)
          have hz0'' : decide ((0 : Int) < (z : Int)) = true := by simp; omega
          go_wp2_with (at_builtin; refine wpList_append_own _ rfl _ _ 143 rfl w.heap.size 35 i0 (.agg #[.slice none 0 0, .slice none 0 0, .int .i64 0]) 3 56 Tryz.underlying143 hi hz0 hz1 hz2 rfl (by decide) _ _ _ rfl (HI6.out.alloc _).1 ⟨w6.heap.size, 0, none⟩ 1 1 (FGr.enc g6) rfl rfl (HE6.out ▸ cell_three_new _ _ _ _ _) (FGr.one g6) ?c3 ?c4 ?c5 ?_)
          case c3 => unfold maxLen; omega
          case c4 => omega
          case c5 => simp; omega
          intro v8 w8 hown8 hgrow8 _
          have HI8 : Hid (GI B r (q + 43 - 14 * k + 1 + 9 + 1 + 1 + 1) w w8 v8 (L ++ [g6])) := (HI6.out.alloc _).more (HGO6.out.keep (alloc_keep _ _)) hown8 hgrow8
          have HL8 : Hid (∀ x ∈ L ++ [g6], GrBd x) := by
            intro x hx
            rcases List.mem_append.1 hx with hx | hx
            · exact HL.out x hx
            · simp at hx; subst hx; exact HBD6.out
          have HA8 : Hid (Apart (L ++ [g6])) := HA.out.snoc HNA6.out
          clear hown8 hgrow8
          go_wp2
          go_roundw
          case rel => exact ⟨k - 1, L ++ [g6], by omega, by go_num, by simp; omega, HL8, HI8.out.mono (by omega), HA8⟩
          case measure => simp [intOf]; omega
        · have hr0' : decide ((0 : Int) < (R.length : Int)) = false := decide_eq_false (by omega)
          have hz0'' : decide ((0 : Int) < (z : Int)) = false := by simp; omega
          have hs1 : R.length = 0 := by omega
          have hs2 : z = 0 := by omega
          go_wp2
          go_roundw
          case rel => exact ⟨k - 1, L, by omega, by go_num, by omega, HL, HI6.out.mono (by omega), HA⟩
          case measure => simp [intOf]; omega
    · have hk0 : k = 0 := by omega
      subst hk0
      go_wp2_with fail
      refine (pick_any B r _ 24 _ HI.out.rd (by omega) (by omega) (by omega)).mono ?_
      rintro e w2 ⟨x, rfl, hx, hr2, hg2⟩
      have HI2 : Hid (GI B r (q + 43 - 14 * 0 + 1) w w2 u3 L) := HI.out.step hg2 hr2
      have hw2 : w.heap.size < w2.heap.size := HI2.out.2.2.2.2.1
      have HNB : Hid (∀ x ∈ L, ∀ b, ruBlk x = some b → (Value.slice none 0 0).ownBlock ≠ some b) := fun _ _ _ _ e => by simp [Value.ownBlock] at e
      clear hr2 hg2
      by_cases hx0 : x = 0
      · subst hx0
        obtain ⟨g7, hg7⟩ : ∃ g7 : Gr, g7 = (⟨[⟨#[120]⟩], some ⟨w2.heap.size, 0, none⟩, 1, [], none, 0, 0⟩ : Gr) := ⟨_, rfl⟩
        have HE7 : Hid (FGr.enc g7 = FGr.enc (⟨[⟨#[120]⟩], some ⟨w2.heap.size, 0, none⟩, 1, [], none, 0, 0⟩ : Gr)) := by rw [hg7]; rfl
        have HI7 : Hid (GI B r (q + 43 - 14 * 0 + 1) w (w2.alloc (.cells #[.string ⟨#[120]⟩] 9)) u3 L) := HI2.out.alloc _
        have HGO7 : Hid (GrOwn (w2.alloc (.cells #[.string ⟨#[120]⟩] 9)) w.heap.size g7) := by rw [hg7]; exact ⟨Owns.lit1 w2 w.heap.size _ (by omega), OwnsR.nil _ _ _ _⟩
        have HBD7 : Hid (GrBd g7) := by rw [hg7]; exact ⟨by simp, (fun s hs => by simp at hs; subst hs; decide), by simp, (fun x hx => by cases hx), by show (0 : Int) ≤ 0; decide, by show (0 : Int) ≤ 6; decide⟩
        have HNA7 : Hid (∀ x ∈ L, ∀ b, ruBlk x = some b → ruBlk g7 ≠ some b) := by rw [hg7]; exact HNB.out
        clear hg7
        go_wp2_with (at_builtin; refine wpList_append_own _ rfl _ _ 143 rfl w.heap.size 35 i0 (.agg #[.slice none 0 0, .slice none 0 0, .int .i64 0]) 3 56 Tryz.underlying143 hi hz0 hz1 hz2 rfl (by decide) _ _ _ rfl (HI7.out.alloc _).1 ⟨w2.heap.size + 1, 0, none⟩ 1 1 (FGr.enc g7) rfl rfl (HE7.out ▸ cell_three_newE (by simp) _ _ _ _) (FGr.one g7) ?c3 ?c4 ?c5 ?_)
        case c3 => unfold maxLen; omega
        case c4 => omega
        case c5 => simp; omega
        intro v8 w8 hown8 hgrow8 _
        have HI8 : Hid (GI B r (q + 43 - 14 * 0 + 1) w w8 v8 (L ++ [g7])) := (HI7.out.alloc _).more (HGO7.out.keep (alloc_keep _ _)) hown8 hgrow8
        have HL8 : Hid (∀ x ∈ L ++ [g7], GrBd x) := by
          intro x hx
          rcases List.mem_append.1 hx with hx | hx
          · exact HL.out x hx
          · simp at hx; subst hx; exact HBD7.out
        have HA8 : Hid (Apart (L ++ [g7])) := HA.out.snoc HNA7.out
        clear hown8 hgrow8
        go_wp2
        go_ret
        obtain ⟨a1, c1, hv, _⟩ := HI8.out.1.rows
        subst hv
        exact ⟨L ++ [g7], a1, c1, rfl, HI8.out.mono (by omega), HA8.out, by simp; omega, HL8.out⟩
      by_cases hx1 : x = 1
      · subst hx1
        obtain ⟨g7, hg7⟩ : ∃ g7 : Gr, g7 = (⟨[], none, 0, [], none, 0, 2⟩ : Gr) := ⟨_, rfl⟩
        have HE7 : Hid (FGr.enc g7 = FGr.enc (⟨[], none, 0, [], none, 0, 2⟩ : Gr)) := by rw [hg7]; rfl
        have HI7 : Hid (GI B r (q + 43 - 14 * 0 + 1) w w2 u3 L) := HI2.out
        have HGO7 : Hid (GrOwn w2 w.heap.size g7) := by rw [hg7]; exact ⟨Owns.nil _ _, OwnsR.nil _ _ _ _⟩
        have HBD7 : Hid (GrBd g7) := by rw [hg7]; exact ⟨by simp, (fun s hs => by cases hs), by simp, (fun x hx => by cases hx), by show (0 : Int) ≤ 2; decide, by show (2 : Int) ≤ 6; decide⟩
        have HNA7 : Hid (∀ x ∈ L, ∀ b, ruBlk x = some b → ruBlk g7 ≠ some b) := by rw [hg7]; exact HNB.out
        clear hg7
        go_wp2_with (at_builtin; refine wpList_append_own _ rfl _ _ 143 rfl w.heap.size 35 i0 (.agg #[.slice none 0 0, .slice none 0 0, .int .i64 0]) 3 56 Tryz.underlying143 hi hz0 hz1 hz2 rfl (by decide) _ _ _ rfl (HI7.out.alloc _).1 ⟨w2.heap.size, 0, none⟩ 1 1 (FGr.enc g7) rfl rfl (HE7.out ▸ cell_three_newE (by rfl) _ _ _ _) (FGr.one g7) ?c3 ?c4 ?c5 ?_)
        case c3 => unfold maxLen; omega
        case c4 => omega
        case c5 => simp; omega
        intro v8 w8 hown8 hgrow8 _
        have HI8 : Hid (GI B r (q + 43 - 14 * 0 + 1) w w8 v8 (L ++ [g7])) := (HI7.out.alloc _).more (HGO7.out.keep (alloc_keep _ _)) hown8 hgrow8
        have HL8 : Hid (∀ x ∈ L ++ [g7], GrBd x) := by
          intro x hx
          rcases List.mem_append.1 hx with hx | hx
          · exact HL.out x hx
          · simp at hx; subst hx; exact HBD7.out
        have HA8 : Hid (Apart (L ++ [g7])) := HA.out.snoc HNA7.out
        clear hown8 hgrow8
        go_wp2
        go_ret
        obtain ⟨a1, c1, hv, _⟩ := HI8.out.1.rows
        subst hv
        exact ⟨L ++ [g7], a1, c1, rfl, HI8.out.mono (by omega), HA8.out, by simp; omega, HL8.out⟩
      by_cases hx2 : x = 2
      · subst hx2
        obtain ⟨g7, hg7⟩ : ∃ g7 : Gr, g7 = (⟨[⟨#[88]⟩], some ⟨w2.heap.size, 0, none⟩, 1, [], none, 0, 2⟩ : Gr) := ⟨_, rfl⟩
        have HE7 : Hid (FGr.enc g7 = FGr.enc (⟨[⟨#[88]⟩], some ⟨w2.heap.size, 0, none⟩, 1, [], none, 0, 2⟩ : Gr)) := by rw [hg7]; rfl
        have HI7 : Hid (GI B r (q + 43 - 14 * 0 + 1) w (w2.alloc (.cells #[.string ⟨#[88]⟩] 9)) u3 L) := HI2.out.alloc _
        have HGO7 : Hid (GrOwn (w2.alloc (.cells #[.string ⟨#[88]⟩] 9)) w.heap.size g7) := by rw [hg7]; exact ⟨Owns.lit1 w2 w.heap.size _ (by omega), OwnsR.nil _ _ _ _⟩
        have HBD7 : Hid (GrBd g7) := by rw [hg7]; exact ⟨by simp, (fun s hs => by simp at hs; subst hs; decide), by simp, (fun x hx => by cases hx), by show (0 : Int) ≤ 2; decide, by show (2 : Int) ≤ 6; decide⟩
        have HNA7 : Hid (∀ x ∈ L, ∀ b, ruBlk x = some b → ruBlk g7 ≠ some b) := by rw [hg7]; exact HNB.out
        clear hg7
        go_wp2_with (at_builtin; refine wpList_append_own _ rfl _ _ 143 rfl w.heap.size 35 i0 (.agg #[.slice none 0 0, .slice none 0 0, .int .i64 0]) 3 56 Tryz.underlying143 hi hz0 hz1 hz2 rfl (by decide) _ _ _ rfl (HI7.out.alloc _).1 ⟨w2.heap.size + 1, 0, none⟩ 1 1 (FGr.enc g7) rfl rfl (HE7.out ▸ cell_three_newE (by simp) _ _ _ _) (FGr.one g7) ?c3 ?c4 ?c5 ?_)
        case c3 => unfold maxLen; omega
        case c4 => omega
        case c5 => simp; omega
        intro v8 w8 hown8 hgrow8 _
        have HI8 : Hid (GI B r (q + 43 - 14 * 0 + 1) w w8 v8 (L ++ [g7])) := (HI7.out.alloc _).more (HGO7.out.keep (alloc_keep _ _)) hown8 hgrow8
        have HL8 : Hid (∀ x ∈ L ++ [g7], GrBd x) := by
          intro x hx
          rcases List.mem_append.1 hx with hx | hx
          · exact HL.out x hx
          · simp at hx; subst hx; exact HBD7.out
        have HA8 : Hid (Apart (L ++ [g7])) := HA.out.snoc HNA7.out
        clear hown8 hgrow8
        go_wp2
        go_ret
        obtain ⟨a1, c1, hv, _⟩ := HI8.out.1.rows
        subst hv
        exact ⟨L ++ [g7], a1, c1, rfl, HI8.out.mono (by omega), HA8.out, by simp; omega, HL8.out⟩
      · have e0 : ((x : Int) == 0) = false := by simp; omega
        have e1 : ((x : Int) == 1) = false := by simp; omega
        have e2 : ((x : Int) == 2) = false := by simp; omega
        go_wp2
        go_ret
        obtain ⟨a1, c1, hv, _⟩ := HI2.out.1.rows
        subst hv
        exact ⟨L, a1, c1, rfl, HI2.out.mono (by omega), HA.out, by omega, HL.out⟩
end Go.Proofs.YtiennniclkbjlaaGreatDoor.Dr
/- What a notice says to a caller: the program's. -/
namespace Go.Proofs.YtiennniclkbjlaaGreatDoor.Gf
open Go.RowKit Go.Proofs.YtiennniclkbjlaaGreatDoor.EscM Go.Proofs.YtiennniclkbjlaaGreatDoor.EscL Go.Proofs.YtiennniclkbjlaaGreatDoor.RuleM Go.Proofs.YtiennniclkbjlaaGreatDoor.St Go.Proofs.YtiennniclkbjlaaGreatDoor.RR Go.Proofs.YtiennniclkbjlaaGreatDoor.LetM Go.Proofs.YtiennniclkbjlaaGreatDoor.Nm Go.Proofs.YtiennniclkbjlaaGreatDoor.GrM Go.Proofs.YtiennniclkbjlaaGreatDoor.Dr

/-- the groups with a name -/
def withL (L : List Gr) (s : ByteArray) : List Gr := L.filter fun g => hasB s g.nm
def star : ByteArray := ⟨#[42]⟩
/-- the groups that count -/
def toldL (L : List Gr) (s : ByteArray) : List Gr := if withL L s = [] then withL L star else withL L s
def rulesL (L : List Gr) : List Ru := L.flatMap (·.ru)
def waitL (L : List Gr) : Int := L.foldl (fun m g => max m g.wait) 0
theorem with_snoc {L : List Gr} {s : ByteArray} {k : Nat} (h : k < L.length) : withL (L.take (k + 1)) s = if hasB s L[k].nm then withL (L.take k) s ++ [L[k]] else withL (L.take k) s := by
  unfold withL
  rw [List.take_succ_eq_append_getElem h, List.filter_append]
  cases hh : hasB s L[k].nm with
  | true => simp [hh]
  | false => simp [hh]
theorem with_len {L : List Gr} {s : ByteArray} : (withL L s).length ≤ L.length := List.length_filter_le _ _
theorem with_mem {L : List Gr} {s : ByteArray} {g : Gr} (h : g ∈ withL L s) : g ∈ L := (List.mem_filter.1 h).1
theorem rules_snoc {L : List Gr} {k : Nat} (h : k < L.length) : rulesL (L.take (k + 1)) = rulesL (L.take k) ++ L[k].ru := by
  unfold rulesL
  rw [List.take_succ_eq_append_getElem h, List.flatMap_append]; simp
theorem wait_snoc {L : List Gr} {k : Nat} (h : k < L.length) : waitL (L.take (k + 1)) = max (waitL (L.take k)) L[k].wait := by
  unfold waitL
  rw [List.take_succ_eq_append_getElem h, List.foldl_append]; rfl
theorem wait_nn (L : List Gr) : 0 ≤ waitL L := by
  unfold waitL
  have : ∀ (L : List Gr) (m : Int), 0 ≤ m → 0 ≤ L.foldl (fun m g => max m g.wait) m := by
    intro L
    induction L with
    | nil => intro m h; exact h
    | cons x r ih => intro m h; exact ih _ (by show 0 ≤ max m x.wait; omega)
  exact this L 0 (by omega)

theorem rules_le (L : List Gr) (n : Nat) (h : ∀ g ∈ L, g.ru.length ≤ n) : (rulesL L).length ≤ L.length * n := by
  induction L with
  | nil => simp [rulesL]
  | cons x r ih =>
    have h1 := h x (by simp)
    have h2 := ih fun g hg => h g (List.mem_cons_of_mem _ hg)
    have e : (rulesL (x :: r)).length = x.ru.length + (rulesL r).length := by simp [rulesL]
    rw [e, List.length_cons, Nat.add_mul]; omega
theorem told_mem {L : List Gr} {s : ByteArray} {g : Gr} (h : g ∈ toldL L s) : g ∈ L := by
  unfold toldL at h
  split at h
  · exact with_mem h
  · exact with_mem h
theorem told_len {L : List Gr} {s : ByteArray} : (toldL L s).length ≤ L.length := by
  unfold toldL
  split
  · exact with_len
  · exact with_len

set_option maxRecDepth 100000 in
set_option maxHeartbeats 3200000 in
theorem implWith_any (a0 : Option Addr) (cap : Nat) (L : List Gr) (s : ByteArray) (w : World) (hI : IsRows FGr w a0 cap L) (hG : GrsAt w L) (hS : ∀ g ∈ L, GrSz g) (hl : L.length ≤ 100000) :
    Calls Tryz.prog 170 #[.slice a0 L.length cap, .string s] w fun e w' => ∃ a1 c1, e = .returned (.slice a1 (withL L s).length c1) ∧ OwnsR FGr 35 w' w.heap.size (.slice a1 (withL L s).length c1) (withL L s) ∧ Below w.heap.size w w' := by
  obtain ⟨i0, hi, hz0, hz1, hz2⟩ := info_group
  have HI : Hid (IsRows FGr w a0 cap L) := hI
  have HG : Hid (GrsAt w L) := hG
  have HS : Hid (∀ g ∈ L, GrSz g) := hS
  clear hI hG hS
  go_enter Tryz.func170, Tryz.ntmps170
  go_wp2
  go_loopw [5, 10] (fun v i wr => ∃ k : Nat, k ≤ L.length ∧ i = .int .i64 (k : Int) ∧ Hid (OwnsR FGr 35 wr w.heap.size v (withL (L.take k) s)) ∧ Hid (Below w.heap.size w wr)) (fun _ i _ => L.length - (intOf i).toNat)
  case atStart => exact ⟨0, Nat.zero_le _, rfl, OwnsR.nil _ _ _ _, Below.refl _ _⟩
  case round =>
    obtain ⟨k, hk, rfl, HO, HB⟩ := hrel
    by_cases hlt : k < L.length
    · obtain ⟨B, off, e1, c0, c1, c2⟩ := gr_at (IsRows.below HI.out HB.out) hlt
      subst e1
      have hz := HS.out L[k] (List.getElem_mem _)
      obtain ⟨hzz1, hzz2, _⟩ := hz
      have HSN : Hid _ := with_snoc (s := s) hlt
      have hwl : (withL (L.take k) s).length ≤ k := Nat.le_trans with_len (by simp; omega)
      have hG1 : GrAt (wr.alloc (.cells #[.slice L[k].na L[k].nm.length L[k].nc, .slice L[k].ra L[k].ru.length L[k].rc, .int .i64 L[k].wait] 35)) L[k] := ((HG.out.below HB.out) L[k] (List.getElem_mem _)).keep (alloc_keep _ _)
      have HA1 : Hid (IsStrs (wr.alloc (.cells #[.slice L[k].na L[k].nm.length L[k].nc, .slice L[k].ra L[k].ru.length L[k].rc, .int .i64 L[k].wait] 35)) L[k].na L[k].nc L[k].nm) := hG1.1
      have HOa : Hid (OwnsR FGr 35 (wr.alloc (.cells #[.slice L[k].na L[k].nm.length L[k].nc, .slice L[k].ra L[k].ru.length L[k].rc, .int .i64 L[k].wait] 35)) w.heap.size u5 (withL (L.take k) s)) := HO.out.keep (alloc_keep _ _)
      have HBa : Hid (Below w.heap.size w (wr.alloc (.cells #[.slice L[k].na L[k].nm.length L[k].nc, .slice L[k].ra L[k].ru.length L[k].rc, .int .i64 L[k].wait] 35))) := HB.out.alloc HB.out.size _
      have HX : Hid (Bx 35 (wr.alloc (.cells #[.slice L[k].na L[k].nm.length L[k].nc, .slice L[k].ra L[k].ru.length L[k].rc, .int .i64 L[k].wait] 35)) wr.heap.size #[.slice L[k].na L[k].nm.length L[k].nc, .slice L[k].ra L[k].ru.length L[k].rc, .int .i64 L[k].wait]) := Bx.new _ _ _
      clear hG1
      go_wp2_with fail
      refine (Ct.contains_any _ _ _ s _ HA1.out (by omega)).mono ?_
      rintro e w1 ⟨rfl, n, hw1⟩
      have HO1 : Hid (OwnsR FGr 35 w1 w.heap.size u5 (withL (L.take k) s)) := by rw [hw1]; exact HOa.out.keep fun _ _ => rfl
      have HB1 : Hid (Below w.heap.size w w1) := by rw [hw1]; exact below_drewN HBa.out n
      have HX1 : Hid (Bx 35 w1 wr.heap.size #[.slice L[k].na L[k].nm.length L[k].nc, .slice L[k].ra L[k].ru.length L[k].rc, .int .i64 L[k].wait]) := by rw [hw1]; exact HX.out.heapEq rfl
      clear hw1 HX HA1 HOa HBa c0 c1 c2
      have hx1 := HX1.out
      have c0 : w1.cell? ⟨wr.heap.size, 0, none⟩ = some (.slice L[k].na L[k].nm.length L[k].nc) := hx1.cell 0 rfl
      have c1 : w1.cell? ⟨wr.heap.size, 1, none⟩ = some (.slice L[k].ra L[k].ru.length L[k].rc) := hx1.cell 1 rfl
      have c2 : w1.cell? ⟨wr.heap.size, 2, none⟩ = some (.int .i64 L[k].wait) := hx1.cell 2 rfl
      clear hx1
      have hbs := HB1.out.size
      cases hh : hasB s L[k].nm with
      | false =>
        have HN : Hid (withL (L.take (k + 1)) s = withL (L.take k) s) := by show _ = _; rw [HSN.out, hh]; rfl
        go_wp2
        go_roundw
        case rel => exact ⟨k + 1, by omega, by go_num, by rw [HN.out]; exact HO1, HB1⟩
        case measure => simp [intOf]; omega
      | true =>
        have HN : Hid (withL (L.take (k + 1)) s = withL (L.take k) s ++ [L[k]]) := by show _ = _; rw [HSN.out, hh]; rfl
        go_wp2_with (at_builtin; refine wpList_append_own _ rfl _ _ 143 rfl w.heap.size 35 i0 (.agg #[.slice none 0 0, .slice none 0 0, .int .i64 0]) 3 56 Tryz.underlying143 hi hz0 hz1 hz2 rfl (by decide) _ _ _ rfl (World.ownsRow.alloc HO1.out _) ⟨w1.heap.size, 0, none⟩ 1 1 (FGr.enc L[k]) rfl rfl (cell_three_new _ _ _ _ _) (FGr.one L[k]) ?c3 ?c4 ?c5 ?_)
        case c3 => unfold maxLen; omega
        case c4 => omega
        case c5 => simp; omega
        intro v8 w8 hown8 hgrow8 _
        have HO8 : Hid (OwnsR FGr 35 w8 w.heap.size v8 (withL (L.take (k + 1)) s)) := by
          show OwnsR _ _ _ _ _ _
          rw [HN.out]; exact OwnsR.append (F := FGr) hown8
        have HB8 : Hid (Below w.heap.size w w8) := Below.grown (HB1.out.alloc hbs _) hgrow8 (by simp; omega) (OwnsR.block HO1.out)
        clear hown8 hgrow8
        go_wp2
        go_roundw
        case rel => exact ⟨k + 1, by omega, by go_num, HO8, HB8⟩
        case measure => simp [intOf]; omega
    · go_wp2
      go_ret
      have e1 : L.take k = L := List.take_of_length_le (by omega)
      have hO := HO.out
      rw [e1] at hO
      obtain ⟨a1, c1, hv, _⟩ := hO.rows
      subst hv
      exact ⟨a1, c1, rfl, hO, HB.out⟩

/-- what NoticeFor answers -/
def Said (w w' : World) (L : List Gr) (s : ByteArray) (e : Ending) : Prop :=
  ∃ g : Gr, e = .returned (.agg #[.slice g.na g.nm.length g.nc, .slice g.ra g.ru.length g.rc, .int .i64 g.wait]) ∧ g.nm = [s] ∧ g.ru = rulesL (toldL L s) ∧ g.wait = waitL (toldL L s) ∧ GrOwn w' w.heap.size g ∧ Below w.heap.size w w'

/-- what is said so far -/
def FI (w : World) (G M nb : Nat) (T : List Gr) (at0 : Option Addr) (ct : Nat) (s : ByteArray) (wr : World) (R : List Ru) (a3 : Option Addr) (c3 : Nat) (wt : Int) : Prop :=
  (Bx 35 wr G #[.slice (some ⟨nb, 0, none⟩) 1 1, .slice a3 R.length c3, .int .i64 wt] ∧ OwnsR FRu 135 wr w.heap.size (.slice a3 R.length c3) R ∧ Owns wr w.heap.size (.slice (some ⟨nb, 0, none⟩) 1 1) [s]) ∧
  (OwnsR FGr 35 wr w.heap.size (.slice at0 T.length ct) T ∧ (∀ b, (Value.slice at0 T.length ct).ownBlock = some b → b < M)) ∧ (M ≤ G ∧ w.heap.size < G ∧ w.heap.size < M) ∧
  Below w.heap.size w wr ∧ Bx 35 wr w.heap.size #[.slice none 0 0, .slice none 0 0, .int .i64 0]
theorem _root_.Go.Proofs.YtiennniclkbjlaaGreatDoor.Dr.Bx.grownT {t t2 : TypeId} {w w' : World} {G base k m : Nat} {C : Array Value} {v : Value} {xs : List Value} (h : Bx t w G C) (h2 : w.ownsRow base t2 k v m xs) (ht : t ≠ t2) (hg : w.grownBy w' v.ownBlock) : Bx t w' G C := by
  refine h.grown hg ?_
  intro e
  obtain ⟨D, hD⟩ := own_block_type h2 e
  unfold Bx at h
  rw [h] at hD
  injection hD with hD
  injection hD with _ hD
  exact ht hD
section
variable {w : World} {G M nb : Nat} {T : List Gr} {at0 : Option Addr} {ct : Nat} {s : ByteArray} {wr : World} {R : List Ru} {a3 : Option Addr} {c3 : Nat} {wt : Int}
theorem FI.alloc (h : FI w G M nb T at0 ct s wr R a3 c3 wt) (o : Obj) : FI w G M nb T at0 ct s (wr.alloc o) R a3 c3 wt := by
  obtain ⟨⟨h1, h2, h3⟩, ⟨h4, h5⟩, h6, h7, h8⟩ := h
  exact ⟨⟨h1.alloc o, h2.keep (alloc_keep _ _), h3.keep (alloc_keep _ _)⟩, ⟨h4.keep (alloc_keep _ _), h5⟩, h6, h7.alloc h7.size o, h8.alloc o⟩
theorem FI.drew (h : FI w G M nb T at0 ct s wr R a3 c3 wt) : FI w G M nb T at0 ct s wr.drew R a3 c3 wt := by
  obtain ⟨⟨h1, h2, h3⟩, ⟨h4, h5⟩, h6, h7, h8⟩ := h
  exact ⟨⟨h1.heapEq rfl, OwnsR.heapEq h2 rfl, Owns.heapEq h3 rfl⟩, ⟨OwnsR.heapEq h4 rfl, h5⟩, h6, below_drewN h7 1, h8.heapEq rfl⟩
theorem FI.rules (h : FI w G M nb T at0 ct s wr R a3 c3 wt) {w3 : World} {S : List Ru} {a4 : Option Addr} {c4 : Nat} (hO : OwnsR FRu 135 w3 w.heap.size (.slice a4 S.length c4) S) (hg : wr.grownBy w3 (Value.slice a3 R.length c3).ownBlock) : FI w G M nb T at0 ct s (w3.setCell ⟨G, 1, none⟩ (.slice a4 S.length c4)) S a4 c4 wt ∧ Bx 35 w3 G #[.slice (some ⟨nb, 0, none⟩) 1 1, .slice a3 R.length c3, .int .i64 wt] := by
  obtain ⟨⟨h1, h2, h3⟩, ⟨h4, h5⟩, ⟨h6, h6', h6''⟩, h7, h8⟩ := h
  have hb := OwnsR.block h2
  have hbe : ∀ c, (Value.slice a3 R.length c3).ownBlock = some c → ∃ C, wr.heap[c]? = some (.cells C 135) := fun c hc => own_block_type h2 hc
  have hx : ∀ {g : Nat} {C : Array Value}, Bx 35 wr g C → Bx 35 w3 g C := by
    intro g C hB
    refine hB.grown hg ?_
    intro e
    obtain ⟨D, hD⟩ := hbe g e
    unfold Bx at hB
    rw [hB] at hD
    injection hD with hD
    injection hD with _ hD
    exact absurd hD (by decide)
  have k1 := hx h1
  have k8 := hx h8
  have k3 : Owns w3 w.heap.size (.slice (some ⟨nb, 0, none⟩) 1 1) [s] := own_apart h3 h2 (by decide) hg
  have k4 : OwnsR FGr 35 w3 w.heap.size (.slice at0 T.length ct) T := own_apart h4 h2 (by decide) hg
  have k7 : Below w.heap.size w w3 := Below.grown h7 hg (by have := h7.size; omega) hb
  have hs : w3.grownBy (w3.setCell ⟨G, 1, none⟩ (.slice a4 S.length c4)) (some G) := grown_set 1 _
  refine ⟨⟨⟨k1.set 1 _, own_type hO k1 (by decide) hs, own_type k3 k1 (by decide) hs⟩, ⟨own_far k4 h5 hs h6, h5⟩, ⟨h6, h6', h6''⟩, ?_, k8.grown hs (by intro e; have := Option.some.inj e; omega)⟩, k1⟩
  exact k7.trans (grown_any _ hs k7.size (fun k hk => by have := Option.some.inj hk; omega))
theorem FI.wait (h : FI w G M nb T at0 ct s wr R a3 c3 wt) (wt' : Int) : FI w G M nb T at0 ct s (wr.setCell ⟨G, 2, none⟩ (.int .i64 wt')) R a3 c3 wt' := by
  obtain ⟨⟨h1, h2, h3⟩, ⟨h4, h5⟩, ⟨h6, h6', h6''⟩, h7, h8⟩ := h
  have hs : wr.grownBy (wr.setCell ⟨G, 2, none⟩ (.int .i64 wt')) (some G) := grown_set 2 _
  refine ⟨⟨h1.set 2 _, own_type h2 h1 (by decide) hs, own_type h3 h1 (by decide) hs⟩, ⟨own_far h4 h5 hs h6, h5⟩, ⟨h6, h6', h6''⟩, ?_, h8.grown hs (by intro e; have := Option.some.inj e; omega)⟩
  exact h7.trans (grown_any _ hs h7.size (fun k hk => by have := Option.some.inj hk; omega))
theorem FI.out (h : FI w G M nb T at0 ct s wr R a3 c3 wt) {w4 : World} (e : w4 = ((wr.setCell ⟨w.heap.size, 0, none⟩ (.slice (some ⟨nb, 0, none⟩) 1 1)).setCell ⟨w.heap.size, 1, none⟩ (.slice a3 R.length c3)).setCell ⟨w.heap.size, 2, none⟩ (.int .i64 wt)) :
    GrOwn w4 w.heap.size ⟨[s], some ⟨nb, 0, none⟩, 1, R, a3, c3, wt⟩ ∧ Below w.heap.size w w4 ∧ Bx 35 w4 w.heap.size #[.slice (some ⟨nb, 0, none⟩) 1 1, .slice a3 R.length c3, .int .i64 wt] := by
  obtain ⟨⟨h1, h2, h3⟩, _, _, h7, h8⟩ := h
  have b1 := h8.set 0 (.slice (some ⟨nb, 0, none⟩) 1 1)
  have b2 := b1.set 1 (.slice a3 R.length c3)
  have b3 := b2.set 2 (.int .i64 wt)
  have g1 : wr.grownBy (wr.setCell ⟨w.heap.size, 0, none⟩ (.slice (some ⟨nb, 0, none⟩) 1 1)) (some w.heap.size) := grown_set 0 _
  have g2 := Dr.grown_trans g1 (grown_set 1 (.slice a3 R.length c3))
  have g3 := Dr.grown_trans g2 (grown_set 2 (.int .i64 wt))
  subst e
  exact ⟨⟨own_type h3 h8 (by decide) g3, own_type h2 h8 (by decide) g3⟩, h7.trans (grown_any _ g3 h7.size (fun k hk => by have := Option.some.inj hk; omega)), b3⟩
theorem FI.new {w2 : World} (hT : OwnsR FGr 35 w2 w.heap.size (.slice at0 T.length ct) T) (hB : Below w.heap.size w w2) (hz : Bx 35 w2 w.heap.size #[.slice none 0 0, .slice none 0 0, .int .i64 0]) :
    FI w (w2.heap.size + 1) w2.heap.size w2.heap.size T at0 ct s ((w2.alloc (.cells #[.string s] 9)).alloc (.cells #[.slice (some ⟨w2.heap.size, 0, none⟩) 1 1, .slice none 0 0, .int .i64 0] 35)) [] none 0 0 := by
  have hlt : w.heap.size < w2.heap.size := hz.lt
  have hG : (w2.alloc (.cells #[.string s] 9)).heap.size = w2.heap.size + 1 := by simp
  refine ⟨⟨?_, OwnsR.nil _ _ _ _, (Owns.lit1 w2 w.heap.size s (by omega)).keep (alloc_keep _ _)⟩, ⟨(hT.keep (alloc_keep _ _)).keep (alloc_keep _ _), own_lt hT⟩, ⟨by omega, by omega, hlt⟩, (hB.alloc hB.size _).alloc (by have := hB.size; simp; omega) _, (hz.alloc _).alloc _⟩
  have := Bx.new 35 (w2.alloc (.cells #[.string s] 9)) #[.slice (some ⟨w2.heap.size, 0, none⟩) 1 1, .slice none 0 0, .int .i64 0]
  rw [hG] at this; exact this
end

set_option maxRecDepth 100000 in
set_option maxHeartbeats 6400000 in
theorem implFor_any (a0 : Option Addr) (cap : Nat) (L : List Gr) (s : ByteArray) (w : World) (hI : IsRows FGr w a0 cap L) (hG : GrsAt w L) (hS : ∀ g ∈ L, GrSz g) (hl : L.length ≤ 1000) (hN : ∀ g ∈ L, 0 ≤ g.wait ∧ g.wait ≤ 1000000) (hR : ∀ g ∈ L, g.ru.length ≤ 1000) :
    Calls Tryz.prog 149 #[.slice a0 L.length cap, .string s] w fun e w' => Said w w' L s e := by
  obtain ⟨i0, hi, hz0, hz1, hz2⟩ := info_rule
  have HI : Hid (IsRows FGr w a0 cap L) := hI
  have HG : Hid (GrsAt w L) := hG
  have HS : Hid (∀ g ∈ L, GrSz g) := hS
  have HN : Hid _ := hN
  have HR : Hid _ := hR
  clear hI hG hS hN hR
  go_enter Tryz.func149, Tryz.ntmps149
  go_wp2_with fail
  refine (implWith_any a0 cap L s _ (HI.out.keep (alloc_keep _ _)) (HG.out.keep (alloc_keep _ _)) HS.out (by omega)).mono ?_
  rintro e w1 ⟨a1, c1, rfl, hO1, hb1⟩
  have HO1 : Hid (OwnsR FGr 35 w1 w.heap.size (.slice a1 (withL L s).length c1) (withL L s)) := hO1.mono (by simp)
  have HB1 : Hid (Below w.heap.size w w1) := Below.trans ((Below.refl _ w).alloc (Nat.le_refl _) _) (hb1.mono (by simp))
  have HZ1 : Hid (Bx 35 w1 w.heap.size #[.slice none 0 0, .slice none 0 0, .int .i64 0]) := (Bx.new 35 w _).keep (fun k hk => hb1.block k hk)
  clear hO1 hb1
  by_cases h0 : (withL L s).length = 0
  · have HT : Hid (toldL L s = withL L star) := by show _ = _; unfold toldL; rw [if_pos (List.eq_nil_of_length_eq_zero h0)]
    have h0' : (((withL L s).length : Int) == 0) = true := by rw [h0]; rfl
    clear h0
    go_wp2_with fail
    refine (implWith_any a0 cap L star _ (HI.out.below HB1.out) (HG.out.below HB1.out) HS.out (by omega)).mono ?_
    rintro e w2 ⟨a2, c2, rfl, hO2, hb2⟩
    have HO2 : Hid (OwnsR FGr 35 w2 w.heap.size (.slice a2 (withL L star).length c2) (withL L star)) := hO2.mono HB1.out.size
    have HB2 : Hid (Below w.heap.size w w2) := HB1.out.trans (hb2.mono HB1.out.size)
    have HZ2 : Hid (Bx 35 w2 w.heap.size #[.slice none 0 0, .slice none 0 0, .int .i64 0]) := HZ1.out.keep (fun k hk => hb2.block k hk)
    clear hO2 hb2
    have HF0 : Hid _ := FI.new (s := s) HO2.out HB2.out HZ2.out
    obtain ⟨M, hM⟩ : ∃ M, w2.heap.size = M := ⟨_, rfl⟩
    rw [hM] at HF0
    go_wp2
    try rw [hM]
    obtain ⟨G, hG⟩ : ∃ G, M + 1 = G := ⟨_, rfl⟩
    rw [hG] at HF0 ⊢
    clear hG hM
    have HTL : Hid (∀ g ∈ (withL L star), g ∈ L) := fun g hg => with_mem hg
    have htl : ((withL L star)).length ≤ 1000 := Nat.le_trans with_len hl
    have HRB : Hid (∀ k, k ≤ ((withL L star)).length → (rulesL (((withL L star)).take k)).length ≤ k * 1000) := fun k hk => by
      have := rules_le (((withL L star)).take k) 1000 (fun g hg => HR.out g (HTL.out g (List.mem_of_mem_take hg)))
      have e : (((withL L star)).take k).length = k := by simp; omega
      rw [e] at this; exact this
    generalize hTq : (withL L star) = T at *
    go_loopw [22] (fun i wr => ∃ (k : Nat) (a3 : Option Addr) (c3 : Nat), k ≤ T.length ∧ i = .int .i64 (k : Int) ∧ Hid (FI w G M M T a2 c2 s wr (rulesL (T.take k)) a3 c3 (waitL (T.take k)))) (fun i _ => T.length - (intOf i).toNat)
    case atStart => exact ⟨0, none, 0, Nat.zero_le _, rfl, HF0⟩
    case round =>
      obtain ⟨k, a3, c3, hk, rfl, HF⟩ := hrel
      by_cases hlt : k < T.length
      · have hF := HF.out
        obtain ⟨⟨hx, hro, _⟩, ⟨hto, _⟩, ⟨hMG, hwG, hwM⟩, hbw, _⟩ := hF
        obtain ⟨b1, off, e1, q0, q1, q2⟩ := gr_at hto.rowsOf hlt
        have hgm := HTL.out T[k] (List.getElem_mem _)
        obtain ⟨hw0, hw6⟩ := HN.out T[k] hgm
        have hrl := HR.out T[k] hgm
        have hrb := HRB.out k hk
        have HRS : Hid (rulesL (T.take (k + 1)) = rulesL (T.take k) ++ T[k].ru) := rules_snoc hlt
        have HWS : Hid (waitL (T.take (k + 1)) = max (waitL (T.take k)) T[k].wait) := wait_snoc hlt
        have hwn := wait_nn (T.take k)
        have HW0 : Hid (k = 0 → waitL (T.take k) = 0) := fun e => by subst e; rfl
        have HGt : Hid (IsRows FRu (wr.alloc (.cells #[.slice T[k].na T[k].nm.length T[k].nc, .slice T[k].ra T[k].ru.length T[k].rc, .int .i64 T[k].wait] 35)) T[k].ra T[k].rc T[k].ru) := (((HG.out.below hbw) T[k] hgm).keep (alloc_keep _ _)).2
        have hGw : G < wr.heap.size := hx.lt
        have d1 : wr.cell? ⟨G, 1, none⟩ = some (.slice a3 (rulesL (T.take k)).length c3) := hx.cell 1 rfl
        have HFa : Hid (FI w G M M T a2 c2 s (wr.alloc (.cells #[.slice T[k].na T[k].nm.length T[k].nc, .slice T[k].ra T[k].ru.length T[k].rc, .int .i64 T[k].wait] 35)) (rulesL (T.take k)) a3 c3 (waitL (T.take k))) := HF.out.alloc _
        have HXg : Hid (Bx 35 (wr.alloc (.cells #[.slice T[k].na T[k].nm.length T[k].nc, .slice T[k].ra T[k].ru.length T[k].rc, .int .i64 T[k].wait] 35)) wr.heap.size #[.slice T[k].na T[k].nm.length T[k].nc, .slice T[k].ra T[k].ru.length T[k].rc, .int .i64 T[k].wait]) := Bx.new _ _ _
        clear hx hro hto hbw hgm
        subst e1
        generalize hR0 : rulesL (T.take k) = R0 at *
        obtain ⟨S, hS⟩ : ∃ S, S = R0 ++ T[k].ru := ⟨_, rfl⟩
        have HS1 : Hid (S = R0 ++ T[k].ru) := hS
        clear hS
        generalize hW0 : waitL (T.take k) = W0 at *
        go_wp2_with (at_builtin
                     refine St.wpList_app rfl (.tmp 28) (.tmp 30) 33 rfl w.heap.size 135 i0 (.agg #[.bool false, .string ⟨#[]⟩]) 2 24 Tryz.underlying33 hi hz0 hz1 hz2 rfl (by decide) (.slice a3 R0.length c3) R0.length (FRu.cells R0) rfl HFa.out.1.2.1 T[k].ra T[k].ru.length T[k].rc (FRu.cells T[k].ru) rfl HGt.out.none (FRu.cells_len _) (HGt.out.newsAny (fun _ _ => rfl)) (FRu.cells_one _) (by unfold maxLen; omega) (by omega) (by simp; omega) ?_)
        intro v4 w4 ho hg
        have hO4 : OwnsR FRu 135 w4 w.heap.size v4 S := OwnsR.of_row (F := FRu) ho (by rw [HS1.out]; simp) (by rw [HS1.out, FRu.cells_append])
        obtain ⟨a4, c4, hv, _⟩ := hO4.rows
        subst hv
        have hh := HFa.out.rules hO4 hg
        have HF4 : Hid (FI w G M M T (some ⟨b1, off, none⟩) c2 s (w4.setCell ⟨G, 1, none⟩ (.slice a4 S.length c4)) S a4 c4 W0) := hh.1
        have HX4 : Hid (Bx 35 w4 G #[.slice (some ⟨M, 0, none⟩) 1 1, .slice a3 R0.length c3, .int .i64 W0]) := hh.2
        have HXg4 : Hid (Bx 35 w4 wr.heap.size #[.slice T[k].na T[k].nm.length T[k].nc, .slice T[k].ra T[k].ru.length T[k].rc, .int .i64 T[k].wait]) := HXg.out.grownT HFa.out.1.2.1 (by decide) hg
        have g1 : w4.cell? ⟨G, 1, none⟩ = some (.slice a3 R0.length c3) := HX4.out.cell 1 rfl
        have gz : ∀ j, w4.frozen? ⟨G, j, none⟩ = false := HX4.out.free
        have HX5 : Hid (Bx 35 (w4.setCell ⟨G, 1, none⟩ (.slice a4 S.length c4)) G #[.slice (some ⟨M, 0, none⟩) 1 1, .slice a4 S.length c4, .int .i64 W0]) := HF4.out.1.1
        have g2 : (w4.setCell ⟨G, 1, none⟩ (.slice a4 S.length c4)).cell? ⟨G, 2, none⟩ = some (.int .i64 W0) := HX5.out.cell 2 rfl
        have gz5 : ∀ j, (w4.setCell ⟨G, 1, none⟩ (.slice a4 S.length c4)).frozen? ⟨G, j, none⟩ = false := HX5.out.free
        have e2 : (w4.setCell ⟨G, 1, none⟩ (.slice a4 S.length c4)).cell? ⟨wr.heap.size, 2, none⟩ = some (.int .i64 T[k].wait) := (HXg4.out.grown (grown_set 1 _) (by intro e; have := Option.some.inj e; omega)).cell 2 rfl
        clear ho hg hO4 hh
        have HRE : Hid (rulesL (T.take (k + 1)) = S) := by show _ = _; rw [HRS.out, HS1.out]
        by_cases hk0 : k = 0
        · have hk0' : ((k : Int) == 0) = true := by rw [hk0]; rfl
          have HWE : Hid (waitL (T.take (k + 1)) = T[k].wait) := by
            show _ = _
            rw [HWS.out, HW0.out hk0]; omega
          clear hk0
          go_wp2
          go_roundw
          case rel => exact ⟨k + 1, a4, c4, by omega, by go_num, by rw [HRE.out, HWE.out]; exact HF4.out.wait _⟩
          case measure => simp [intOf]; omega
        · have hk0' : ((k : Int) == 0) = false := by rw [beq_eq_false_iff_ne]; omega
          by_cases hgt : W0 < T[k].wait
          · have HWE : Hid (waitL (T.take (k + 1)) = T[k].wait) := by
              show _ = _
              rw [HWS.out]; omega
            go_wp2
            go_roundw
            case rel => exact ⟨k + 1, a4, c4, by omega, by go_num, by rw [HRE.out, HWE.out]; exact HF4.out.wait _⟩
            case measure => simp [intOf]; omega
          · have HWE : Hid (waitL (T.take (k + 1)) = W0) := by
              show _ = _
              rw [HWS.out]; omega
            go_wp2
            go_roundw
            case rel => exact ⟨k + 1, a4, c4, by omega, by go_num, by rw [HRE.out, HWE.out]; exact HF4⟩
            case measure => simp [intOf]; omega
      · have hF := HF.out
        have e1 : T.take k = T := List.take_of_length_le (by omega)
        rw [e1] at hF
        have HFe : Hid (FI w G M M T a2 c2 s wr (rulesL T) a3 c3 (waitL T)) := hF
        obtain ⟨⟨hx, _, _⟩, _, ⟨_, hwG, _⟩, _, hz⟩ := hF
        have d0 : wr.cell? ⟨G, 0, none⟩ = some (.slice (some ⟨M, 0, none⟩) 1 1) := hx.cell 0 rfl
        have d1 : wr.cell? ⟨G, 1, none⟩ = some (.slice a3 (rulesL T).length c3) := hx.cell 1 rfl
        have d2 : wr.cell? ⟨G, 2, none⟩ = some (.int .i64 (waitL T)) := hx.cell 2 rfl
        have z0 : wr.cell? ⟨w.heap.size, 0, none⟩ = some (.slice none 0 0) := hz.cell 0 rfl
        have z1 : wr.cell? ⟨w.heap.size, 1, none⟩ = some (.slice none 0 0) := hz.cell 1 rfl
        have z2 : wr.cell? ⟨w.heap.size, 2, none⟩ = some (.int .i64 0) := hz.cell 2 rfl
        have zf : ∀ j, wr.frozen? ⟨w.heap.size, j, none⟩ = false := hz.free
        clear hx hz e1
        go_wp2
        obtain ⟨w4, hw4⟩ : ∃ w4, w4 = ((wr.setCell ⟨w.heap.size, 0, none⟩ (.slice (some ⟨M, 0, none⟩) 1 1)).setCell ⟨w.heap.size, 1, none⟩ (.slice a3 (rulesL T).length c3)).setCell ⟨w.heap.size, 2, none⟩ (.int .i64 (waitL T)) := ⟨_, rfl⟩
        rw [← hw4]
        obtain ⟨ho1, ho2, ho3⟩ := HFe.out.out hw4
        have r0 := ho3.cell 0 rfl
        have r1 := ho3.cell 1 rfl
        have r2 := ho3.cell 2 rfl
        clear hw4 ho3
        refine bodyPost_ret (v := .agg #[.slice (some ⟨M, 0, none⟩) 1 1, .slice a3 (rulesL T).length c3, .int .i64 (waitL T)]) (by simp [results, Tryz.results149, go_sem, r0, r1, r2]) rfl ?_
        exact ⟨⟨[s], some ⟨M, 0, none⟩, 1, rulesL T, a3, c3, waitL T⟩, rfl, rfl, by rw [HT.out], by rw [HT.out], ho1, ho2⟩
  · have HT : Hid (toldL L s = withL L s) := by show _ = _; unfold toldL; rw [if_neg (fun e => h0 (by rw [e]; rfl))]
    have h0' : (((withL L s).length : Int) == 0) = false := by rw [beq_eq_false_iff_ne]; omega
    clear h0
    have HF0 : Hid _ := FI.new (s := s) HO1.out HB1.out HZ1.out
    obtain ⟨M, hM⟩ : ∃ M, w1.heap.size = M := ⟨_, rfl⟩
    rw [hM] at HF0
    go_wp2
    try rw [hM]
    obtain ⟨G, hG⟩ : ∃ G, M + 1 = G := ⟨_, rfl⟩
    rw [hG] at HF0 ⊢
    clear hG hM
    have HTL : Hid (∀ g ∈ (withL L s), g ∈ L) := fun g hg => with_mem hg
    have htl : ((withL L s)).length ≤ 1000 := Nat.le_trans with_len hl
    have HRB : Hid (∀ k, k ≤ ((withL L s)).length → (rulesL (((withL L s)).take k)).length ≤ k * 1000) := fun k hk => by
      have := rules_le (((withL L s)).take k) 1000 (fun g hg => HR.out g (HTL.out g (List.mem_of_mem_take hg)))
      have e : (((withL L s)).take k).length = k := by simp; omega
      rw [e] at this; exact this
    generalize hTq : (withL L s) = T at *
    go_loopw [22] (fun i wr => ∃ (k : Nat) (a3 : Option Addr) (c3 : Nat), k ≤ T.length ∧ i = .int .i64 (k : Int) ∧ Hid (FI w G M M T a1 c1 s wr (rulesL (T.take k)) a3 c3 (waitL (T.take k)))) (fun i _ => T.length - (intOf i).toNat)
    case atStart => exact ⟨0, none, 0, Nat.zero_le _, rfl, HF0⟩
    case round =>
      obtain ⟨k, a3, c3, hk, rfl, HF⟩ := hrel
      by_cases hlt : k < T.length
      · have hF := HF.out
        obtain ⟨⟨hx, hro, _⟩, ⟨hto, _⟩, ⟨hMG, hwG, hwM⟩, hbw, _⟩ := hF
        obtain ⟨b1, off, e1, q0, q1, q2⟩ := gr_at hto.rowsOf hlt
        have hgm := HTL.out T[k] (List.getElem_mem _)
        obtain ⟨hw0, hw6⟩ := HN.out T[k] hgm
        have hrl := HR.out T[k] hgm
        have hrb := HRB.out k hk
        have HRS : Hid (rulesL (T.take (k + 1)) = rulesL (T.take k) ++ T[k].ru) := rules_snoc hlt
        have HWS : Hid (waitL (T.take (k + 1)) = max (waitL (T.take k)) T[k].wait) := wait_snoc hlt
        have hwn := wait_nn (T.take k)
        have HW0 : Hid (k = 0 → waitL (T.take k) = 0) := fun e => by subst e; rfl
        have HGt : Hid (IsRows FRu (wr.alloc (.cells #[.slice T[k].na T[k].nm.length T[k].nc, .slice T[k].ra T[k].ru.length T[k].rc, .int .i64 T[k].wait] 35)) T[k].ra T[k].rc T[k].ru) := (((HG.out.below hbw) T[k] hgm).keep (alloc_keep _ _)).2
        have hGw : G < wr.heap.size := hx.lt
        have d1 : wr.cell? ⟨G, 1, none⟩ = some (.slice a3 (rulesL (T.take k)).length c3) := hx.cell 1 rfl
        have HFa : Hid (FI w G M M T a1 c1 s (wr.alloc (.cells #[.slice T[k].na T[k].nm.length T[k].nc, .slice T[k].ra T[k].ru.length T[k].rc, .int .i64 T[k].wait] 35)) (rulesL (T.take k)) a3 c3 (waitL (T.take k))) := HF.out.alloc _
        have HXg : Hid (Bx 35 (wr.alloc (.cells #[.slice T[k].na T[k].nm.length T[k].nc, .slice T[k].ra T[k].ru.length T[k].rc, .int .i64 T[k].wait] 35)) wr.heap.size #[.slice T[k].na T[k].nm.length T[k].nc, .slice T[k].ra T[k].ru.length T[k].rc, .int .i64 T[k].wait]) := Bx.new _ _ _
        clear hx hro hto hbw hgm
        subst e1
        generalize hR0 : rulesL (T.take k) = R0 at *
        obtain ⟨S, hS⟩ : ∃ S, S = R0 ++ T[k].ru := ⟨_, rfl⟩
        have HS1 : Hid (S = R0 ++ T[k].ru) := hS
        clear hS
        generalize hW0 : waitL (T.take k) = W0 at *
        go_wp2_with (at_builtin
                     refine St.wpList_app rfl (.tmp 28) (.tmp 30) 33 rfl w.heap.size 135 i0 (.agg #[.bool false, .string ⟨#[]⟩]) 2 24 Tryz.underlying33 hi hz0 hz1 hz2 rfl (by decide) (.slice a3 R0.length c3) R0.length (FRu.cells R0) rfl HFa.out.1.2.1 T[k].ra T[k].ru.length T[k].rc (FRu.cells T[k].ru) rfl HGt.out.none (FRu.cells_len _) (HGt.out.newsAny (fun _ _ => rfl)) (FRu.cells_one _) (by unfold maxLen; omega) (by omega) (by simp; omega) ?_)
        intro v4 w4 ho hg
        have hO4 : OwnsR FRu 135 w4 w.heap.size v4 S := OwnsR.of_row (F := FRu) ho (by rw [HS1.out]; simp) (by rw [HS1.out, FRu.cells_append])
        obtain ⟨a4, c4, hv, _⟩ := hO4.rows
        subst hv
        have hh := HFa.out.rules hO4 hg
        have HF4 : Hid (FI w G M M T (some ⟨b1, off, none⟩) c1 s (w4.setCell ⟨G, 1, none⟩ (.slice a4 S.length c4)) S a4 c4 W0) := hh.1
        have HX4 : Hid (Bx 35 w4 G #[.slice (some ⟨M, 0, none⟩) 1 1, .slice a3 R0.length c3, .int .i64 W0]) := hh.2
        have HXg4 : Hid (Bx 35 w4 wr.heap.size #[.slice T[k].na T[k].nm.length T[k].nc, .slice T[k].ra T[k].ru.length T[k].rc, .int .i64 T[k].wait]) := HXg.out.grownT HFa.out.1.2.1 (by decide) hg
        have g1 : w4.cell? ⟨G, 1, none⟩ = some (.slice a3 R0.length c3) := HX4.out.cell 1 rfl
        have gz : ∀ j, w4.frozen? ⟨G, j, none⟩ = false := HX4.out.free
        have HX5 : Hid (Bx 35 (w4.setCell ⟨G, 1, none⟩ (.slice a4 S.length c4)) G #[.slice (some ⟨M, 0, none⟩) 1 1, .slice a4 S.length c4, .int .i64 W0]) := HF4.out.1.1
        have g2 : (w4.setCell ⟨G, 1, none⟩ (.slice a4 S.length c4)).cell? ⟨G, 2, none⟩ = some (.int .i64 W0) := HX5.out.cell 2 rfl
        have gz5 : ∀ j, (w4.setCell ⟨G, 1, none⟩ (.slice a4 S.length c4)).frozen? ⟨G, j, none⟩ = false := HX5.out.free
        have e2 : (w4.setCell ⟨G, 1, none⟩ (.slice a4 S.length c4)).cell? ⟨wr.heap.size, 2, none⟩ = some (.int .i64 T[k].wait) := (HXg4.out.grown (grown_set 1 _) (by intro e; have := Option.some.inj e; omega)).cell 2 rfl
        clear ho hg hO4 hh
        have HRE : Hid (rulesL (T.take (k + 1)) = S) := by show _ = _; rw [HRS.out, HS1.out]
        by_cases hk0 : k = 0
        · have hk0' : ((k : Int) == 0) = true := by rw [hk0]; rfl
          have HWE : Hid (waitL (T.take (k + 1)) = T[k].wait) := by
            show _ = _
            rw [HWS.out, HW0.out hk0]; omega
          clear hk0
          go_wp2
          go_roundw
          case rel => exact ⟨k + 1, a4, c4, by omega, by go_num, by rw [HRE.out, HWE.out]; exact HF4.out.wait _⟩
          case measure => simp [intOf]; omega
        · have hk0' : ((k : Int) == 0) = false := by rw [beq_eq_false_iff_ne]; omega
          by_cases hgt : W0 < T[k].wait
          · have HWE : Hid (waitL (T.take (k + 1)) = T[k].wait) := by
              show _ = _
              rw [HWS.out]; omega
            go_wp2
            go_roundw
            case rel => exact ⟨k + 1, a4, c4, by omega, by go_num, by rw [HRE.out, HWE.out]; exact HF4.out.wait _⟩
            case measure => simp [intOf]; omega
          · have HWE : Hid (waitL (T.take (k + 1)) = W0) := by
              show _ = _
              rw [HWS.out]; omega
            go_wp2
            go_roundw
            case rel => exact ⟨k + 1, a4, c4, by omega, by go_num, by rw [HRE.out, HWE.out]; exact HF4⟩
            case measure => simp [intOf]; omega
      · have hF := HF.out
        have e1 : T.take k = T := List.take_of_length_le (by omega)
        rw [e1] at hF
        have HFe : Hid (FI w G M M T a1 c1 s wr (rulesL T) a3 c3 (waitL T)) := hF
        obtain ⟨⟨hx, _, _⟩, _, ⟨_, hwG, _⟩, _, hz⟩ := hF
        have d0 : wr.cell? ⟨G, 0, none⟩ = some (.slice (some ⟨M, 0, none⟩) 1 1) := hx.cell 0 rfl
        have d1 : wr.cell? ⟨G, 1, none⟩ = some (.slice a3 (rulesL T).length c3) := hx.cell 1 rfl
        have d2 : wr.cell? ⟨G, 2, none⟩ = some (.int .i64 (waitL T)) := hx.cell 2 rfl
        have z0 : wr.cell? ⟨w.heap.size, 0, none⟩ = some (.slice none 0 0) := hz.cell 0 rfl
        have z1 : wr.cell? ⟨w.heap.size, 1, none⟩ = some (.slice none 0 0) := hz.cell 1 rfl
        have z2 : wr.cell? ⟨w.heap.size, 2, none⟩ = some (.int .i64 0) := hz.cell 2 rfl
        have zf : ∀ j, wr.frozen? ⟨w.heap.size, j, none⟩ = false := hz.free
        clear hx hz e1
        go_wp2
        obtain ⟨w4, hw4⟩ : ∃ w4, w4 = ((wr.setCell ⟨w.heap.size, 0, none⟩ (.slice (some ⟨M, 0, none⟩) 1 1)).setCell ⟨w.heap.size, 1, none⟩ (.slice a3 (rulesL T).length c3)).setCell ⟨w.heap.size, 2, none⟩ (.int .i64 (waitL T)) := ⟨_, rfl⟩
        rw [← hw4]
        obtain ⟨ho1, ho2, ho3⟩ := HFe.out.out hw4
        have r0 := ho3.cell 0 rfl
        have r1 := ho3.cell 1 rfl
        have r2 := ho3.cell 2 rfl
        clear hw4 ho3
        refine bodyPost_ret (v := .agg #[.slice (some ⟨M, 0, none⟩) 1 1, .slice a3 (rulesL T).length c3, .int .i64 (waitL T)]) (by simp [results, Tryz.results149, go_sem, r0, r1, r2]) rfl ?_
        exact ⟨⟨[s], some ⟨M, 0, none⟩, 1, rulesL T, a3, c3, waitL T⟩, rfl, rfl, by rw [HT.out], by rw [HT.out], ho1, ho2⟩
end Go.Proofs.YtiennniclkbjlaaGreatDoor.Gf
/- What a notice says to a caller: the model's. -/
namespace Go.Proofs.YtiennniclkbjlaaGreatDoor.Gf
open Go.RowKit Go.Proofs.YtiennniclkbjlaaGreatDoor.EscM Go.Proofs.YtiennniclkbjlaaGreatDoor.EscL Go.Proofs.YtiennniclkbjlaaGreatDoor.RuleM Go.Proofs.YtiennniclkbjlaaGreatDoor.St Go.Proofs.YtiennniclkbjlaaGreatDoor.RR Go.Proofs.YtiennniclkbjlaaGreatDoor.LetM Go.Proofs.YtiennniclkbjlaaGreatDoor.Nm Go.Proofs.YtiennniclkbjlaaGreatDoor.GrM Go.Proofs.YtiennniclkbjlaaGreatDoor.Dr

theorem specFI0 (w : World) (s : ByteArray) : FI w (w.heap.size + 1 + 1 + 1) (w.heap.size + 1) (w.heap.size + 1) [] none 0 s ((((w.alloc (.cells #[.slice none 0 0, .slice none 0 0, .int .i64 0] 35)).alloc (.cells #[.string s] 9)).alloc (.cells #[] 135)).alloc (.cells #[.slice (some ⟨w.heap.size + 1, 0, none⟩) 1 1, .slice (some ⟨w.heap.size + 1 + 1, 0, none⟩) 0 0, .int .i64 0] 35)) [] (some ⟨w.heap.size + 1 + 1, 0, none⟩) 0 0 := by
  have s1 : (w.alloc (.cells #[.slice none 0 0, .slice none 0 0, .int .i64 0] 35)).heap.size = w.heap.size + 1 := by simp
  have s2 : ((w.alloc (.cells #[.slice none 0 0, .slice none 0 0, .int .i64 0] 35)).alloc (.cells #[.string s] 9)).heap.size = w.heap.size + 1 + 1 := by simp
  have s3 : (((w.alloc (.cells #[.slice none 0 0, .slice none 0 0, .int .i64 0] 35)).alloc (.cells #[.string s] 9)).alloc (.cells #[] 135)).heap.size = w.heap.size + 1 + 1 + 1 := by simp
  have o1 := Owns.lit1 (w.alloc (.cells #[.slice none 0 0, .slice none 0 0, .int .i64 0] 35)) w.heap.size s (by simp)
  rw [s1] at o1
  have o2 := OwnsR.empty FRu 135 ((w.alloc (.cells #[.slice none 0 0, .slice none 0 0, .int .i64 0] 35)).alloc (.cells #[.string s] 9)) w.heap.size (by simp; omega)
  rw [s2] at o2
  have o3 := Bx.new 35 (((w.alloc (.cells #[.slice none 0 0, .slice none 0 0, .int .i64 0] 35)).alloc (.cells #[.string s] 9)).alloc (.cells #[] 135)) #[.slice (some ⟨w.heap.size + 1, 0, none⟩) 1 1, .slice (some ⟨w.heap.size + 1 + 1, 0, none⟩) 0 0, .int .i64 0]
  rw [s3] at o3
  refine ⟨⟨o3, o2.keep (alloc_keep _ _), (o1.keep (alloc_keep _ _)).keep (alloc_keep _ _)⟩, ⟨OwnsR.nil _ _ _ _, fun b hb => by simp [Value.ownBlock] at hb⟩, ⟨by omega, by omega, by omega⟩, ?_, ((((Bx.new 35 w _).alloc _).alloc _).alloc _)⟩
  exact ((((Below.refl _ w).alloc (Nat.le_refl _) _).alloc (by simp) _).alloc (by simp; omega) _).alloc (by simp; omega) _

end Go.Proofs.YtiennniclkbjlaaGreatDoor.Gf
/- What a notice says to a caller: the model's, whole. -/
namespace Go.Proofs.YtiennniclkbjlaaGreatDoor.Gf
open Go.RowKit Go.Proofs.YtiennniclkbjlaaGreatDoor.EscM Go.Proofs.YtiennniclkbjlaaGreatDoor.EscL Go.Proofs.YtiennniclkbjlaaGreatDoor.RuleM Go.Proofs.YtiennniclkbjlaaGreatDoor.St Go.Proofs.YtiennniclkbjlaaGreatDoor.RR Go.Proofs.YtiennniclkbjlaaGreatDoor.LetM Go.Proofs.YtiennniclkbjlaaGreatDoor.Nm Go.Proofs.YtiennniclkbjlaaGreatDoor.GrM Go.Proofs.YtiennniclkbjlaaGreatDoor.Dr

theorem FI.ofGr {w w1 : World} {g : Gr} {G : Nat} {s : ByteArray} (hgo : GrOwn w1 w.heap.size g) (hb : Below w.heap.size w w1) (hz : Bx 35 w1 w.heap.size #[.slice none 0 0, .slice none 0 0, .int .i64 0]) (hx : Bx 35 w1 G #[.slice g.na g.nm.length g.nc, .slice g.ra g.ru.length g.rc, .int .i64 g.wait]) (hwG : w.heap.size < G) :
    FI w G (w.heap.size + 1) w1.heap.size [] none 0 s ((w1.alloc (.cells #[.string s] 9)).setCell ⟨G, 0, none⟩ (.slice (some ⟨w1.heap.size, 0, none⟩) 1 1)) g.ru g.ra g.rc g.wait := by
  have hx1 := hx.alloc (.cells #[.string s] 9)
  have hs : (w1.alloc (.cells #[.string s] 9)).grownBy ((w1.alloc (.cells #[.string s] 9)).setCell ⟨G, 0, none⟩ (.slice (some ⟨w1.heap.size, 0, none⟩) 1 1)) (some G) := grown_set 0 _
  have hz1 := hz.alloc (.cells #[.string s] 9)
  have hb1 := hb.alloc hb.size (.cells #[.string s] 9)
  refine ⟨⟨hx1.set 0 _, own_type (hgo.2.keep (alloc_keep _ _)) hx1 (by decide) hs, own_type (Owns.lit1 w1 w.heap.size s hb.size) hx1 (by decide) hs⟩, ⟨OwnsR.nil _ _ _ _, fun b hb => by simp [Value.ownBlock] at hb⟩, ⟨by omega, by omega, by omega⟩, ?_, hz1.grown hs (by intro e; have := Option.some.inj e; omega)⟩
  exact hb1.trans (grown_any _ hs hb1.size (fun k hk => by have := Option.some.inj hk; omega))

theorem fin2 {w w1 w4 : World} {g : Gr} {s : ByteArray} (hgo : GrOwn w1 w.heap.size g) (hb : Below w.heap.size w w1) (hz : Bx 35 w1 w.heap.size #[.slice none 0 0, .slice none 0 0, .int .i64 0])
    (e : w4 = (((((w1.setCell ⟨w.heap.size, 0, none⟩ (.slice (some ⟨w1.heap.size + 1, 0, none⟩) 1 1)).setCell ⟨w.heap.size, 1, none⟩ (.slice g.ra g.ru.length g.rc)).setCell ⟨w.heap.size, 2, none⟩ (.int .i64 g.wait)).alloc (.cells #[.slice (some ⟨w1.heap.size + 1, 0, none⟩) 1 1, .slice g.ra g.ru.length g.rc, .int .i64 g.wait] 35)).alloc (.cells #[.string s] 9))) :
    GrOwn w4 w.heap.size ⟨[s], some ⟨w1.heap.size + 1, 0, none⟩, 1, g.ru, g.ra, g.rc, g.wait⟩ ∧ Below w.heap.size w w4 ∧ Bx 35 w4 w.heap.size #[.slice (some ⟨w1.heap.size + 1, 0, none⟩) 1 1, .slice g.ra g.ru.length g.rc, .int .i64 g.wait] := by
  have hlt : w.heap.size < w1.heap.size := hz.lt
  have b3 := ((hz.set 0 (.slice (some ⟨w1.heap.size + 1, 0, none⟩) 1 1)).set 1 (.slice g.ra g.ru.length g.rc)).set 2 (.int .i64 g.wait)
  have g3 : w1.grownBy (((w1.setCell ⟨w.heap.size, 0, none⟩ (.slice (some ⟨w1.heap.size + 1, 0, none⟩) 1 1)).setCell ⟨w.heap.size, 1, none⟩ (.slice g.ra g.ru.length g.rc)).setCell ⟨w.heap.size, 2, none⟩ (.int .i64 g.wait)) (some w.heap.size) := Dr.grown_trans (Dr.grown_trans (grown_set 0 _) (grown_set 1 _)) (grown_set 2 _)
  have hr := own_type hgo.2 hz (by decide) g3
  have hbx := hb.trans (grown_any _ g3 hb.size (fun k hk => by have := Option.some.inj hk; omega))
  have hsz : (((w1.setCell ⟨w.heap.size, 0, none⟩ (.slice (some ⟨w1.heap.size + 1, 0, none⟩) 1 1)).setCell ⟨w.heap.size, 1, none⟩ (.slice g.ra g.ru.length g.rc)).setCell ⟨w.heap.size, 2, none⟩ (.int .i64 g.wait)).heap.size = w1.heap.size := by simp [World.setCell]
  generalize (((w1.setCell ⟨w.heap.size, 0, none⟩ (.slice (some ⟨w1.heap.size + 1, 0, none⟩) 1 1)).setCell ⟨w.heap.size, 1, none⟩ (.slice g.ra g.ru.length g.rc)).setCell ⟨w.heap.size, 2, none⟩ (.int .i64 g.wait)) = w6 at *
  have hs : (w6.alloc (.cells #[.slice (some ⟨w1.heap.size + 1, 0, none⟩) 1 1, .slice g.ra g.ru.length g.rc, .int .i64 g.wait] 35)).heap.size = w1.heap.size + 1 := by simp [hsz]
  have o1 := Owns.lit1 (w6.alloc (.cells #[.slice (some ⟨w1.heap.size + 1, 0, none⟩) 1 1, .slice g.ra g.ru.length g.rc, .int .i64 g.wait] 35)) w.heap.size s (by simp; omega)
  rw [hs] at o1
  subst e
  exact ⟨⟨o1, (OwnsR.keep (F := FRu) hr (alloc_keep _ _)).keep (alloc_keep _ _)⟩, (hbx.alloc hbx.size _).alloc (by simp; omega) _, (b3.alloc _).alloc _⟩

end Go.Proofs.YtiennniclkbjlaaGreatDoor.Gf
/- The laws' comparisons of groups; groups and a name are drawn. -/
namespace Go.Proofs.YtiennniclkbjlaaGreatDoor.Gf
open Go.RowKit Go.Proofs.YtiennniclkbjlaaGreatDoor.EscM Go.Proofs.YtiennniclkbjlaaGreatDoor.EscL Go.Proofs.YtiennniclkbjlaaGreatDoor.RuleM Go.Proofs.YtiennniclkbjlaaGreatDoor.St Go.Proofs.YtiennniclkbjlaaGreatDoor.RR Go.Proofs.YtiennniclkbjlaaGreatDoor.LetM Go.Proofs.YtiennniclkbjlaaGreatDoor.Nm Go.Proofs.YtiennniclkbjlaaGreatDoor.GrM Go.Proofs.YtiennniclkbjlaaGreatDoor.Dr

set_option maxRecDepth 100000 in
set_option maxHeartbeats 3200000 in
theorem rules_same (a0 : Option Addr) (cap : Nat) (b0 : Option Addr) (dap n m : Nat) (L : List Ru) (w : World) (hn : L.length = n) (hm : L.length = m) (hA : IsRows FRu w a0 cap L) (hB : IsRows FRu w b0 dap L) (hl : n ≤ 4194304) :
    Calls Tryz.prog 65 #[.slice a0 n cap, .slice b0 m dap] w fun e w' => e = .returned (.bool true) ∧ Below w.heap.size w w' := by
  subst hn
  subst hm
  have HA : Hid (IsRows FRu w a0 cap L) := hA
  have HB : Hid (IsRows FRu w b0 dap L) := hB
  clear hA hB
  go_enter Tryz.func65, Tryz.ntmps65
  go_wp2
  go_loopw [5] (fun i wr => ∃ k : Nat, k ≤ L.length ∧ i = .int .i64 (k : Int) ∧ Hid (Below w.heap.size w wr)) (fun i _ => L.length - (intOf i).toNat)
  case atStart => exact ⟨0, Nat.zero_le _, rfl, Below.refl _ _⟩
  case round =>
    obtain ⟨k, hk, rfl, HW⟩ := hrel
    by_cases hlt : k < L.length
    · obtain ⟨b1, o1, e1, c0, c1⟩ := ru_at (IsRows.below HA.out HW.out) hlt
      obtain ⟨b2, o2, e2, d0, d1⟩ := ru_at (IsRows.below HB.out HW.out) hlt
      subst e1; subst e2
      have hne : (L[k].path.toList == L[k].path.toList) = true := by simp
      go_wp2
      go_quiet (fail)
      go_wp2
      go_roundw
      case rel => exact ⟨k + 1, by omega, by go_num, below_drewN HW.out nq⟩
      case measure => simp [intOf]; omega
    · go_wp2
      go_ret
      exact ⟨rfl, HW.out⟩

set_option maxRecDepth 100000 in
set_option maxHeartbeats 3200000 in
theorem group_same (a b : Gr) (w : World) (hA : GrAt w a) (hB : GrAt w b) (h1 : a.nm = b.nm) (h2 : a.ru = b.ru) (h3 : a.wait = b.wait) (hl : a.nm.length ≤ 4194304) (hl2 : a.ru.length ≤ 4194304) :
    Calls Tryz.prog 37 #[.agg #[.slice a.na a.nm.length a.nc, .slice a.ra a.ru.length a.rc, .int .i64 a.wait], .agg #[.slice b.na b.nm.length b.nc, .slice b.ra b.ru.length b.rc, .int .i64 b.wait]] w fun e w' => e = .returned (.bool true) ∧ Below w.heap.size w w' := by
  have HA : Hid (GrAt w a) := hA
  have HB : Hid (GrAt w b) := hB
  have H1 : Hid (a.nm = b.nm) := h1
  have H2 : Hid (a.ru = b.ru) := h2
  rw [← h3]
  clear hA hB h1 h2 h3
  go_enter Tryz.func37, Tryz.ntmps37
  go_wp2_with fail
  refine (texts_n a.na _ a.nc a.nm b.na _ b.nc b.nm _ rfl rfl ((HA.out.1.keep (alloc_keep _ _)).keep (alloc_keep _ _)) ((HB.out.1.keep (alloc_keep _ _)).keep (alloc_keep _ _)) hl (by rw [← H1.out]; exact hl)).mono ?_
  rintro e w1 ⟨rfl, n, hw1⟩
  rw [decide_eq_true H1.out]
  have HB1 : Hid (Below w.heap.size w w1) := by rw [hw1]; exact below_drewN (((Below.refl _ w).alloc (Nat.le_refl _) _).alloc (by simp) _) n
  have x1 : w1.cell? ⟨w.heap.size, 1, none⟩ = some (.slice a.ra a.ru.length a.rc) := by rw [hw1]; exact (((Bx.new 35 w _).alloc _).heapEq rfl).cell 1 rfl
  have s1 : (w.alloc (.cells #[.slice a.na a.nm.length a.nc, .slice a.ra a.ru.length a.rc, .int .i64 a.wait] 35)).heap.size = w.heap.size + 1 := by simp
  have y1 : w1.cell? ⟨w.heap.size + 1, 1, none⟩ = some (.slice b.ra b.ru.length b.rc) := by
    rw [hw1, ← s1]; exact ((Bx.new 35 (w.alloc (.cells #[.slice a.na a.nm.length a.nc, .slice a.ra a.ru.length a.rc, .int .i64 a.wait] 35)) #[.slice b.na b.nm.length b.nc, .slice b.ra b.ru.length b.rc, .int .i64 a.wait]).heapEq rfl).cell 1 rfl
  clear hw1 s1
  go_wp2_with fail
  refine (rules_same a.ra a.rc b.ra b.rc _ _ a.ru _ rfl (by rw [H2.out]) (HA.out.2.below HB1.out) (by rw [H2.out]; exact HB.out.2.below HB1.out) hl2).mono ?_
  rintro e w2 ⟨rfl, hb2⟩
  have HB2 : Hid (Below w.heap.size w w2) := HB1.out.trans (hb2.mono HB1.out.size)
  clear hb2
  go_wp2
  go_ret
  exact ⟨rfl, HB2.out⟩
end Go.Proofs.YtiennniclkbjlaaGreatDoor.Gf
namespace Go.Proofs.YtiennniclkbjlaaGreatDoor.Dr
open Go.RowKit Go.Proofs.YtiennniclkbjlaaGreatDoor.EscM Go.Proofs.YtiennniclkbjlaaGreatDoor.St Go.Proofs.YtiennniclkbjlaaGreatDoor.RR Go.Proofs.YtiennniclkbjlaaGreatDoor.LetM Go.Proofs.YtiennniclkbjlaaGreatDoor.Nm Go.Proofs.YtiennniclkbjlaaGreatDoor.GrM
theorem name_any (B r q : Nat) (w : World) (h : IsRd B w r q) (hq : q ≤ 10000) :
    Calls Tryz.prog 29 #[.pointer (some ⟨r, 0, none⟩)] w fun e w' => ∃ s, e = .returned (.string s) ∧ nameB s = true ∧ s ≠ ⟨#[122, 122, 122]⟩ ∧ IsRd B w' r (q + 1) ∧ w.grownBy w' (some r) := by
  have hle := h.le
  go_enter Tryz.func29, Tryz.ntmps29
  go_wp2_with fail
  refine (of_lit B r _ w.heap.size 4 _ _ (fun s => decide (nameB s = true ∧ s ≠ ⟨#[122, 122, 122]⟩)) _ (h.alloc _) (by omega) (by omega) (heap_new _ _) rfl (by decide) (by decide) (by decide +kernel)).mono ?_
  rintro e w2 ⟨t, rfl, ht, hr2, hg2⟩
  have ht2 : nameB t = true ∧ t ≠ ⟨#[122, 122, 122]⟩ := of_decide_eq_true ht
  have HT : Hid (nameB t = true ∧ t ≠ ⟨#[122, 122, 122]⟩) := ht2
  clear ht ht2 hle
  go_wp2
  go_ret
  exact ⟨t, rfl, HT.out.1, HT.out.2, hr2, grown_trans (grown_alloc _ _ _) hg2⟩

end Go.Proofs.YtiennniclkbjlaaGreatDoor.Dr
/- Groups, some spoilt, are drawn. -/
namespace Go.Proofs.YtiennniclkbjlaaGreatDoor.Dr
open Go.RowKit Go.Proofs.YtiennniclkbjlaaGreatDoor.EscM Go.Proofs.YtiennniclkbjlaaGreatDoor.St Go.Proofs.YtiennniclkbjlaaGreatDoor.RR Go.Proofs.YtiennniclkbjlaaGreatDoor.LetM Go.Proofs.YtiennniclkbjlaaGreatDoor.Nm Go.Proofs.YtiennniclkbjlaaGreatDoor.GrM Go.Proofs.YtiennniclkbjlaaGreatDoor.Gf

theorem own_set {w : World} {base k n g cap j : Nat} {t : TypeId} {y : Value} {xs : List Value} (h : w.ownsRow base t k (.slice (some ⟨g, 0, none⟩) n cap) n xs) : (w.setCell ⟨g, j, none⟩ y).ownsRow base t k (.slice (some ⟨g, 0, none⟩) n cap) n (xs.set j y) := by
  obtain ⟨h1, ⟨hv, _⟩ | ⟨g', cap', cur, hv, hb, hh, h3, h4, h5, h6⟩⟩ := h
  · injection hv with e; cases e
  · injection hv with e1 _ e3
    injection e1 with e1
    injection e1 with e1
    subst e1; subst e3
    refine ⟨by simp [h1], Or.inr ⟨g, cap, cur.setIfInBounds j y, rfl, hb, Bx.set (t := t) hh j y, h3, h4, by simp [h5], ?_⟩⟩
    rw [Array.toList_setIfInBounds, List.take_set, h6]
theorem own_blk {w : World} {base k n g cap : Nat} {t : TypeId} {xs : List Value} (h : w.ownsRow base t k (.slice (some ⟨g, 0, none⟩) n cap) n xs) : ∃ C, Bx t w g C := own_block_type h rfl
theorem own_at0 {w : World} {base k n : Nat} {t : TypeId} {v : Value} {xs : List Value} (h : w.ownsRow base t k v n xs) (hn : 0 < n) : ∃ g cap, v = .slice (some ⟨g, 0, none⟩) n cap ∧ base ≤ g ∧ n ≤ cap ∧ cap ≤ maxLen := by
  obtain ⟨_, ⟨_, h0⟩ | ⟨g, cap, cur, hv, hb, _, h3, h4, _⟩⟩ := h
  · omega
  · exact ⟨g, cap, hv, hb, h3, h4⟩
/-- the rule that is no pattern -/
def rA : Ru := ⟨false, ⟨#[97]⟩⟩
/-- what is drawn here, at most -/
def GrB2 (g : Gr) : Prop := g.nm.length ≤ 2 ∧ (∀ s ∈ g.nm, s.size ≤ 5) ∧ g.ru.length ≤ 5 ∧ (∀ r ∈ g.ru, r.path.size ≤ 16) 
theorem GrB2.sz {g : Gr} (h : GrB2 g) : GrSz g := ⟨by have := h.1; omega, by have := h.2.2.1; omega, fun s hs => Nat.le_trans (h.2.1 s hs) (by decide), fun r hr => Nat.le_trans (h.2.2.2 r hr) (by decide)⟩
theorem GrBd.two {g : Gr} (h : GrBd g) : GrB2 g := ⟨h.1, h.2.1, by have := h.2.2.1; omega, h.2.2.2.1⟩
/-- the first one's Wait is set -/
theorem set_wait {w : World} {base b cap : Nat} {g : Gr} {R : List Gr} (x : Int) (hO : OwnsR FGr 35 w base (.slice (some ⟨b, 0, none⟩) (R.length + 1) cap) (g :: R)) (hG : GrsOwn w base (g :: R)) :
    OwnsR FGr 35 (w.setCell ⟨b, 2, none⟩ (.int .i64 x)) base (.slice (some ⟨b, 0, none⟩) (R.length + 1) cap) ({ g with wait := x } :: R) ∧ GrsOwn (w.setCell ⟨b, 2, none⟩ (.int .i64 x)) base ({ g with wait := x } :: R) := by
  obtain ⟨C, hC⟩ := own_blk hO
  have hs : w.grownBy (w.setCell ⟨b, 2, none⟩ (.int .i64 x)) (some b) := grown_set 2 _
  refine ⟨own_set hO, ?_⟩
  have hk : ∀ u ∈ g :: R, GrOwn (w.setCell ⟨b, 2, none⟩ (.int .i64 x)) base u := fun u hu => ⟨own_type (hG u hu).1 hC (by decide) hs, own_type (hG u hu).2 hC (by decide) hs⟩
  intro u hu
  rcases List.mem_cons.1 hu with rfl | hu
  · exact hk g (List.mem_cons_self ..)
  · exact hk u (List.mem_cons_of_mem _ hu)
/-- the first one has a rule more -/
theorem set_rules {w w1 : World} {base b cap : Nat} {g : Gr} {R : List Gr} {S : List Ru} {a4 : Option Addr} {c4 : Nat} (hO : OwnsR FGr 35 w base (.slice (some ⟨b, 0, none⟩) (R.length + 1) cap) (g :: R)) (hG : GrsOwn w base (g :: R)) (hA : Apart (g :: R))
    (hS : OwnsR FRu 135 w1 base (.slice a4 S.length c4) S) (hg : w.grownBy w1 (Value.slice g.ra g.ru.length g.rc).ownBlock) :
    OwnsR FGr 35 w1 base (.slice (some ⟨b, 0, none⟩) (R.length + 1) cap) (g :: R) ∧
    OwnsR FGr 35 (w1.setCell ⟨b, 1, none⟩ (.slice a4 S.length c4)) base (.slice (some ⟨b, 0, none⟩) (R.length + 1) cap) ({ g with ru := S, ra := a4, rc := c4 } :: R) ∧ GrsOwn (w1.setCell ⟨b, 1, none⟩ (.slice a4 S.length c4)) base ({ g with ru := S, ra := a4, rc := c4 } :: R) := by
  have hO1 : OwnsR FGr 35 w1 base (.slice (some ⟨b, 0, none⟩) (R.length + 1) cap) (g :: R) := own_apart hO (hG g (List.mem_cons_self ..)).2 (by decide) hg
  obtain ⟨C, hC⟩ := own_blk hO1
  have hs : w1.grownBy (w1.setCell ⟨b, 1, none⟩ (.slice a4 S.length c4)) (some b) := grown_set 1 _
  refine ⟨hO1, own_set hO1, ?_⟩
  have hgo := hG g (List.mem_cons_self ..)
  intro u hu
  rcases List.mem_cons.1 hu with rfl | hu
  · exact ⟨own_type (own_apart hgo.1 hgo.2 (by decide) hg) hC (by decide) hs, own_type hS hC (by decide) hs⟩
  · have hu2 := hG u (List.mem_cons_of_mem _ hu)
    have hne := (List.pairwise_cons.1 hA).1 u hu
    have hu3 : OwnsR FRu 135 w1 base (.slice u.ra u.ru.length u.rc) u.ru := by
      refine World.ownsRow.kept hu2.2 hg ?_
      cases hv : (Value.slice u.ra u.ru.length u.rc).ownBlock with
      | none => exact Or.inl rfl
      | some c =>
        right
        intro e
        exact hne c e.symm hv
    exact ⟨own_type (own_apart hu2.1 hgo.2 (by decide) hg) hC (by decide) hs, own_type hu3 hC (by decide) hs⟩

end Go.Proofs.YtiennniclkbjlaaGreatDoor.Dr
