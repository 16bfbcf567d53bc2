/- The exact laws' helpers on groups: how great, the same, copied. -/
import Derived.Test.YtjnijejminfjcaaGrpMath
import Derived.Test.YtjnijejminfjcaaExRu
namespace Go.Proofs.Ytjnijejminfjcaa.ExG
open Go.RowKit Go.Proofs.Ytjnijejminfjcaa.St Go.Proofs.Ytjnijejminfjcaa.EscL Go.Proofs.Ytjnijejminfjcaa.RR Go.Proofs.Ytjnijejminfjcaa.LetM Go.Proofs.Ytjnijejminfjcaa.GrM Go.Proofs.Ytjnijejminfjcaa.ExR

set_option maxHeartbeats 800000 in
theorem szRuS2_any (a0 : Option Addr) (cap : Nat) (L : List Ru) (left : Nat) (w : World) (h : IsRows FRu w a0 cap L) (hs : ∀ r ∈ L, r.path.size ≤ maxLen) (hl : left ≤ 4194304) :
    Calls Try.prog 24 #[.slice a0 L.length cap, .int .i64 (left : Int)] w fun e w' => (∃ x : Int, e = .returned (.int .i64 x) ∧ (x < 0 ∨ (0 ≤ x ∧ x ≤ left ∧ L.length ≤ left))) ∧ Below w.heap.size w w' := by
  have HS : Hid (IsRows FRu w a0 cap L) := h
  have HZ : Hid (∀ r ∈ L, r.path.size ≤ maxLen) := hs
  have hc1 := h.1
  have hc2 := h.2.1
  unfold maxLen at hc2
  clear h hs
  by_cases hlt : left < L.length
  · go_enter Try.func24, Try.ntmps24
    go_wp2
    go_ret
    exact ⟨⟨-1, rfl, Or.inl (by omega)⟩, Below.refl _ _⟩
  · go_enter Try.func24, Try.ntmps24
    go_wp2
    go_loopw [1, 5] (fun x i wr => ∃ (k m : Nat), k ≤ L.length ∧ i = .int .i64 (k : Int) ∧ x = .int .i64 (m : Int) ∧ m ≤ left ∧ Hid (∀ r ∈ L.take k, r.path.size ≤ left) ∧ Hid (Below w.heap.size w wr)) (fun _ i _ => L.length - (intOf i).toNat)
    case atStart => exact ⟨0, left - L.length, Nat.zero_le _, rfl, by go_num, by omega, (fun r hr => by simp at hr), Below.refl _ _⟩
    case round =>
      obtain ⟨k, m, hk, rfl, rfl, hm, HSm, HB⟩ := hrel
      by_cases hkl : k < L.length
      · obtain ⟨b, o, e, c0, c1⟩ := ru_at (IsRows.below HS.out HB.out) hkl
        subst e
        have hz := HZ.out _ (List.getElem_mem hkl)
        go_wp2_with fail
        refine (szRu_any L[k] m _ hz (by omega)).mono ?_
        rintro e w1 ⟨⟨x, rfl, hx⟩, hb1⟩
        have HB1 : Hid (Below w.heap.size w w1) := HB.out.trans (hb1.mono HB.out.size)
        clear hb1 c0 c1
        rcases hx with hx | ⟨hx0, hx1⟩
        · go_wp2
          go_ret
          exact ⟨⟨-1, rfl, Or.inl (by omega)⟩, HB1.out⟩
        · obtain ⟨y, rfl⟩ : ∃ y : Nat, x = (y : Int) := ⟨x.toNat, by omega⟩
          have HN : Hid (∀ r ∈ L.take (k + 1), r.path.size ≤ left) := by
            intro r hr
            rw [List.take_succ_eq_append_getElem hkl] at hr
            rcases List.mem_append.1 hr with hr | hr
            · exact HSm.out r hr
            · simp at hr; subst hr; omega
          go_wp2
          go_roundw
          case rel => exact ⟨k + 1, y, by omega, by go_num, rfl, by omega, HN.out, HB1⟩
          case measure => simp [intOf]; omega
      · go_wp2
        go_ret
        exact ⟨⟨m, rfl, Or.inr ⟨by omega, by omega, by omega⟩⟩, HB.out⟩

/-- what came in of a group is no more than can be gone by -/
def GrIn (g : Gr) : Prop := (∀ s ∈ g.nm, s.size ≤ maxLen) ∧ ∀ r ∈ g.ru, r.path.size ≤ maxLen
def gcell (g : Gr) : Array Value := #[.slice g.na g.nm.length g.nc, .slice g.ra g.ru.length g.rc, .int .i64 g.wait]
theorem box_cell {w w' : World} {C : Array Value} {t : TypeId} (hb : Below (w.alloc (.cells C t)).heap.size (w.alloc (.cells C t)) w') (j : Nat) {x : Value} (hx : C[j]? = some x) : w'.cell? ⟨w.heap.size, j, none⟩ = some x := by
  have h0 : (w.alloc (.cells C t)).heap[w.heap.size]? = some (.cells C t) := by show (w.heap.push _)[w.heap.size]? = _; simp
  have h1 : (w.alloc (.cells C t)).cell? ⟨w.heap.size, j, none⟩ = some x := by unfold World.cell?; dsimp only; rw [h0]; simpa using hx
  exact (hb.cell (St.cell_block h1)).trans h1

set_option maxHeartbeats 1600000 in
theorem szGr_any (g : Gr) (left : Nat) (w : World) (hG : GrAt w g) (hI : GrIn g) (hl : left ≤ 4194304) :
    Calls Try.prog 12 #[.agg #[.slice g.na g.nm.length g.nc, .slice g.ra g.ru.length g.rc, .int .i64 g.wait], .int .i64 (left : Int)] w fun e w' => (∃ x : Int, e = .returned (.int .i64 x) ∧ (x < 0 ∨ (0 ≤ x ∧ x ≤ left ∧ g.nm.length ≤ left ∧ g.ru.length ≤ left))) ∧ Below w.heap.size w w' := by
  have HG1 : Hid (GrAt (w.alloc (.cells #[.slice g.na g.nm.length g.nc, .slice g.ra g.ru.length g.rc, .int .i64 g.wait] 34)) g) := hG.keep (alloc_keep _ _)
  have HI : Hid (GrIn g) := hI
  have HB1 : Hid (Below w.heap.size w (w.alloc (.cells #[.slice g.na g.nm.length g.nc, .slice g.ra g.ru.length g.rc, .int .i64 g.wait] 34))) := (Below.refl _ _).alloc (Nat.le_refl _) _
  have c1 : (w.alloc (.cells #[.slice g.na g.nm.length g.nc, .slice g.ra g.ru.length g.rc, .int .i64 g.wait] 34)).cell? ⟨w.heap.size, 1, none⟩ = some (.slice g.ra g.ru.length g.rc) := box_cell (Below.refl _ _) 1 rfl
  clear hG hI
  go_enter Try.func12, Try.ntmps12
  go_wp2_with fail
  refine (szS_any g.na g.nc g.nm left _ HG1.out.1 HI.out.1 hl).mono ?_
  rintro e w1 ⟨⟨x, rfl, hx⟩, e1⟩
  subst e1
  rcases hx with hx | ⟨hx0, hx1, hx2, _⟩
  · go_wp2
    go_ret
    exact ⟨⟨-1, rfl, Or.inl (by omega)⟩, HB1.out⟩
  · obtain ⟨y, rfl⟩ : ∃ y : Nat, x = (y : Int) := ⟨x.toNat, by omega⟩
    go_wp2_with fail
    refine (szRuS2_any g.ra g.rc g.ru y _ HG1.out.2 HI.out.2 (by omega)).mono ?_
    rintro e w2 ⟨⟨z, rfl, hz⟩, hb2⟩
    have HB2 : Hid (Below w.heap.size w w2) := HB1.out.trans (hb2.mono HB1.out.size)
    clear hb2
    rcases hz with hz | ⟨hz0, hz1, hz2⟩
    · go_wp2
      go_ret
      exact ⟨⟨-1, rfl, Or.inl (by omega)⟩, HB2.out⟩
    · go_wp2
      go_ret
      exact ⟨⟨z, rfl, Or.inr ⟨by omega, by omega, by omega, by omega⟩⟩, HB2.out⟩

set_option maxHeartbeats 1600000 in
theorem szGrS_any (a0 : Option Addr) (cap : Nat) (L : List Gr) (left : Nat) (w : World) (h : IsRows FGr w a0 cap L) (hG : GrsAt w L) (hI : ∀ g ∈ L, GrIn g) (hl : left ≤ 4194304) :
    Calls Try.prog 5 #[.slice a0 L.length cap, .int .i64 (left : Int)] w fun e w' => (∃ x : Int, e = .returned (.int .i64 x) ∧ (x < 0 ∨ (0 ≤ x ∧ L.length ≤ left ∧ ∀ g ∈ L, g.nm.length ≤ left ∧ g.ru.length ≤ left))) ∧ Below w.heap.size w w' := by
  have HS : Hid (IsRows FGr w a0 cap L) := h
  have HG : Hid (GrsAt w L) := hG
  have HI : Hid (∀ g ∈ L, GrIn g) := hI
  have hc1 := h.1
  have hc2 := h.2.1
  unfold maxLen at hc2
  clear h hG hI
  by_cases hlt : left < L.length
  · go_enter Try.func5, Try.ntmps5
    go_wp2
    go_ret
    exact ⟨⟨-1, rfl, Or.inl (by omega)⟩, Below.refl _ _⟩
  · go_enter Try.func5, Try.ntmps5
    go_wp2
    go_loopw [1, 5] (fun x i wr => ∃ (k m : Nat), k ≤ L.length ∧ i = .int .i64 (k : Int) ∧ x = .int .i64 (m : Int) ∧ m ≤ left ∧ Hid (∀ g ∈ L.take k, g.nm.length ≤ left ∧ g.ru.length ≤ left) ∧ Hid (Below w.heap.size w wr)) (fun _ i _ => L.length - (intOf i).toNat)
    case atStart => exact ⟨0, left - L.length, Nat.zero_le _, rfl, by go_num, by omega, (fun r hr => by simp at hr), Below.refl _ _⟩
    case round =>
      obtain ⟨k, m, hk, rfl, rfl, hm, HSm, HB⟩ := hrel
      by_cases hkl : k < L.length
      · obtain ⟨b, o, e, c0, c1, c2⟩ := gr_at (IsRows.below HS.out HB.out) hkl
        subst e
        have hgm : L[k] ∈ L := List.getElem_mem hkl
        have HGk : Hid (GrAt wr L[k]) := (HG.out.below HB.out) _ hgm
        have HIk : Hid (GrIn L[k]) := HI.out _ hgm
        clear hgm
        go_wp2_with fail
        refine (szGr_any L[k] m _ HGk.out HIk.out (by omega)).mono ?_
        rintro e w1 ⟨⟨x, rfl, hx⟩, hb1⟩
        have HB1 : Hid (Below w.heap.size w w1) := HB.out.trans (hb1.mono HB.out.size)
        clear hb1 c0 c1 c2
        rcases hx with hx | ⟨hx0, hx1, hx2, hx3⟩
        · go_wp2
          go_ret
          exact ⟨⟨-1, rfl, Or.inl (by omega)⟩, HB1.out⟩
        · obtain ⟨y, rfl⟩ : ∃ y : Nat, x = (y : Int) := ⟨x.toNat, by omega⟩
          have HN : Hid (∀ g ∈ L.take (k + 1), g.nm.length ≤ left ∧ g.ru.length ≤ left) := by
            intro r hr
            rw [List.take_succ_eq_append_getElem hkl] at hr
            rcases List.mem_append.1 hr with hr | hr
            · exact HSm.out r hr
            · simp at hr; subst hr; omega
          go_wp2
          go_roundw
          case rel => exact ⟨k + 1, y, by omega, by go_num, rfl, by omega, HN.out, HB1⟩
          case measure => simp [intOf]; omega
      · go_wp2
        go_ret
        refine ⟨⟨m, rfl, Or.inr ⟨by omega, by omega, ?_⟩⟩, HB.out⟩
        have := HSm.out
        rwa [List.take_of_length_le (by omega)] at this

theorem eqRuS_n (a0 : Option Addr) (cap : Nat) (b0 : Option Addr) (dap n m : Nat) (L : List Ru) (w : World) (hn : L.length = n) (hm : L.length = m) (hA : IsRows FRu w a0 cap L) (hB : IsRows FRu w b0 dap L) (hl : n ≤ 4194304) :
    Calls Try.prog 32 #[.slice a0 n cap, .slice b0 m dap] w fun e w' => e = .returned (.bool true) ∧ Below w.heap.size w w' := by
  subst hn; subst hm; exact eqRuS_any a0 cap b0 dap L w hA hB hl

set_option maxHeartbeats 1600000 in
theorem eqGr_any (a b : Gr) (w : World) (hA : GrAt w a) (hB : GrAt w b) (h1 : a.nm = b.nm) (h2 : a.ru = b.ru) (h3 : a.wait = b.wait) (hl : a.nm.length ≤ 4194304) (hl2 : a.ru.length ≤ 4194304) :
    Calls Try.prog 18 #[.agg #[.slice a.na a.nm.length a.nc, .slice a.ra a.ru.length a.rc, .int .i64 a.wait], .agg #[.slice b.na b.nm.length b.nc, .slice b.ra b.ru.length b.rc, .int .i64 b.wait]] w fun e w' => e = .returned (.bool true) ∧ Below w.heap.size w w' := by
  have HA : Hid (GrAt w a) := hA
  have HB : Hid (GrAt w b) := hB
  have H1 : Hid (a.nm = b.nm) := h1
  have H2 : Hid (a.ru = b.ru) := h2
  rw [← h3]
  clear hA hB h1 h2 h3
  go_enter Try.func18, Try.ntmps18
  go_wp2_with fail
  refine (eqS_n a.na _ a.nc a.nm b.na _ b.nc b.nm _ rfl rfl ((HA.out.1.keep (alloc_keep _ _)).keep (alloc_keep _ _)) ((HB.out.1.keep (alloc_keep _ _)).keep (alloc_keep _ _)) hl (by rw [← H1.out]; exact hl)).mono ?_
  rintro e w1 ⟨rfl, n, hw1⟩
  rw [decide_eq_true H1.out]
  have hb : Below ((w.alloc (.cells #[.slice a.na a.nm.length a.nc, .slice a.ra a.ru.length a.rc, .int .i64 a.wait] 37)).alloc (.cells #[.slice b.na b.nm.length b.nc, .slice b.ra b.ru.length b.rc, .int .i64 a.wait] 37)).heap.size ((w.alloc (.cells #[.slice a.na a.nm.length a.nc, .slice a.ra a.ru.length a.rc, .int .i64 a.wait] 37)).alloc (.cells #[.slice b.na b.nm.length b.nc, .slice b.ra b.ru.length b.rc, .int .i64 a.wait] 37)) w1 := by rw [hw1]; exact below_drewN (Below.refl _ _) n
  have ha : Below (w.alloc (.cells #[.slice a.na a.nm.length a.nc, .slice a.ra a.ru.length a.rc, .int .i64 a.wait] 37)).heap.size (w.alloc (.cells #[.slice a.na a.nm.length a.nc, .slice a.ra a.ru.length a.rc, .int .i64 a.wait] 37)) w1 := ((Below.refl _ _).alloc (Nat.le_refl _) _).trans (hb.mono (by simp))
  have HB1 : Hid (Below w.heap.size w w1) := ((Below.refl _ _).alloc (Nat.le_refl _) _).trans (ha.mono (by simp))
  have s1 : (w.alloc (.cells #[.slice a.na a.nm.length a.nc, .slice a.ra a.ru.length a.rc, .int .i64 a.wait] 37)).heap.size = w.heap.size + 1 := by simp
  have x1 : w1.cell? ⟨w.heap.size, 1, none⟩ = some (.slice a.ra a.ru.length a.rc) := box_cell ha 1 rfl
  have x2 : w1.cell? ⟨w.heap.size, 2, none⟩ = some (.int .i64 a.wait) := box_cell ha 2 rfl
  have y1 : w1.cell? ⟨w.heap.size + 1, 1, none⟩ = some (.slice b.ra b.ru.length b.rc) := by rw [← s1]; exact box_cell hb 1 rfl
  have y2 : w1.cell? ⟨w.heap.size + 1, 2, none⟩ = some (.int .i64 a.wait) := by rw [← s1]; exact box_cell hb 2 rfl
  clear hw1 s1 ha hb
  have hz := HB1.out.size
  have HX2 : Hid (w1.cell? ⟨w.heap.size, 2, none⟩ = some (.int .i64 a.wait)) := x2
  have HY2 : Hid (w1.cell? ⟨w.heap.size + 1, 2, none⟩ = some (.int .i64 a.wait)) := y2
  go_wp2_with fail
  refine (eqRuS_n a.ra a.rc b.ra b.rc _ _ a.ru _ rfl (by rw [H2.out]) (HA.out.2.below HB1.out) (by rw [H2.out]; exact HB.out.2.below HB1.out) hl2).mono ?_
  rintro e w2 ⟨rfl, hb2⟩
  have HB2 : Hid (Below w.heap.size w w2) := HB1.out.trans (hb2.mono HB1.out.size)
  have z2 : w2.cell? ⟨w.heap.size, 2, none⟩ = some (.int .i64 a.wait) := (hb2.cell (St.cell_block HX2.out)).trans HX2.out
  have t2 : w2.cell? ⟨w.heap.size + 1, 2, none⟩ = some (.int .i64 a.wait) := (hb2.cell (St.cell_block HY2.out)).trans HY2.out
  clear hb2
  go_wp2
  go_ret
  exact ⟨rfl, HB2.out⟩

set_option maxHeartbeats 3200000 in
theorem eqGrS_any (a0 : Option Addr) (cap : Nat) (A : List Gr) (b0 : Option Addr) (dap : Nat) (B : List Gr) (w : World) (hA : IsRows FGr w a0 cap A) (hB : IsRows FGr w b0 dap B) (hGA : GrsAt w A) (hGB : GrsAt w B) (hl : A.length ≤ 4194304) (he : A.map grp = B.map grp) (hS : ∀ g ∈ A, g.nm.length ≤ 4194304 ∧ g.ru.length ≤ 4194304) :
    Calls Try.prog 9 #[.slice a0 A.length cap, .slice b0 B.length dap] w fun e w' => e = .returned (.bool true) ∧ Below w.heap.size w w' := by
  have HA : Hid (IsRows FGr w a0 cap A) := hA
  have HB : Hid (IsRows FGr w b0 dap B) := hB
  have HGA : Hid (GrsAt w A) := hGA
  have HGB : Hid (GrsAt w B) := hGB
  have HE : Hid (A.map grp = B.map grp) := he
  have HS : Hid (∀ g ∈ A, g.nm.length ≤ 4194304 ∧ g.ru.length ≤ 4194304) := hS
  have hlen : A.length = B.length := by have := congrArg List.length he; simpa using this
  rw [← hlen]
  have HLN : Hid (A.length = B.length) := hlen
  clear hA hB hGA hGB he hS hlen
  go_enter Try.func9, Try.ntmps9
  go_wp2
  go_loopw [5] (fun i wr => ∃ k : Nat, k ≤ A.length ∧ i = .int .i64 (k : Int) ∧ Hid (Below w.heap.size w wr)) (fun i _ => A.length - (intOf i).toNat)
  case atStart => exact ⟨0, Nat.zero_le _, rfl, Below.refl _ _⟩
  case round =>
    obtain ⟨k, hk, rfl, HW⟩ := hrel
    by_cases hlt : k < A.length
    · have hltB : k < B.length := by have := HLN.out; omega
      obtain ⟨b, o, e, c0, c1, c2⟩ := gr_at (IsRows.below HA.out HW.out) hlt
      subst e
      obtain ⟨b2, o2, e2, d0, d1, d2⟩ := gr_at (IsRows.below HB.out HW.out) hltB
      subst e2
      have hg : grp A[k] = grp B[k] := by
        have h1 := congrArg (fun l => l[k]?) HE.out
        simpa [hlt, hltB] using h1
      unfold grp at hg
      simp only [Prod.mk.injEq] at hg
      have HK1 : Hid (A[k].nm = B[k].nm) := hg.1
      have HK2 : Hid (A[k].ru = B[k].ru) := hg.2.1
      have HK3 : Hid (A[k].wait = B[k].wait) := hg.2.2
      have HSk : Hid (A[k].nm.length ≤ 4194304 ∧ A[k].ru.length ≤ 4194304) := HS.out _ (List.getElem_mem _)
      have HGa : Hid (GrAt wr A[k]) := (HGA.out.below HW.out) _ (List.getElem_mem _)
      have HGb : Hid (GrAt wr B[k]) := (HGB.out.below HW.out) _ (List.getElem_mem _)
      clear hg
      generalize A[k] = x at *
      generalize B[k] = y at *
      go_wp2
      go_region_with (go_at_call 18; refine (eqGr_any x y wr.drew (HGa.out.keep fun _ _ => rfl) (HGb.out.keep fun _ _ => rfl) HK1.out HK2.out HK3.out HSk.out.1 HSk.out.2).mono ?_; rintro e w1 ⟨rfl, hb1⟩)
      all_goals
        have HB1 : Hid (Below w.heap.size w w1) := HW.out.trans ((((Below.refl _ wr).drew).trans hb1).mono HW.out.size)
        clear hb1 c0 c1 c2 d0 d1 d2
        go_wp2
        go_roundw
        case rel => exact ⟨k + 1, by omega, by go_num, HB1⟩
        case measure => simp [intOf]; omega
    · go_wp2
      go_ret
      exact ⟨rfl, HW.out⟩

/-- its lists are one's own -/
def GrO (w : World) (base : Nat) (g : Gr) : Prop := Owns w base (.slice g.na g.nm.length g.nc) g.nm ∧ OwnsR FRu 41 w base (.slice g.ra g.ru.length g.rc) g.ru
theorem GrO.at {w : World} {base : Nat} {g : Gr} (h : GrO w base g) : GrAt w g := ⟨Owns.strsOf h.1, OwnsR.rowsOf h.2⟩
theorem GrO.below {w w' : World} {base : Nat} {g : Gr} (h : GrO w base g) (hb : Below w.heap.size w w') : GrO w' base g := ⟨Owns.below h.1 hb, OwnsR.below h.2 hb⟩
theorem GrO.mono {w : World} {base base' : Nat} {g : Gr} (h : GrO w base g) (hb : base' ≤ base) : GrO w base' g := ⟨Owns.mono h.1 hb, OwnsR.mono h.2 hb⟩
theorem GrO.set {w : World} {base : Nat} {g : Gr} (h : GrO w base g) {a : Addr} (ha : a.block < base) (u : Value) : GrO (w.setCell a u) base g := ⟨ownsRow_setCell_below h.1 ha u, ownsRow_setCell_below h.2 ha u⟩

/-- a struct in its block -/
def Bq (t : TypeId) (w : World) (G : Nat) (C : Array Value) : Prop := w.heap[G]? = some (.cells C t (0, 0))
section
variable {t : TypeId} {w w' : World} {G : Nat} {C : Array Value}
theorem Bq.cell (h : Bq t w G C) (j : Nat) {x : Value} (hx : C[j]? = some x) : w.cell? ⟨G, j, none⟩ = some x := by
  unfold Bq at h
  simp [World.cell?, h, hx]
theorem Bq.free (h : Bq t w G C) (j : Nat) : w.frozen? ⟨G, j, none⟩ = false := by
  unfold Bq at h
  simp [World.frozen?, h]
theorem Bq.lt (h : Bq t w G C) : G < w.heap.size := (Array.getElem?_eq_some_iff.1 h).1
theorem Bq.keep (h : Bq t w G C) (hb : ∀ k, k < w.heap.size → w'.heap[k]? = w.heap[k]?) : Bq t w' G C := by
  unfold Bq
  rw [hb G h.lt]; exact h
theorem Bq.new (t : TypeId) (w : World) (C : Array Value) : Bq t (w.alloc (.cells C t)) w.heap.size C := by
  show (w.heap.push _)[w.heap.size]? = _
  simp
theorem Bq.set (h : Bq t w G C) (j : Nat) (y : Value) : Bq t (w.setCell ⟨G, j, none⟩ y) G (C.setIfInBounds j y) := by
  unfold Bq at h ⊢
  simp only [World.setCell, Array.getElem?_modify, if_true, h, Option.map_some]
  rfl
theorem Bq.other (h : Bq t w G C) {a : Addr} (ha : a.block ≠ G) (y : Value) : Bq t (w.setCell a y) G C := by
  unfold Bq
  rw [Below.heap_setCell _ _ _ _ (fun e => ha (by rw [e]))]; exact h
end
/-- the three blocks at work in toGroup, and what is kept -/
def TG (w w' : World) (g : Gr) (C : Array Value) : Prop :=
  Bq 34 w' w.heap.size #[.slice g.na g.nm.length g.nc, .slice g.ra g.ru.length g.rc, .int .i64 g.wait] ∧ Bq 37 w' (w.heap.size + 1) #[.slice none 0 0, .slice none 0 0, .int .i64 0] ∧ Bq 37 w' (w.heap.size + 1 + 1) C ∧ Below w.heap.size w w'
theorem TG.new (w : World) (g : Gr) : TG w (((w.alloc (.cells #[.slice g.na g.nm.length g.nc, .slice g.ra g.ru.length g.rc, .int .i64 g.wait] 34)).alloc (.cells #[.slice none 0 0, .slice none 0 0, .int .i64 0] 37)).alloc (.cells #[.slice none 0 0, .slice none 0 0, .int .i64 0] 37)) g #[.slice none 0 0, .slice none 0 0, .int .i64 0] := by
  obtain ⟨w1, h1⟩ : ∃ w1, w1 = w.alloc (.cells #[.slice g.na g.nm.length g.nc, .slice g.ra g.ru.length g.rc, .int .i64 g.wait] 34) := ⟨_, rfl⟩
  obtain ⟨w2, h2⟩ : ∃ w2, w2 = w1.alloc (.cells #[.slice none 0 0, .slice none 0 0, .int .i64 0] 37) := ⟨_, rfl⟩
  have s1 : w1.heap.size = w.heap.size + 1 := by rw [h1]; simp
  have s2 : w2.heap.size = w.heap.size + 1 + 1 := by rw [h2]; simp [s1]
  have b1 : Bq 34 w1 w.heap.size #[.slice g.na g.nm.length g.nc, .slice g.ra g.ru.length g.rc, .int .i64 g.wait] := by rw [h1]; exact Bq.new _ _ _
  have b2 : Bq 37 w2 (w.heap.size + 1) #[.slice none 0 0, .slice none 0 0, .int .i64 0] := by rw [← s1, h2]; exact Bq.new _ _ _
  have k1 : Below w.heap.size w w1 := by rw [h1]; exact (Below.refl _ _).alloc (Nat.le_refl _) _
  have k2 : Below w.heap.size w w2 := by rw [h2]; exact k1.alloc k1.size _
  rw [← h1, ← h2]
  refine ⟨((b1.keep (w' := w2) (by rw [h2]; exact alloc_keep _ _)).keep (alloc_keep _ _)), b2.keep (alloc_keep _ _), ?_, k2.alloc k2.size _⟩
  rw [← s2]; exact Bq.new _ _ _
theorem TG.below {w w1 w2 : World} {g : Gr} {C : Array Value} (h : TG w w1 g C) (hb : Below w1.heap.size w1 w2) : TG w w2 g C :=
  ⟨h.1.keep fun k hk => hb.block k hk, h.2.1.keep fun k hk => hb.block k hk, h.2.2.1.keep fun k hk => hb.block k hk, h.2.2.2.trans (hb.mono h.2.2.2.size)⟩
theorem TG.set {w w1 : World} {g : Gr} {C : Array Value} (h : TG w w1 g C) (j : Nat) (y : Value) : TG w (w1.setCell ⟨w.heap.size + 1 + 1, j, none⟩ y) g (C.setIfInBounds j y) :=
  ⟨h.1.other (by show w.heap.size + 1 + 1 ≠ w.heap.size; omega) y, h.2.1.other (by show w.heap.size + 1 + 1 ≠ w.heap.size + 1; omega) y, h.2.2.1.set j y, h.2.2.2.setCell (by show w.heap.size ≤ w.heap.size + 1 + 1; omega) y⟩

set_option maxHeartbeats 3200000 in
theorem toGr_any (g : Gr) (w : World) (hG : GrAt w g) (hl : g.nm.length ≤ 4194304) (hl2 : g.ru.length ≤ 4194304) :
    Calls Try.prog 16 #[.agg #[.slice g.na g.nm.length g.nc, .slice g.ra g.ru.length g.rc, .int .i64 g.wait]] w fun e w' => ∃ h : Gr, e = .returned (.agg #[.slice h.na h.nm.length h.nc, .slice h.ra h.ru.length h.rc, .int .i64 h.wait]) ∧ grp h = grp g ∧ GrO w' w.heap.size h ∧ Below w.heap.size w w' := by
  have HG : Hid (GrAt w g) := hG
  clear hG
  have HT3 : Hid _ := TG.new w g
  go_enter Try.func16, Try.ntmps16
  go_wp2_with fail
  generalize ((w.alloc (.cells #[.slice g.na g.nm.length g.nc, .slice g.ra g.ru.length g.rc, .int .i64 g.wait] 34)).alloc (.cells #[.slice none 0 0, .slice none 0 0, .int .i64 0] 37)).alloc (.cells #[.slice none 0 0, .slice none 0 0, .int .i64 0] 37) = w3 at *
  have HB3 : Hid (Below w.heap.size w w3) := HT3.out.2.2.2
  have hs3 : w.heap.size + 1 + 1 < w3.heap.size := HT3.out.2.2.1.lt
  refine (toS_any g.na g.nc g.nm _ (HG.out.1.below HB3.out) hl).mono ?_
  rintro e w4 ⟨rfl, hO4, hb4⟩
  have HT4 : Hid (TG w w4 g #[.slice none 0 0, .slice none 0 0, .int .i64 0]) := TG.below HT3.out hb4
  have HO4 : Hid (Owns w4 w3.heap.size (.slice (some ⟨w3.heap.size, 0, none⟩) g.nm.length g.nm.length) g.nm) := hO4
  have hs4 := hb4.size
  clear hO4 hb4
  generalize w3.heap.size = n1 at *
  have HT5 : Hid (TG w (w4.setCell ⟨w.heap.size + 1 + 1, 0, none⟩ (.slice (some ⟨n1, 0, none⟩) g.nm.length g.nm.length)) g #[.slice (some ⟨n1, 0, none⟩) g.nm.length g.nm.length, .slice none 0 0, .int .i64 0]) := TG.set HT4.out 0 _
  have HO5 : Hid (Owns (w4.setCell ⟨w.heap.size + 1 + 1, 0, none⟩ (.slice (some ⟨n1, 0, none⟩) g.nm.length g.nm.length)) n1 (.slice (some ⟨n1, 0, none⟩) g.nm.length g.nm.length) g.nm) := ownsRow_setCell_below HO4.out (by exact hs3) _
  have hs5 : (w4.setCell ⟨w.heap.size + 1 + 1, 0, none⟩ (.slice (some ⟨n1, 0, none⟩) g.nm.length g.nm.length)).heap.size = w4.heap.size := by simp [World.setCell]
  have x0 : w4.cell? ⟨w.heap.size + 1 + 1, 0, none⟩ = some (.slice none 0 0) := HT4.out.2.2.1.cell 0 rfl
  have xf : ∀ j, w4.frozen? ⟨w.heap.size + 1 + 1, j, none⟩ = false := HT4.out.2.2.1.free
  have p1 : (w4.setCell ⟨w.heap.size + 1 + 1, 0, none⟩ (.slice (some ⟨n1, 0, none⟩) g.nm.length g.nm.length)).cell? ⟨w.heap.size, 1, none⟩ = some (.slice g.ra g.ru.length g.rc) := HT5.out.1.cell 1 rfl
  go_wp2_with fail
  generalize w4.setCell ⟨w.heap.size + 1 + 1, 0, none⟩ (.slice (some ⟨n1, 0, none⟩) g.nm.length g.nm.length) = w5 at *
  refine (toRuS_any g.ra g.rc g.ru _ (HG.out.2.below HT5.out.2.2.2) hl2).mono ?_
  rintro e w6 ⟨rfl, hO6, hb6⟩
  have HT6 : Hid (TG w w6 g #[.slice (some ⟨n1, 0, none⟩) g.nm.length g.nm.length, .slice none 0 0, .int .i64 0]) := TG.below HT5.out hb6
  have HR6 : Hid (OwnsR FRu 41 w6 w5.heap.size (.slice (some ⟨w5.heap.size, 0, none⟩) g.ru.length g.ru.length) g.ru) := hO6
  have HO6 : Hid (Owns w6 n1 (.slice (some ⟨n1, 0, none⟩) g.nm.length g.nm.length) g.nm) := Owns.below HO5.out hb6
  rw [hs5] at HR6
  try rw [hs5]
  clear hO6 hb6 x0 xf p1 HT5 HO5
  have hs45 : w.heap.size + 1 + 1 < w4.heap.size := by omega
  generalize w4.heap.size = n2 at *
  have y1 : w6.cell? ⟨w.heap.size + 1 + 1, 1, none⟩ = some (.slice none 0 0) := HT6.out.2.2.1.cell 1 rfl
  have yf : ∀ j, w6.frozen? ⟨w.heap.size + 1 + 1, j, none⟩ = false := HT6.out.2.2.1.free
  have HT7 : Hid (TG w (w6.setCell ⟨w.heap.size + 1 + 1, 1, none⟩ (.slice (some ⟨n2, 0, none⟩) g.ru.length g.ru.length)) g #[.slice (some ⟨n1, 0, none⟩) g.nm.length g.nm.length, .slice (some ⟨n2, 0, none⟩) g.ru.length g.ru.length, .int .i64 0]) := TG.set HT6.out 1 _
  have HT8 : Hid (TG w ((w6.setCell ⟨w.heap.size + 1 + 1, 1, none⟩ (.slice (some ⟨n2, 0, none⟩) g.ru.length g.ru.length)).setCell ⟨w.heap.size + 1 + 1, 2, none⟩ (.int .i64 g.wait)) g #[.slice (some ⟨n1, 0, none⟩) g.nm.length g.nm.length, .slice (some ⟨n2, 0, none⟩) g.ru.length g.ru.length, .int .i64 g.wait]) := TG.set HT7.out 2 _
  have q2 : (w6.setCell ⟨w.heap.size + 1 + 1, 1, none⟩ (.slice (some ⟨n2, 0, none⟩) g.ru.length g.ru.length)).cell? ⟨w.heap.size, 2, none⟩ = some (.int .i64 g.wait) := HT7.out.1.cell 2 rfl
  have z2 : (w6.setCell ⟨w.heap.size + 1 + 1, 1, none⟩ (.slice (some ⟨n2, 0, none⟩) g.ru.length g.ru.length)).cell? ⟨w.heap.size + 1 + 1, 2, none⟩ = some (.int .i64 0) := HT7.out.2.2.1.cell 2 rfl
  have zf : ∀ j, (w6.setCell ⟨w.heap.size + 1 + 1, 1, none⟩ (.slice (some ⟨n2, 0, none⟩) g.ru.length g.ru.length)).frozen? ⟨w.heap.size + 1 + 1, j, none⟩ = false := HT7.out.2.2.1.free
  have HO8 : Hid (Owns ((w6.setCell ⟨w.heap.size + 1 + 1, 1, none⟩ (.slice (some ⟨n2, 0, none⟩) g.ru.length g.ru.length)).setCell ⟨w.heap.size + 1 + 1, 2, none⟩ (.int .i64 g.wait)) n1 (.slice (some ⟨n1, 0, none⟩) g.nm.length g.nm.length) g.nm) := ownsRow_setCell_below (ownsRow_setCell_below HO6.out (by exact hs3) _) (by exact hs3) _
  have HR8 : Hid (OwnsR FRu 41 ((w6.setCell ⟨w.heap.size + 1 + 1, 1, none⟩ (.slice (some ⟨n2, 0, none⟩) g.ru.length g.ru.length)).setCell ⟨w.heap.size + 1 + 1, 2, none⟩ (.int .i64 g.wait)) n2 (.slice (some ⟨n2, 0, none⟩) g.ru.length g.ru.length) g.ru) := ownsRow_setCell_below (ownsRow_setCell_below HR6.out (by exact hs45) _) (by exact hs45) _
  have hu := HT8.out.2.2.1
  have u0 : ((w6.setCell ⟨w.heap.size + 1 + 1, 1, none⟩ (.slice (some ⟨n2, 0, none⟩) g.ru.length g.ru.length)).setCell ⟨w.heap.size + 1 + 1, 2, none⟩ (.int .i64 g.wait)).cell? ⟨w.heap.size + 1 + 1, 0, none⟩ = some (.slice (some ⟨n1, 0, none⟩) g.nm.length g.nm.length) := hu.cell 0 rfl
  have u1 : ((w6.setCell ⟨w.heap.size + 1 + 1, 1, none⟩ (.slice (some ⟨n2, 0, none⟩) g.ru.length g.ru.length)).setCell ⟨w.heap.size + 1 + 1, 2, none⟩ (.int .i64 g.wait)).cell? ⟨w.heap.size + 1 + 1, 1, none⟩ = some (.slice (some ⟨n2, 0, none⟩) g.ru.length g.ru.length) := hu.cell 1 rfl
  have u2 : ((w6.setCell ⟨w.heap.size + 1 + 1, 1, none⟩ (.slice (some ⟨n2, 0, none⟩) g.ru.length g.ru.length)).setCell ⟨w.heap.size + 1 + 1, 2, none⟩ (.int .i64 g.wait)).cell? ⟨w.heap.size + 1 + 1, 2, none⟩ = some (.int .i64 g.wait) := hu.cell 2 rfl
  have hr := HT8.out.2.1
  have r0 : ((w6.setCell ⟨w.heap.size + 1 + 1, 1, none⟩ (.slice (some ⟨n2, 0, none⟩) g.ru.length g.ru.length)).setCell ⟨w.heap.size + 1 + 1, 2, none⟩ (.int .i64 g.wait)).cell? ⟨w.heap.size + 1, 0, none⟩ = some (.slice none 0 0) := hr.cell 0 rfl
  have r1 : ((w6.setCell ⟨w.heap.size + 1 + 1, 1, none⟩ (.slice (some ⟨n2, 0, none⟩) g.ru.length g.ru.length)).setCell ⟨w.heap.size + 1 + 1, 2, none⟩ (.int .i64 g.wait)).cell? ⟨w.heap.size + 1, 1, none⟩ = some (.slice none 0 0) := hr.cell 1 rfl
  have r2 : ((w6.setCell ⟨w.heap.size + 1 + 1, 1, none⟩ (.slice (some ⟨n2, 0, none⟩) g.ru.length g.ru.length)).setCell ⟨w.heap.size + 1 + 1, 2, none⟩ (.int .i64 g.wait)).cell? ⟨w.heap.size + 1, 2, none⟩ = some (.int .i64 0) := hr.cell 2 rfl
  have rf : ∀ j, ((w6.setCell ⟨w.heap.size + 1 + 1, 1, none⟩ (.slice (some ⟨n2, 0, none⟩) g.ru.length g.ru.length)).setCell ⟨w.heap.size + 1 + 1, 2, none⟩ (.int .i64 g.wait)).frozen? ⟨w.heap.size + 1, j, none⟩ = false := hr.free
  clear hu hr
  go_wp2
  clear u0 u1 u2 r0 r1 r2 rf q2 z2 zf y1 yf HT7 HT6
  generalize ((w6.setCell ⟨w.heap.size + 1 + 1, 1, none⟩ (.slice (some ⟨n2, 0, none⟩) g.ru.length g.ru.length)).setCell ⟨w.heap.size + 1 + 1, 2, none⟩ (.int .i64 g.wait)) = w8 at *
  obtain ⟨w9, hw9⟩ : ∃ w9, w9 = ((w8.setCell ⟨w.heap.size + 1, 0, none⟩ (.slice (some ⟨n1, 0, none⟩) g.nm.length g.nm.length)).setCell ⟨w.heap.size + 1, 1, none⟩ (.slice (some ⟨n2, 0, none⟩) g.ru.length g.ru.length)).setCell ⟨w.heap.size + 1, 2, none⟩ (.int .i64 g.wait) := ⟨_, rfl⟩
  rw [← hw9]
  have b9 : Bq 37 w9 (w.heap.size + 1) #[.slice (some ⟨n1, 0, none⟩) g.nm.length g.nm.length, .slice (some ⟨n2, 0, none⟩) g.ru.length g.ru.length, .int .i64 g.wait] := by rw [hw9]; exact ((HT8.out.2.1.set 0 _).set 1 _).set 2 _
  have r0 := b9.cell 0 rfl
  have r1 := b9.cell 1 rfl
  have r2 := b9.cell 2 rfl
  have o9 : Owns w9 n1 (.slice (some ⟨n1, 0, none⟩) g.nm.length g.nm.length) g.nm := by
    rw [hw9]
    iterate 3 refine ownsRow_setCell_below ?_ (by show w.heap.size + 1 < n1; omega) _
    exact HO8.out
  have q9 : OwnsR FRu 41 w9 n2 (.slice (some ⟨n2, 0, none⟩) g.ru.length g.ru.length) g.ru := by
    rw [hw9]
    iterate 3 refine ownsRow_setCell_below ?_ (by show w.heap.size + 1 < n2; omega) _
    exact HR8.out
  have k9 : Below w.heap.size w w9 := by
    rw [hw9]
    iterate 3 refine Below.setCell ?_ (by show w.heap.size ≤ w.heap.size + 1; omega) _
    exact HT8.out.2.2.2
  clear hw9 b9
  refine bodyPost_ret (v := .agg #[.slice (some ⟨n1, 0, none⟩) g.nm.length g.nm.length, .slice (some ⟨n2, 0, none⟩) g.ru.length g.ru.length, .int .i64 g.wait]) (by simp [results, Try.results16, go_sem, r0, r1, r2]) rfl ?_
  exact ⟨⟨g.nm, some ⟨n1, 0, none⟩, g.nm.length, g.ru, some ⟨n2, 0, none⟩, g.ru.length, g.wait⟩, rfl, rfl, ⟨Owns.mono o9 (by omega), OwnsR.mono q9 (by omega)⟩, k9⟩

theorem Try.infoGr2 : (Try.prog.info? 37).map (fun i => (i.zero, i.size, i.bytes)) = some (some (.agg #[.slice none 0 0, .slice none 0 0, .int .i64 0]), 3, 56) := by kernel_rfl
theorem info_group : ∃ i, Try.prog.info? 37 = some i ∧ i.zero = some (.agg #[.slice none 0 0, .slice none 0 0, .int .i64 0]) ∧ i.size = 3 ∧ i.bytes = 56 := by
  have h := Try.infoGr2
  cases hi : Try.prog.info? 37 with
  | none => rw [hi] at h; cases h
  | some i =>
    rw [hi] at h
    have := Option.some.inj h
    simp only [Prod.mk.injEq] at this
    exact ⟨i, rfl, this.1, this.2.1, this.2.2⟩
def z0 : Gr := ⟨[], none, 0, [], none, 0, 0⟩
theorem cells_setG (x : Gr) : ∀ (L : List Gr) (i : Nat), i < L.length → FGr.cells (L.set i x) = (((FGr.cells L).set (i * 3) (.slice x.na x.nm.length x.nc)).set (i * 3 + 1) (.slice x.ra x.ru.length x.rc)).set (i * 3 + 2) (.int .i64 x.wait) := by
  intro L
  induction L with
  | nil => intro i h; simp at h
  | cons y L ih =>
    intro i h
    cases i with
    | zero => rfl
    | succ i =>
      have e := ih i (by simpa using h)
      show FGr.enc y ++ FGr.cells (L.set i x) = _
      rw [e, show (i + 1) * 3 = i * 3 + 1 + 1 + 1 from by omega]
      rfl
theorem made_cellsG (n : Nat) : (madeCells (Value.cells (.agg #[.slice none 0 0, .slice none 0 0, .int .i64 0])) (n * 3)).toList = FGr.cells (List.replicate n z0) := by
  have e : Value.cells (.agg #[.slice none 0 0, .slice none 0 0, .int .i64 0]) = #[.slice none 0 0, .slice none 0 0, .int .i64 0] := rfl
  rw [e]
  apply List.ext_getElem?
  intro j
  by_cases hj : j < n * 3
  · have h2 : j = j / 3 * FGr.k + j % 3 := by show j = j / 3 * 3 + j % 3; omega
    have h3 : j / 3 < (List.replicate n z0).length := by simp; omega
    have h4 := FGr.cells_at (List.replicate n z0) (j / 3) h3 (j % 3) (Nat.mod_lt _ (by decide))
    rw [← h2] at h4
    rw [h4, List.getElem_replicate]
    have h5 : j % 3 = 0 ∨ j % 3 = 1 ∨ j % 3 = 2 := by omega
    rcases h5 with h | h | h
    · rw [h]; simp [madeCells, hj, h, FGr, z0]
    · rw [h]; simp [madeCells, hj, h, FGr, z0]
    · rw [h]; simp [madeCells, hj, h, FGr, z0]
  · rw [List.getElem?_eq_none (by simp [madeCells]; omega), List.getElem?_eq_none (by rw [FGr.cells_len]; simp; show n * 3 ≤ j; omega)]
theorem set_takeG (D : List Gr) (n k : Nat) (hD : D.length = k) (hk : k < n) (h : Gr) : (D ++ List.replicate (n - k) z0).set k h = (D ++ [h]) ++ List.replicate (n - (k + 1)) z0 := by
  rw [List.set_append_right _ _ (by omega), hD, Nat.sub_self]
  rw [show n - k = (n - (k + 1)) + 1 by omega, List.replicate_succ, List.set_cons_zero, List.append_assoc]
  rfl

theorem own_lt0 {w : World} {base k n g cap : Nat} {t : TypeId} {xs : List Value} (h : w.ownsRow base t k (.slice (some ⟨g, 0, none⟩) n cap) n xs) : g < w.heap.size := by
  obtain ⟨_, ⟨hv, _⟩ | ⟨g', cap', cur, hv, hb, hh, _⟩⟩ := h
  · injection hv with e; cases e
  · injection hv with e1
    injection e1 with e1
    injection e1 with e1
    subst e1
    exact (Array.getElem?_eq_some_iff.1 hh).1
/-- what toGroupS answers -/
def Copied (w w' : World) (L : List Gr) (e : Ending) : Prop :=
  ∃ D : List Gr, e = .returned (.slice (some ⟨w.heap.size, 0, none⟩) D.length D.length) ∧ D.map grp = L.map grp ∧ IsRows FGr w' (some ⟨w.heap.size, 0, none⟩) D.length D ∧ GrsAt w' D ∧ Below w.heap.size w w'

set_option maxHeartbeats 3200000 in
theorem toGrS_any (a0 : Option Addr) (cap : Nat) (L : List Gr) (w : World) (h : IsRows FGr w a0 cap L) (hG : GrsAt w L) (hl : L.length ≤ 1048576) (hS : ∀ g ∈ L, g.nm.length ≤ 4194304 ∧ g.ru.length ≤ 4194304) :
    Calls Try.prog 7 #[.slice a0 L.length cap] w fun e w' => Copied w w' L e := by
  obtain ⟨i0, hi, hz0, hz1, hz2⟩ := info_group
  obtain ⟨wm, hrun, hown, hgrow⟩ := run_make_full (P := Try.prog) w w.heap.size 25 37 i0 (.agg #[.slice none 0 0, .slice none 0 0, .int .i64 0]) 3 Try.underlying25 hi hz0 hz1 .i64 .i64 L.length (by rw [hz2]; omega) (by unfold maxLen; omega) (Nat.le_refl _)
  have HO0 : Hid (OwnsR FGr 37 wm w.heap.size (.slice (some ⟨w.heap.size, 0, none⟩) L.length L.length) ([] ++ List.replicate (L.length - 0) z0)) := by
    show OwnsR _ _ _ _ _ _
    refine OwnsR.of_row hown (by simp) ?_
    rw [made_cellsG]; simp
  have hb0 : Below w.heap.size w wm := Below.grown (Below.refl _ _) hgrow (Nat.le_refl _) (by intro k hk; cases hk)
  have HS : Hid (IsRows FGr w a0 cap L) := h
  have HG : Hid (GrsAt w L) := hG
  have HZ : Hid (∀ g ∈ L, g.nm.length ≤ 4194304 ∧ g.ru.length ≤ 4194304) := hS
  have hc1 := h.1
  have hc2 := h.2.1
  unfold maxLen at hc2
  clear h hown hgrow hG hS
  go_enter Try.func7, Try.ntmps7
  go_wp2
  go_loopw [4] (fun i wr => ∃ (k : Nat) (D : List Gr), k ≤ L.length ∧ i = .int .i64 (k : Int) ∧ Hid (D.length = k ∧ D.map grp = (L.take k).map grp ∧ (∀ h ∈ D, GrO wr (w.heap.size + 1) h) ∧ OwnsR FGr 37 wr w.heap.size (.slice (some ⟨w.heap.size, 0, none⟩) L.length L.length) (D ++ List.replicate (L.length - k) z0)) ∧ Below w.heap.size w wr) (fun i _ => L.length - (intOf i).toNat)
  case atStart => exact ⟨0, [], Nat.zero_le _, rfl, ⟨rfl, rfl, (fun h hh => by cases hh), HO0.out⟩, hb0⟩
  case round =>
    obtain ⟨k, D, hk, rfl, HD, hbel⟩ := hrel
    clear hrun
    by_cases hlt : k < L.length
    · obtain ⟨b, o, e, c0, c1, c2⟩ := gr_at (IsRows.below HS.out hbel) hlt
      subst e
      have hgm : L[k] ∈ L := List.getElem_mem _
      have HGk : Hid (GrAt wr L[k]) := (HG.out.below hbel) _ hgm
      have HZk : Hid (L[k].nm.length ≤ 4194304 ∧ L[k].ru.length ≤ 4194304) := HZ.out _ hgm
      have HTK : Hid (L.take (k + 1) = L.take k ++ [L[k]]) := List.take_succ_eq_append_getElem hlt
      clear hgm
      go_wp2_with fail
      refine (toGr_any L[k] _ HGk.out HZk.out.1 HZk.out.2).mono ?_
      rintro e w1 ⟨p, rfl, hp, hpo, hb1⟩
      have HP : Hid (grp p = grp L[k]) := hp
      have hD := HD.out
      have hlen : (D ++ List.replicate (L.length - k) z0).length = L.length := by rw [List.length_append, hD.1]; simp; omega
      have HLEN : Hid ((D ++ List.replicate (L.length - k) z0).length = L.length) := hlen
      have hbel1 : Below w.heap.size w w1 := hbel.trans (hb1.mono hbel.size)
      have hO : OwnsR FGr 37 w1 w.heap.size (.slice (some ⟨w.heap.size, 0, none⟩) L.length L.length) (D ++ List.replicate (L.length - k) z0) := hD.2.2.2.below hb1
      have hwr : w.heap.size + 1 ≤ wr.heap.size := by
        have h0 := hD.2.2.2
        unfold OwnsR at h0
        rw [hlen] at h0
        have h1 := own_lt0 h0
        omega
      have HPO : Hid (GrO w1 (w.heap.size + 1) p) := hpo.mono hwr
      have HDO : Hid (∀ h ∈ D, GrO w1 (w.heap.size + 1) h) := fun h hh => (hD.2.2.1 h hh).below hb1
      unfold OwnsR at hO
      rw [hlen] at hO
      have hzc : ∀ j u, (FGr.enc z0)[j]? = some u → w1.cell? ⟨w.heap.size, k * 3 + j, none⟩ = some u := by
        intro j u hu
        have hj : j < 3 := (List.getElem?_eq_some_iff.1 hu).1
        rw [World.ownsRow.cellAt hO (k * 3 + j) (by show k * 3 + j < L.length * 3; omega)]
        have := FGr.cells_at (D ++ List.replicate (L.length - k) z0) k (by rw [hlen]; exact hlt) j hj
        rw [show k * FGr.k + j = k * 3 + j from rfl] at this
        rw [this, List.getElem_append_right (by omega)]; simpa using hu
      have hx0 : w1.cell? ⟨w.heap.size, k * 3, none⟩ = some (.slice none 0 0) := hzc 0 _ rfl
      have hx1 : w1.cell? ⟨w.heap.size, k * 3 + 1, none⟩ = some (.slice none 0 0) := hzc 1 _ rfl
      have hx2 : w1.cell? ⟨w.heap.size, k * 3 + 2, none⟩ = some (.int .i64 0) := hzc 2 _ rfl
      have hfz := World.ownsRow.frozenAt hO
      have hst := World.ownsRow.stored hO (k * 3) (.slice p.na p.nm.length p.nc)
      have hst2 := World.ownsRow.stored hst.1 (k * 3 + 1) (.slice p.ra p.ru.length p.rc)
      have hst3 := World.ownsRow.stored hst2.1 (k * 3 + 2) (.int .i64 p.wait)
      have HST : Hid _ := hst
      have HST2 : Hid _ := hst2
      have HST3 : Hid _ := hst3
      clear hst hst2 hst3 hO hb1 c0 c1 c2 hzc hD hlen hpo hp
      generalize L[k] = g at *
      go_wp2
      go_roundw
      case rel =>
        refine ⟨k + 1, D ++ [p], by omega, by go_num, ⟨by simp [HD.out.1], ?_, ?_, ?_⟩, ?_⟩
        · rw [HTK.out, List.map_append, List.map_append, HD.out.2.1]
          simp [HP.out]
        · intro h hh
          have hb : ∀ h, GrO w1 (w.heap.size + 1) h → GrO (((w1.setCell ⟨w.heap.size, k * 3, none⟩ (.slice p.na p.nm.length p.nc)).setCell ⟨w.heap.size, k * 3 + 1, none⟩ (.slice p.ra p.ru.length p.rc)).setCell ⟨w.heap.size, k * 3 + 2, none⟩ (.int .i64 p.wait)) (w.heap.size + 1) h := fun h hh => ((hh.set (by show w.heap.size < w.heap.size + 1; omega) _).set (by show w.heap.size < w.heap.size + 1; omega) _).set (by show w.heap.size < w.heap.size + 1; omega) _
          rcases List.mem_append.1 hh with hh | hh
          · exact hb h (HDO.out h hh)
          · simp at hh; subst hh; exact hb _ HPO.out
        · show OwnsR _ _ _ _ _ _
          rw [← set_takeG D L.length k HD.out.1 hlt p]
          refine OwnsR.of_row HST3.out.1 (by rw [List.length_set, HLEN.out]) ?_
          rw [cells_setG p _ k (by rw [HLEN.out]; exact hlt)]
        · have hb2 := Below.grown hbel1 HST.out.2 hbel1.size (by intro k hk; have := Option.some.inj hk; omega)
          have hb3 := Below.grown hb2 HST2.out.2 hb2.size (by intro k hk; have := Option.some.inj hk; omega)
          exact Below.grown hb3 HST3.out.2 hb3.size (by intro k hk; have := Option.some.inj hk; omega)
      case measure => simp [intOf]; omega
    · have hD := HD.out
      have hkl : k = L.length := by omega
      have e1 : D ++ List.replicate (L.length - k) z0 = D := by rw [show L.length - k = 0 by omega]; simp
      rw [e1] at hD
      have hDl : D.length = L.length := by rw [hD.1]; exact hkl
      have HF : Hid (Copied w wr L (.returned (.slice (some ⟨w.heap.size, 0, none⟩) L.length L.length))) := by
        refine ⟨D, by rw [hDl], by rw [hD.2.1, hkl, List.take_length], ?_, fun h hh => (hD.2.2.1 h hh).at, hbel⟩
        rw [hDl]; exact OwnsR.rowsOf hD.2.2.2
      clear hD e1 hDl hkl
      go_wp2
      go_ret
      exact HF.out
end Go.Proofs.Ytjnijejminfjcaa.ExG
