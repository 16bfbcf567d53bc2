/- A line of a notice is read, of the program: what is left; and a whole notice. -/
import Derived.Test.YtacelbhoccckbaaDoorNi4
import Derived.Test.YtacelbhoccckbaaDoorLibMath
namespace Go.Proofs.YtacelbhoccckbaaDoor.NiP
open Go.RowKit Go.Proofs.YtacelbhoccckbaaDoor.LibM Go.Proofs.YtacelbhoccckbaaDoor.EscM Go.Proofs.YtacelbhoccckbaaDoor.EscL Go.Proofs.YtacelbhoccckbaaDoor.RuleM Go.Proofs.YtacelbhoccckbaaDoor.Ru1 Go.Proofs.YtacelbhoccckbaaDoor.ReadM Go.Proofs.YtacelbhoccckbaaDoor.Rd1 Go.Proofs.YtacelbhoccckbaaDoor.St Go.Proofs.YtacelbhoccckbaaDoor.RR Go.Proofs.YtacelbhoccckbaaDoor.LetM Go.Proofs.YtacelbhoccckbaaDoor.Nm Go.Proofs.YtacelbhoccckbaaDoor.GrM Go.Proofs.YtacelbhoccckbaaDoor.Dr Go.Proofs.YtacelbhoccckbaaDoor.NrM Go.Proofs.YtacelbhoccckbaaDoor.NrW Go.Proofs.YtacelbhoccckbaaDoor.NrS Go.Proofs.YtacelbhoccckbaaDoor.Im

set_option maxRecDepth 100000 in
set_option maxHeartbeats 3200000 in
theorem add_rule0 (base base2 : Nat) (v : Value) (x : Ru) (w : World) (h : GsOwn w base base2 v []) (hb : base ≤ w.heap.size) (hb2 : base2 ≤ w.heap.size) :
    Calls Tryd.prog 29 #[v, .bool false, .iface 78 (.agg #[.bool x.lt, .string x.path])] w fun e w' => NrS.Read base base2 w ⟨[], false⟩ e w' := by
  obtain ⟨a0, cap, hv, _⟩ := h.at
  have hv : v = .slice a0 0 cap := hv
  subst hv
  have HG : Hid (GsOwn (w.alloc (.cells #[.bool x.lt, .string x.path] 78)) base base2 (.slice a0 0 cap) []) := h.alloc _
  have HF : Hid (Fr base base2 w (w.alloc (.cells #[.bool x.lt, .string x.path] 78))) := Fr.alloc base base2 w _ hb hb2
  clear h
  have ta1 := Tryd.ta_c
  have ta2 := Tryd.ta_r
  have ta3 := Tryd.ta_t
  have ta4 := Tryd.ta_rc
  have ta5 := Tryd.ta_tc
  have ta6 := Tryd.ta_tr
  go_enter Tryd.func29, Tryd.ntmps29
  go_wp2
  go_ret2
  exact ⟨.slice a0 0 cap, [], rfl, HG.out, rfl, HF.out⟩
set_option maxRecDepth 100000 in
set_option maxHeartbeats 3200000 in
theorem add_wait0 (base base2 : Nat) (v : Value) (q : Nat) (w : World) (h : GsOwn w base base2 v []) (hb : base ≤ w.heap.size) (hb2 : base2 ≤ w.heap.size) :
    Calls Tryd.prog 29 #[v, .bool false, .iface 80 (.agg #[.int .i64 (q : Int)])] w fun e w' => NrS.Read base base2 w ⟨[], false⟩ e w' := by
  obtain ⟨a0, cap, hv, _⟩ := h.at
  have hv : v = .slice a0 0 cap := hv
  subst hv
  have HG : Hid (GsOwn (w.alloc (.cells #[.int .i64 (q : Int)] 80)) base base2 (.slice a0 0 cap) []) := h.alloc _
  have HF : Hid (Fr base base2 w (w.alloc (.cells #[.int .i64 (q : Int)] 80))) := Fr.alloc base base2 w _ hb hb2
  clear h
  have ta1 := Tryd.ta_c
  have ta2 := Tryd.ta_r
  have ta3 := Tryd.ta_t
  have ta4 := Tryd.ta_rc
  have ta5 := Tryd.ta_tc
  have ta6 := Tryd.ta_tr
  go_enter Tryd.func29, Tryd.ntmps29
  go_wp2
  go_ret2
  exact ⟨.slice a0 0 cap, [], rfl, HG.out, rfl, HF.out⟩
set_option maxRecDepth 100000 in
set_option maxHeartbeats 3200000 in
theorem add_full (base base2 n : Nat) (v : Value) (M : List Gr) (g : Gr) (bg : Bool) (x : Ru) (w : World) (hn : M.length = n) (h : GsOwn w base base2 v (M ++ [g])) (hbb : base ≤ base2) (hb2 : base2 ≤ w.heap.size) (hl : n ≤ 1000) (h6 : 6 ≤ g.ru.length) :
    Calls Tryd.prog 29 #[v, .bool bg, .iface 78 (.agg #[.bool x.lt, .string x.path])] w fun e w' => NrS.Read base base2 w ⟨(M ++ [g]).map grp, true⟩ e w' := by
  obtain ⟨b, cap, hv, hbb1, hblt, f0, c0, c1, c2⟩ := h.last
  rw [hn] at hv c0 c1 c2
  subst hv
  have HG : Hid (GsOwn w base base2 (.slice (some ⟨b, 0, none⟩) (n + 1) cap) (M ++ [g])) := h
  have hI := OwnsR.rowsOf h.1
  have hc1 : n + 1 ≤ cap := by have := hI.1; rw [List.length_append, hn] at this; exact this
  have hc2 := hI.2.1
  unfold maxLen at hc2
  have HN : Hid (M.length = n) := hn
  clear h hI hn
  have hw3 : IntKind.i64.wrap (n : Int) = (n : Int) := IntWalk.i64_in _ (by omega)
  have hn0 : (0 : Int) ≤ (n : Int) := by omega
  have hn1 : (n : Int) ≤ (cap : Int) := by omega
  have hnl : decide ((n : Int) < 0) = false := decide_eq_false (by omega)
  have hn2 : (n : Int) < (n : Int) + 1 := by omega
  have hn3 : n < n + 1 := by omega
  have HA : Hid (GsOwn (w.alloc (.cells #[.bool x.lt, .string x.path] 78)) base base2 (.slice (some ⟨b, 0, none⟩) (n + 1) cap) (M ++ [g])) := HG.out.alloc _
  have HF : Hid (Fr base base2 w (w.alloc (.cells #[.bool x.lt, .string x.path] 78))) := Fr.alloc base base2 w _ (by omega) hb2
  have p1 : (w.alloc (.cells #[.bool x.lt, .string x.path] 78)).cell? ⟨b, n * 3 + 1, none⟩ = some (.slice g.ra g.ru.length g.rc) := alloc_cell _ c1
  have h6d : decide ((g.ru.length : Int) < 6) = false := decide_eq_false (by omega)
  have ta1 := Tryd.ta_c
  have ta2 := Tryd.ta_r
  have ta3 := Tryd.ta_t
  have ta4 := Tryd.ta_rc
  have ta5 := Tryd.ta_tc
  have ta6 := Tryd.ta_tr
  go_enter Tryd.func29, Tryd.ntmps29
  go_wp2
  go_ret2
  exact ⟨.slice (some ⟨b, 0, none⟩) (n + 1) cap, M ++ [g], rfl, HA.out, rfl, HF.out⟩
set_option maxRecDepth 100000 in
set_option maxHeartbeats 3200000 in
theorem add_wait (base base2 n : Nat) (v : Value) (M : List Gr) (g : Gr) (bg : Bool) (q : Nat) (w : World) (hn : M.length = n) (h : GsOwn w base base2 v (M ++ [g])) (hbb : base ≤ base2) (hb2 : base2 ≤ w.heap.size) (hl : n ≤ 1000) :
    Calls Tryd.prog 29 #[v, .bool bg, .iface 80 (.agg #[.int .i64 (q : Int)])] w fun e w' => NrS.Read base base2 w ⟨M.map grp ++ [(g.nm, g.ru, (q : Int))], true⟩ e w' := by
  obtain ⟨b, cap, hv, hbb1, hblt, f0, c0, c1, c2⟩ := h.last
  rw [hn] at hv c0 c1 c2
  subst hv
  have HG : Hid (GsOwn w base base2 (.slice (some ⟨b, 0, none⟩) (n + 1) cap) (M ++ [g])) := h
  have hI := OwnsR.rowsOf h.1
  have hc1 : n + 1 ≤ cap := by have := hI.1; rw [List.length_append, hn] at this; exact this
  have hc2 := hI.2.1
  unfold maxLen at hc2
  have HN : Hid (M.length = n) := hn
  clear h hI hn
  have hw3 : IntKind.i64.wrap (n : Int) = (n : Int) := IntWalk.i64_in _ (by omega)
  have hn0 : (0 : Int) ≤ (n : Int) := by omega
  have hn1 : (n : Int) ≤ (cap : Int) := by omega
  have hnl : decide ((n : Int) < 0) = false := decide_eq_false (by omega)
  have hn2 : (n : Int) < (n : Int) + 1 := by omega
  have hn3 : n < n + 1 := by omega
  have hW := HG.out
  have hz2 : (w.setCell ⟨b, n * 3 + 2, none⟩ (.int .i64 (q : Int))).heap.size = w.heap.size := by simp [World.setCell]
  have H9 : Hid (GsOwn ((w.setCell ⟨b, n * 3 + 2, none⟩ (.int .i64 (q : Int))).alloc (.cells #[.int .i64 (q : Int)] 80)) base base2 (.slice (some ⟨b, 0, none⟩) (n + 1) cap) (M ++ [{ g with wait := (q : Int) }])) := by
    have := GsOwn.wait (M := M) (q : Int) (by rw [HN.out]; exact hW)
    rw [HN.out] at this; exact this.alloc _
  have HF9 : Hid (Fr base base2 w ((w.setCell ⟨b, n * 3 + 2, none⟩ (.int .i64 (q : Int))).alloc (.cells #[.int .i64 (q : Int)] 80))) := (Fr.set hW.1 (by omega)).trans (Fr.alloc base base2 _ _ (by rw [hz2]; omega) (by rw [hz2]; omega))
  have p2 : (w.alloc (.cells #[.int .i64 (q : Int)] 80)).cell? ⟨b, n * 3 + 2, none⟩ = some (.int .i64 g.wait) := alloc_cell _ c2
  have f2 : ∀ j, (w.alloc (.cells #[.int .i64 (q : Int)] 80)).frozen? ⟨b, j, none⟩ = false := by
    have hl9 := row_last (hW.alloc (.cells #[.int .i64 (q : Int)] 80)).1
    exact hl9.1
  clear hW hz2
  have ta1 := Tryd.ta_c
  have ta2 := Tryd.ta_r
  have ta3 := Tryd.ta_t
  have ta4 := Tryd.ta_rc
  have ta5 := Tryd.ta_tc
  have ta6 := Tryd.ta_tr
  go_enter Tryd.func29, Tryd.ntmps29
  go_wp2
  go_ret2
  exact ⟨.slice (some ⟨b, 0, none⟩) (n + 1) cap, M ++ [{ g with wait := (q : Int) }], rfl, H9.out, by rw [List.map_append]; rfl, HF9.out⟩

theorem implAdd_any (base base2 : Nat) (v : Value) (L : List Gr) (bg : Bool) (x : Lk) (w : World) (h : GsOwn w base base2 v L) (hok : NrOk ⟨L.map grp, bg⟩) (hsz : NrSz ⟨L.map grp, bg⟩ 1000) (hbb : base ≤ base2) (hb2 : base2 ≤ w.heap.size) :
    Calls Tryd.prog 29 #[v, .bool bg, lkV (some x)] w fun e w' => NrS.Read base base2 w (addF ⟨L.map grp, bg⟩ x) e w' := by
  rcases List.eq_nil_or_concat L with rfl | ⟨M, g, e⟩
  · have hb : bg = false := hok.1 rfl
    subst hb
    cases x with
    | c s =>
      rw [show (⟨List.map grp [], false⟩ : Nr) = ⟨[], false⟩ from rfl, add_c, if_pos (Or.inl rfl)]
      exact add_new0 base base2 v false s w h (by omega) hb2
    | r x => exact add_rule0 base base2 v x w h (by omega) hb2
    | t q => exact add_wait0 base base2 v q w h (by omega) hb2
  · rw [List.concat_eq_append] at e
    subst e
    have hMl : M.length ≤ 1000 := by have := hsz.1; simp at this; omega
    have hgs := hsz.2 (grp g) (by simp)
    have hnm : g.nm.length ≤ 1000 := hgs.1
    cases x with
    | c s =>
      rw [add_c]
      cases bg with
      | true =>
        rw [if_pos (Or.inr rfl)]
        exact add_new base base2 v (M ++ [g]) s w h (by omega) hb2 (by have := hsz.1; simp at this ⊢; omega) (by simp)
      | false =>
        rw [if_neg (fun e => by rcases e with e | e; exact map_ne M g e; cases e)]
        dsimp only
        rw [map_last, map_drop]
        exact add_name base base2 M.length v M g s w rfl h hbb hb2 hMl hnm
    | r x =>
      rw [add_r, if_neg (map_ne M g)]
      dsimp only
      rw [map_last, map_drop]
      by_cases h6 : g.ru.length < 6
      · rw [if_pos (show (grp g).2.1.length < 6 from h6)]
        exact add_rule base base2 M.length v M g bg x w rfl h hbb hb2 hMl h6
      · rw [if_neg (show ¬ (grp g).2.1.length < 6 from h6)]
        exact add_full base base2 M.length v M g bg x w rfl h hbb hb2 hMl (by omega)
    | t q =>
      rw [add_t, if_neg (map_ne M g)]
      dsimp only
      rw [map_last, map_drop]
      exact add_wait base base2 M.length v M g bg q w rfl h hbb hb2 hMl

theorem splitK_take (d : UInt8) : ∀ (m : Nat) (l : List UInt8), (Lib.splitK [d] 0 m l).take m = (splitL d.toNat l).take m := by
  intro m
  induction m with
  | zero => intro l; rfl
  | succ m ih =>
    intro l
    rw [split_cut]
    rcases idx_one d l with ⟨i1, i2⟩ | ⟨i, i0, i1, i2⟩
    · rw [i2]; unfold Lib.splitK; rw [i1]; rfl
    · rw [i2]
      unfold Lib.splitK
      have : ((i : Int) == -1) = false := by simp
      rw [i1, this]
      simp only [List.length_singleton, Int.toNat_natCast, Nat.add_zero]
      show l.take i :: (Lib.splitK [d] 0 m (l.drop (i + 1))).take m = l.take i :: (splitL d.toNat (l.drop (i + 1))).take m
      rw [ih]
theorem splitK_all (d : UInt8) : ∀ (m : Nat) (l : List UInt8), (splitL d.toNat l).length ≤ m + 1 → Lib.splitK [d] 0 m l = splitL d.toNat l := by
  intro m
  induction m with
  | zero =>
    intro l h
    rw [split_cut] at h ⊢
    rcases idx_one d l with ⟨i1, i2⟩ | ⟨i, i0, i1, i2⟩
    · rw [i2]; rfl
    · rw [i2] at h
      have hn := split_ne d.toNat (l.drop (i + 1))
      have h2 : (splitL d.toNat (l.drop (i + 1))).length + 1 ≤ 0 + 1 := h
      exact absurd (List.eq_nil_of_length_eq_zero (by omega)) hn
  | succ m ih =>
    intro l h
    rw [split_cut] at h ⊢
    rcases idx_one d l with ⟨i1, i2⟩ | ⟨i, i0, i1, i2⟩
    · rw [i2]; unfold Lib.splitK; rw [i1]; rfl
    · rw [i2] at h ⊢
      have h2 : (splitL d.toNat (l.drop (i + 1))).length + 1 ≤ m + 1 + 1 := h
      unfold Lib.splitK
      have : ((i : Int) == -1) = false := by simp
      rw [i1, this]
      simp only [List.length_singleton, Int.toNat_natCast, Nat.add_zero]
      show l.take i :: Lib.splitK [d] 0 m (l.drop (i + 1)) = l.take i :: splitL d.toNat (l.drop (i + 1))
      rw [ih _ (by omega)]
/-- the pieces that SplitN cuts -/
def piecesN (s : ByteArray) : List ByteArray := Lib.splitB ⟨#[10]⟩ 0 (min 41 (s.size + 1) - 1) s
theorem pieces_data (s : ByteArray) : (piecesN s).map (·.data.toList) = Lib.splitK [10] 0 (min 41 (s.size + 1) - 1) s.data.toList := Lib.splitB_data ⟨#[10]⟩ 0 _ s
theorem data_inj : ∀ (A B : List ByteArray), A.map (·.data.toList) = B.map (·.data.toList) → A = B := by
  intro A
  induction A with
  | nil => intro B h; cases B with | nil => rfl | cons _ _ => simp at h
  | cons x r ih =>
    intro B h
    cases B with
    | nil => simp at h
    | cons y t =>
      simp only [List.map_cons, List.cons.injEq] at h
      have : x = y := ByteArray.ext (Array.ext' h.1)
      rw [this, ih t h.2]
theorem splitS_data (c : Int) (s : ByteArray) : (splitS c s).map (·.data.toList) = splitL c s.data.toList := by
  unfold splitS
  rw [List.map_map]
  have e : (fun x : ByteArray => x.data.toList) ∘ bs = id := by funext l; simp [bs]
  rw [e, List.map_id]
theorem pieces_take (s : ByteArray) : (piecesN s).take 40 = (splitS 10 s).take 40 := by
  apply data_inj
  rw [List.map_take, List.map_take, pieces_data, splitS_data]
  have e10 : splitL 10 s.data.toList = splitL (10 : UInt8).toNat s.data.toList := rfl
  rw [e10]
  by_cases h : 40 ≤ s.size
  · rw [show min 41 (s.size + 1) - 1 = 40 by omega]
    exact splitK_take 10 40 _
  · rw [splitK_all]
    have := split_len (10 : UInt8).toNat s.data.toList
    have h2 : s.data.toList.length = s.size := by simp
    omega
theorem pieces_len (s : ByteArray) : (piecesN s).length ≤ 41 := by
  have := Lib.splitB_length_le ⟨#[10]⟩ 0 (min 41 (s.size + 1) - 1) s
  unfold piecesN; omega
theorem read_cut (f : ByteArray → Option Lk) (L : List ByteArray) (n : Nat) : ∀ k, k ≤ n → readTo f (L.take n) k = readTo f L k := by
  intro k
  induction k with
  | zero => intro _; rfl
  | succ k ih =>
    intro h
    show (match (L.take n)[k]? with | some s => stepF (readTo f (L.take n) k) (f s) | none => readTo f (L.take n) k) = (match L[k]? with | some s => stepF (readTo f L k) (f s) | none => readTo f L k)
    rw [ih (by omega), List.getElem?_take_of_lt (by omega)]
theorem read_pieces (f : ByteArray → Option Lk) (s : ByteArray) : readTo f (piecesN s) (min 40 (piecesN s).length) = readTo f (splitS 10 s) (min 40 (splitS 10 s).length) := by
  rw [← read_cut f (piecesN s) 40 _ (Nat.min_le_left _ _), ← read_cut f (splitS 10 s) 40 _ (Nat.min_le_left _ _), pieces_take]
  have := congrArg List.length (pieces_take s)
  rw [List.length_take, List.length_take] at this
  rw [this]
theorem pieces_at {s x : ByteArray} (h : x ∈ (piecesN s).take 40) : x.size ≤ s.size := by
  rw [pieces_take] at h
  exact splitS_at (List.mem_of_mem_take h)

theorem splitN_any (s : ByteArray) (w : World) (h : Mx w) (hs : s.size ≤ 1000000) :
    Calls Tryd.prog 27 #[.string s, .string ⟨#[10]⟩, .int .i64 41] w fun e w' => ∃ a cap, e = .returned (.slice a (piecesN s).length cap) ∧ IsStrs w' a cap (piecesN s) ∧ Below w.heap.size w w' := by
  obtain ⟨m, hm⟩ := h
  refine (Tryd.strings_SplitN s ⟨#[10]⟩ 41 m w (by omega) hm (by decide) (by decide) (by decide)).mono ?_
  rintro e w' ⟨rfl, rfl⟩
  have hl : (piecesN s).length ≤ min 41 (s.size + 1) := by
    have := Lib.splitB_length_le ⟨#[10]⟩ 0 (min 41 (s.size + 1) - 1) s
    unfold piecesN; omega
  refine ⟨_, _, rfl, ⟨hl, by unfold maxLen; omega, (fun e => by cases e), fun hne => ⟨w.heap.size, 0, rfl, fun i hi => ?_⟩⟩, (Below.refl _ w).alloc (Nat.le_refl _) _⟩
  have hb : (w.alloc (.cells (Lib.cellsOf (piecesN s) (min 41 (s.size + 1))) 9)).heap[w.heap.size]? = some (.cells (Lib.cellsOf (piecesN s) (min 41 (s.size + 1))) 9) := by show (w.heap.push _)[w.heap.size]? = _; simp
  have hgoal : (w.alloc (.cells (Lib.cellsOf (piecesN s) (min 41 (s.size + 1))) 9)).cell? ⟨w.heap.size, 0 + i, none⟩ = some (.string (piecesN s)[i]) := by
    unfold World.cell?
    dsimp only
    rw [hb]
    simp [Lib.cellsOf, List.getElem?_append, hi]
  exact hgoal

set_option maxRecDepth 100000 in
set_option maxHeartbeats 3200000 in
theorem implRead_notice (s : ByteArray) (w : World) (hM : Mx w) (hs : s.size ≤ 1000000) :
    Calls Tryd.prog 12 #[.string s] w fun e w' => ∃ v L, e = .returned v ∧ GsOwn w' w.heap.size w.heap.size v L ∧ L.map grp = noticeF s ∧ Below w.heap.size w w' := by
  have HM : Hid (Mx w) := hM
  have HSP : Hid _ := splitN_any s w hM hs
  have HRP : Hid ((readTo lineF (piecesN s) (min 40 (piecesN s).length)).gs = noticeF s) := by show _ = _; rw [read_pieces]; rfl
  have hpl := pieces_len s
  have HZ : Hid (∀ x ∈ (piecesN s).take 40, x.size ≤ 1000000) := fun x hx => by have := pieces_at hx; omega
  clear hM
  generalize piecesN s = Ls at *
  go_enter Tryd.func12, Tryd.ntmps12
  go_wp2_with fail
  refine Calls.mono HSP.out ?_
  rintro e w1 ⟨a0, cap, rfl, hI, hb1⟩
  have HI : Hid (IsStrs w1 a0 cap Ls) := hI
  have HB1 : Hid (Below w.heap.size w w1) := hb1
  have hw1 : w.heap.size ≤ w1.heap.size := hb1.size
  have HM1 : Hid (Mx w1) := HM.out.below hb1
  have HG1 : Hid (GsOwn w1 w1.heap.size w1.heap.size (.slice none 0 0) []) := GsOwn.nil _ _ _
  have HF1 : Hid (Below w1.heap.size w1 w1) := Below.refl _ _
  clear hI hb1 HSP HM
  go_wp2
  go_loopw [3, 4, 12] (fun v b i wr => ∃ (k : Nat) (L : List Gr) (bg : Bool), k ≤ Ls.length ∧ k ≤ 40 ∧ i = .int .i64 (k : Int) ∧ b = .bool bg ∧ Hid (GsOwn wr w1.heap.size w1.heap.size v L) ∧ Hid ((⟨L.map grp, bg⟩ : Nr) = readTo lineF Ls k) ∧ Hid (Below w1.heap.size w1 wr)) (fun _ _ i _ => Ls.length - (intOf i).toNat)
  case atStart => exact ⟨0, [], false, Nat.zero_le _, by omega, rfl, rfl, HG1, rfl, HF1⟩
  case round =>
    obtain ⟨k, L, bg, hk, hk40, rfl, rfl, HG, HR, HB⟩ := hrel
    have hwz : w1.heap.size ≤ wr.heap.size := HB.out.size
    by_cases hlt : k < Ls.length
    · obtain ⟨b, o, e1, c1⟩ := (HI.out.below HB.out).at hlt
      have e1' := e1
      subst e1'
      by_cases h40 : k = 40
      · have HE : Hid (L.map grp = noticeF s) := by
          show _ = _
          rw [← HRP.out, Nat.min_eq_left (by omega), ← h40, ← HR.out]
        have h40b : ((k : Int) == 40) = true := by simp; omega
        have HFB : Hid (Below w.heap.size w wr) := HB1.out.trans (HB.out.mono hw1)
        clear h40
        go_wp2
        go_ret
        exact ⟨u3, rfl, L, ⟨HG.out.1.mono hw1, HG.out.2.1.mono hw1, HG.out.2.2⟩, HE.out, HFB.out⟩
      · have h40b : ((k : Int) == 40) = false := by simp; omega
        have hz : Ls[k].size ≤ 1000000 := HZ.out _ (by
          have : Ls[k] = (Ls.take 40)[k]'(by simp; omega) := by simp
          rw [this]; exact List.getElem_mem _)
        have HST : Hid (readTo lineF Ls (k + 1) = stepF ⟨L.map grp, bg⟩ (lineF Ls[k])) := by
          show _ = _
          rw [read_step hlt, ← HR.out]
        have HOK : Hid (NrOk ⟨L.map grp, bg⟩) := by rw [HR.out]; exact ok_read _ _ _
        have HSZ : Hid (NrSz ⟨L.map grp, bg⟩ 1000) := by rw [HR.out]; exact sz_mono (sz_read _ (fun _ _ h => line_ok h) _ _) (by omega)
        have HRL : Hid _ := fun W hW => readLine_any Ls[k] W hW hz
        clear HR
        generalize lineF Ls[k] = o at *
        go_wp2_with fail
        refine (HRL.out _ (HM1.out.below HB.out)).mono ?_
        rintro e w2 ⟨rfl, hb2⟩
        have HG2 : Hid (GsOwn w2 w1.heap.size w1.heap.size u3 L) := HG.out.below hb2
        have HB2 : Hid (Below w1.heap.size w1 w2) := HB.out.trans (hb2.mono hwz)
        have hwz2 : w1.heap.size ≤ w2.heap.size := HB2.out.size
        clear hb2 HG HB c1
        cases o with
        | none =>
          have HM3 : Hid ((⟨L.map grp, bg⟩ : Nr) = readTo lineF Ls (k + 1)) := HST.out.symm
          have hso : (none : Option Lk).isSome = false := rfl
          go_wp2
          go_roundw
          case rel => exact ⟨k + 1, L, bg, by omega, by omega, by go_num, rfl, HG2, HM3, HB2⟩
          case measure => simp [intOf]; omega
        | some x =>
          have hso : (some x).isSome = true := rfl
          have HADD : Hid _ := implAdd_any w1.heap.size w1.heap.size u3 L bg x w2 HG2.out HOK.out HSZ.out (Nat.le_refl _) hwz2
          have HST2 : Hid (readTo lineF Ls (k + 1) = addF ⟨L.map grp, bg⟩ x) := HST.out
          clear HST
          generalize lkV (some x) = lv at *
          generalize addF ⟨L.map grp, bg⟩ x = S2 at *
          go_wp2_with fail
          refine Calls.mono HADD.out ?_
          rintro e w3 ⟨v3, L3, rfl, hg3, hm3, hf3⟩
          have HG3 : Hid (GsOwn w3 w1.heap.size w1.heap.size v3 L3) := hg3
          have HM3 : Hid ((⟨L3.map grp, S2.bg⟩ : Nr) = readTo lineF Ls (k + 1)) := by show _ = _; rw [hm3, HST2.out]
          have HB3 : Hid (Below w1.heap.size w1 w3) := HB2.out.trans hf3.1
          clear hg3 hm3 hf3
          generalize S2.bg = b3 at *
          go_wp2
          go_roundw
          case rel => exact ⟨k + 1, L3, b3, by omega, by omega, by go_num, rfl, HG3, HM3, HB3⟩
          case measure => simp [intOf]; omega
    · have HE : Hid (L.map grp = noticeF s) := by
        show _ = _
        have e : min 40 Ls.length = k := by omega
        rw [← HRP.out, e, ← HR.out]
      have HFB : Hid (Below w.heap.size w wr) := HB1.out.trans (HB.out.mono hw1)
      go_wp2
      go_ret
      exact ⟨_, L, rfl, ⟨HG.out.1.mono hw1, HG.out.2.1.mono hw1, HG.out.2.2⟩, HE.out, HFB.out⟩

end Go.Proofs.YtacelbhoccckbaaDoor.NiP
