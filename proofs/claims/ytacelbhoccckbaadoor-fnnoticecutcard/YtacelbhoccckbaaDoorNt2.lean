/- The lines of a group: of the program, and how each is written. -/
import Derived.Test.YtacelbhoccckbaaDoorGrpMathPk
import Derived.Test.YtacelbhoccckbaaDoorShelf
import Derived.Test.YtacelbhoccckbaaDoorStrsPk
import Derived.Test.YtacelbhoccckbaaDoorEscLeafPk
namespace Go.Proofs.YtacelbhoccckbaaDoor.Nt
open Go.RowKit Go.Proofs.YtacelbhoccckbaaDoor.EscM Go.Proofs.YtacelbhoccckbaaDoor.EscL Go.Proofs.YtacelbhoccckbaaDoor.RuleM Go.Proofs.YtacelbhoccckbaaDoor.St Go.Proofs.YtacelbhoccckbaaDoor.RR Go.Proofs.YtacelbhoccckbaaDoor.LetM Go.Proofs.YtacelbhoccckbaaDoor.Nm Go.Proofs.YtacelbhoccckbaaDoor.GrM Go.Proofs.YtacelbhoccckbaaDoor.NtM Go.Proofs.YtacelbhoccckbaaDoor.Bl

/-- a line that is to be written -/
inductive Ln where
  | c (s : ByteArray)
  | r (x : Ru)
  | t (n : Int)
def lnV : Ln → Value
  | .c s => .iface 76 (.agg #[.string s])
  | .r x => .iface 78 (.agg #[.bool x.lt, .string x.path])
  | .t n => .iface 80 (.agg #[.int .i64 n])
def FLn : Frm Ln where
  enc x := [lnV x]
  k := 1
  pos := by decide
  len _ := rfl
  one x u hu := by
    simp only [List.mem_cons, List.not_mem_nil, or_false] at hu
    subst hu
    cases x <;> rfl
theorem dec_digits (n : Nat) (h : n < 100) : Lib.decDigits n = decL n := by
  have : ∀ n : Fin 100, Lib.decDigits n.val = decL n.val := by decide +kernel
  exact this ⟨n, h⟩

set_option maxRecDepth 100000 in
set_option maxHeartbeats 800000 in
theorem writtenC (s : ByteArray) (w : World) (h : s.size ≤ 1048576) :
    Calls Tryd.prog 87 #[.agg #[.string s]] w fun e w' => e = .returned (.string (⟨#[99, 97, 108, 108, 101, 114, 32]⟩ ++ s)) ∧ Below w.heap.size w w' := by
  go_enter Tryd.func87, Tryd.ntmps87
  go_wp2
  go_ret
  exact ⟨rfl, (Below.refl _ _).alloc (Nat.le_refl _) _⟩
set_option maxRecDepth 100000 in
set_option maxHeartbeats 800000 in
theorem writtenR (x : Ru) (w : World) (h : x.path.size ≤ 1048576) :
    Calls Tryd.prog 88 #[.agg #[.bool x.lt, .string x.path]] w fun e w' => e = .returned (.string (⟨(wordL x.lt).toArray⟩ ++ x.path)) ∧ Below w.heap.size w w' := by
  obtain ⟨b, s⟩ := x
  dsimp only at *
  cases b with
  | true =>
    go_enter Tryd.func88, Tryd.ntmps88
    go_wp2
    go_ret
    exact ⟨ret_str rfl, (Below.refl _ _).alloc (Nat.le_refl _) _⟩
  | false =>
    go_enter Tryd.func88, Tryd.ntmps88
    go_wp2
    go_ret
    exact ⟨ret_str rfl, (Below.refl _ _).alloc (Nat.le_refl _) _⟩
set_option maxRecDepth 100000 in
set_option maxHeartbeats 800000 in
theorem writtenT (n : Nat) (w : World) (h : n < 100) :
    Calls Tryd.prog 89 #[.agg #[.int .i64 (n : Int)]] w fun e w' => e = .returned (.string (⟨#[119, 97, 105, 116, 32]⟩ ++ ⟨(decL n).toArray⟩)) ∧ Below w.heap.size w w' := by
  have hd := dec_len n
  go_enter Tryd.func89, Tryd.ntmps89
  go_wp2_with fail
  refine (Tryd.strconv_Itoa_small n h _).mono ?_
  rintro e w1 ⟨rfl, rfl⟩
  rw [dec_digits n h]
  go_wp2
  go_ret
  exact ⟨rfl, (Below.refl _ _).alloc (Nat.le_refl _) _⟩

theorem Tryd.infoLn : (Tryd.prog.info? 48).map (fun i => (i.zero, i.size, i.bytes)) = some (some .nilIface, 1, 16) := by kernel_rfl
theorem info_ln : ∃ i, Tryd.prog.info? 48 = some i ∧ i.zero = some .nilIface ∧ i.size = 1 ∧ i.bytes = 16 := by
  have h := Tryd.infoLn
  cases hi : Tryd.prog.info? 48 with
  | none => rw [hi] at h; cases h
  | some i =>
    rw [hi] at h
    have := Option.some.inj h
    simp only [Prod.mk.injEq] at this
    exact ⟨i, rfl, this.1, this.2.1, this.2.2⟩

theorem cell_one_new (w : World) (x : Value) (t : TypeId) : ∀ (j : Nat) (u : Value), [x][j]? = some u → (w.alloc (.cells #[x] t)).cell? ((⟨w.heap.size, 0, none⟩ : Addr).add j) = some u := by
  intro j u hu
  have hb : (w.alloc (.cells #[x] t)).heap[w.heap.size]? = some (.cells #[x] t) := by show (w.heap.push _)[w.heap.size]? = _; simp
  rw [add_mk, Nat.zero_add]
  unfold World.cell?
  dsimp only
  rw [hb]
  simpa using hu
theorem cell_one_new2 (w : World) (o : Obj) (x : Value) (t : TypeId) : ∀ (j : Nat) (u : Value), [x][j]? = some u → ((w.alloc o).alloc (.cells #[x] t)).cell? ((⟨w.heap.size + 1, 0, none⟩ : Addr).add j) = some u := by
  have h := cell_one_new (w.alloc o) x t
  have e : (w.alloc o).heap.size = w.heap.size + 1 := by simp
  rw [e] at h; exact h
/-- all lines of a group -/
def linesG (g : Gr) : List Ln := g.nm.map .c ++ g.ru.map .r ++ (if g.wait = 0 then [] else [.t g.wait])
theorem app_below {b : Nat} {w wr w2 : World} {row : Option Nat} (h : Below b w wr) (hg : wr.grownBy w2 row) (hb : b ≤ wr.heap.size) (hr : ∀ k, row = some k → b ≤ k) : Below b w w2 := h.grown hg hb hr

set_option maxRecDepth 100000 in
set_option maxHeartbeats 3200000 in
theorem groupLines_any (g : Gr) (w : World) (hG : GrAt w g) (hl : g.nm.length ≤ 1048576) (hl2 : g.ru.length ≤ 1048576) :
    Calls Tryd.prog 19 #[.agg #[.slice g.na g.nm.length g.nc, .slice g.ra g.ru.length g.rc, .int .i64 g.wait]] w fun e w' => (∃ v, e = .returned v ∧ OwnsR FLn 48 w' (w.heap.size + 1) v (linesG g)) ∧ Below w.heap.size w w' := by
  obtain ⟨i0, hi, hz0, hz1, hz2⟩ := info_ln
  obtain ⟨wb, hwb⟩ : ∃ wb, wb = w.alloc (.cells #[.slice g.na g.nm.length g.nc, .slice g.ra g.ru.length g.rc, .int .i64 g.wait] 34) := ⟨_, rfl⟩
  have HG1 : Hid (GrAt wb g) := by rw [hwb]; exact hG.keep (alloc_keep _ _)
  have HB1 : Hid (Below w.heap.size w wb) := by rw [hwb]; exact (Below.refl _ _).alloc (Nat.le_refl _) _
  have hws : wb.heap.size = w.heap.size + 1 := by rw [hwb]; simp
  have HC : Hid (∀ wr, Below (w.heap.size + 1) wb wr → wr.cell? ⟨w.heap.size, 0, none⟩ = some (.slice g.na g.nm.length g.nc) ∧ wr.cell? ⟨w.heap.size, 1, none⟩ = some (.slice g.ra g.ru.length g.rc) ∧ wr.cell? ⟨w.heap.size, 2, none⟩ = some (.int .i64 g.wait)) := by
    intro wr hb
    have e : ∀ j, wr.cell? ⟨w.heap.size, j, none⟩ = wb.cell? ⟨w.heap.size, j, none⟩ := fun j => hb.cell (by show w.heap.size < _; omega)
    rw [e, e, e, hwb]; simp
  have HGB : Hid (∀ wr, Below (w.heap.size + 1) wb wr → GrAt wr g) := fun wr hb => HG1.out.below (hws.symm ▸ hb)
  clear hG
  go_enter Tryd.func19, Tryd.ntmps19
  go_wp2
  rw [← hwb]
  go_loopw [3, 11] (fun v i wr => ∃ j : Nat, j ≤ g.nm.length ∧ i = .int .i64 (j : Int) ∧ Hid (OwnsR FLn 48 wr (w.heap.size + 1) v ((g.nm.take j).map .c)) ∧ Hid (Below (w.heap.size + 1) wb wr)) (fun _ i _ => g.nm.length - (intOf i).toNat)
  case atStart => exact ⟨0, Nat.zero_le _, rfl, OwnsR.nil _ _ _ _, Below.refl _ _⟩
  case round =>
    obtain ⟨j, hj, rfl, HO, HB⟩ := hrel
    have hwr : w.heap.size + 1 ≤ wr.heap.size := by have := HB.out.size; omega
    by_cases hjl : j < g.nm.length
    · obtain ⟨b2, o2, e2, c3⟩ := (HGB.out wr HB.out).1.at hjl
      have HJ : Hid ((g.nm.take (j + 1)).map Ln.c = (g.nm.take j).map Ln.c ++ [Ln.c g.nm[j]]) := by show _ = _; rw [List.take_succ_eq_append_getElem hjl, List.map_append]; rfl
      have hjm : ((g.nm.take j).map Ln.c).length = j := by simp; omega
      generalize g.na = na at *
      subst e2
      generalize g.nm[j] = s at *
      generalize (g.nm.take j).map Ln.c = U at *
      go_wp2_with (at_builtin; refine wpList_append_own _ rfl _ _ 45 rfl (w.heap.size + 1) 48 i0 .nilIface 1 16 Tryd.underlying45 hi hz0 hz1 hz2 rfl (by decide) _ _ _ rfl (World.ownsRow.alloc HO.out _) ⟨wr.heap.size, 0, none⟩ 1 1 [lnV (.c s)] rfl rfl (cell_one_new _ _ _) ?c2 ?c3 ?c4 ?c5 ?_)
      case c2 => exact FLn.one (.c s)
      case c3 => unfold maxLen; omega
      case c4 => omega
      case c5 => simp; omega
      intro v' w4 hown' hgrow _
      have HO' : Hid (OwnsR FLn 48 w4 (w.heap.size + 1) v' (U ++ [Ln.c s])) := OwnsR.of_row (F := FLn) hown' (by simp; omega) (by rw [Frm.cells_append]; rfl)
      have HB' : Hid (Below (w.heap.size + 1) wb w4) := (HB.out.alloc hwr _).grown hgrow (by simp; omega) (fun k hk => OwnsR.block HO.out k hk)
      clear hown' hgrow
      go_wp2
      go_roundw
      case rel => exact ⟨j + 1, by omega, by go_num, by rw [HJ.out]; exact HO', HB'⟩
      case measure => simp [intOf]; omega
    · have e3 : g.nm.take j = g.nm := List.take_of_length_le (by omega)
      rw [e3] at HO
      obtain ⟨d0, d1, d2⟩ := HC.out wr HB.out
      clear e3
      generalize hU : g.nm.map Ln.c = U at *
      have HU : Hid (g.nm.map Ln.c = U) := hU
      have hUl : U.length = g.nm.length := by rw [← hU]; simp
      have hUl2 : U.length ≤ 1048576 := by omega
      clear hU hUl
      go_wp2
      go_loopw [3, 25] (fun v i wr => ∃ j : Nat, j ≤ g.ru.length ∧ i = .int .i64 (j : Int) ∧ Hid (OwnsR FLn 48 wr (w.heap.size + 1) v (U ++ (g.ru.take j).map .r)) ∧ Hid (Below (w.heap.size + 1) wb wr)) (fun _ i _ => g.ru.length - (intOf i).toNat)
      case atStart => exact ⟨0, Nat.zero_le _, rfl, by simpa using HO, HB⟩
      case round =>
        obtain ⟨j2, hj2, rfl, HO2, HB2⟩ := hrel
        have hwr2 : w.heap.size + 1 ≤ wr.heap.size := by have := HB2.out.size; omega
        by_cases hjl2 : j2 < g.ru.length
        · obtain ⟨b2, o2, e2, c3, c4⟩ := ru_at (HGB.out wr HB2.out).2 hjl2
          have HJ : Hid (U ++ (g.ru.take (j2 + 1)).map Ln.r = (U ++ (g.ru.take j2).map Ln.r) ++ [Ln.r g.ru[j2]]) := by show _ = _; rw [List.take_succ_eq_append_getElem hjl2, List.map_append, List.append_assoc]; rfl
          have hjm : (U ++ (g.ru.take j2).map Ln.r).length ≤ 2097152 := by rw [List.length_append, List.length_map, List.length_take]; omega
          have HX : Hid (lnV (Ln.r g.ru[j2]) = .iface 78 (.agg #[.bool g.ru[j2].lt, .string g.ru[j2].path])) := rfl
          generalize g.ra = ra at *
          subst e2
          generalize g.ru[j2] = r at *
          generalize U ++ (g.ru.take j2).map Ln.r = V at *
          go_wp2_with (at_builtin; refine wpList_append_own _ rfl _ _ 45 rfl (w.heap.size + 1) 48 i0 .nilIface 1 16 Tryd.underlying45 hi hz0 hz1 hz2 rfl (by decide) _ _ _ rfl (World.ownsRow.alloc (World.ownsRow.alloc HO2.out _) _) ⟨wr.heap.size + 1, 0, none⟩ 1 1 [.iface 78 (.agg #[.bool r.lt, .string r.path])] rfl rfl (cell_one_new2 _ _ _ _) ?c2 ?c3 ?c4 ?c5 ?_)
          case c2 => exact FLn.one (.r r)
          case c3 => unfold maxLen; omega
          case c4 => omega
          case c5 => simp; omega
          intro v' w4 hown' hgrow _
          have HO' : Hid (OwnsR FLn 48 w4 (w.heap.size + 1) v' (V ++ [Ln.r r])) := OwnsR.of_row (F := FLn) hown' (by simp) (by rw [Frm.cells_append]; rfl)
          have HB' : Hid (Below (w.heap.size + 1) wb w4) := ((HB2.out.alloc hwr2 _).alloc (by simp; omega) _).grown hgrow (by simp; omega) (fun k hk => OwnsR.block HO2.out k hk)
          clear hown' hgrow
          go_wp2
          go_roundw
          case rel => exact ⟨j2 + 1, by omega, by go_num, by rw [HJ.out]; exact HO', HB'⟩
          case measure => simp [intOf]; omega
        · have e4 : g.ru.take j2 = g.ru := List.take_of_length_le (by omega)
          rw [e4] at HO2
          obtain ⟨f0, f1, f2⟩ := HC.out wr HB2.out
          have hjm : (U ++ g.ru.map Ln.r).length ≤ 2097152 := by rw [List.length_append, List.length_map]; omega
          have HBf : Hid (Below w.heap.size w wr) := HB1.out.trans (HB2.out.mono (by omega))
          clear e4
          by_cases hw0 : g.wait = 0
          · have HLG : Hid (linesG g = U ++ g.ru.map Ln.r) := by show _ = _; unfold linesG; rw [if_pos hw0, HU.out]; simp
            have hwb0 : (g.wait != 0) = false := by simp [hw0]
            go_wp2
            obtain ⟨a, c, e, _⟩ := OwnsR.rows HO2.out
            subst e
            go_ret
            exact ⟨⟨_, rfl, by rw [HLG.out]; exact HO2.out⟩, HBf.out⟩
          · have HLG : Hid (linesG g = (U ++ g.ru.map Ln.r) ++ [Ln.t g.wait]) := by show _ = _; unfold linesG; rw [if_neg hw0, HU.out]
            have hwb0 : (g.wait != 0) = true := by simp [hw0]
            generalize U ++ g.ru.map Ln.r = V at *
            go_wp2_with (at_builtin; refine wpList_append_own _ rfl _ _ 45 rfl (w.heap.size + 1) 48 i0 .nilIface 1 16 Tryd.underlying45 hi hz0 hz1 hz2 rfl (by decide) _ _ _ rfl (World.ownsRow.alloc HO2.out _) ⟨wr.heap.size, 0, none⟩ 1 1 [lnV (.t g.wait)] rfl rfl (cell_one_new _ _ _) ?c2 ?c3 ?c4 ?c5 ?_)
            case c2 => exact FLn.one (.t g.wait)
            case c3 => unfold maxLen; omega
            case c4 => omega
            case c5 => simp; omega
            intro v' w4 hown' hgrow _
            have hO' : OwnsR FLn 48 w4 (w.heap.size + 1) v' (V ++ [Ln.t g.wait]) := OwnsR.of_row (F := FLn) hown' (by simp) (by rw [Frm.cells_append]; rfl)
            have HB' : Hid (Below w.heap.size w w4) := HB1.out.trans (((HB2.out.alloc hwr2 _).grown hgrow (by simp; omega) (fun k hk => OwnsR.block HO2.out k hk)).mono (by omega))
            obtain ⟨a, c, e, _⟩ := OwnsR.rows hO'
            subst e
            have HO' : Hid _ := hO'
            clear hown' hgrow hO'
            go_wp2
            go_ret
            exact ⟨⟨_, rfl, by rw [HLG.out]; exact HO'.out⟩, HB'.out⟩
end Go.Proofs.YtacelbhoccckbaaDoor.Nt
