/- Several texts in one: EscMeant, EscApp, EscNorm, EscSpec. -/
import Derived.Test.YtboncolbijicfaaGreatDoorEscLeafPk
import Derived.Laws.IdiomStrings
namespace Go.Proofs.YtboncolbijicfaaGreatDoor.EscL
open Go.RowKit Go.Proofs.YtboncolbijicfaaGreatDoor.EscM

set_option maxRecDepth 100000 in
set_option maxHeartbeats 800000 in
theorem meantByte_any (s : ByteArray) (k : Nat) (w : World) (hk : k < s.size) (hs : s.size ≤ 60) :
    Calls Tryz.prog 203 #[.string s, .int .i64 k] w fun e w' => e = .returned (.tuple #[.int .u8 (meantZ (s.data.toList.drop k)).1, .int .i64 (meantZ (s.data.toList.drop k)).2]) ∧ Below w.heap.size w w' := by
  by_cases hb : ((s[k]'hk).toNat : Int) = 37
  · by_cases hl : s.size - k < 3
    · have HM : Hid _ := meant_short s k hk hb hl
      go_enter Tryz.func203, Tryz.ntmps203
      go_wp2
      go_ret2
      rw [HM.out]
      exact ⟨rfl, Below.refl _ _⟩
    · have HM : Hid _ := meant_sign s k (by omega) hb
      have hb1 : (k : Int) + 1 < (s.size : Int) := by omega
      have hb2 : (k : Int) + 2 < (s.size : Int) := by omega
      have hlt1 : k + 1 < s.size := by omega
      have hlt2 : k + 2 < s.size := by omega
      have hb5 : (0 : Int) ≤ (k : Int) + 1 := by omega
      have hb6 : (0 : Int) ≤ (k : Int) + 2 := by omega
      go_enter Tryz.func203, Tryz.ntmps203
      go_wp2
      have hw1 : IntKind.i64.wrap ((k : Int) + 1) = (k : Int) + 1 := IntWalk.i64_in _ (by omega)
      have hw2 : IntKind.i64.wrap ((k : Int) + 2) = (k : Int) + 2 := IntWalk.i64_in _ (by omega)
      go_region_with (go_at_call 217; refine (hexValue_any _ _ (Int.natCast_nonneg _) (byte_le _)).mono ?_; rintro e w' ⟨rfl, o, rfl⟩)
      all_goals
        obtain ⟨x1, x2⟩ := hexZ_bd (s[k+1]'hlt1).toNat
        obtain ⟨y1, y2⟩ := hexZ_bd (s[k+2]'hlt2).toNat
        go_wp2
        all_goals
          go_ret2
          refine ⟨?_, ?_⟩
          · rw [HM.out]
            split
            · first | rfl | (exfalso; omega)
            · first | rfl | (exfalso; omega)
          · exact ((((Below.refl _ _).drew).alloc (by simp) _).alloc (by simp) _)
  · have HM : Hid _ := meant_plain s k hk hb
    go_enter Tryz.func203, Tryz.ntmps203
    go_wp2
    go_ret2
    rw [HM.out]
    exact ⟨rfl, Below.refl _ _⟩

/-- append onto a row of the call's own, as a step of a region that draws its order -/
theorem step_append_own {P : Program} {ops : Array Oper} {o : Oper} {a : Act} {w : World} {K : Act → World → Prop} {Q : Exit → Act → World → Prop} {E : Prop}
    (hg : o.guard = none) (s x : Operand) (t : TypeId) (hop : o.op = Op.call { callee := Callee.builtin Builtin.append, args := #[s, x], argTypes := #[t, t] })
    (base : Nat) (e : TypeId) (i : TypeInfo) (z : Value) (size bytes : Nat) (h1 : P.underlying t = some (.slice e)) (h2 : P.info? e = some i) (h3 : i.zero = some z) (h4 : i.size = size) (h5 : i.bytes = bytes) (h6 : z.cells.size = size) (h7 : 0 < size)
    (v : Value) (n : Nat) (xs : List Value) (hs : a.eval s = v) (hown : w.ownsRow base e size v n xs)
    (ad : Addr) (m c : Nat) (news : List Value) (hx : a.eval x = .slice (some ad) m c) (hn : news.length = m * size) (hc : ∀ j u, news[j]? = some u → w.cell? (ad.add j) = some u) (h1c : ∀ u ∈ news, u.oneCell' = true)
    (b1 : n + m ≤ maxLen) (b2 : (n + m) * bytes ≤ 140737488355328) (hbase : base ≤ w.heap.size)
    (hK : ∀ v' w', w'.ownsRow base e size v' (n + m) (xs ++ news) → w.grownBy w' v.ownBlock → K (a.put o.dst v') w') :
    if Region.wanted o (yielded ops a.tmps) = true then Oper.wp P o a w K Q else E := by
  have hw : Region.wanted o (yielded ops a.tmps) = true := by simp [Region.wanted, hg]
  rw [if_pos hw]
  obtain ⟨v', w', hrun, r1, r2, _⟩ := run_append_own (P := P) w base t o.type e i z size bytes h1 h2 h3 h4 h5 h6 h7 v n xs hown ad m c news hn hc h1c b1 b2 hbase
  unfold Oper.wp
  simp [execOp, hop, resolve, invoke, builtin, hs, hx, hrun, Result.andThen]
  exact hK v' w' r1 r2

def cellsB (l : List UInt8) : List Value := l.map fun b => Value.int .u8 b.toNat
theorem cellsB_length (l : List UInt8) : (cellsB l).length = l.length := by simp [cellsB]
theorem cellsB_append (a b : List UInt8) : cellsB (a ++ b) = cellsB a ++ cellsB b := by simp [cellsB]

theorem Tryz.info8 : (Tryz.prog.info? 5).map (fun i => (i.zero, i.size, i.bytes)) = some (some (.int .u8 0), 1, 1) := by kernel_rfl

theorem own_of_block {w : World} {base : Nat} {v : Value} {e : TypeId} {n : Nat} {xs : List Value} (hown : w.ownsRow base e 1 v n xs) : ∀ k, v.ownBlock = some k → base ≤ k := by
  intro k hk
  obtain ⟨_, h | ⟨g, cap, cur, rfl, hb, _⟩⟩ := hown
  · rw [h.1] at hk; simp [Value.ownBlock] at hk
  · simp [Value.ownBlock] at hk; omega

set_option maxRecDepth 100000 in
set_option maxHeartbeats 800000 in
theorem appendMeant_plain (base : Nat) (v : Value) (l : List UInt8) (n : Int) (w : World) (h0 : 0 ≤ n) (h1 : n ≤ 255) (hl : l.length ≤ 1000) (hown : w.ownsRow base 5 1 v l.length (cellsB l)) (hbase : base ≤ w.heap.size) (hp : plainZ n = true) :
    Calls Tryz.prog 204 #[v, .int .u8 n] w fun e w' => ∃ v', e = .returned v' ∧ w'.ownsRow base 5 1 v' (l ++ [toB n]).length (cellsB (l ++ [toB n])) ∧ Below base w w' := by
  have hpp := place_plain n h0 h1
  rw [hp] at hpp
  have hpq : 0 ≤ placeFrom plainSigns n 0 := by simpa using hpp
  unfold plainSigns at hpq
  clear hpp
  obtain ⟨i0, hi, hz0, hz1, hz2⟩ := info_parts Tryz.info8
  go_enter Tryz.func204, Tryz.ntmps204
  go_wp2_with (first
    | (at_builtin; refine wpList_append_own _ rfl _ _ 119 rfl base 5 i0 (.int .u8 0) 1 1 Tryz.underlying119 hi hz0 hz1 hz2 rfl (by decide) _ _ _ rfl ((hown.alloc _).alloc _) ⟨w.heap.size + 1, 0, none⟩ 1 1 [.int .u8 n] rfl rfl ?c1 ?c2 ?c3 ?c4 ?c5 ?_)
    | (go_at_call 195; refine (signPlace_any _ _ _ (by omega) (by omega) (by decide) (by decide)).mono ?_; rintro e w' ⟨rfl, o, rfl⟩))
  case c1 =>
    intro j u hj
    match j, hj with
    | 0, hj => simp at hj; subst hj; simp [Addr.add]
  case c2 => intro u hu; simp at hu; subst hu; rfl
  case c3 => unfold maxLen; omega
  case c4 => omega
  case c5 => simp; omega
  intro v' w1 hown' hgrow _
  have HO : Hid _ := hown'
  have HG : Hid _ := hgrow
  clear hown' hgrow
  go_wp2
  go_ret
  refine ⟨v', rfl, ?_, ?_⟩
  · have e1 : (l ++ [toB n]).length = l.length + 1 := by simp
    have e2 : cellsB (l ++ [toB n]) = cellsB l ++ [.int .u8 n] := by rw [cellsB_append]; simp [cellsB, toB_toNat n h0 h1]
    rw [e1, e2]; exact HO.out
  · exact Below.grown (((Below.refl base w).alloc hbase _).alloc (by simp; omega) _) HG.out (by simp; omega) (own_of_block hown)
end Go.Proofs.YtboncolbijicfaaGreatDoor.EscL
namespace Go.Proofs.YtboncolbijicfaaGreatDoor.EscL
open Go.RowKit Go.Proofs.YtboncolbijicfaaGreatDoor.EscM

theorem ownsRow_drew {w : World} {base : Nat} {e : TypeId} {size : Nat} {v : Value} {n : Nat} {xs : List Value} (h : w.ownsRow base e size v n xs) : w.drew.ownsRow base e size v n xs := h

theorem hex_idx (q : Int) (h0 : 0 ≤ q) (h1 : q < 16) (wx : World) :
    (Instr.index 9 (.string ⟨#[48, 49, 50, 51, 52, 53, 54, 55, 56, 57, 65, 66, 67, 68, 69, 70]⟩) (.int .u8 q)).run Tryz.prog wx = .ok (.int .u8 (figZ q)) wx := by
  have hh : ∀ q : Int, 0 ≤ q → q < 16 → ∀ h : 0 ≤ q ∧ q < ((⟨#[48, 49, 50, 51, 52, 53, 54, 55, 56, 57, 65, 66, 67, 68, 69, 70]⟩ : ByteArray).size : Int), (((⟨#[48, 49, 50, 51, 52, 53, 54, 55, 56, 57, 65, 66, 67, 68, 69, 70]⟩ : ByteArray)[q.toNat]'(by omega)).toNat : Int) = figZ q := by
    intro q g0 g1 h
    have := fig_hex q g0 g1
    rw [← this]
    have e : hexSigns.getD q.toNat 0 = hexSigns[q.toNat]'(by simp [hexSigns]; omega) := by
      rw [List.getD_eq_getElem?_getD, List.getElem?_eq_getElem (by simp [hexSigns]; omega)]; rfl
    rw [e]; rfl
  have hcond : 0 ≤ q ∧ q < ((⟨#[48, 49, 50, 51, 52, 53, 54, 55, 56, 57, 65, 66, 67, 68, 69, 70]⟩ : ByteArray).size : Int) := ⟨h0, h1⟩
  rw [run_index_string _ _ _ _ _ Tryz.underlying9, dif_pos hcond, hh q h0 h1 hcond]

set_option maxRecDepth 100000 in
set_option maxHeartbeats 800000 in
theorem appendMeant_sign (base : Nat) (v : Value) (l : List UInt8) (n : Int) (w : World) (h0 : 0 ≤ n) (h1 : n ≤ 255) (hl : l.length ≤ 1000) (hown : w.ownsRow base 5 1 v l.length (cellsB l)) (hbase : base ≤ w.heap.size) (hp : plainZ n = false) :
    Calls Tryz.prog 204 #[v, .int .u8 n] w fun e w' => ∃ v', e = .returned v' ∧ w'.ownsRow base 5 1 v' (l ++ [37, toB (figZ (n / 16)), toB (figZ (n % 16))]).length (cellsB (l ++ [37, toB (figZ (n / 16)), toB (figZ (n % 16))])) ∧ Below base w w' := by
  have hpp := place_plain n h0 h1
  rw [hp] at hpp
  have hpq : ¬ 0 ≤ placeFrom plainSigns n 0 := by simpa using hpp
  unfold plainSigns at hpq
  clear hpp
  obtain ⟨i0, hi, hz0, hz1, hz2⟩ := info_parts Tryz.info8
  go_enter Tryz.func204, Tryz.ntmps204
  go_wp2_with (go_at_call 195; refine (signPlace_any _ _ _ (by omega) (by omega) (by decide) (by decide)).mono ?_; rintro e w' ⟨rfl, o, rfl⟩)
  have hq1 : IntKind.u8.wrap (n.tdiv 16) = n / 16 := by rw [IntKind.wrap_u8, Int.tdiv_eq_ediv_of_nonneg h0]; omega
  have hq2 : n.tmod 16 = n % 16 := Int.tmod_eq_emod_of_nonneg h0
  have hq3 : n / 16 < 16 := by omega
  have hq4 : n % 16 < 16 := by omega
  have hx1 : ∀ wx, (Instr.index 9 (.string ⟨#[48, 49, 50, 51, 52, 53, 54, 55, 56, 57, 65, 66, 67, 68, 69, 70]⟩) (.int .u8 (n / 16))).run Tryz.prog wx = .ok (.int .u8 (figZ (n / 16))) wx := fun wx => hex_idx _ (by omega) (by omega) wx
  have hx2 : ∀ wx, (Instr.index 9 (.string ⟨#[48, 49, 50, 51, 52, 53, 54, 55, 56, 57, 65, 66, 67, 68, 69, 70]⟩) (.int .u8 (n % 16))).run Tryz.prog wx = .ok (.int .u8 (figZ (n % 16))) wx := fun wx => hex_idx _ (by omega) (by omega) wx
  have hc1 : ∀ (W : World) (x y : Int) (wx : World), wx.heap = (W.alloc (.cells #[.int .u8 37, .int .u8 x, .int .u8 y] 5)).heap → ∀ j u, [Value.int .u8 37, .int .u8 x, .int .u8 y][j]? = some u → wx.cell? ((⟨W.heap.size, 0, none⟩ : Addr).add j) = some u := by
    intro W x y wx hwx j u hj
    have e : ∀ p, wx.cell? p = (W.alloc (.cells #[.int .u8 37, .int .u8 x, .int .u8 y] 5)).cell? p := fun p => by unfold World.cell?; rw [hwx]
    rw [e]
    match j, hj with
    | 0, hj => simp at hj; subst hj; simp [Addr.add]
    | 1, hj => simp at hj; subst hj; simp [Addr.add]
    | 2, hj => simp at hj; subst hj; simp [Addr.add]
  have hc2 : ∀ x y : Int, ∀ u ∈ [Value.int .u8 37, .int .u8 x, .int .u8 y], u.oneCell' = true := by
    intro x y u hu; simp at hu; rcases hu with rfl | rfl | rfl <;> rfl
  have HO : Hid (w.ownsRow base 5 1 v l.length (cellsB l)) := hown
  go_region_law (refine step_append_own rfl (.tmp 12) (.tmp 19) 119 rfl base 5 i0 (.int .u8 0) 1 1 Tryz.underlying119 hi hz0 hz1 hz2 rfl (by decide) v l.length (cellsB l) (by simp [Act.eval]) (by exact ownsRow_drew ((HO.out.alloc _).alloc _)) ⟨(w.alloc o).heap.size, 0, none⟩ 3 3 [.int .u8 37, .int .u8 (figZ (n / 16)), .int .u8 (figZ (n % 16))] (by simp [Act.eval]) rfl (by exact hc1 (w.alloc o) _ _ _ rfl) (hc2 _ _) (by unfold maxLen; omega) (by omega) (by simp; omega) ?_; intro v' w1 hown' hgrow)
  all_goals
    have HO' : Hid _ := hown'
    have HG : Hid _ := hgrow
    clear hown' hgrow
    go_wp2
    go_ret
    refine ⟨v', rfl, ?_, ?_⟩
    · have e1 : (l ++ [37, toB (figZ (n / 16)), toB (figZ (n % 16))]).length = l.length + 3 := by simp
      have e2 : cellsB (l ++ [37, toB (figZ (n / 16)), toB (figZ (n % 16))]) = cellsB l ++ [.int .u8 37, .int .u8 (figZ (n / 16)), .int .u8 (figZ (n % 16))] := by
        have b1 := figZ_bd (n / 16) (by omega) (by omega)
        have b2 := figZ_bd (n % 16) (by omega) (by omega)
        rw [cellsB_append]; simp [cellsB, toB_toNat _ (show 0 ≤ figZ (n / 16) by omega) (by omega), toB_toNat _ (show 0 ≤ figZ (n % 16) by omega) (by omega)]
      rw [e1, e2]; exact HO'.out
    · exact Below.grown (((Below.refl base w).alloc hbase _).drew.alloc (by simp; omega) _) HG.out (by simp; omega) (own_of_block hown)

theorem appendMeant_any (base : Nat) (v : Value) (l : List UInt8) (n : Int) (w : World) (h0 : 0 ≤ n) (h1 : n ≤ 255) (hl : l.length ≤ 1000) (hown : w.ownsRow base 5 1 v l.length (cellsB l)) (hbase : base ≤ w.heap.size) :
    Calls Tryz.prog 204 #[v, .int .u8 n] w fun e w' => ∃ v', e = .returned v' ∧ w'.ownsRow base 5 1 v' (l ++ signL n).length (cellsB (l ++ signL n)) ∧ Below base w w' := by
  unfold signL
  cases hp : plainZ n with
  | true => exact appendMeant_plain base v l n w h0 h1 hl hown hbase hp
  | false => exact appendMeant_sign base v l n w h0 h1 hl hown hbase hp
end Go.Proofs.YtboncolbijicfaaGreatDoor.EscL
namespace Go.Proofs.YtboncolbijicfaaGreatDoor.EscL
open Go.RowKit Go.Proofs.YtboncolbijicfaaGreatDoor.EscM

theorem signL_len (n : Int) : (signL n).length ≤ 3 := by unfold signL; split <;> simp

theorem escN_plain (b : UInt8) (r : List UInt8) (h : b ≠ 37) : escN (b :: r) = (escN r).map (signL b.toNat ++ ·) := by
  rw [escN.eq_def]; simp [h]
theorem escN_sign (h l : UInt8) (r : List UInt8) : escN (37 :: h :: l :: r) = if hexZ h.toNat < 0 ∨ hexZ l.toNat < 0 then none else (escN r).map (signL (hexZ h.toNat * 16 + hexZ l.toNat) ++ ·) := by
  rw [escN.eq_def]; simp
theorem escN_short0 : escN [37] = none := by rw [escN.eq_def]; simp
theorem escN_short1 (x : UInt8) : escN [37, x] = none := by rw [escN.eq_def]; simp

/-- what is meant at a place says how the rest goes on -/
theorem meant_step (L : List UInt8) (hne : L ≠ []) :
    (meantZ L = (0, 0) ∧ escN L = none) ∨
    ∃ (b : Int) (m : Nat), meantZ L = (b, (m : Int)) ∧ 1 ≤ m ∧ m ≤ L.length ∧ 0 ≤ b ∧ b ≤ 255 ∧ escN L = (escN (L.drop m)).map (signL b ++ ·) := by
  rcases L with _ | ⟨b, r⟩
  · exact absurd rfl hne
  · by_cases hb : b = 37
    · subst hb
      rcases r with _ | ⟨x, _ | ⟨y, r⟩⟩
      · exact Or.inl ⟨by simp [meantZ], escN_short0⟩
      · exact Or.inl ⟨by simp [meantZ], escN_short1 x⟩
      · rw [escN_sign]
        have hx := hexZ_bd x.toNat
        have hy := hexZ_bd y.toNat
        by_cases hh : hexZ x.toNat < 0 ∨ hexZ y.toNat < 0
        · left; simp [meantZ, hh]
        · right
          refine ⟨hexZ x.toNat * 16 + hexZ y.toNat, 3, by simp [meantZ, hh], by omega, by simp, by omega, by omega, ?_⟩
          rw [if_neg hh]; rfl
    · right
      refine ⟨b.toNat, 1, ?_, by omega, by simp, by omega, byte_le b, ?_⟩
      · rcases r with _ | ⟨x, _ | ⟨y, r⟩⟩ <;> simp [meantZ, hb]
      · rw [escN_plain b r hb]; rfl

theorem own_below {w w' : World} {base : Nat} {v : Value} {n : Nat} {xs : List Value} (h : w.ownsRow base 5 1 v n xs) (hb : Below w.heap.size w w') : w'.ownsRow base 5 1 v n xs := by
  obtain ⟨h1, h2 | ⟨g, cap, cur, hv, hg, hc, r⟩⟩ := h
  · exact ⟨h1, Or.inl h2⟩
  · refine ⟨h1, Or.inr ⟨g, cap, cur, hv, hg, ?_, r⟩⟩
    rw [hb.block g (Array.getElem?_eq_some_iff.1 hc).1]; exact hc

theorem string_own {w : World} {base : Nat} {v : Value} {l : List UInt8} (h : w.ownsRow base 5 1 v l.length (cellsB l)) :
    (convert 119 9 v).run Tryz.prog w = .ok (.string ⟨l.toArray⟩) w := by
  have h' := h
  obtain ⟨_, ⟨rfl, hn⟩ | ⟨g, cap, cur, rfl, _⟩⟩ := h
  · have : l = [] := List.eq_nil_of_length_eq_zero hn
    subst this
    rw [run_convert_bytes_string w _ _ _ none 0 0 Tryz.underlying119 Tryz.underlying5 Tryz.underlying9]
    rfl
  · refine run_convert_bytes_back w _ _ _ _ cap l Tryz.underlying119 Tryz.underlying5 Tryz.underlying9 ?_
    intro j hj
    have := h'.cells (g := g) rfl j (.int .u8 (l[j].toNat : Int)) (by simp [cellsB, List.getElem?_eq_getElem hj])
    exact this

theorem ret2 {a b : ByteArray} {x y : Bool} (h : a = b) (h' : x = y) : Ending.returned (.tuple #[.string a, .bool x]) = .returned (.tuple #[.string b, .bool y]) := by rw [h, h']

theorem escF_long (s : ByteArray) (h : 60 < s.size) : escF s.data.toList = ([], false) := by unfold escF; rw [if_pos (by simpa using h)]
theorem escF_of (s : ByteArray) (h : s.size ≤ 60) : escF s.data.toList = match escN s.data.toList with | some x => (x, true) | none => ([], false) := by unfold escF; rw [if_neg (by simp; omega)]; cases escN s.data.toList <;> rfl

set_option maxRecDepth 100000 in
set_option maxHeartbeats 1600000 in
theorem implEsc_any (s : ByteArray) (w : World) (hs : s.size ≤ maxLen) :
    Calls Tryz.prog 178 #[.string s] w fun e w' => e = .returned (.tuple #[.string (escS s), .bool (escB s)]) ∧ Below w.heap.size w w' := by
  unfold maxLen at hs
  by_cases hlong : 60 < s.size
  · have HL : Hid _ := escF_long s hlong
    go_enter Tryz.func178, Tryz.ntmps178
    go_wp2
    go_ret2
    exact ⟨ret2 (by unfold escS; rw [HL.out]) (by unfold escB; rw [HL.out]), Below.refl _ _⟩
  · have HL : Hid _ := escF_of s (by omega)
    have hs60 : s.size ≤ 60 := by omega
    go_enter Tryz.func178, Tryz.ntmps178
    go_wp2
    go_loopw [4, 5] (fun v i wr => ∃ (k : Nat) (l : List UInt8), k ≤ s.size ∧ i = .int .i64 k ∧ Hid (wr.ownsRow w.heap.size 5 1 v l.length (cellsB l)) ∧ Below w.heap.size w wr ∧
        Hid (escN s.data.toList = (escN (s.data.toList.drop k)).map (l ++ ·)) ∧ l.length ≤ 3 * k)
      (fun _ i _ => s.size - (intOf i).toNat)
    case atStart => exact ⟨0, [], Nat.zero_le _, rfl, World.ownsRow_nil _ _ _ _, Below.refl _ _, by show _ = _; simp, by simp⟩
    case round =>
      obtain ⟨k, l, hk, rfl, HO, hbel, HE, hl⟩ := hrel
      by_cases hlt : k < s.size
      · have hne : s.data.toList.drop k ≠ [] := by intro e; have := congrArg List.length e; simp at this; omega
        rcases meant_step _ hne with ⟨hm, hn⟩ | ⟨b, m, hm, hm1, hm2, hb0, hb1, hn⟩
        · have HM : Hid _ := hm
          have HN : Hid _ := hn
          clear hm hn hne
          go_wp2_with (go_at_call 203; refine (meantByte_any s k _ hlt hs60).mono ?_; rintro e w1 ⟨rfl, hb1⟩; rw [HM.out])
          go_ret2
          exact ⟨ret2 (by unfold escS; rw [HL.out, HE.out, HN.out]; rfl) (by unfold escB; rw [HL.out, HE.out, HN.out]; rfl), hbel.trans (hb1.mono hbel.size)⟩
        · have HM : Hid _ := hm
          have HN : Hid _ := hn
          have hm3 : k + m ≤ s.size := by simp at hm2; omega
          have hm0 : ((m : Int) == 0) = false := by simp; omega
          clear hm hn hne hm2
          go_wp2_with (go_at_call 203; refine (meantByte_any s k _ hlt hs60).mono ?_; rintro e w1 ⟨rfl, hbel1⟩; rw [HM.out])
          have hO1 : w1.ownsRow w.heap.size 5 1 u4 l.length (cellsB l) := own_below HO.out hbel1
          have hsz1 : w.heap.size ≤ w1.heap.size := Nat.le_trans hbel.size hbel1.size
          refine (appendMeant_any w.heap.size u4 l b w1 hb0 hb1 (by omega) hO1 hsz1).mono ?_
          rintro e w2 ⟨v', rfl, hO2, hbel2⟩
          have HO2 : Hid _ := hO2
          have hsl := signL_len b
          clear hO1 hO2
          go_wp2
          go_roundw
          case rel =>
            refine ⟨k + m, l ++ signL b, by omega, by go_num, HO2.out, ?_, ?_, ?_⟩
            · exact (hbel.trans (hbel1.mono hbel.size)).trans hbel2
            · show _ = _
              rw [HE.out, HN.out, List.drop_drop]
              cases escN (List.drop (k + m) s.data.toList) <;> simp
            · simp only [List.length_append]; omega
          case measure => simp [intOf]; omega
      · have e : s.data.toList.drop k = [] := List.drop_eq_nil_of_le (by simp; omega)
        have HE2 : Hid (escN s.data.toList = some l) := by show _ = _; rw [HE.out, e]; simp [escN]
        have hstr := string_own HO.out
        clear e
        go_wp2
        go_ret2
        exact ⟨ret2 (by unfold escS; rw [HL.out, HE2.out]) (by unfold escB; rw [HL.out, HE2.out]), hbel⟩
end Go.Proofs.YtboncolbijicfaaGreatDoor.EscL
namespace Go.Proofs.YtboncolbijicfaaGreatDoor.EscL
open Go.RowKit Go.Proofs.YtboncolbijicfaaGreatDoor.EscM

theorem str_app (a b : List UInt8) : (⟨a.toArray⟩ : ByteArray) ++ (⟨b.toArray⟩ : ByteArray) = ⟨(a ++ b).toArray⟩ := by
  apply ByteArray.ext; simp

theorem one_byte (W : World) (n : Int) (h0 : 0 ≤ n) (h1 : n ≤ 255) :
    (convert 119 9 (.slice (some ⟨W.heap.size, 0, none⟩) 1 1)).run Tryz.prog (W.alloc (.cells #[.int .u8 n] 5)) = .ok (.string ⟨#[toB n]⟩) (W.alloc (.cells #[.int .u8 n] 5)) := by
  refine run_convert_bytes_back _ _ _ _ _ 1 [toB n] Tryz.underlying119 Tryz.underlying5 Tryz.underlying9 ?_
  intro j hj
  match j, hj with
  | 0, _ => simp [Addr.add, toB_toNat n h0 h1]

theorem escN_at_short (s : ByteArray) (k : Nat) (h : k < s.size) (hb : ((s[k]'h).toNat : Int) = 37) (hl : s.size ≤ k + 2) : escN (s.data.toList.drop k) = none := by
  rcases meant_step (s.data.toList.drop k) (by rw [drop_cons s k h]; simp) with ⟨_, hn⟩ | ⟨b, m, hm, hm1, _, _⟩
  · exact hn
  · rw [meant_short s k h hb (by omega)] at hm
    have := congrArg Prod.snd hm
    simp at this; omega
theorem escN_at_plain (s : ByteArray) (k : Nat) (h : k < s.size) (hb : ¬ ((s[k]'h).toNat : Int) = 37) : escN (s.data.toList.drop k) = (escN (s.data.toList.drop (k + 1))).map (signL (s[k]'h).toNat ++ ·) := by
  rw [drop_cons s k h, escN_plain _ _ (ne37.2 hb)]
theorem escN_at_sign (s : ByteArray) (k : Nat) (h : k + 2 < s.size) (hb : ((s[k]'(by omega)).toNat : Int) = 37) :
    escN (s.data.toList.drop k) = if hexZ (s[k+1]'(by omega)).toNat < 0 ∨ hexZ (s[k+2]'h).toNat < 0 then none else (escN (s.data.toList.drop (k + 3))).map (signL (hexZ (s[k+1]'(by omega)).toNat * 16 + hexZ (s[k+2]'h).toNat) ++ ·) := by
  rw [drop_cons s k (by omega), drop_cons s (k+1) (by omega), drop_cons s (k + 2) h]
  have h37 : s[k]'(by omega) = 37 := UInt8.toNat.inj (by simp; omega)
  rw [h37, escN_sign]

/-- the end of a round: what was meant is written behind -/
theorem str_plain (l : List UInt8) (n : Int) (hp : plainZ n = true) : (⟨l.toArray⟩ : ByteArray) ++ (⟨#[toB n]⟩ : ByteArray) = ⟨(l ++ signL n).toArray⟩ := by
  rw [show signL n = [toB n] by simp [signL, hp]]; exact str_app l [toB n]
theorem str_sign (l : List UInt8) (n : Int) (hp : plainZ n = false) : (⟨l.toArray⟩ : ByteArray) ++ (⟨#[37, toB (figZ (n / 16)), toB (figZ (n % 16))]⟩ : ByteArray) = ⟨(l ++ signL n).toArray⟩ := by
  rw [show signL n = [37, toB (figZ (n / 16)), toB (figZ (n % 16))] by simp [signL, hp]]; exact str_app l _
theorem str_sign' (l : List UInt8) (a b : Int) (hp : plainZ (a * 16 + b) = false) : (⟨l.toArray⟩ : ByteArray) ++ (⟨#[37, toB (figZ ((a * 16 + b) / 16)), toB (figZ (b % 16))]⟩ : ByteArray) = ⟨(l ++ signL (a * 16 + b)).toArray⟩ := by
  have := str_sign l (a * 16 + b) hp
  rwa [show (a * 16 + b) % 16 = b % 16 by omega] at this
theorem val_str {a b : ByteArray} (h : a = b) : Value.string a = .string b := by rw [h]
theorem map_end {L : Option (List UInt8)} (l x : List UInt8) : (L.map (x ++ ·)).map (l ++ ·) = L.map ((l ++ x) ++ ·) := by cases L <;> simp

set_option maxRecDepth 100000 in
set_option maxHeartbeats 1600000 in
theorem specEsc_any (s : ByteArray) (w : World) (hs : s.size ≤ maxLen) :
    Calls Tryz.prog 171 #[.string s] w fun e w' => e = .returned (.tuple #[.string (escS s), .bool (escB s)]) ∧ Below w.heap.size w w' := by
  unfold maxLen at hs
  by_cases hlong : 60 < s.size
  · have HL : Hid _ := escF_long s hlong
    go_enter Tryz.func171, Tryz.ntmps171
    go_wp2
    go_ret2
    exact ⟨ret2 (by unfold escS; rw [HL.out]) (by unfold escB; rw [HL.out]), Below.refl _ _⟩
  · have HL : Hid _ := escF_of s (by omega)
    have hs60 : s.size ≤ 60 := by omega
    go_enter Tryz.func171, Tryz.ntmps171
    go_wp2
    go_loopw [4, 5] (fun v i wr => ∃ (k : Nat) (l : List UInt8), k ≤ s.size ∧ i = .int .i64 k ∧ v = .string ⟨l.toArray⟩ ∧ Below w.heap.size w wr ∧
        Hid (escN s.data.toList = (escN (s.data.toList.drop k)).map (l ++ ·)) ∧ l.length ≤ 3 * k)
      (fun _ i _ => s.size - (intOf i).toNat)
    case atStart => exact ⟨0, [], Nat.zero_le _, rfl, rfl, Below.refl _ _, by show _ = _; simp, by simp⟩
    case round =>
      obtain ⟨k, l, hk, rfl, rfl, hbel, HE, hl⟩ := hrel
      by_cases hlt : k < s.size
      · by_cases hb : ((s[k]'hlt).toNat : Int) = 37
        · by_cases hsh : s.size ≤ k + 2
          · -- not whole
            have HN : Hid (escN (s.data.toList.drop k) = none) := escN_at_short s k hlt hb hsh
            go_wp2
            go_ret2
            exact ⟨ret2 (by unfold escS; rw [HL.out, HE.out, HN.out]; rfl) (by unfold escB; rw [HL.out, HE.out, HN.out]; rfl), hbel⟩
          · have hlt1 : k + 1 < s.size := by omega
            have hlt2 : k + 2 < s.size := by omega
            have HN : Hid _ := escN_at_sign s k hlt2 hb
            obtain ⟨x1, x2⟩ := hexZ_bd (s[k+1]'hlt1).toNat
            obtain ⟨y1, y2⟩ := hexZ_bd (s[k+2]'hlt2).toNat
            by_cases hx : hexZ (s[k+1]'hlt1).toNat < 0
            · go_wp2_with (go_at_call 196; refine (l1Hex_any _ _ (Int.natCast_nonneg _) (byte_le _)).mono ?_; rintro e w1 ⟨rfl, rfl⟩)
              go_ret2
              have HN2 : escN (s.data.toList.drop k) = none := by rw [HN.out, if_pos (Or.inl hx)]
              exact ⟨ret2 (by unfold escS; rw [HL.out, HE.out, HN2]; rfl) (by unfold escB; rw [HL.out, HE.out, HN2]; rfl), hbel⟩
            · by_cases hy : hexZ (s[k+2]'hlt2).toNat < 0
              · go_wp2_with (go_at_call 196; refine (l1Hex_any _ _ (Int.natCast_nonneg _) (byte_le _)).mono ?_; rintro e w1 ⟨rfl, rfl⟩)
                go_ret2
                have HN2 : escN (s.data.toList.drop k) = none := by rw [HN.out, if_pos (Or.inr hy)]
                exact ⟨ret2 (by unfold escS; rw [HL.out, HE.out, HN2]; rfl) (by unfold escB; rw [HL.out, HE.out, HN2]; rfl), hbel⟩
              · have HN2 : Hid _ := (HN.out).trans (if_neg (by omega))
                have hob : ∀ (W : World) (q : Nat), (convert 119 9 (.slice (some ⟨W.heap.size, 0, none⟩) 1 1)).run Tryz.prog ((W.drewN q).alloc (.cells #[.int .u8 (hexZ (s[k+1]'hlt1).toNat * 16 + hexZ (s[k+2]'hlt2).toNat)] 5)) = _ := fun W q => one_byte (W.drewN q) (hexZ (s[k+1]'hlt1).toNat * 16 + hexZ (s[k+2]'hlt2).toNat) (by omega) (by omega)
                clear HN
                go_wp2_with (go_at_call 196; refine (l1Hex_any _ _ (Int.natCast_nonneg _) (byte_le _)).mono ?_; rintro e w1 ⟨rfl, rfl⟩)
                have hb1 : (k : Int) + 1 < (s.size : Int) := by omega
                have hb2 : (k : Int) + 2 < (s.size : Int) := by omega
                have hb5 : (0 : Int) ≤ (k : Int) + 1 := by omega
                have hb6 : (0 : Int) ≤ (k : Int) + 2 := by omega
                go_quiet ((go_at_call 196; exact Calls.quiet_of_same (l1Hex_any _ _ (Int.natCast_nonneg _) (byte_le _))))
                cases hp : plainZ (hexZ (s[k+1]'hlt1).toNat * 16 + hexZ (s[k+2]'hlt2).toNat) with
                | true =>
                  go_wp2_with (first
                    | (go_at_call 135; refine (l1Plain_any _ _ (by omega) (by omega)).mono ?_; rintro e w1 ⟨rfl, rfl⟩)
                    | (go_at_call 197; refine (l1Sign_any _ _ (by omega) (by omega)).mono ?_; rintro e w1 ⟨rfl, kk, rfl⟩))
                  go_roundw
                  case rel => exact ⟨k + 3, l ++ signL _, by omega, by go_num, val_str (str_plain l _ hp), (below_drewN hbel _).alloc hbel.size _, by show _ = _; rw [HE.out, HN2.out, map_end], by have := signL_len (hexZ (s[k+1]'hlt1).toNat * 16 + hexZ (s[k+2]'hlt2).toNat); simp only [List.length_append]; omega⟩
                  case measure => simp [intOf]; omega
                | false =>
                  go_wp2_with (first
                    | (go_at_call 135; refine (l1Plain_any _ _ (by omega) (by omega)).mono ?_; rintro e w1 ⟨rfl, rfl⟩)
                    | (go_at_call 197; refine (l1Sign_any _ _ (by omega) (by omega)).mono ?_; rintro e w1 ⟨rfl, kk, rfl⟩))
                  go_roundw
                  case rel => exact ⟨k + 3, l ++ signL _, by omega, by go_num, val_str (str_sign' l _ _ hp), below_drewN hbel _, by show _ = _; rw [HE.out, HN2.out, map_end], by have := signL_len (hexZ (s[k+1]'hlt1).toNat * 16 + hexZ (s[k+2]'hlt2).toNat); simp only [List.length_append]; omega⟩
                  case measure => simp [intOf]; omega
        · have HN : Hid _ := escN_at_plain s k hlt hb
          have hbl := byte_le (s[k]'hlt)
          have hob : ∀ W : World, _ := fun W => one_byte W (s[k]'hlt).toNat (Int.natCast_nonneg _) hbl
          cases hp : plainZ (s[k]'hlt).toNat with
          | true =>
            go_wp2_with (first
              | (go_at_call 135; refine (l1Plain_any _ _ (Int.natCast_nonneg _) (byte_le _)).mono ?_; rintro e w1 ⟨rfl, rfl⟩)
              | (go_at_call 197; refine (l1Sign_any _ _ (Int.natCast_nonneg _) (byte_le _)).mono ?_; rintro e w1 ⟨rfl, kk, rfl⟩))
            go_roundw
            case rel => exact ⟨k + 1, l ++ signL (s[k]'hlt).toNat, by omega, by go_num, val_str (str_plain l _ hp), hbel.alloc hbel.size _, by show _ = _; rw [HE.out, HN.out, map_end], by have := signL_len (s[k]'hlt).toNat; simp only [List.length_append]; omega⟩
            case measure => simp [intOf]; omega
          | false =>
            go_wp2_with (first
              | (go_at_call 135; refine (l1Plain_any _ _ (Int.natCast_nonneg _) (byte_le _)).mono ?_; rintro e w1 ⟨rfl, rfl⟩)
              | (go_at_call 197; refine (l1Sign_any _ _ (Int.natCast_nonneg _) (byte_le _)).mono ?_; rintro e w1 ⟨rfl, kk, rfl⟩))
            go_roundw
            case rel => exact ⟨k + 1, l ++ signL (s[k]'hlt).toNat, by omega, by go_num, val_str (str_sign l _ hp), below_drewN hbel _, by show _ = _; rw [HE.out, HN.out, map_end], by have := signL_len (s[k]'hlt).toNat; simp only [List.length_append]; omega⟩
            case measure => simp [intOf]; omega
      · have e : s.data.toList.drop k = [] := List.drop_eq_nil_of_le (by simp; omega)
        have HE2 : Hid (escN s.data.toList = some l) := by show _ = _; rw [HE.out, e]; simp [escN]
        clear e
        go_wp2
        go_ret2
        exact ⟨ret2 (by unfold escS; rw [HL.out, HE2.out]) (by unfold escB; rw [HL.out, HE2.out]), hbel⟩
end Go.Proofs.YtboncolbijicfaaGreatDoor.EscL
