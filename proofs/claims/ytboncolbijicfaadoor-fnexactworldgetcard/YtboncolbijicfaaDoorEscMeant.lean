import Derived.Test.YtboncolbijicfaaDoorEscLeaf
namespace Go.Proofs.YtboncolbijicfaaDoor.EscL
open Go.RowKit Go.Proofs.YtboncolbijicfaaDoor.EscM

set_option maxRecDepth 100000 in
set_option maxHeartbeats 800000 in
theorem meantByte_any (s : ByteArray) (k : Nat) (w : World) (hk : k < s.size) (hs : s.size ≤ 60) :
    Calls Tryd.prog 83 #[.string s, .int .i64 k] w fun e w' => e = .returned (.tuple #[.int .u8 (meantZ (s.data.toList.drop k)).1, .int .i64 (meantZ (s.data.toList.drop k)).2]) ∧ Below w.heap.size w w' := by
  by_cases hb : ((s[k]'hk).toNat : Int) = 37
  · by_cases hl : s.size - k < 3
    · have HM : Hid _ := meant_short s k hk hb hl
      go_enter Tryd.func83, Tryd.ntmps83
      go_wp2
      go_ret2
      rw [HM.out]
      exact ⟨rfl, Below.refl _ _⟩
    · have HM : Hid _ := meant_sign s k (by omega) hb
      have hb1 : (k : Int) + 1 < (s.size : Int) := by omega
      have hb2 : (k : Int) + 2 < (s.size : Int) := by omega
      have hlt1 : k + 1 < s.size := by omega
      have hlt2 : k + 2 < s.size := by omega
      have hb5 : (0 : Int) ≤ (k : Int) + 1 := by omega
      have hb6 : (0 : Int) ≤ (k : Int) + 2 := by omega
      go_enter Tryd.func83, Tryd.ntmps83
      go_wp2
      have hw1 : IntKind.i64.wrap ((k : Int) + 1) = (k : Int) + 1 := IntWalk.i64_in _ (by omega)
      have hw2 : IntKind.i64.wrap ((k : Int) + 2) = (k : Int) + 2 := IntWalk.i64_in _ (by omega)
      go_region_with (go_at_call 93; refine (hexValue_any _ _ (Int.natCast_nonneg _) (byte_le _)).mono ?_; rintro e w' ⟨rfl, o, rfl⟩)
      all_goals
        obtain ⟨x1, x2⟩ := hexZ_bd (s[k+1]'hlt1).toNat
        obtain ⟨y1, y2⟩ := hexZ_bd (s[k+2]'hlt2).toNat
        go_wp2
        all_goals
          go_ret2
          refine ⟨?_, ?_⟩
          · rw [HM.out]
            split
            · first | rfl | (exfalso; omega)
            · first | rfl | (exfalso; omega)
          · exact ((((Below.refl _ _).drew).alloc (by simp) _).alloc (by simp) _)
  · have HM : Hid _ := meant_plain s k hk hb
    go_enter Tryd.func83, Tryd.ntmps83
    go_wp2
    go_ret2
    rw [HM.out]
    exact ⟨rfl, Below.refl _ _⟩

/-- append onto a row of the call's own, as a step of a region that draws its order -/
theorem step_append_own {P : Program} {ops : Array Oper} {o : Oper} {a : Act} {w : World} {K : Act → World → Prop} {Q : Exit → Act → World → Prop} {E : Prop}
    (hg : o.guard = none) (s x : Operand) (t : TypeId) (hop : o.op = Op.call { callee := Callee.builtin Builtin.append, args := #[s, x], argTypes := #[t, t] })
    (base : Nat) (e : TypeId) (i : TypeInfo) (z : Value) (size bytes : Nat) (h1 : P.underlying t = some (.slice e)) (h2 : P.info? e = some i) (h3 : i.zero = some z) (h4 : i.size = size) (h5 : i.bytes = bytes) (h6 : z.cells.size = size) (h7 : 0 < size)
    (v : Value) (n : Nat) (xs : List Value) (hs : a.eval s = v) (hown : w.ownsRow base e size v n xs)
    (ad : Addr) (m c : Nat) (news : List Value) (hx : a.eval x = .slice (some ad) m c) (hn : news.length = m * size) (hc : ∀ j u, news[j]? = some u → w.cell? (ad.add j) = some u) (h1c : ∀ u ∈ news, u.oneCell' = true)
    (b1 : n + m ≤ maxLen) (b2 : (n + m) * bytes ≤ 140737488355328) (hbase : base ≤ w.heap.size)
    (hK : ∀ v' w', w'.ownsRow base e size v' (n + m) (xs ++ news) → w.grownBy w' v.ownBlock → K (a.put o.dst v') w') :
    if Region.wanted o (yielded ops a.tmps) = true then Oper.wp P o a w K Q else E := by
  have hw : Region.wanted o (yielded ops a.tmps) = true := by simp [Region.wanted, hg]
  rw [if_pos hw]
  obtain ⟨v', w', hrun, r1, r2, _⟩ := run_append_own (P := P) w base t o.type e i z size bytes h1 h2 h3 h4 h5 h6 h7 v n xs hown ad m c news hn hc h1c b1 b2 hbase
  unfold Oper.wp
  simp [execOp, hop, resolve, invoke, builtin, hs, hx, hrun, Result.andThen]
  exact hK v' w' r1 r2

def cellsB (l : List UInt8) : List Value := l.map fun b => Value.int .u8 b.toNat
theorem cellsB_length (l : List UInt8) : (cellsB l).length = l.length := by simp [cellsB]
theorem cellsB_append (a b : List UInt8) : cellsB (a ++ b) = cellsB a ++ cellsB b := by simp [cellsB]

theorem Tryd.info8 : (Tryd.prog.info? 5).map (fun i => (i.zero, i.size, i.bytes)) = some (some (.int .u8 0), 1, 1) := by kernel_rfl

theorem own_of_block {w : World} {base : Nat} {v : Value} {e : TypeId} {n : Nat} {xs : List Value} (hown : w.ownsRow base e 1 v n xs) : ∀ k, v.ownBlock = some k → base ≤ k := by
  intro k hk
  obtain ⟨_, h | ⟨g, cap, cur, rfl, hb, _⟩⟩ := hown
  · rw [h.1] at hk; simp [Value.ownBlock] at hk
  · simp [Value.ownBlock] at hk; omega

set_option maxRecDepth 100000 in
set_option maxHeartbeats 800000 in
theorem appendMeant_plain (base : Nat) (v : Value) (l : List UInt8) (n : Int) (w : World) (h0 : 0 ≤ n) (h1 : n ≤ 255) (hl : l.length ≤ 1000) (hown : w.ownsRow base 5 1 v l.length (cellsB l)) (hbase : base ≤ w.heap.size) (hp : plainZ n = true) :
    Calls Tryd.prog 84 #[v, .int .u8 n] w fun e w' => ∃ v', e = .returned v' ∧ w'.ownsRow base 5 1 v' (l ++ [toB n]).length (cellsB (l ++ [toB n])) ∧ Below base w w' := by
  have hpp := place_plain n h0 h1
  rw [hp] at hpp
  have hpq : 0 ≤ placeFrom plainSigns n 0 := by simpa using hpp
  unfold plainSigns at hpq
  clear hpp
  obtain ⟨i0, hi, hz0, hz1, hz2⟩ := info_parts Tryd.info8
  go_enter Tryd.func84, Tryd.ntmps84
  go_wp2_with (first
    | (at_builtin; refine wpList_append_own _ rfl _ _ 79 rfl base 5 i0 (.int .u8 0) 1 1 Tryd.underlying79 hi hz0 hz1 hz2 rfl (by decide) _ _ _ rfl ((hown.alloc _).alloc _) ⟨w.heap.size + 1, 0, none⟩ 1 1 [.int .u8 n] rfl rfl ?c1 ?c2 ?c3 ?c4 ?c5 ?_)
    | (go_at_call 94; refine (signPlace_any _ _ _ (by omega) (by omega) (by decide) (by decide)).mono ?_; rintro e w' ⟨rfl, o, rfl⟩))
  case c1 =>
    intro j u hj
    match j, hj with
    | 0, hj => simp at hj; subst hj; simp [Addr.add]
  case c2 => intro u hu; simp at hu; subst hu; rfl
  case c3 => unfold maxLen; omega
  case c4 => omega
  case c5 => simp; omega
  intro v' w1 hown' hgrow _
  have HO : Hid _ := hown'
  have HG : Hid _ := hgrow
  clear hown' hgrow
  go_wp2
  go_ret
  refine ⟨v', rfl, ?_, ?_⟩
  · have e1 : (l ++ [toB n]).length = l.length + 1 := by simp
    have e2 : cellsB (l ++ [toB n]) = cellsB l ++ [.int .u8 n] := by rw [cellsB_append]; simp [cellsB, toB_toNat n h0 h1]
    rw [e1, e2]; exact HO.out
  · exact Below.grown (((Below.refl base w).alloc hbase _).alloc (by simp; omega) _) HG.out (by simp; omega) (own_of_block hown)
end Go.Proofs.YtboncolbijicfaaDoor.EscL
