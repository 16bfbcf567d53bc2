/- Several texts in one: EscLeaf, EscMeant, EscApp, EscNorm, EscLaws, EscSpec, ExS, DecMath, Cont, Rule1, HasT. -/
import Derived.Test.YtiennniclkbjlaaGreatDoorChecked
import Derived.Test.YtiennniclkbjlaaGreatDoorEscMath
import Derived.WalkKit
import Derived.WalkLawsBesides
import Derived.WalkSpells
import Derived.BigQuiet
import Derived.Deep.QuietTactic
import Derived.Outline
import Derived.Deep.RegionLaw
import Derived.Laws.IdiomStrings
import Derived.Test.YtiennniclkbjlaaGreatDoorStrsPk
import Derived.Laws.RangeAny
import Derived.Test.YtiennniclkbjlaaGreatDoorRuleMath
namespace Go.Proofs.YtiennniclkbjlaaGreatDoor.EscL
open Go.RowKit Go.Proofs.YtiennniclkbjlaaGreatDoor.EscM

theorem ret_int {k : IntKind} {a b : Int} (h : a = b) : Ending.returned (.int k a) = .returned (.int k b) := by rw [h]
theorem ret_bool {a b : Bool} (h : a = b) : Ending.returned (.bool a) = .returned (.bool b) := by rw [h]
theorem ret_str {a b : ByteArray} (h : a = b) : Ending.returned (.string a) = .returned (.string b) := by rw [h]

theorem l1Hex_any (n : Int) (w : World) (h0 : 0 ≤ n) (h1 : n ≤ 255) :
    Calls Tryz.prog 153 #[.int .u8 n] w fun e w' => e = .returned (.int .i64 (hexZ n)) ∧ w' = w := by
  go_enter Tryz.func153, Tryz.ntmps153
  go_wp2
  all_goals
    go_ret
    exact ⟨ret_int (by unfold hexZ; repeat' split <;> omega), rfl⟩

theorem l1Plain_any (n : Int) (w : World) (h0 : 0 ≤ n) (h1 : n ≤ 255) :
    Calls Tryz.prog 154 #[.int .u8 n] w fun e w' => e = .returned (.bool (plainZ n)) ∧ w' = w := by
  go_enter Tryz.func154, Tryz.ntmps154
  go_wp2
  all_goals
    go_ret
    refine ⟨ret_bool ?_, rfl⟩
    rw [Bool.eq_iff_iff]
    simp [plainZ]
    try omega

theorem byte_le (b : UInt8) : (b.toNat : Int) ≤ 255 := by have := b.toNat_lt; omega
theorem getElem_eq (s : ByteArray) (k : Nat) (h : k < s.size) : s[k]'h = s.data.toList[k]'(by simpa using h) := rfl
theorem drop_cons (s : ByteArray) (k : Nat) (h : k < s.size) : s.data.toList.drop k = s[k]'h :: s.data.toList.drop (k + 1) := by
  rw [List.drop_eq_getElem_cons (by simpa using h)]; rfl
theorem ascii_of {s : ByteArray} (h : s.data.toList.all (fun b => b.toNat < 128) = true) : ∀ i (hi : i < s.size), (s[i]'hi).toNat < 128 := by
  intro i hi
  have := List.all_eq_true.1 h (s[i]'hi) (by rw [getElem_eq]; exact List.getElem_mem _)
  simpa using this

set_option maxRecDepth 100000 in
set_option maxHeartbeats 400000 in
theorem signPlace_any (s : ByteArray) (n : Int) (w : World) (h0 : 0 ≤ n) (h1 : n ≤ 255) (_hs : s.size ≤ 1000) (hasc : s.data.toList.all (fun b => b.toNat < 128) = true) :
    Calls Tryz.prog 144 #[.string s, .int .u8 n] w fun e w' => e = .returned (.int .i64 (placeFrom s.data.toList n 0)) ∧ ∃ o, w' = w.alloc o := by
  have hascii := ascii_of hasc
  clear hasc
  go_enter Tryz.func144, Tryz.ntmps144
  go_wp2
  go_loopw [5] (fun _ wr => ∃ pos : Nat, pos ≤ s.size ∧ wr = w.iter s pos ∧ Hid (placeFrom s.data.toList n 0 = placeFrom (s.data.toList.drop pos) n pos))
    (fun _ wr => s.size - wr.iterPos w.heap.size)
  case atStart => exact ⟨0, Nat.zero_le _, rfl, rfl⟩
  case round =>
    obtain ⟨pos, hps, rfl, HI⟩ := hrel
    by_cases hp : pos < s.size
    · have h128 := hascii pos hp
      have hnext : ∀ ty, (Instr.next (.pointer (some ⟨w.heap.size, 0, none⟩)) true ty).run Tryz.prog (w.iter s pos) = _ := fun ty => run_next_ascii w s pos ty hp h128
      have HD : Hid (s.data.toList.drop pos = s[pos]'hp :: s.data.toList.drop (pos + 1)) := drop_cons s pos hp
      go_wp2
      · go_ret
        have he : ((s[pos]'hp).toNat : Int) = n := by simpa using ‹((s[pos]'hp).toNat == n) = true›
        refine ⟨ret_int ?_, _, rfl⟩
        rw [HI.out, HD.out, placeFrom, if_pos he]
      · have he : ¬ ((s[pos]'hp).toNat : Int) = n := by simpa using ‹((s[pos]'hp).toNat == n) = false›
        go_roundw
        case rel => exact ⟨pos + 1, by omega, rfl, by show _ = _; rw [HI.out, HD.out, placeFrom, if_neg he]⟩
        case measure => simp; omega
    · have hnext : ∀ ty, (Instr.next (.pointer (some ⟨w.heap.size, 0, none⟩)) true ty).run Tryz.prog (w.iter s pos) = _ := fun ty => run_next_end w s pos ty hp
      go_wp2
      go_ret
      refine ⟨ret_int ?_, _, rfl⟩
      rw [HI.out, List.drop_eq_nil_of_le (by simp; omega)]; rfl

theorem hexValue_any (n : Int) (w : World) (h0 : 0 ≤ n) (h1 : n ≤ 255) :
    Calls Tryz.prog 198 #[.int .u8 n] w fun e w' => e = .returned (.int .i64 (hexZ n)) ∧ ∃ o, w' = w.alloc o := by
  have HP : Hid (placeFrom hexSigns (if 97 ≤ n ∧ n ≤ 102 then n - 32 else n) 0 = hexZ n) := place_hex n h0 h1
  by_cases hc : 97 ≤ n ∧ n ≤ 102
  · obtain ⟨ha, hb⟩ := hc
    have HQ : Hid (placeFrom hexSigns (n - 32) 0 = hexZ n) := by have := HP.out; rwa [if_pos ⟨ha, hb⟩] at this
    go_enter Tryz.func198, Tryz.ntmps198
    go_wp2_with (go_at_call 144; refine (signPlace_any _ _ _ (by omega) (by omega) (by decide) (by decide)).mono ?_; rintro e w' ⟨rfl, o, rfl⟩)
    go_ret
    exact ⟨ret_int HQ.out, o, rfl⟩
  · have HQ : Hid (placeFrom hexSigns n 0 = hexZ n) := by have := HP.out; rwa [if_neg hc] at this
    by_cases ha : 97 ≤ n
    all_goals
      go_enter Tryz.func198, Tryz.ntmps198
      go_wp2_with (go_at_call 144; refine (signPlace_any _ _ _ (by omega) (by omega) (by decide) (by decide)).mono ?_; rintro e w' ⟨rfl, o, rfl⟩)
      go_ret
      exact ⟨ret_int HQ.out, o, rfl⟩

theorem l1Sign_any (n : Int) (w : World) (h0 : 0 ≤ n) (h1 : n ≤ 255) :
    Calls Tryz.prog 155 #[.int .i64 n] w fun e w' => e = .returned (.string ⟨#[37, toB (figZ (n / 16)), toB (figZ (n % 16))]⟩) ∧ ∃ k, w' = w.drewN k := by
  go_enter Tryz.func155, Tryz.ntmps155
  go_wp2
  go_quiet (fail)
  go_wp2
  go_ret
  refine ⟨ret_str ?_, nq, rfl⟩
  rw [hex_ext _ (by omega) (by omega), hex_ext _ (by omega) (by omega)]
  rfl

/-- what is meant at a place, and how many bytes mean it -/
def meantZ (l : List UInt8) : Int × Int :=
  match l with
  | b :: h :: l :: _ => if b ≠ 37 then (b.toNat, 1) else if hexZ h.toNat < 0 ∨ hexZ l.toNat < 0 then (0, 0) else (hexZ h.toNat * 16 + hexZ l.toNat, 3)
  | b :: _ => if b ≠ 37 then (b.toNat, 1) else (0, 0)
  | [] => (0, 0)

theorem ne37 {b : UInt8} : (b ≠ 37) ↔ ((b.toNat : Int) ≠ 37) := by
  constructor
  · intro h e; exact h (UInt8.toNat.inj (by simp; omega))
  · intro h e; subst e; exact h rfl

theorem meant_plain (s : ByteArray) (k : Nat) (h : k < s.size) (hb : ((s[k]'h).toNat : Int) ≠ 37) : meantZ (s.data.toList.drop k) = (((s[k]'h).toNat : Int), 1) := by
  rw [drop_cons s k h]
  have := ne37.2 hb
  rcases s.data.toList.drop (k + 1) with _ | ⟨x, _ | ⟨y, r⟩⟩ <;> simp [meantZ, this]
theorem meant_short (s : ByteArray) (k : Nat) (h : k < s.size) (hb : ((s[k]'h).toNat : Int) = 37) (hl : s.size - k < 3) : meantZ (s.data.toList.drop k) = (0, 0) := by
  rw [drop_cons s k h]
  have h37 : s[k]'h = 37 := UInt8.toNat.inj (by simp; omega)
  have hlen : (s.data.toList.drop (k + 1)).length < 2 := by simp; omega
  rcases hh : s.data.toList.drop (k + 1) with _ | ⟨x, _ | ⟨y, r⟩⟩
  · simp [meantZ, h37]
  · simp [meantZ, h37]
  · rw [hh] at hlen; simp only [List.length_cons] at hlen; omega
theorem meant_sign (s : ByteArray) (k : Nat) (h : k + 2 < s.size) (hb : ((s[k]'(by omega)).toNat : Int) = 37) :
    meantZ (s.data.toList.drop k) = if hexZ (s[k+1]'(by omega)).toNat < 0 ∨ hexZ (s[k+2]'h).toNat < 0 then (0, 0) else (hexZ (s[k+1]'(by omega)).toNat * 16 + hexZ (s[k+2]'h).toNat, 3) := by
  rw [drop_cons s k (by omega), drop_cons s (k+1) (by omega), drop_cons s (k + 2) h]
  have h37 : s[k]'(by omega) = 37 := UInt8.toNat.inj (by simp; omega)
  simp [meantZ, h37]

end Go.Proofs.YtiennniclkbjlaaGreatDoor.EscL
namespace Go.Proofs.YtiennniclkbjlaaGreatDoor.EscL
open Go.RowKit Go.Proofs.YtiennniclkbjlaaGreatDoor.EscM

set_option maxRecDepth 100000 in
set_option maxHeartbeats 800000 in
theorem meantByte_any (s : ByteArray) (k : Nat) (w : World) (hk : k < s.size) (hs : s.size ≤ 60) :
    Calls Tryz.prog 177 #[.string s, .int .i64 k] w fun e w' => e = .returned (.tuple #[.int .u8 (meantZ (s.data.toList.drop k)).1, .int .i64 (meantZ (s.data.toList.drop k)).2]) ∧ Below w.heap.size w w' := by
  by_cases hb : ((s[k]'hk).toNat : Int) = 37
  · by_cases hl : s.size - k < 3
    · have HM : Hid _ := meant_short s k hk hb hl
      go_enter Tryz.func177, Tryz.ntmps177
      go_wp2
      go_ret2
      rw [HM.out]
      exact ⟨rfl, Below.refl _ _⟩
    · have HM : Hid _ := meant_sign s k (by omega) hb
      have hb1 : (k : Int) + 1 < (s.size : Int) := by omega
      have hb2 : (k : Int) + 2 < (s.size : Int) := by omega
      have hlt1 : k + 1 < s.size := by omega
      have hlt2 : k + 2 < s.size := by omega
      have hb5 : (0 : Int) ≤ (k : Int) + 1 := by omega
      have hb6 : (0 : Int) ≤ (k : Int) + 2 := by omega
      go_enter Tryz.func177, Tryz.ntmps177
      go_wp2
      have hw1 : IntKind.i64.wrap ((k : Int) + 1) = (k : Int) + 1 := IntWalk.i64_in _ (by omega)
      have hw2 : IntKind.i64.wrap ((k : Int) + 2) = (k : Int) + 2 := IntWalk.i64_in _ (by omega)
      go_region_with (go_at_call 198; refine (hexValue_any _ _ (Int.natCast_nonneg _) (byte_le _)).mono ?_; rintro e w' ⟨rfl, o, rfl⟩)
      all_goals
        obtain ⟨x1, x2⟩ := hexZ_bd (s[k+1]'hlt1).toNat
        obtain ⟨y1, y2⟩ := hexZ_bd (s[k+2]'hlt2).toNat
        go_wp2
        all_goals
          go_ret2
          refine ⟨?_, ?_⟩
          · rw [HM.out]
            split
            · first | rfl | (exfalso; omega)
            · first | rfl | (exfalso; omega)
          · exact ((((Below.refl _ _).drew).alloc (by simp) _).alloc (by simp) _)
  · have HM : Hid _ := meant_plain s k hk hb
    go_enter Tryz.func177, Tryz.ntmps177
    go_wp2
    go_ret2
    rw [HM.out]
    exact ⟨rfl, Below.refl _ _⟩

/-- append onto a row of the call's own, as a step of a region that draws its order -/
theorem step_append_own {P : Program} {ops : Array Oper} {o : Oper} {a : Act} {w : World} {K : Act → World → Prop} {Q : Exit → Act → World → Prop} {E : Prop}
    (hg : o.guard = none) (s x : Operand) (t : TypeId) (hop : o.op = Op.call { callee := Callee.builtin Builtin.append, args := #[s, x], argTypes := #[t, t] })
    (base : Nat) (e : TypeId) (i : TypeInfo) (z : Value) (size bytes : Nat) (h1 : P.underlying t = some (.slice e)) (h2 : P.info? e = some i) (h3 : i.zero = some z) (h4 : i.size = size) (h5 : i.bytes = bytes) (h6 : z.cells.size = size) (h7 : 0 < size)
    (v : Value) (n : Nat) (xs : List Value) (hs : a.eval s = v) (hown : w.ownsRow base e size v n xs)
    (ad : Addr) (m c : Nat) (news : List Value) (hx : a.eval x = .slice (some ad) m c) (hn : news.length = m * size) (hc : ∀ j u, news[j]? = some u → w.cell? (ad.add j) = some u) (h1c : ∀ u ∈ news, u.oneCell' = true)
    (b1 : n + m ≤ maxLen) (b2 : (n + m) * bytes ≤ 140737488355328) (hbase : base ≤ w.heap.size)
    (hK : ∀ v' w', w'.ownsRow base e size v' (n + m) (xs ++ news) → w.grownBy w' v.ownBlock → K (a.put o.dst v') w') :
    if Region.wanted o (yielded ops a.tmps) = true then Oper.wp P o a w K Q else E := by
  have hw : Region.wanted o (yielded ops a.tmps) = true := by simp [Region.wanted, hg]
  rw [if_pos hw]
  obtain ⟨v', w', hrun, r1, r2, _⟩ := run_append_own (P := P) w base t o.type e i z size bytes h1 h2 h3 h4 h5 h6 h7 v n xs hown ad m c news hn hc h1c b1 b2 hbase
  unfold Oper.wp
  simp [execOp, hop, resolve, invoke, builtin, hs, hx, hrun, Result.andThen]
  exact hK v' w' r1 r2

def cellsB (l : List UInt8) : List Value := l.map fun b => Value.int .u8 b.toNat
theorem cellsB_length (l : List UInt8) : (cellsB l).length = l.length := by simp [cellsB]
theorem cellsB_append (a b : List UInt8) : cellsB (a ++ b) = cellsB a ++ cellsB b := by simp [cellsB]

theorem Tryz.info8 : (Tryz.prog.info? 5).map (fun i => (i.zero, i.size, i.bytes)) = some (some (.int .u8 0), 1, 1) := by kernel_rfl

theorem own_of_block {w : World} {base : Nat} {v : Value} {e : TypeId} {n : Nat} {xs : List Value} (hown : w.ownsRow base e 1 v n xs) : ∀ k, v.ownBlock = some k → base ≤ k := by
  intro k hk
  obtain ⟨_, h | ⟨g, cap, cur, rfl, hb, _⟩⟩ := hown
  · rw [h.1] at hk; simp [Value.ownBlock] at hk
  · simp [Value.ownBlock] at hk; omega

set_option maxRecDepth 100000 in
set_option maxHeartbeats 800000 in
theorem appendMeant_plain (base : Nat) (v : Value) (l : List UInt8) (n : Int) (w : World) (h0 : 0 ≤ n) (h1 : n ≤ 255) (hl : l.length ≤ 1000) (hown : w.ownsRow base 5 1 v l.length (cellsB l)) (hbase : base ≤ w.heap.size) (hp : plainZ n = true) :
    Calls Tryz.prog 178 #[v, .int .u8 n] w fun e w' => ∃ v', e = .returned v' ∧ w'.ownsRow base 5 1 v' (l ++ [toB n]).length (cellsB (l ++ [toB n])) ∧ Below base w w' := by
  have hpp := place_plain n h0 h1
  rw [hp] at hpp
  have hpq : 0 ≤ placeFrom plainSigns n 0 := by simpa using hpp
  unfold plainSigns at hpq
  clear hpp
  obtain ⟨i0, hi, hz0, hz1, hz2⟩ := info_parts Tryz.info8
  go_enter Tryz.func178, Tryz.ntmps178
  go_wp2_with (first
    | (at_builtin; refine wpList_append_own _ rfl _ _ 22 rfl base 5 i0 (.int .u8 0) 1 1 Tryz.underlying22 hi hz0 hz1 hz2 rfl (by decide) _ _ _ rfl ((hown.alloc _).alloc _) ⟨w.heap.size + 1, 0, none⟩ 1 1 [.int .u8 n] rfl rfl ?c1 ?c2 ?c3 ?c4 ?c5 ?_)
    | (go_at_call 144; refine (signPlace_any _ _ _ (by omega) (by omega) (by decide) (by decide)).mono ?_; rintro e w' ⟨rfl, o, rfl⟩))
  case c1 =>
    intro j u hj
    match j, hj with
    | 0, hj => simp at hj; subst hj; simp [Addr.add]
  case c2 => intro u hu; simp at hu; subst hu; rfl
  case c3 => unfold maxLen; omega
  case c4 => omega
  case c5 => simp; omega
  intro v' w1 hown' hgrow _
  have HO : Hid _ := hown'
  have HG : Hid _ := hgrow
  clear hown' hgrow
  go_wp2
  go_ret
  refine ⟨v', rfl, ?_, ?_⟩
  · have e1 : (l ++ [toB n]).length = l.length + 1 := by simp
    have e2 : cellsB (l ++ [toB n]) = cellsB l ++ [.int .u8 n] := by rw [cellsB_append]; simp [cellsB, toB_toNat n h0 h1]
    rw [e1, e2]; exact HO.out
  · exact Below.grown (((Below.refl base w).alloc hbase _).alloc (by simp; omega) _) HG.out (by simp; omega) (own_of_block hown)
end Go.Proofs.YtiennniclkbjlaaGreatDoor.EscL
namespace Go.Proofs.YtiennniclkbjlaaGreatDoor.EscL
open Go.RowKit Go.Proofs.YtiennniclkbjlaaGreatDoor.EscM

theorem ownsRow_drew {w : World} {base : Nat} {e : TypeId} {size : Nat} {v : Value} {n : Nat} {xs : List Value} (h : w.ownsRow base e size v n xs) : w.drew.ownsRow base e size v n xs := h

theorem hex_idx (q : Int) (h0 : 0 ≤ q) (h1 : q < 16) (wx : World) :
    (Instr.index 9 (.string ⟨#[48, 49, 50, 51, 52, 53, 54, 55, 56, 57, 65, 66, 67, 68, 69, 70]⟩) (.int .u8 q)).run Tryz.prog wx = .ok (.int .u8 (figZ q)) wx := by
  have hh : ∀ q : Int, 0 ≤ q → q < 16 → ∀ h : 0 ≤ q ∧ q < ((⟨#[48, 49, 50, 51, 52, 53, 54, 55, 56, 57, 65, 66, 67, 68, 69, 70]⟩ : ByteArray).size : Int), (((⟨#[48, 49, 50, 51, 52, 53, 54, 55, 56, 57, 65, 66, 67, 68, 69, 70]⟩ : ByteArray)[q.toNat]'(by omega)).toNat : Int) = figZ q := by
    intro q g0 g1 h
    have := fig_hex q g0 g1
    rw [← this]
    have e : hexSigns.getD q.toNat 0 = hexSigns[q.toNat]'(by simp [hexSigns]; omega) := by
      rw [List.getD_eq_getElem?_getD, List.getElem?_eq_getElem (by simp [hexSigns]; omega)]; rfl
    rw [e]; rfl
  have hcond : 0 ≤ q ∧ q < ((⟨#[48, 49, 50, 51, 52, 53, 54, 55, 56, 57, 65, 66, 67, 68, 69, 70]⟩ : ByteArray).size : Int) := ⟨h0, h1⟩
  rw [run_index_string _ _ _ _ _ Tryz.underlying9, dif_pos hcond, hh q h0 h1 hcond]

set_option maxRecDepth 100000 in
set_option maxHeartbeats 800000 in
theorem appendMeant_sign (base : Nat) (v : Value) (l : List UInt8) (n : Int) (w : World) (h0 : 0 ≤ n) (h1 : n ≤ 255) (hl : l.length ≤ 1000) (hown : w.ownsRow base 5 1 v l.length (cellsB l)) (hbase : base ≤ w.heap.size) (hp : plainZ n = false) :
    Calls Tryz.prog 178 #[v, .int .u8 n] w fun e w' => ∃ v', e = .returned v' ∧ w'.ownsRow base 5 1 v' (l ++ [37, toB (figZ (n / 16)), toB (figZ (n % 16))]).length (cellsB (l ++ [37, toB (figZ (n / 16)), toB (figZ (n % 16))])) ∧ Below base w w' := by
  have hpp := place_plain n h0 h1
  rw [hp] at hpp
  have hpq : ¬ 0 ≤ placeFrom plainSigns n 0 := by simpa using hpp
  unfold plainSigns at hpq
  clear hpp
  obtain ⟨i0, hi, hz0, hz1, hz2⟩ := info_parts Tryz.info8
  go_enter Tryz.func178, Tryz.ntmps178
  go_wp2_with (go_at_call 144; refine (signPlace_any _ _ _ (by omega) (by omega) (by decide) (by decide)).mono ?_; rintro e w' ⟨rfl, o, rfl⟩)
  have hq1 : IntKind.u8.wrap (n.tdiv 16) = n / 16 := by rw [IntKind.wrap_u8, Int.tdiv_eq_ediv_of_nonneg h0]; omega
  have hq2 : n.tmod 16 = n % 16 := Int.tmod_eq_emod_of_nonneg h0
  have hq3 : n / 16 < 16 := by omega
  have hq4 : n % 16 < 16 := by omega
  have hx1 : ∀ wx, (Instr.index 9 (.string ⟨#[48, 49, 50, 51, 52, 53, 54, 55, 56, 57, 65, 66, 67, 68, 69, 70]⟩) (.int .u8 (n / 16))).run Tryz.prog wx = .ok (.int .u8 (figZ (n / 16))) wx := fun wx => hex_idx _ (by omega) (by omega) wx
  have hx2 : ∀ wx, (Instr.index 9 (.string ⟨#[48, 49, 50, 51, 52, 53, 54, 55, 56, 57, 65, 66, 67, 68, 69, 70]⟩) (.int .u8 (n % 16))).run Tryz.prog wx = .ok (.int .u8 (figZ (n % 16))) wx := fun wx => hex_idx _ (by omega) (by omega) wx
  have hc1 : ∀ (W : World) (x y : Int) (wx : World), wx.heap = (W.alloc (.cells #[.int .u8 37, .int .u8 x, .int .u8 y] 5)).heap → ∀ j u, [Value.int .u8 37, .int .u8 x, .int .u8 y][j]? = some u → wx.cell? ((⟨W.heap.size, 0, none⟩ : Addr).add j) = some u := by
    intro W x y wx hwx j u hj
    have e : ∀ p, wx.cell? p = (W.alloc (.cells #[.int .u8 37, .int .u8 x, .int .u8 y] 5)).cell? p := fun p => by unfold World.cell?; rw [hwx]
    rw [e]
    match j, hj with
    | 0, hj => simp at hj; subst hj; simp [Addr.add]
    | 1, hj => simp at hj; subst hj; simp [Addr.add]
    | 2, hj => simp at hj; subst hj; simp [Addr.add]
  have hc2 : ∀ x y : Int, ∀ u ∈ [Value.int .u8 37, .int .u8 x, .int .u8 y], u.oneCell' = true := by
    intro x y u hu; simp at hu; rcases hu with rfl | rfl | rfl <;> rfl
  have HO : Hid (w.ownsRow base 5 1 v l.length (cellsB l)) := hown
  go_region_law (refine step_append_own rfl (.tmp 12) (.tmp 19) 22 rfl base 5 i0 (.int .u8 0) 1 1 Tryz.underlying22 hi hz0 hz1 hz2 rfl (by decide) v l.length (cellsB l) (by simp [Act.eval]) (by exact ownsRow_drew ((HO.out.alloc _).alloc _)) ⟨(w.alloc o).heap.size, 0, none⟩ 3 3 [.int .u8 37, .int .u8 (figZ (n / 16)), .int .u8 (figZ (n % 16))] (by simp [Act.eval]) rfl (by exact hc1 (w.alloc o) _ _ _ rfl) (hc2 _ _) (by unfold maxLen; omega) (by omega) (by simp; omega) ?_; intro v' w1 hown' hgrow)
  all_goals
    have HO' : Hid _ := hown'
    have HG : Hid _ := hgrow
    clear hown' hgrow
    go_wp2
    go_ret
    refine ⟨v', rfl, ?_, ?_⟩
    · have e1 : (l ++ [37, toB (figZ (n / 16)), toB (figZ (n % 16))]).length = l.length + 3 := by simp
      have e2 : cellsB (l ++ [37, toB (figZ (n / 16)), toB (figZ (n % 16))]) = cellsB l ++ [.int .u8 37, .int .u8 (figZ (n / 16)), .int .u8 (figZ (n % 16))] := by
        have b1 := figZ_bd (n / 16) (by omega) (by omega)
        have b2 := figZ_bd (n % 16) (by omega) (by omega)
        rw [cellsB_append]; simp [cellsB, toB_toNat _ (show 0 ≤ figZ (n / 16) by omega) (by omega), toB_toNat _ (show 0 ≤ figZ (n % 16) by omega) (by omega)]
      rw [e1, e2]; exact HO'.out
    · exact Below.grown (((Below.refl base w).alloc hbase _).drew.alloc (by simp; omega) _) HG.out (by simp; omega) (own_of_block hown)

theorem appendMeant_any (base : Nat) (v : Value) (l : List UInt8) (n : Int) (w : World) (h0 : 0 ≤ n) (h1 : n ≤ 255) (hl : l.length ≤ 1000) (hown : w.ownsRow base 5 1 v l.length (cellsB l)) (hbase : base ≤ w.heap.size) :
    Calls Tryz.prog 178 #[v, .int .u8 n] w fun e w' => ∃ v', e = .returned v' ∧ w'.ownsRow base 5 1 v' (l ++ signL n).length (cellsB (l ++ signL n)) ∧ Below base w w' := by
  unfold signL
  cases hp : plainZ n with
  | true => exact appendMeant_plain base v l n w h0 h1 hl hown hbase hp
  | false => exact appendMeant_sign base v l n w h0 h1 hl hown hbase hp
end Go.Proofs.YtiennniclkbjlaaGreatDoor.EscL
namespace Go.Proofs.YtiennniclkbjlaaGreatDoor.EscL
open Go.RowKit Go.Proofs.YtiennniclkbjlaaGreatDoor.EscM

theorem signL_len (n : Int) : (signL n).length ≤ 3 := by unfold signL; split <;> simp

theorem escN_plain (b : UInt8) (r : List UInt8) (h : b ≠ 37) : escN (b :: r) = (escN r).map (signL b.toNat ++ ·) := by
  rw [escN.eq_def]; simp [h]
theorem escN_sign (h l : UInt8) (r : List UInt8) : escN (37 :: h :: l :: r) = if hexZ h.toNat < 0 ∨ hexZ l.toNat < 0 then none else (escN r).map (signL (hexZ h.toNat * 16 + hexZ l.toNat) ++ ·) := by
  rw [escN.eq_def]; simp
theorem escN_short0 : escN [37] = none := by rw [escN.eq_def]; simp
theorem escN_short1 (x : UInt8) : escN [37, x] = none := by rw [escN.eq_def]; simp

/-- what is meant at a place says how the rest goes on -/
theorem meant_step (L : List UInt8) (hne : L ≠ []) :
    (meantZ L = (0, 0) ∧ escN L = none) ∨
    ∃ (b : Int) (m : Nat), meantZ L = (b, (m : Int)) ∧ 1 ≤ m ∧ m ≤ L.length ∧ 0 ≤ b ∧ b ≤ 255 ∧ escN L = (escN (L.drop m)).map (signL b ++ ·) := by
  rcases L with _ | ⟨b, r⟩
  · exact absurd rfl hne
  · by_cases hb : b = 37
    · subst hb
      rcases r with _ | ⟨x, _ | ⟨y, r⟩⟩
      · exact Or.inl ⟨by simp [meantZ], escN_short0⟩
      · exact Or.inl ⟨by simp [meantZ], escN_short1 x⟩
      · rw [escN_sign]
        have hx := hexZ_bd x.toNat
        have hy := hexZ_bd y.toNat
        by_cases hh : hexZ x.toNat < 0 ∨ hexZ y.toNat < 0
        · left; simp [meantZ, hh]
        · right
          refine ⟨hexZ x.toNat * 16 + hexZ y.toNat, 3, by simp [meantZ, hh], by omega, by simp, by omega, by omega, ?_⟩
          rw [if_neg hh]; rfl
    · right
      refine ⟨b.toNat, 1, ?_, by omega, by simp, by omega, byte_le b, ?_⟩
      · rcases r with _ | ⟨x, _ | ⟨y, r⟩⟩ <;> simp [meantZ, hb]
      · rw [escN_plain b r hb]; rfl

theorem own_below {w w' : World} {base : Nat} {v : Value} {n : Nat} {xs : List Value} (h : w.ownsRow base 5 1 v n xs) (hb : Below w.heap.size w w') : w'.ownsRow base 5 1 v n xs := by
  obtain ⟨h1, h2 | ⟨g, cap, cur, hv, hg, hc, r⟩⟩ := h
  · exact ⟨h1, Or.inl h2⟩
  · refine ⟨h1, Or.inr ⟨g, cap, cur, hv, hg, ?_, r⟩⟩
    rw [hb.block g (Array.getElem?_eq_some_iff.1 hc).1]; exact hc

theorem string_own {w : World} {base : Nat} {v : Value} {l : List UInt8} (h : w.ownsRow base 5 1 v l.length (cellsB l)) :
    (convert 22 9 v).run Tryz.prog w = .ok (.string ⟨l.toArray⟩) w := by
  have h' := h
  obtain ⟨_, ⟨rfl, hn⟩ | ⟨g, cap, cur, rfl, _⟩⟩ := h
  · have : l = [] := List.eq_nil_of_length_eq_zero hn
    subst this
    rw [run_convert_bytes_string w _ _ _ none 0 0 Tryz.underlying22 Tryz.underlying5 Tryz.underlying9]
    rfl
  · refine run_convert_bytes_back w _ _ _ _ cap l Tryz.underlying22 Tryz.underlying5 Tryz.underlying9 ?_
    intro j hj
    have := h'.cells (g := g) rfl j (.int .u8 (l[j].toNat : Int)) (by simp [cellsB, List.getElem?_eq_getElem hj])
    exact this

theorem ret2 {a b : ByteArray} {x y : Bool} (h : a = b) (h' : x = y) : Ending.returned (.tuple #[.string a, .bool x]) = .returned (.tuple #[.string b, .bool y]) := by rw [h, h']

theorem escF_long (s : ByteArray) (h : 60 < s.size) : escF s.data.toList = ([], false) := by unfold escF; rw [if_pos (by simpa using h)]
theorem escF_of (s : ByteArray) (h : s.size ≤ 60) : escF s.data.toList = match escN s.data.toList with | some x => (x, true) | none => ([], false) := by unfold escF; rw [if_neg (by simp; omega)]; cases escN s.data.toList <;> rfl

set_option maxRecDepth 100000 in
set_option maxHeartbeats 1600000 in
theorem implEsc_any (s : ByteArray) (w : World) (hs : s.size ≤ maxLen) :
    Calls Tryz.prog 152 #[.string s] w fun e w' => e = .returned (.tuple #[.string (escS s), .bool (escB s)]) ∧ Below w.heap.size w w' := by
  unfold maxLen at hs
  by_cases hlong : 60 < s.size
  · have HL : Hid _ := escF_long s hlong
    go_enter Tryz.func152, Tryz.ntmps152
    go_wp2
    go_ret2
    exact ⟨ret2 (by unfold escS; rw [HL.out]) (by unfold escB; rw [HL.out]), Below.refl _ _⟩
  · have HL : Hid _ := escF_of s (by omega)
    have hs60 : s.size ≤ 60 := by omega
    go_enter Tryz.func152, Tryz.ntmps152
    go_wp2
    go_loopw [4, 5] (fun v i wr => ∃ (k : Nat) (l : List UInt8), k ≤ s.size ∧ i = .int .i64 k ∧ Hid (wr.ownsRow w.heap.size 5 1 v l.length (cellsB l)) ∧ Below w.heap.size w wr ∧
        Hid (escN s.data.toList = (escN (s.data.toList.drop k)).map (l ++ ·)) ∧ l.length ≤ 3 * k)
      (fun _ i _ => s.size - (intOf i).toNat)
    case atStart => exact ⟨0, [], Nat.zero_le _, rfl, World.ownsRow_nil _ _ _ _, Below.refl _ _, by show _ = _; simp, by simp⟩
    case round =>
      obtain ⟨k, l, hk, rfl, HO, hbel, HE, hl⟩ := hrel
      by_cases hlt : k < s.size
      · have hne : s.data.toList.drop k ≠ [] := by intro e; have := congrArg List.length e; simp at this; omega
        rcases meant_step _ hne with ⟨hm, hn⟩ | ⟨b, m, hm, hm1, hm2, hb0, hb1, hn⟩
        · have HM : Hid _ := hm
          have HN : Hid _ := hn
          clear hm hn hne
          go_wp2_with (go_at_call 177; refine (meantByte_any s k _ hlt hs60).mono ?_; rintro e w1 ⟨rfl, hb1⟩; rw [HM.out])
          go_ret2
          exact ⟨ret2 (by unfold escS; rw [HL.out, HE.out, HN.out]; rfl) (by unfold escB; rw [HL.out, HE.out, HN.out]; rfl), hbel.trans (hb1.mono hbel.size)⟩
        · have HM : Hid _ := hm
          have HN : Hid _ := hn
          have hm3 : k + m ≤ s.size := by simp at hm2; omega
          have hm0 : ((m : Int) == 0) = false := by simp; omega
          clear hm hn hne hm2
          go_wp2_with (go_at_call 177; refine (meantByte_any s k _ hlt hs60).mono ?_; rintro e w1 ⟨rfl, hbel1⟩; rw [HM.out])
          have hO1 : w1.ownsRow w.heap.size 5 1 u4 l.length (cellsB l) := own_below HO.out hbel1
          have hsz1 : w.heap.size ≤ w1.heap.size := Nat.le_trans hbel.size hbel1.size
          refine (appendMeant_any w.heap.size u4 l b w1 hb0 hb1 (by omega) hO1 hsz1).mono ?_
          rintro e w2 ⟨v', rfl, hO2, hbel2⟩
          have HO2 : Hid _ := hO2
          have hsl := signL_len b
          clear hO1 hO2
          go_wp2
          go_roundw
          case rel =>
            refine ⟨k + m, l ++ signL b, by omega, by go_num, HO2.out, ?_, ?_, ?_⟩
            · exact (hbel.trans (hbel1.mono hbel.size)).trans hbel2
            · show _ = _
              rw [HE.out, HN.out, List.drop_drop]
              cases escN (List.drop (k + m) s.data.toList) <;> simp
            · simp only [List.length_append]; omega
          case measure => simp [intOf]; omega
      · have e : s.data.toList.drop k = [] := List.drop_eq_nil_of_le (by simp; omega)
        have HE2 : Hid (escN s.data.toList = some l) := by show _ = _; rw [HE.out, e]; simp [escN]
        have hstr := string_own HO.out
        clear e
        go_wp2
        go_ret2
        exact ⟨ret2 (by unfold escS; rw [HL.out, HE2.out]) (by unfold escB; rw [HL.out, HE2.out]), hbel⟩
end Go.Proofs.YtiennniclkbjlaaGreatDoor.EscL
/- What holds of EscNorm as a function on lists. -/
namespace Go.Proofs.YtiennniclkbjlaaGreatDoor.EscL
open Go.Proofs.YtiennniclkbjlaaGreatDoor.EscM

theorem plain_ne (n : Int) (hp : plainZ n = true) (h0 : 0 ≤ n) (h1 : n ≤ 255) : toB n ≠ 37 := by
  intro e
  have := toB_toNat n h0 h1
  rw [e] at this
  have e37 : ((37 : UInt8).toNat : Int) = 37 := rfl
  rw [e37] at this
  subst this
  exact absurd hp (by decide)
theorem hex_fig (q : Int) (h0 : 0 ≤ q) (h1 : q < 16) : hexZ (figZ q) = q := by unfold figZ hexZ; repeat' split <;> omega
theorem toB_inv (b : UInt8) : toB b.toNat = b := by unfold toB; simp

/-- what is written of a byte is read as that byte, whatever follows -/
theorem escN_signL (n : Int) (h0 : 0 ≤ n) (h1 : n ≤ 255) (r : List UInt8) : escN (signL n ++ r) = (escN r).map (signL n ++ ·) := by
  unfold signL
  cases hp : plainZ n with
  | true =>
    simp only [if_true, List.singleton_append]
    rw [escN_plain _ _ (plain_ne n hp h0 h1), toB_toNat n h0 h1]
    simp [signL, hp]
  | false =>
    have b1 := figZ_bd (n / 16) (by omega) (by omega)
    have b2 := figZ_bd (n % 16) (by omega) (by omega)
    simp only [Bool.false_eq_true, if_false, List.cons_append, List.nil_append]
    rw [escN_sign, toB_toNat _ (show 0 ≤ figZ (n / 16) by omega) (by omega), toB_toNat _ (show 0 ≤ figZ (n % 16) by omega) (by omega), hex_fig _ (by omega) (by omega), hex_fig _ (by omega) (by omega), if_neg (by omega)]
    rw [show n / 16 * 16 + n % 16 = n by omega]
    simp [signL, hp]

/-- a text's reading, by induction over what is meant -/
theorem esc_induct {p : List UInt8 → List UInt8 → Prop} (h0 : p [] []) (h1 : ∀ L b m x, meantZ L = (b, ((m : Nat) : Int)) → 1 ≤ m → m ≤ L.length → 0 ≤ b → b ≤ 255 → escN (L.drop m) = some x → p (L.drop m) x → p L (signL b ++ x)) :
    ∀ (n : Nat) (L x : List UInt8), L.length ≤ n → escN L = some x → p L x := by
  intro n
  induction n with
  | zero =>
    intro L x hl h
    have : L = [] := List.eq_nil_of_length_eq_zero (by omega)
    subst this
    simp [escN] at h; subst h; exact h0
  | succ n ih =>
    intro L x hl h
    by_cases hne : L = []
    · subst hne; simp [escN] at h; subst h; exact h0
    · rcases meant_step L hne with ⟨_, hn⟩ | ⟨b, m, hm, hm1, hm2, hb0, hb1, hn⟩
      · rw [hn] at h; cases h
      · rw [hn] at h
        cases hx : escN (L.drop m) with
        | none => rw [hx] at h; cases h
        | some y =>
          rw [hx] at h
          simp at h; subst h
          exact h1 L b m y hm hm1 hm2 hb0 hb1 hx (ih _ _ (by simp; omega) hx)

theorem escN_twice {L x : List UInt8} (h : escN L = some x) : escN x = some x := by
  refine esc_induct (p := fun _ x => escN x = some x) (by simp [escN]) ?_ L.length L x (Nat.le_refl _) h
  intro L b m x _ _ _ hb0 hb1 _ ih
  rw [escN_signL b hb0 hb1, ih]; rfl

theorem escN_len {L x : List UInt8} (h : escN L = some x) : x.length ≤ 3 * L.length := by
  refine esc_induct (p := fun L x => x.length ≤ 3 * L.length) (by simp) ?_ L.length L x (Nat.le_refl _) h
  intro L b m x _ hm1 hm2 _ _ _ ih
  have := signL_len b
  simp at ih ⊢; omega

theorem escB_true {s : ByteArray} (h : escB s = true) : s.size ≤ 60 ∧ ∃ x, escN s.data.toList = some x ∧ escS s = ⟨x.toArray⟩ := by
  unfold escB escF at h
  split at h
  · cases h
  · rename_i hl
    cases hx : escN s.data.toList with
    | none => rw [hx] at h; cases h
    | some x => exact ⟨by simpa using hl, x, rfl, by unfold escS escF; rw [if_neg hl, hx]⟩
theorem escB_false {s : ByteArray} (h : escB s = false) : escS s = ⟨#[]⟩ := by
  unfold escB escF at h
  unfold escS escF
  split at h
  · rename_i hl; rw [if_pos hl]
  · rename_i hl
    rw [if_neg hl]
    cases hx : escN s.data.toList with
    | none => rfl
    | some x => rw [hx] at h; cases h
theorem escS_size (s : ByteArray) : (escS s).size ≤ 180 := by
  cases h : escB s with
  | true =>
    obtain ⟨h60, x, hx, he⟩ := escB_true h
    have := escN_len hx
    rw [he]
    simp at this
    show x.toArray.size ≤ 180
    simp; omega
  | false => rw [escB_false h]; decide

theorem esc_twice (s : ByteArray) (h : escB s = true) (h60 : (escS s).size ≤ 60) : escS (escS s) = escS s ∧ escB (escS s) = true := by
  obtain ⟨_, x, hx, he⟩ := escB_true h
  have hl : ¬ 60 < x.length := by rw [he] at h60; have : x.toArray.size ≤ 60 := h60; simp at this; omega
  have ht := escN_twice hx
  rw [he]
  have hF : escF (⟨x.toArray⟩ : ByteArray).data.toList = (x, true) := by unfold escF; rw [if_neg hl, ht]
  exact ⟨by unfold escS; rw [hF], by unfold escB; rw [hF]⟩

/-- a sign that is not whole is none -/
theorem escN_cut (t : List UInt8) (ht : t = [] ∨ ∃ x, t = [x] ∧ hexZ x.toNat ≤ 15) : ∀ (n : Nat) (L : List UInt8), L.length ≤ n → escN (L ++ 37 :: t) = none := by
  have h37 : hexZ ((37 : UInt8).toNat : Int) < 0 := by decide
  intro n
  induction n with
  | zero =>
    intro L hl
    have : L = [] := List.eq_nil_of_length_eq_zero (by omega)
    subst this
    rcases ht with rfl | ⟨x, rfl, _⟩
    · exact escN_short0
    · exact escN_short1 x
  | succ n ih =>
    intro L hl
    rcases L with _ | ⟨b, r⟩
    · rcases ht with rfl | ⟨x, rfl, _⟩
      · exact escN_short0
      · exact escN_short1 x
    · by_cases hb : b = 37
      · subst hb
        rcases r with _ | ⟨x, _ | ⟨y, r⟩⟩
        · rcases ht with rfl | ⟨x, rfl, _⟩
          · exact escN_short1 37
          · show escN (37 :: 37 :: x :: []) = none
            rw [escN_sign, if_pos (Or.inl h37)]
        · show escN (37 :: x :: 37 :: t) = none
          rw [escN_sign, if_pos (Or.inr h37)]
        · show escN (37 :: x :: y :: (r ++ 37 :: t)) = none
          rw [escN_sign, ih r (by simp at hl; omega)]
          split <;> rfl
      · show escN (b :: (r ++ 37 :: t)) = none
        rw [escN_plain _ _ hb, ih r (by simp at hl; omega)]; rfl

theorem escN_append : ∀ (n : Nat) (A C x y : List UInt8), A.length ≤ n → escN A = some x → escN C = some y → escN (A ++ C) = some (x ++ y) := by
  intro n
  induction n with
  | zero =>
    intro A C x y hl hA hC
    have : A = [] := List.eq_nil_of_length_eq_zero (by omega)
    subst this
    simp [escN] at hA; subst hA; simpa using hC
  | succ n ih =>
    intro A C x y hl hA hC
    rcases A with _ | ⟨b, r⟩
    · simp [escN] at hA; subst hA; simpa using hC
    · by_cases hb : b = 37
      · subst hb
        rcases r with _ | ⟨h, _ | ⟨l, r⟩⟩
        · rw [escN_short0] at hA; cases hA
        · rw [escN_short1] at hA; cases hA
        · rw [escN_sign] at hA
          show escN (37 :: h :: l :: (r ++ C)) = _
          rw [escN_sign]
          split at hA
          · cases hA
          · rename_i hn
            rw [if_neg hn]
            cases hr : escN r with
            | none => rw [hr] at hA; cases hA
            | some z =>
              rw [hr] at hA; simp at hA; subst hA
              rw [ih r C z y (by simp at hl; omega) hr hC]; simp
      · rw [escN_plain _ _ hb] at hA
        show escN (b :: (r ++ C)) = _
        rw [escN_plain _ _ hb]
        cases hr : escN r with
        | none => rw [hr] at hA; cases hA
        | some z =>
          rw [hr] at hA; simp at hA; subst hA
          rw [ih r C z y (by simp at hl; omega) hr hC]; simp

theorem escF_short {s : ByteArray} {x : List UInt8} (h : s.size ≤ 60) (hx : escN s.data.toList = some x) : escS s = ⟨x.toArray⟩ ∧ escB s = true := by
  have hF : escF s.data.toList = (x, true) := by unfold escF; rw [if_neg (by simp; omega), hx]
  exact ⟨by unfold escS; rw [hF], by unfold escB; rw [hF]⟩
theorem escB_none {s : ByteArray} (hx : escN s.data.toList = none) : escB s = false := by
  unfold escB escF; split
  · rfl
  · rw [hx]

theorem data_append (a b : ByteArray) : (a ++ b).data.toList = a.data.toList ++ b.data.toList := by simp

theorem esc_cut (a b : ByteArray) (ha : escB a = true) (hb : escB b = true) (hl : a.size + b.size ≤ 60) : escS (a ++ b) = escS a ++ escS b ∧ escB (a ++ b) = true := by
  obtain ⟨_, x, hx, ex⟩ := escB_true ha
  obtain ⟨_, y, hy, ey⟩ := escB_true hb
  have hxy : escN (a ++ b).data.toList = some (x ++ y) := by
    rw [data_append]; exact escN_append _ _ _ x y (Nat.le_refl _) hx hy
  obtain ⟨e1, e2⟩ := escF_short (s := a ++ b) (by rw [ByteArray.size_append]; exact hl) hxy
  refine ⟨?_, e2⟩
  rw [e1, ex, ey]
  apply ByteArray.ext; simp

theorem esc_none1 (s : ByteArray) : escB (s ++ ⟨#[37]⟩) = false := by
  apply escB_none
  rw [data_append]; exact escN_cut [] (Or.inl rfl) _ _ (Nat.le_refl _)
theorem esc_none2 (s : ByteArray) : escB (s ++ ⟨#[37, 52]⟩) = false := by
  apply escB_none
  rw [data_append]; exact escN_cut [52] (Or.inr ⟨52, rfl, by decide⟩) _ _ (Nat.le_refl _)
theorem esc_empty : escS ⟨#[]⟩ = ⟨#[]⟩ ∧ escB ⟨#[]⟩ = true := by decide

/-- as written: what stands for itself, and signs -/
theorem written_step {L : List UInt8} (h : escN L = some L) (b : UInt8) (r : List UInt8) (hL : L = b :: r) :
    (b ≠ 37 ∧ plainZ b.toNat = true ∧ escN r = some r) ∨ (b = 37 ∧ ∃ x y r', r = x :: y :: r' ∧ escN r' = some r') := by
  subst hL
  by_cases hb : b = 37
  · right
    subst hb
    refine ⟨rfl, ?_⟩
    rcases r with _ | ⟨x, _ | ⟨y, r⟩⟩
    · rw [escN_short0] at h; cases h
    · rw [escN_short1] at h; cases h
    · refine ⟨x, y, r, rfl, ?_⟩
      rw [escN_sign] at h
      split at h
      · cases h
      · rename_i hn
        cases hr : escN r with
        | none => rw [hr] at h; cases h
        | some z =>
          rw [hr] at h
          have hx := hexZ_bd x.toNat
          have hy := hexZ_bd y.toNat
          simp only [Option.map_some, Option.some.injEq, signL] at h
          split at h
          · rename_i hp
            simp at h
            exact absurd h.1 (plain_ne _ hp (by omega) (by omega))
          · simp at h; rw [h.2.2]
  · left
    refine ⟨hb, ?_⟩
    rw [escN_plain _ _ hb] at h
    cases hr : escN r with
    | none => rw [hr] at h; cases h
    | some z =>
      rw [hr] at h
      simp only [Option.map_some, Option.some.injEq, signL] at h
      split at h
      · rename_i hp
        simp at h
        exact ⟨hp, by rw [h.2]⟩
      · simp at h; exact absurd h.1.symm hb

/-- how many bytes a text stands for -/
def bytesN : List UInt8 → Nat
  | [] => 0
  | [_] => 1
  | [b, _] => if b = 37 then 1 else 2
  | b :: c :: d :: r => if b = 37 then 1 + bytesN r else 1 + bytesN (c :: d :: r)

theorem bytesN_cons (b : UInt8) (r : List UInt8) : bytesN (b :: r) = if b = 37 then 1 + bytesN (r.drop 2) else 1 + bytesN r := by
  rcases r with _ | ⟨c, _ | ⟨d, r⟩⟩
  · simp [bytesN]
  · simp [bytesN]; 
  · simp [bytesN]
theorem bytesN_le : ∀ (n : Nat) (L : List UInt8), L.length ≤ n → bytesN L ≤ L.length := by
  intro n
  induction n with
  | zero =>
    intro L hl
    have : L = [] := List.eq_nil_of_length_eq_zero (by omega)
    subst this; simp [bytesN]
  | succ n ih =>
    intro L hl
    rcases L with _ | ⟨b, r⟩
    · simp [bytesN]
    · rw [bytesN_cons]
      simp at hl
      have h1 := ih r (by omega)
      have h2 := ih (r.drop 2) (by simp; omega)
      simp at h2 ⊢
      split <;> omega

theorem signL_bytes (b : Int) (h0 : 0 ≤ b) (h1 : b ≤ 255) (x : List UInt8) : bytesN (signL b ++ x) = 1 + bytesN x := by
  unfold signL
  split
  · rename_i hp
    show bytesN (toB b :: x) = _
    rw [bytesN_cons, if_neg (plain_ne _ hp h0 h1)]
  · show bytesN (37 :: toB (figZ (b / 16)) :: toB (figZ (b % 16)) :: x) = _
    rw [bytesN_cons, if_pos rfl]; rfl

theorem meant_bytes (L : List UInt8) (b : Int) (m : Nat) (hm : meantZ L = (b, (m : Int))) (h1 : 1 ≤ m) : bytesN L = 1 + bytesN (L.drop m) := by
  rcases L with _ | ⟨c, r⟩
  · simp [meantZ] at hm; omega
  · rw [bytesN_cons]
    by_cases hc : c = 37
    · subst hc
      rw [if_pos rfl]
      rcases r with _ | ⟨x, _ | ⟨y, r⟩⟩
      · simp [meantZ] at hm; omega
      · simp [meantZ] at hm; omega
      · simp [meantZ] at hm
        split at hm
        · simp at hm; omega
        · simp at hm
          have : m = 3 := by omega
          subst this; rfl
    · rw [if_neg hc]
      have : m = 1 := by
        rcases r with _ | ⟨x, _ | ⟨y, r⟩⟩ <;> simp [meantZ, hc] at hm <;> omega
      subst this; rfl

theorem esc_bytes {L x : List UInt8} (h : escN L = some x) : bytesN x = bytesN L ∧ x.length ≤ 3 * bytesN L := by
  refine esc_induct (p := fun L x => bytesN x = bytesN L ∧ x.length ≤ 3 * bytesN L) (by simp) ?_ L.length L x (Nat.le_refl _) h
  intro L b m x hm h1 _ hb0 hb1 _ ih
  rw [signL_bytes b hb0 hb1, meant_bytes L b m hm h1]
  have := signL_len b
  simp only [List.length_append]
  omega
end Go.Proofs.YtiennniclkbjlaaGreatDoor.EscL
namespace Go.Proofs.YtiennniclkbjlaaGreatDoor.EscL
open Go.RowKit Go.Proofs.YtiennniclkbjlaaGreatDoor.EscM

theorem str_app (a b : List UInt8) : (⟨a.toArray⟩ : ByteArray) ++ (⟨b.toArray⟩ : ByteArray) = ⟨(a ++ b).toArray⟩ := by
  apply ByteArray.ext; simp

theorem one_byte (W : World) (n : Int) (h0 : 0 ≤ n) (h1 : n ≤ 255) :
    (convert 22 9 (.slice (some ⟨W.heap.size, 0, none⟩) 1 1)).run Tryz.prog (W.alloc (.cells #[.int .u8 n] 5)) = .ok (.string ⟨#[toB n]⟩) (W.alloc (.cells #[.int .u8 n] 5)) := by
  refine run_convert_bytes_back _ _ _ _ _ 1 [toB n] Tryz.underlying22 Tryz.underlying5 Tryz.underlying9 ?_
  intro j hj
  match j, hj with
  | 0, _ => simp [Addr.add, toB_toNat n h0 h1]

theorem escN_at_short (s : ByteArray) (k : Nat) (h : k < s.size) (hb : ((s[k]'h).toNat : Int) = 37) (hl : s.size ≤ k + 2) : escN (s.data.toList.drop k) = none := by
  rcases meant_step (s.data.toList.drop k) (by rw [drop_cons s k h]; simp) with ⟨_, hn⟩ | ⟨b, m, hm, hm1, _, _⟩
  · exact hn
  · rw [meant_short s k h hb (by omega)] at hm
    have := congrArg Prod.snd hm
    simp at this; omega
theorem escN_at_plain (s : ByteArray) (k : Nat) (h : k < s.size) (hb : ¬ ((s[k]'h).toNat : Int) = 37) : escN (s.data.toList.drop k) = (escN (s.data.toList.drop (k + 1))).map (signL (s[k]'h).toNat ++ ·) := by
  rw [drop_cons s k h, escN_plain _ _ (ne37.2 hb)]
theorem escN_at_sign (s : ByteArray) (k : Nat) (h : k + 2 < s.size) (hb : ((s[k]'(by omega)).toNat : Int) = 37) :
    escN (s.data.toList.drop k) = if hexZ (s[k+1]'(by omega)).toNat < 0 ∨ hexZ (s[k+2]'h).toNat < 0 then none else (escN (s.data.toList.drop (k + 3))).map (signL (hexZ (s[k+1]'(by omega)).toNat * 16 + hexZ (s[k+2]'h).toNat) ++ ·) := by
  rw [drop_cons s k (by omega), drop_cons s (k+1) (by omega), drop_cons s (k + 2) h]
  have h37 : s[k]'(by omega) = 37 := UInt8.toNat.inj (by simp; omega)
  rw [h37, escN_sign]

/-- the end of a round: what was meant is written behind -/
theorem str_plain (l : List UInt8) (n : Int) (hp : plainZ n = true) : (⟨l.toArray⟩ : ByteArray) ++ (⟨#[toB n]⟩ : ByteArray) = ⟨(l ++ signL n).toArray⟩ := by
  rw [show signL n = [toB n] by simp [signL, hp]]; exact str_app l [toB n]
theorem str_sign (l : List UInt8) (n : Int) (hp : plainZ n = false) : (⟨l.toArray⟩ : ByteArray) ++ (⟨#[37, toB (figZ (n / 16)), toB (figZ (n % 16))]⟩ : ByteArray) = ⟨(l ++ signL n).toArray⟩ := by
  rw [show signL n = [37, toB (figZ (n / 16)), toB (figZ (n % 16))] by simp [signL, hp]]; exact str_app l _
theorem str_sign' (l : List UInt8) (a b : Int) (hp : plainZ (a * 16 + b) = false) : (⟨l.toArray⟩ : ByteArray) ++ (⟨#[37, toB (figZ ((a * 16 + b) / 16)), toB (figZ (b % 16))]⟩ : ByteArray) = ⟨(l ++ signL (a * 16 + b)).toArray⟩ := by
  have := str_sign l (a * 16 + b) hp
  rwa [show (a * 16 + b) % 16 = b % 16 by omega] at this
theorem val_str {a b : ByteArray} (h : a = b) : Value.string a = .string b := by rw [h]
theorem map_end {L : Option (List UInt8)} (l x : List UInt8) : (L.map (x ++ ·)).map (l ++ ·) = L.map ((l ++ x) ++ ·) := by cases L <;> simp

set_option maxRecDepth 100000 in
set_option maxHeartbeats 1600000 in
theorem specEsc_any (s : ByteArray) (w : World) (hs : s.size ≤ maxLen) :
    Calls Tryz.prog 132 #[.string s] w fun e w' => e = .returned (.tuple #[.string (escS s), .bool (escB s)]) ∧ Below w.heap.size w w' := by
  unfold maxLen at hs
  by_cases hlong : 60 < s.size
  · have HL : Hid _ := escF_long s hlong
    go_enter Tryz.func132, Tryz.ntmps132
    go_wp2
    go_ret2
    exact ⟨ret2 (by unfold escS; rw [HL.out]) (by unfold escB; rw [HL.out]), Below.refl _ _⟩
  · have HL : Hid _ := escF_of s (by omega)
    have hs60 : s.size ≤ 60 := by omega
    go_enter Tryz.func132, Tryz.ntmps132
    go_wp2
    go_loopw [4, 5] (fun v i wr => ∃ (k : Nat) (l : List UInt8), k ≤ s.size ∧ i = .int .i64 k ∧ v = .string ⟨l.toArray⟩ ∧ Below w.heap.size w wr ∧
        Hid (escN s.data.toList = (escN (s.data.toList.drop k)).map (l ++ ·)) ∧ l.length ≤ 3 * k)
      (fun _ i _ => s.size - (intOf i).toNat)
    case atStart => exact ⟨0, [], Nat.zero_le _, rfl, rfl, Below.refl _ _, by show _ = _; simp, by simp⟩
    case round =>
      obtain ⟨k, l, hk, rfl, rfl, hbel, HE, hl⟩ := hrel
      by_cases hlt : k < s.size
      · by_cases hb : ((s[k]'hlt).toNat : Int) = 37
        · by_cases hsh : s.size ≤ k + 2
          · -- not whole
            have HN : Hid (escN (s.data.toList.drop k) = none) := escN_at_short s k hlt hb hsh
            go_wp2
            go_ret2
            exact ⟨ret2 (by unfold escS; rw [HL.out, HE.out, HN.out]; rfl) (by unfold escB; rw [HL.out, HE.out, HN.out]; rfl), hbel⟩
          · have hlt1 : k + 1 < s.size := by omega
            have hlt2 : k + 2 < s.size := by omega
            have HN : Hid _ := escN_at_sign s k hlt2 hb
            obtain ⟨x1, x2⟩ := hexZ_bd (s[k+1]'hlt1).toNat
            obtain ⟨y1, y2⟩ := hexZ_bd (s[k+2]'hlt2).toNat
            by_cases hx : hexZ (s[k+1]'hlt1).toNat < 0
            · go_wp2_with (go_at_call 153; refine (l1Hex_any _ _ (Int.natCast_nonneg _) (byte_le _)).mono ?_; rintro e w1 ⟨rfl, rfl⟩)
              go_ret2
              have HN2 : escN (s.data.toList.drop k) = none := by rw [HN.out, if_pos (Or.inl hx)]
              exact ⟨ret2 (by unfold escS; rw [HL.out, HE.out, HN2]; rfl) (by unfold escB; rw [HL.out, HE.out, HN2]; rfl), hbel⟩
            · by_cases hy : hexZ (s[k+2]'hlt2).toNat < 0
              · go_wp2_with (go_at_call 153; refine (l1Hex_any _ _ (Int.natCast_nonneg _) (byte_le _)).mono ?_; rintro e w1 ⟨rfl, rfl⟩)
                go_ret2
                have HN2 : escN (s.data.toList.drop k) = none := by rw [HN.out, if_pos (Or.inr hy)]
                exact ⟨ret2 (by unfold escS; rw [HL.out, HE.out, HN2]; rfl) (by unfold escB; rw [HL.out, HE.out, HN2]; rfl), hbel⟩
              · have HN2 : Hid _ := (HN.out).trans (if_neg (by omega))
                have hob : ∀ (W : World) (q : Nat), (convert 22 9 (.slice (some ⟨W.heap.size, 0, none⟩) 1 1)).run Tryz.prog ((W.drewN q).alloc (.cells #[.int .u8 (hexZ (s[k+1]'hlt1).toNat * 16 + hexZ (s[k+2]'hlt2).toNat)] 5)) = _ := fun W q => one_byte (W.drewN q) (hexZ (s[k+1]'hlt1).toNat * 16 + hexZ (s[k+2]'hlt2).toNat) (by omega) (by omega)
                clear HN
                go_wp2_with (go_at_call 153; refine (l1Hex_any _ _ (Int.natCast_nonneg _) (byte_le _)).mono ?_; rintro e w1 ⟨rfl, rfl⟩)
                have hb1 : (k : Int) + 1 < (s.size : Int) := by omega
                have hb2 : (k : Int) + 2 < (s.size : Int) := by omega
                have hb5 : (0 : Int) ≤ (k : Int) + 1 := by omega
                have hb6 : (0 : Int) ≤ (k : Int) + 2 := by omega
                go_quiet ((go_at_call 153; exact Calls.quiet_of_same (l1Hex_any _ _ (Int.natCast_nonneg _) (byte_le _))))
                cases hp : plainZ (hexZ (s[k+1]'hlt1).toNat * 16 + hexZ (s[k+2]'hlt2).toNat) with
                | true =>
                  go_wp2_with (first
                    | (go_at_call 154; refine (l1Plain_any _ _ (by omega) (by omega)).mono ?_; rintro e w1 ⟨rfl, rfl⟩)
                    | (go_at_call 155; refine (l1Sign_any _ _ (by omega) (by omega)).mono ?_; rintro e w1 ⟨rfl, kk, rfl⟩))
                  go_roundw
                  case rel => exact ⟨k + 3, l ++ signL _, by omega, by go_num, val_str (str_plain l _ hp), (below_drewN hbel _).alloc hbel.size _, by show _ = _; rw [HE.out, HN2.out, map_end], by have := signL_len (hexZ (s[k+1]'hlt1).toNat * 16 + hexZ (s[k+2]'hlt2).toNat); simp only [List.length_append]; omega⟩
                  case measure => simp [intOf]; omega
                | false =>
                  go_wp2_with (first
                    | (go_at_call 154; refine (l1Plain_any _ _ (by omega) (by omega)).mono ?_; rintro e w1 ⟨rfl, rfl⟩)
                    | (go_at_call 155; refine (l1Sign_any _ _ (by omega) (by omega)).mono ?_; rintro e w1 ⟨rfl, kk, rfl⟩))
                  go_roundw
                  case rel => exact ⟨k + 3, l ++ signL _, by omega, by go_num, val_str (str_sign' l _ _ hp), below_drewN hbel _, by show _ = _; rw [HE.out, HN2.out, map_end], by have := signL_len (hexZ (s[k+1]'hlt1).toNat * 16 + hexZ (s[k+2]'hlt2).toNat); simp only [List.length_append]; omega⟩
                  case measure => simp [intOf]; omega
        · have HN : Hid _ := escN_at_plain s k hlt hb
          have hbl := byte_le (s[k]'hlt)
          have hob : ∀ W : World, _ := fun W => one_byte W (s[k]'hlt).toNat (Int.natCast_nonneg _) hbl
          cases hp : plainZ (s[k]'hlt).toNat with
          | true =>
            go_wp2_with (first
              | (go_at_call 154; refine (l1Plain_any _ _ (Int.natCast_nonneg _) (byte_le _)).mono ?_; rintro e w1 ⟨rfl, rfl⟩)
              | (go_at_call 155; refine (l1Sign_any _ _ (Int.natCast_nonneg _) (byte_le _)).mono ?_; rintro e w1 ⟨rfl, kk, rfl⟩))
            go_roundw
            case rel => exact ⟨k + 1, l ++ signL (s[k]'hlt).toNat, by omega, by go_num, val_str (str_plain l _ hp), hbel.alloc hbel.size _, by show _ = _; rw [HE.out, HN.out, map_end], by have := signL_len (s[k]'hlt).toNat; simp only [List.length_append]; omega⟩
            case measure => simp [intOf]; omega
          | false =>
            go_wp2_with (first
              | (go_at_call 154; refine (l1Plain_any _ _ (Int.natCast_nonneg _) (byte_le _)).mono ?_; rintro e w1 ⟨rfl, rfl⟩)
              | (go_at_call 155; refine (l1Sign_any _ _ (Int.natCast_nonneg _) (byte_le _)).mono ?_; rintro e w1 ⟨rfl, kk, rfl⟩))
            go_roundw
            case rel => exact ⟨k + 1, l ++ signL (s[k]'hlt).toNat, by omega, by go_num, val_str (str_sign l _ hp), below_drewN hbel _, by show _ = _; rw [HE.out, HN.out, map_end], by have := signL_len (s[k]'hlt).toNat; simp only [List.length_append]; omega⟩
            case measure => simp [intOf]; omega
      · have e : s.data.toList.drop k = [] := List.drop_eq_nil_of_le (by simp; omega)
        have HE2 : Hid (escN s.data.toList = some l) := by show _ = _; rw [HE.out, e]; simp [escN]
        clear e
        go_wp2
        go_ret2
        exact ⟨ret2 (by unfold escS; rw [HL.out, HE2.out]) (by unfold escB; rw [HL.out, HE2.out]), hbel⟩
end Go.Proofs.YtiennniclkbjlaaGreatDoor.EscL
/- The exact laws' helpers on lists of strings: how great, copied, the same, marked, held. -/
namespace Go.Proofs.YtiennniclkbjlaaGreatDoor.St
open Go.RowKit

def sumSz : List ByteArray → Nat
  | [] => 0
  | x :: r => x.size + sumSz r
theorem sumSz_snoc : ∀ (L : List ByteArray) (x : ByteArray), sumSz (L ++ [x]) = sumSz L + x.size := by
  intro L
  induction L with
  | nil => intro x; simp [sumSz]
  | cons y L ih => intro x; simp only [List.cons_append, sumSz, ih]; omega
theorem sumSz_take (L : List ByteArray) (k : Nat) (h : k < L.length) : sumSz (L.take (k + 1)) = sumSz (L.take k) + L[k].size := by
  rw [List.take_succ_eq_append_getElem h, sumSz_snoc]


theorem set_take (L : List ByteArray) (k : Nat) (hk : k < L.length) (e : ByteArray) : (L.take k ++ List.replicate (L.length - k) e).set k L[k] = L.take (k + 1) ++ List.replicate (L.length - (k + 1)) e := by
  have hl : (L.take k).length = k := by simp; omega
  rw [List.set_append_right _ _ (by omega), hl, Nat.sub_self]
  rw [show L.length - k = (L.length - (k + 1)) + 1 by omega, List.replicate_succ, List.set_cons_zero, List.take_succ_eq_append_getElem hk, List.append_assoc]
  rfl



theorem grown_refl (w : World) (row : Option Nat) : w.grownBy w row := ⟨rfl, rfl, rfl, Nat.le_refl _, fun _ _ _ => rfl⟩
theorem grown_trans {a b c : World} {row : Option Nat} (h : a.grownBy b row) (k : b.grownBy c row) : a.grownBy c row :=
  ⟨k.os.trans h.os, k.tape.trans h.tape, k.output.trans h.output, Nat.le_trans h.size k.size, fun i hi hr => (k.block i (Nat.lt_of_lt_of_le hi h.size) hr).trans (h.block i hi hr)⟩
theorem grown_of_below {a b : World} (row : Option Nat) (h : Below a.heap.size a b) : a.grownBy b row := ⟨h.os, h.tape, h.output, h.size, fun k hk _ => h.block k hk⟩


end Go.Proofs.YtiennniclkbjlaaGreatDoor.St
/- A text of any bytes, gone by in runes: what is no ASCII byte is skipped whole. -/
namespace Go.Proofs.YtiennniclkbjlaaGreatDoor.DecM
open Go.RowKit

theorem get_bang (s : ByteArray) (k : Nat) (h : k < s.size) : s.get! k = s[k]'h := by
  show s.data[k]! = s.data[k]
  exact getElem!_pos s.data k h
theorem cont_high {s : ByteArray} {i k : Nat} (h : (decide (i + k < s.size) && ((s.get! (i + k)).toNat / 64 == 2)) = true) : i + k < s.size ∧ 128 ≤ (s.get! (i + k)).toNat := by
  simp at h
  exact ⟨h.1, by have := h.2; omega⟩
/-- all bytes of a rune that is no ASCII byte are none -/
theorem decode_skip (s : ByteArray) (pos : Nat) (h : pos < s.size) (ha : 128 ≤ (s[pos]'h).toNat) : ∀ k, pos ≤ k → k < pos + (Utf8.decode s pos).2 → ∃ hk : k < s.size, 128 ≤ (s[k]'hk).toNat := by
  have hone : ∀ k, pos ≤ k → k < pos + 1 → ∃ hk : k < s.size, 128 ≤ (s[k]'hk).toNat := by
    intro k h1 h2
    have e : k = pos := by omega
    subst e
    exact ⟨h, ha⟩
  have hof : ∀ k, (k < s.size ∧ 128 ≤ (s.get! k).toNat) → ∃ hk : k < s.size, 128 ≤ (s[k]'hk).toNat := by
    rintro k ⟨h1, h2⟩
    rw [get_bang s k h1] at h2
    exact ⟨h1, h2⟩
  intro k hk1 hk2
  unfold Utf8.decode at hk2
  simp only at hk2
  have h0 : ¬ (s.get! (pos + 0)).toNat < 128 := by rw [Nat.add_zero, get_bang s pos h]; omega
  rw [if_neg h0] at hk2
  split at hk2
  · rename_i hc
    rw [Bool.and_eq_true] at hc
    have c1 := cont_high hc.2
    split at hk2
    · simp only at hk2
      have : k = pos ∨ k = pos + 1 := by omega
      rcases this with rfl | rfl
      · exact ⟨h, ha⟩
      · exact hof _ c1
    · exact hone k hk1 hk2
  · split at hk2
    · rename_i hc
      rw [Bool.and_eq_true, Bool.and_eq_true] at hc
      have c1 := cont_high hc.1.2
      have c2 := cont_high hc.2
      split at hk2
      · simp only at hk2
        have : k = pos ∨ k = pos + 1 ∨ k = pos + 2 := by omega
        rcases this with rfl | rfl | rfl
        · exact ⟨h, ha⟩
        · exact hof _ c1
        · exact hof _ c2
      · exact hone k hk1 hk2
    · split at hk2
      · rename_i hc
        rw [Bool.and_eq_true, Bool.and_eq_true, Bool.and_eq_true] at hc
        have c1 := cont_high hc.1.1.2
        have c2 := cont_high hc.1.2
        have c3 := cont_high hc.2
        split at hk2
        · simp only at hk2
          have : k = pos ∨ k = pos + 1 ∨ k = pos + 2 ∨ k = pos + 3 := by omega
          rcases this with rfl | rfl | rfl | rfl
          · exact ⟨h, ha⟩
          · exact hof _ c1
          · exact hof _ c2
          · exact hof _ c3
        · exact hone k hk1 hk2
      · exact hone k hk1 hk2
end Go.Proofs.YtiennniclkbjlaaGreatDoor.DecM
/- Does a text stand in a list: slices.Contains. -/
namespace Go.Proofs.YtiennniclkbjlaaGreatDoor.Ct
open Go.RowKit Go.Proofs.YtiennniclkbjlaaGreatDoor.EscM Go.Proofs.YtiennniclkbjlaaGreatDoor.St Go.Proofs.YtiennniclkbjlaaGreatDoor.EscL

theorem has_take {L : List ByteArray} {k : Nat} {x : ByteArray} (h : k < L.length) (hn : x ∉ L.take k) (he : ¬ L[k] = x) : x ∉ L.take (k + 1) := by
  rw [List.take_succ_eq_append_getElem h, List.mem_append]
  rintro (h' | h')
  · exact hn h'
  · simp at h'; exact he h'.symm

set_option maxRecDepth 100000 in
set_option maxHeartbeats 1600000 in
theorem index_any (a0 : Option Addr) (cap : Nat) (L : List ByteArray) (x : ByteArray) (w : World) (hA : IsStrs w a0 cap L) (hl : L.length ≤ 4194304) :
    Calls Tryz.prog 80 #[.slice a0 L.length cap, .string x] w fun e w' => (∃ z : Int, e = .returned (.int .i64 z) ∧ (0 ≤ z ↔ hasB x L = true)) ∧ ∃ n, w' = w.drewN n := by
  have HA : Hid (IsStrs w a0 cap L) := hA
  clear hA
  go_enter Tryz.func80, Tryz.ntmps80
  go_wp2
  go_loopw [8] (fun i wr => ∃ k : Nat, k ≤ L.length ∧ i = .int .i64 (k : Int) ∧ Hid (x ∉ L.take k) ∧ Hid (∃ n, wr = w.drewN n)) (fun i _ => L.length - (intOf i).toNat)
  case atStart => exact ⟨0, Nat.zero_le _, rfl, by show x ∉ _; simp, ⟨0, rfl⟩⟩
  case round =>
    obtain ⟨k, hk, rfl, HN, HW⟩ := hrel
    by_cases hlt : k < L.length
    · have hpw := HW.out
      obtain ⟨n, hn⟩ := hpw
      obtain ⟨b1, o1, e1, c1⟩ := (IsStrs.drewN HA.out n).at hlt
      rw [← hn] at c1
      clear hn
      subst e1
      cases he : (x.toList == L[k].toList) with
      | true =>
        have HE : Hid (hasB x L = true) := by
          apply hasB_iff.2
          rw [str_eq_iff] at he
          have := of_decide_eq_true he
          rw [this]; exact List.getElem_mem hlt
        go_wp2
        go_ret
        exact ⟨⟨_, rfl, by rw [HE.out]; simp⟩, HW.out⟩
      | false =>
        have HE : Hid (x ∉ L.take (k + 1)) := by
          rw [str_eq_iff] at he
          exact has_take hlt HN.out (fun e => of_decide_eq_false he e.symm)
        go_wp2
        go_roundw
        case rel => exact ⟨k + 1, by omega, by go_num, HE, HW⟩
        case measure => simp [intOf]; omega
    · have HE : Hid (hasB x L = false) := by
        apply hasB_no.2
        have e1 : L.take k = L := List.take_of_length_le (by omega)
        rw [← e1]; exact HN.out
      go_wp2
      go_ret
      exact ⟨⟨-1, rfl, by rw [HE.out]; simp⟩, HW.out⟩
theorem contains_any (a0 : Option Addr) (cap : Nat) (L : List ByteArray) (x : ByteArray) (w : World) (hA : IsStrs w a0 cap L) (hl : L.length ≤ 4194304) :
    Calls Tryz.prog 54 #[.slice a0 L.length cap, .string x] w fun e w' => e = .returned (.bool (hasB x L)) ∧ ∃ n, w' = w.drewN n := by
  have HA : Hid (IsStrs w a0 cap L) := hA
  clear hA
  go_enter Tryz.func54, Tryz.ntmps54
  go_wp2_with fail
  refine (index_any a0 cap L x _ HA.out hl).mono ?_
  rintro e w1 ⟨⟨z, rfl, hz⟩, n, rfl⟩
  have HZ : Hid (decide (0 ≤ z) = hasB x L) := by
    show _ = _
    rw [Bool.eq_iff_iff, decide_eq_true_eq]; exact hz
  clear hz
  go_wp2
  go_ret
  exact ⟨ret_bool HZ.out, n, rfl⟩
end Go.Proofs.YtiennniclkbjlaaGreatDoor.Ct
/- Is a text a pattern: of the program and of the model. -/
namespace Go.Proofs.YtiennniclkbjlaaGreatDoor.Ru1
open Go.RowKit Go.Proofs.YtiennniclkbjlaaGreatDoor.EscM Go.Proofs.YtiennniclkbjlaaGreatDoor.EscL Go.Proofs.YtiennniclkbjlaaGreatDoor.RuleM

theorem ext_take (s : ByteArray) (k : Nat) : (s.extract 0 k).data.toList = s.data.toList.take k := by simp
theorem head_at (s : ByteArray) (h : 0 < s.size) : (s.data.toList.head? = some 47) ↔ (((s[0]'h).toNat : Int) = 47) := by
  rw [List.head?_eq_getElem?, List.getElem?_eq_getElem (by simpa using h)]
  constructor
  · intro e; have := Option.some.inj e; rw [getElem_eq, this]; rfl
  · intro e; congr 1; exact UInt8.toNat.inj (by rw [getElem_eq] at e; show _ = 47; omega)
theorem len_eq (s : ByteArray) : s.data.toList.length = s.size := by simp

theorem ends_ext (s : ByteArray) (h : ¬ s.size < 1) : ((s.extract (s.size - 1) s.size).toList == [36]) = endsB s.data.toList := by
  have hl := len_eq s
  rw [ends_at (by omega), ByteArray.toList_eq]
  have e : (s.extract (s.size - 1) s.size).data.toList = [s.data.toList[s.data.toList.length - 1]'(by omega)] := by
    have e1 : (s.extract (s.size - 1) s.size).data.toList = s.data.toList.drop (s.data.toList.length - 1) := by
      rw [hl]
      simp only [ByteArray.data_extract, Array.toList_extract, List.extract_eq_take_drop]
      rw [List.take_of_length_le]; rw [List.length_drop, hl]; omega
    rw [e1, List.drop_eq_getElem_cons (by omega), List.drop_eq_nil_of_le (by omega)]
  rw [e, Bool.eq_iff_iff]; simp

theorem suf_any (s : ByteArray) (w : World) (hs : s.size ≤ 1000000) :
    Calls Tryz.prog 185 #[.string s, .string ⟨#[36]⟩] w fun e w' => e = .returned (.bool (endsB s.data.toList)) ∧ w' = w := by
  by_cases h0 : s.size < 1
  · have HE : Hid (endsB s.data.toList = false) := by
      have : s.data.toList = [] := List.eq_nil_of_length_eq_zero (by rw [len_eq]; omega)
      show _ = _
      rw [this]; rfl
    go_enter Tryz.func185, Tryz.ntmps185
    go_wp2
    go_ret
    exact ⟨ret_bool HE.out.symm, rfl⟩
  · go_enter Tryz.func185, Tryz.ntmps185
    go_wp2
    go_ret
    exact ⟨ret_bool (ends_ext s h0), rfl⟩

theorem ext_drop (s : ByteArray) : (s.extract 0 (s.size - 1)).data.toList = s.data.toList.dropLast := by
  rw [ext_take, List.dropLast_eq_take, len_eq]
theorem ext_size (s : ByteArray) (k : Nat) (h : k ≤ s.size) : (s.extract 0 k).size = k := by simp; omega

theorem trim_any (s : ByteArray) (w : World) (hs : s.size ≤ 1000000) :
    Calls Tryz.prog 169 #[.string s, .string ⟨#[36]⟩] w fun e w' => ∃ t : ByteArray, e = .returned (.string t) ∧ t.data.toList = bodyL s.data.toList ∧ t.size ≤ s.size ∧ w' = w := by
  go_enter Tryz.func169, Tryz.ntmps169
  go_wp2_with fail
  refine (suf_any s _ hs).mono ?_
  rintro e w1 ⟨rfl, rfl⟩
  cases he : endsB s.data.toList with
  | true =>
    have h0 : ¬ s.size < 1 := by
      intro h
      have : s.data.toList = [] := List.eq_nil_of_length_eq_zero (by rw [len_eq]; omega)
      rw [this] at he; cases he
    go_wp2
    go_ret
    exact ⟨_, rfl, by rw [ext_drop s, body_ends he], by rw [ext_size _ _ (by omega)]; omega, rfl⟩
  | false =>
    go_wp2
    go_ret
    exact ⟨_, rfl, (body_not he).symm, Nat.le_refl _, rfl⟩
theorem trimS_any (s : ByteArray) (w : World) (hs : s.size ≤ 1000000) :
    Calls Tryz.prog 143 #[.string s, .string ⟨#[36]⟩] w fun e w' => ∃ t : ByteArray, e = .returned (.string t) ∧ t.data.toList = bodyL s.data.toList ∧ t.size ≤ s.size ∧ w' = w := by
  go_enter Tryz.func143, Tryz.ntmps143
  go_wp2_with fail
  refine (trim_any s _ hs).mono ?_
  rintro e w1 ⟨t, rfl, ht, hz, rfl⟩
  go_wp2
  go_ret
  exact ⟨_, rfl, ht, hz, rfl⟩

set_option maxRecDepth 100000 in
set_option maxHeartbeats 800000 in
theorem implRule_any (s : ByteArray) (w : World) (hs : s.size ≤ maxLen) :
    Calls Tryz.prog 118 #[.string s] w fun e w' => e = .returned (.bool (ruleL s.data.toList)) ∧ Below w.heap.size w w' := by
  unfold maxLen at hs
  by_cases h1 : s.size < 1
  · have HN : Hid (ruleL s.data.toList = false) := ruleL_len (by rw [len_eq]; omega)
    go_enter Tryz.func118, Tryz.ntmps118
    go_wp2
    go_ret
    exact ⟨ret_bool HN.out.symm, Below.refl _ _⟩
  by_cases h2 : 16 < s.size
  · have HN : Hid (ruleL s.data.toList = false) := ruleL_len (by rw [len_eq]; omega)
    go_enter Tryz.func118, Tryz.ntmps118
    go_wp2
    go_ret
    exact ⟨ret_bool HN.out.symm, Below.refl _ _⟩
  by_cases h3 : (((s[0]'(by omega)).toNat : Int) = 47)
  · have HR : Hid (ruleL s.data.toList = (bodyL s.data.toList).all (fun b => ruleZ (b.toNat : Int))) := ruleL_body (by rw [len_eq]; omega) ((head_at s (by omega)).2 h3)
    have h3' : ((((s[0]'(by omega)).toNat : Int)) != 47) = false := by simpa using h3
    clear h3
    go_enter Tryz.func118, Tryz.ntmps118
    go_wp2_with fail
    refine (trimS_any s _ (by omega)).mono ?_
    rintro e w1 ⟨t, rfl, ht, hz, rfl⟩
    have HT : Hid _ := ht
    clear ht h3'
    have hz16 : t.size ≤ 16 := by omega
    go_wp2
    go_loopw [4] (fun i wr => ∃ k : Nat, k ≤ t.size ∧ i = .int .i64 (k : Int) ∧ Hid ((t.data.toList.take k).all (fun b => ruleZ (b.toNat : Int)) = true) ∧ Below w1.heap.size w1 wr) (fun i _ => t.size - (intOf i).toNat)
    case atStart => exact ⟨0, Nat.zero_le _, rfl, by show _ = _; simp, Below.refl _ _⟩
    case round =>
      obtain ⟨k, hk, rfl, HA, hb⟩ := hrel
      by_cases hlt : k < t.size
      · have hlt' : k < t.data.toList.length := by rw [len_eq]; exact hlt
        have HP : Hid (decide (0 ≤ placeFrom ruleSigns ((t[k]'hlt).toNat : Int) 0) = ruleZ ((t[k]'hlt).toNat : Int)) := place_rule _ (by omega) (byte_le _)
        by_cases hz : 0 ≤ placeFrom ruleSigns ((t[k]'hlt).toNat : Int) 0
        · have HN : Hid ((t.data.toList.take (k + 1)).all (fun b => ruleZ (b.toNat : Int)) = true) := all_take hlt' HA.out (by have := HP.out; rw [decide_eq_true hz] at this; exact this.symm)
          have hz' : 0 ≤ placeFrom (⟨#[97, 98, 99, 100, 101, 102, 103, 104, 105, 106, 107, 108, 109, 110, 111, 112, 113, 114, 115, 116, 117, 118, 119, 120, 121, 122, 48, 49, 50, 51, 52, 53, 54, 55, 56, 57, 46, 45, 47, 42, 63, 37, 65, 66, 67, 68, 69, 70]⟩ : ByteArray).data.toList ((t[k]'hlt).toNat : Int) 0 := hz
          clear hz
          go_wp2_with (go_at_call 144; refine (signPlace_any _ _ _ (by omega) (byte_le _) (by decide) (by decide)).mono ?_; rintro e w2 ⟨rfl, o, rfl⟩)
          go_roundw
          case rel => exact ⟨k + 1, by omega, by go_num, HN.out, hb.alloc hb.size _⟩
          case measure => simp [intOf]; omega
        · have HN : Hid (ruleL s.data.toList = false) := by
            show _ = _
            rw [HR.out, ← HT.out]
            exact all_at hlt' (by have := HP.out; rw [decide_eq_false hz] at this; exact this.symm)
          have hz' : ¬ 0 ≤ placeFrom (⟨#[97, 98, 99, 100, 101, 102, 103, 104, 105, 106, 107, 108, 109, 110, 111, 112, 113, 114, 115, 116, 117, 118, 119, 120, 121, 122, 48, 49, 50, 51, 52, 53, 54, 55, 56, 57, 46, 45, 47, 42, 63, 37, 65, 66, 67, 68, 69, 70]⟩ : ByteArray).data.toList ((t[k]'hlt).toNat : Int) 0 := hz
          clear hz
          go_wp2_with (go_at_call 144; refine (signPlace_any _ _ _ (by omega) (byte_le _) (by decide) (by decide)).mono ?_; rintro e w2 ⟨rfl, o, rfl⟩)
          go_ret
          exact ⟨ret_bool HN.out.symm, hb.alloc hb.size _⟩
      · have HF : Hid (ruleL s.data.toList = true) := by
          show _ = _
          rw [HR.out, ← HT.out]
          have := HA.out
          rwa [List.take_of_length_le (by rw [len_eq]; omega)] at this
        go_wp2
        go_ret
        exact ⟨ret_bool HF.out.symm, hb⟩
  · have HN : Hid (ruleL s.data.toList = false) := ruleL_head (fun e => h3 ((head_at s (by omega)).1 e))
    have h3' : ((((s[0]'(by omega)).toNat : Int)) != 47) = true := by simpa using h3
    clear h3
    go_enter Tryz.func118, Tryz.ntmps118
    go_wp2
    go_ret
    exact ⟨ret_bool HN.out.symm, Below.refl _ _⟩
/-- a byte of a pattern, where it stands -/
def fits (l : List UInt8) (j : Nat) (hj : j < l.length) : Prop := ruleZ (l[j].toNat : Int) = true ∨ (l[j] = 36 ∧ j = l.length - 1) ∧ endsB l = true
theorem fits_step {l : List UInt8} {k : Nat} (hk : k < l.length) (h : ∀ j (hj : j < k), fits l j (by omega)) (h2 : fits l k hk) : ∀ j (hj : j < k + 1), fits l j (by omega) := by
  intro j hj
  by_cases e : j = k
  · subst e; exact h2
  · exact h j (by omega)

set_option maxRecDepth 100000 in
set_option maxHeartbeats 8000000 in
theorem specRule_any (s : ByteArray) (w : World) (hs : s.size ≤ maxLen) :
    Calls Tryz.prog 145 #[.string s] w fun e w' => e = .returned (.bool (ruleL s.data.toList)) ∧ w' = w := by
  unfold maxLen at hs
  by_cases h2 : 16 < s.size
  · have HN : Hid (ruleL s.data.toList = false) := ruleL_len (by rw [len_eq]; omega)
    go_enter Tryz.func145, Tryz.ntmps145
    go_wp2
    go_ret
    exact ⟨ret_bool HN.out.symm, rfl⟩
  by_cases h1 : s.size < 1
  · have HN : Hid (ruleL s.data.toList = false) := ruleL_len (by rw [len_eq]; omega)
    have h1' : s.toList.isEmpty = true := by
      rw [ByteArray.toList_eq]
      have : s.data.toList = [] := List.eq_nil_of_length_eq_zero (by rw [len_eq]; omega)
      rw [this]; rfl
    go_enter Tryz.func145, Tryz.ntmps145
    go_wp2
    go_ret
    exact ⟨ret_bool HN.out.symm, rfl⟩
  have h1' : s.toList.isEmpty = false := by
    rw [ByteArray.toList_eq]
    cases hc : s.data.toList with
    | nil => have := len_eq s; rw [hc] at this; simp at this; omega
    | cons => rfl
  by_cases h3 : (((s[0]'(by omega)).toNat : Int) = 47)
  · have HR : Hid (ruleL s.data.toList = (bodyL s.data.toList).all (fun b => ruleZ (b.toNat : Int))) := ruleL_body (by rw [len_eq]; omega) ((head_at s (by omega)).2 h3)
    have h3' : ((((s[0]'(by omega)).toNat : Int)) != 47) = false := by simpa using h3
    have hsz : 0 < s.size := by omega
    clear h3
    go_enter Tryz.func145, Tryz.ntmps145
    go_wp2
    clear h3' h1'
    go_loop [3, 4] (fun i _ => ∃ k : Nat, k ≤ s.size ∧ i = .int .i64 (k : Int) ∧ Hid (∀ j (hj : j < k) (hj2 : j < s.data.toList.length), fits s.data.toList j hj2)) (fun i _ => s.size - (intOf i).toNat)
    case atStart => exact ⟨0, Nat.zero_le _, rfl, fun j hj => absurd hj (by omega)⟩
    case round =>
      obtain ⟨k, hk, rfl, HA⟩ := hrel
      by_cases hlt : k < s.size
      · have hlt' : k < s.data.toList.length := by rw [len_eq]; exact hlt
        have HG : fits s.data.toList k hlt' → Hid (∀ j (hj : j < k + 1) (hj2 : j < s.data.toList.length), fits s.data.toList j hj2) := by
          intro h j hj hj2
          by_cases e : j = k
          · subst e; exact h
          · exact HA.out j (by omega) hj2
        have HX : ¬ fits s.data.toList k hlt' → Hid (ruleL s.data.toList = false) := by
          intro h
          show _ = _
          rw [HR.out]
          cases ha : (bodyL s.data.toList).all (fun b => ruleZ (b.toNat : Int)) with
          | false => rfl
          | true => exact absurd ((body_all _ _).1 ha k hlt') h
        have hel : s.data.toList[k]'hlt' = s[k]'hlt := rfl
        unfold fits at HG HX
        rw [hel] at HG HX
        have HL : Hid _ := len_eq s
        have HE : Hid ((s[k]'hlt = 36 ∧ k = s.data.toList.length - 1) → endsB s.data.toList = true) := fun h => ends_of hlt' h.1 h.2
        have h36 : (s[k]'hlt = 36) ↔ (((s[k]'hlt).toNat : Int) = 36) := by
          constructor
          · intro e; rw [e]; rfl
          · intro e; exact UInt8.toNat.inj (by show _ = 36; omega)
        rw [h36] at HG HX HE
        have hn0 : (0 : Int) ≤ ((s[k]'hlt).toNat : Int) := by omega
        have hn1 : ((s[k]'hlt).toNat : Int) ≤ 255 := byte_le _
        clear hel h36
        have hnb : ∀ c : Int, (((s[k]'hlt).toNat : Int) = c) ∨ ((((s[k]'hlt).toNat : Int) != c) = true) := fun c => by
          by_cases h : (((s[k]'hlt).toNat : Int) = c)
          · exact Or.inl h
          · exact Or.inr (by simpa using h)
        have hne : ∀ c : Int, (((s[k]'hlt).toNat : Int) = c) → ((((s[k]'hlt).toNat : Int) != c) = false) := fun c h => by simpa using h
        have hrz : ruleZ ((s[k]'hlt).toNat : Int) = (plainZ ((s[k]'hlt).toNat : Int) || decide (((s[k]'hlt).toNat : Int) = 47 ∨ ((s[k]'hlt).toNat : Int) = 42 ∨ ((s[k]'hlt).toNat : Int) = 63 ∨ ((s[k]'hlt).toNat : Int) = 37 ∨ 65 ≤ ((s[k]'hlt).toNat : Int) ∧ ((s[k]'hlt).toNat : Int) ≤ 70)) := rfl
        cases hp : plainZ ((s[k]'hlt).toNat : Int) with
        | true =>
          have HN : Hid _ := HG (Or.inl (by rw [hrz, hp]; rfl))
          clear HG HX hnb hne hrz
          go_wp2_with (go_at_call 154; refine (l1Plain_any _ _ hn0 hn1).mono ?_; rintro e w2 ⟨rfl, rfl⟩)
          go_round
          case rel => exact ⟨k + 1, by omega, by go_num, HN.out⟩
          case measure => simp [intOf]; omega
        | false =>
          rw [hp, Bool.false_or] at hrz
          rcases hnb 47 with g47 | h47
          · have HN : Hid _ := HG (Or.inl (by rw [hrz, g47]; rfl))
            have h47 := hne 47 g47
            clear HG HX hnb hne hrz g47
            go_wp2_with (go_at_call 154; refine (l1Plain_any _ _ hn0 hn1).mono ?_; rintro e w2 ⟨rfl, rfl⟩)
            go_round
            case rel => exact ⟨k + 1, by omega, by go_num, HN.out⟩
            case measure => simp [intOf]; omega
          rcases hnb 42 with g42 | h42
          · have HN : Hid _ := HG (Or.inl (by rw [hrz, g42]; rfl))
            have h42 := hne 42 g42
            clear HG HX hnb hne hrz g42
            go_wp2_with (go_at_call 154; refine (l1Plain_any _ _ hn0 hn1).mono ?_; rintro e w2 ⟨rfl, rfl⟩)
            go_round
            case rel => exact ⟨k + 1, by omega, by go_num, HN.out⟩
            case measure => simp [intOf]; omega
          rcases hnb 63 with g63 | h63
          · have HN : Hid _ := HG (Or.inl (by rw [hrz, g63]; rfl))
            have h63 := hne 63 g63
            clear HG HX hnb hne hrz g63
            go_wp2_with (go_at_call 154; refine (l1Plain_any _ _ hn0 hn1).mono ?_; rintro e w2 ⟨rfl, rfl⟩)
            go_round
            case rel => exact ⟨k + 1, by omega, by go_num, HN.out⟩
            case measure => simp [intOf]; omega
          rcases hnb 37 with g37 | h37
          · have HN : Hid _ := HG (Or.inl (by rw [hrz, g37]; rfl))
            have h37 := hne 37 g37
            clear HG HX hnb hne hrz g37
            go_wp2_with (go_at_call 154; refine (l1Plain_any _ _ hn0 hn1).mono ?_; rintro e w2 ⟨rfl, rfl⟩)
            go_round
            case rel => exact ⟨k + 1, by omega, by go_num, HN.out⟩
            case measure => simp [intOf]; omega
          by_cases hA : (65 : Int) ≤ ((s[k]'hlt).toNat : Int) ∧ ((s[k]'hlt).toNat : Int) ≤ 70
          · have HN : Hid _ := HG (Or.inl (by rw [hrz]; exact decide_eq_true (by omega)))
            obtain ⟨hA1, hA2⟩ := hA
            clear HG HX hnb hne hrz
            go_wp2_with (go_at_call 154; refine (l1Plain_any _ _ hn0 hn1).mono ?_; rintro e w2 ⟨rfl, rfl⟩)
            go_round
            case rel => exact ⟨k + 1, by omega, by go_num, HN.out⟩
            case measure => simp [intOf]; omega
          · have hrf : ruleZ ((s[k]'hlt).toNat : Int) = false := by
              rw [hrz]
              exact decide_eq_false (by simp at h47 h42 h63 h37; omega)
            rw [hrf] at HG HX
            clear hrz hrf
            rcases hnb 36 with g36 | h36
            · have h36 : ((((s[k]'hlt).toNat : Int)) == 36) = true := by simpa using g36
              by_cases hl : k = s.size - 1
              · have HN : Hid _ := HG (Or.inr ⟨⟨g36, by rw [HL.out]; exact hl⟩, HE.out ⟨g36, by rw [HL.out]; exact hl⟩⟩)
                have hl' : (((k : Nat) : Int) == (s.size : Int) - 1) = true := by simp; omega
                clear HG HX hnb hne g36 hl HE HL
                by_cases hB : (65 : Int) ≤ ((s[k]'hlt).toNat : Int)
                · have hB2 : ¬ ((s[k]'hlt).toNat : Int) ≤ 70 := by omega
                  have hB3 : (!decide (((s[k]'hlt).toNat : Int) ≤ 70)) = true := by rw [decide_eq_false hB2]; rfl
                  clear hA
                  go_wp2_with (go_at_call 154; refine (l1Plain_any _ _ hn0 hn1).mono ?_; rintro e w2 ⟨rfl, rfl⟩)
                  go_round
                  case rel => exact ⟨k + 1, by omega, by go_num, HN.out⟩
                  case measure => simp [intOf]; omega
                · go_wp2_with (go_at_call 154; refine (l1Plain_any _ _ hn0 hn1).mono ?_; rintro e w2 ⟨rfl, rfl⟩)
                  go_round
                  case rel => exact ⟨k + 1, by omega, by go_num, HN.out⟩
                  case measure => simp [intOf]; omega
              · have HN : Hid (ruleL s.data.toList = false) := HX (by rintro (h | ⟨⟨_, h⟩, _⟩); · cases h
                                                                      · rw [HL.out] at h; exact hl h)
                have hl' : (((k : Nat) : Int) == (s.size : Int) - 1) = false := by simp; omega
                clear HG HX hnb hne g36 hl HE HL
                by_cases hB : (65 : Int) ≤ ((s[k]'hlt).toNat : Int)
                · have hB2 : ¬ ((s[k]'hlt).toNat : Int) ≤ 70 := by omega
                  have hB3 : (!decide (((s[k]'hlt).toNat : Int) ≤ 70)) = true := by rw [decide_eq_false hB2]; rfl
                  clear hA
                  go_wp2_with (go_at_call 154; refine (l1Plain_any _ _ hn0 hn1).mono ?_; rintro e w2 ⟨rfl, rfl⟩)
                  go_ret
                  exact ⟨ret_bool HN.out.symm, rfl⟩
                · go_wp2_with (go_at_call 154; refine (l1Plain_any _ _ hn0 hn1).mono ?_; rintro e w2 ⟨rfl, rfl⟩)
                  go_ret
                  exact ⟨ret_bool HN.out.symm, rfl⟩
            · have HN : Hid (ruleL s.data.toList = false) := HX (by rintro (h | ⟨⟨h, _⟩, _⟩); · cases h
                                                                    · rw [h] at h36; cases h36)
              have h36' : ((((s[k]'hlt).toNat : Int)) == 36) = false := by simpa using h36
              clear HG HX hnb hne h36 HE HL
              by_cases hB : (65 : Int) ≤ ((s[k]'hlt).toNat : Int)
              · have hB2 : ¬ ((s[k]'hlt).toNat : Int) ≤ 70 := by omega
                have hB3 : (!decide (((s[k]'hlt).toNat : Int) ≤ 70)) = true := by rw [decide_eq_false hB2]; rfl
                clear hA
                go_wp2_with (go_at_call 154; refine (l1Plain_any _ _ hn0 hn1).mono ?_; rintro e w2 ⟨rfl, rfl⟩)
                go_ret
                exact ⟨ret_bool HN.out.symm, rfl⟩
              · go_wp2_with (go_at_call 154; refine (l1Plain_any _ _ hn0 hn1).mono ?_; rintro e w2 ⟨rfl, rfl⟩)
                go_ret
                exact ⟨ret_bool HN.out.symm, rfl⟩
      · have HF : Hid (ruleL s.data.toList = true) := by
          show _ = _
          rw [HR.out, body_all]
          intro j hj
          exact HA.out j (by rw [len_eq] at hj; omega) hj
        go_wp2
        go_ret
        exact ⟨ret_bool HF.out.symm, rfl⟩
  · have HN : Hid (ruleL s.data.toList = false) := ruleL_head (fun e => h3 ((head_at s (by omega)).1 e))
    have h3' : ((((s[0]'(by omega)).toNat : Int)) != 47) = true := by simpa using h3
    clear h3
    go_enter Tryz.func145, Tryz.ntmps145
    go_wp2
    go_ret
    exact ⟨ret_bool HN.out.symm, rfl⟩
end Go.Proofs.YtiennniclkbjlaaGreatDoor.Ru1
/- Does a text stand in a list: the laws' own. -/
namespace Go.Proofs.YtiennniclkbjlaaGreatDoor.Ht
open Go.RowKit Go.Proofs.YtiennniclkbjlaaGreatDoor.EscM Go.Proofs.YtiennniclkbjlaaGreatDoor.St Go.Proofs.YtiennniclkbjlaaGreatDoor.EscL

set_option maxRecDepth 100000 in
set_option maxHeartbeats 1600000 in
theorem has_any (a0 : Option Addr) (cap : Nat) (A : List ByteArray) (x : ByteArray) (w : World) (hA : IsStrs w a0 cap A) (hl : A.length ≤ 4194304) :
    Calls Tryz.prog 42 #[.slice a0 A.length cap, .string x] w fun e w' => e = .returned (.bool (hasB x A)) ∧ w' = w := by
  have HA : Hid (IsStrs w a0 cap A) := hA
  clear hA
  go_enter Tryz.func42, Tryz.ntmps42
  go_wp2
  go_loop [5] (fun i => ∃ k : Nat, k ≤ A.length ∧ i = .int .i64 (k : Int) ∧ Hid (x ∉ A.take k)) (fun i => A.length - (intOf i).toNat)
  case atStart => exact ⟨0, Nat.zero_le _, rfl, by show x ∉ _; simp⟩
  case round =>
    obtain ⟨k, hk, rfl, HN⟩ := hrel
    by_cases hlt : k < A.length
    · obtain ⟨b1, o1, e1, c1⟩ := HA.out.at hlt
      subst e1
      cases he : (A[k].toList == x.toList) with
      | true =>
        have HE : Hid (hasB x A = true) := by
          apply hasB_iff.2
          rw [str_eq_iff] at he
          have := of_decide_eq_true he
          rw [← this]; exact List.getElem_mem hlt
        go_wp2
        go_ret
        exact ⟨by rw [HE.out]; rfl, rfl⟩
      | false =>
        have HE : Hid (x ∉ A.take (k + 1)) := by
          show x ∉ _
          rw [str_eq_iff] at he
          have := of_decide_eq_false he
          rw [List.take_succ_eq_append_getElem hlt, List.mem_append]
          intro h
          rcases h with h | h
          · exact HN.out h
          · simp at h; exact this h.symm
        go_wp2
        go_round
        case rel => exact ⟨k + 1, by omega, by go_num, HE⟩
        case measure => simp [intOf]; omega
    · have HE : Hid (hasB x A = false) := by
        apply hasB_no.2
        have e1 : A.take k = A := List.take_of_length_le (by omega)
        rw [← e1]; exact HN.out
      go_wp2
      go_ret
      exact ⟨by rw [HE.out]; rfl, rfl⟩
end Go.Proofs.YtiennniclkbjlaaGreatDoor.Ht
