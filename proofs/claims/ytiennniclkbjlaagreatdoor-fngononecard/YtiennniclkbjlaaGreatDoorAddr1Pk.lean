/- Several texts in one: Addr1, ReTwo, Addr2, Addr3, Addr4, Addr5, Addr6, DecAny, DecAny2, Nt2, Has1, Has2, HasDoor. -/
import Derived.Test.YtiennniclkbjlaaGreatDoorAddrMath
import Derived.Test.YtiennniclkbjlaaGreatDoorEscLeafPk
import Derived.Test.YtiennniclkbjlaaGreatDoorStrsPk
import Derived.Test.YtiennniclkbjlaaGreatDoorShelf
import Derived.Lib.OthersKept
import Derived.Laws.Runes
import Derived.Test.YtiennniclkbjlaaGreatDoorGrpMathPk
import Derived.Test.YtiennniclkbjlaaGreatDoorHasMath
import Derived.Test.YtiennniclkbjlaaGreatDoorLibSplit
import Derived.Shelf.Vars
/- Is an address ok, and how is it written: of the program and of the model. The leaves. -/
namespace Go.Proofs.YtiennniclkbjlaaGreatDoor.Ad1
open Go.RowKit Go.Proofs.YtiennniclkbjlaaGreatDoor.EscM Go.Proofs.YtiennniclkbjlaaGreatDoor.AddrM Go.Proofs.YtiennniclkbjlaaGreatDoor.St Go.Proofs.YtiennniclkbjlaaGreatDoor.EscL

theorem small_take (s : ByteArray) (k : Nat) (h : k < s.size) (hp : (s.data.toList.take k).all (fun b => decide (97 ≤ (b.toNat : Int) ∧ (b.toNat : Int) ≤ 122)) = true) (h1 : 97 ≤ ((s[k]'h).toNat : Int)) (h2 : ((s[k]'h).toNat : Int) ≤ 122) :
    (s.data.toList.take (k + 1)).all (fun b => decide (97 ≤ (b.toNat : Int) ∧ (b.toNat : Int) ≤ 122)) = true := by
  rw [List.take_succ_eq_append_getElem (by simpa using h), List.all_append, hp]
  have : s.data.toList[k]'(by simpa using h) = s[k]'h := rfl
  simp only [List.all_cons, List.all_nil, this, Bool.true_and, Bool.and_true]
  exact decide_eq_true ⟨h1, h2⟩
theorem small_not (s : ByteArray) (k : Nat) (h : k < s.size) (hn : ¬ (97 ≤ ((s[k]'h).toNat : Int) ∧ ((s[k]'h).toNat : Int) ≤ 122)) : smallB s = false := by
  cases hs : smallB s with
  | false => rfl
  | true =>
    have := List.all_eq_true.1 hs (s[k]'h) (by rw [getElem_eq]; exact List.getElem_mem _)
    exact absurd (of_decide_eq_true this) hn

theorem in_any (n a b : Int) (w : World) :
    Calls Tryz.prog 57 #[.int .i64 n, .int .i64 a, .int .i64 b] w fun e w' => e = .returned (.bool (decide (a ≤ n) && decide (n ≤ b))) ∧ w' = w := by
  by_cases h1 : a ≤ n
  · go_enter Tryz.func57, Tryz.ntmps57
    go_wp2
    go_ret
    exact ⟨ret_bool (by rw [decide_eq_true h1]; simp), rfl⟩
  · have h1' : decide (a ≤ n) = false := decide_eq_false h1
    go_enter Tryz.func57, Tryz.ntmps57
    go_wp2
    go_ret
    exact ⟨ret_bool rfl, rfl⟩

set_option maxRecDepth 100000 in
set_option maxHeartbeats 800000 in
theorem specHouse_any (s : ByteArray) (w : World) (hs : s.size ≤ maxLen) :
    Calls Tryz.prog 111 #[.string s] w fun e w' => e = .returned (.bool (houseB s)) ∧ w' = w := by
  unfold maxLen at hs
  go_enter Tryz.func111, Tryz.ntmps111
  go_wp2
  go_loopw [3] (fun i wr => ∃ k : Nat, k ≤ s.size ∧ i = .int .i64 (k : Int) ∧ wr = w ∧ Hid ((s.data.toList.take k).all (fun b => decide (97 ≤ (b.toNat : Int) ∧ (b.toNat : Int) ≤ 122)) = true)) (fun i _ => s.size - (intOf i).toNat)
  case atStart => exact ⟨0, Nat.zero_le _, rfl, rfl, by show _ = _; simp⟩
  case round =>
    obtain ⟨k, hk, rfl, rfl, HP⟩ := hrel
    by_cases hlt : k < s.size
    · by_cases h1 : (97 : Int) ≤ (s[k]'hlt).toNat
      · by_cases h2 : ((s[k]'hlt).toNat : Int) ≤ 122
        · have HN : Hid _ := small_take s k hlt HP.out h1 h2
          go_wp2
          go_roundw
          case rel => exact ⟨k + 1, by omega, by go_num, by trivial, HN.out⟩
          case measure => simp [intOf]; omega
        · have HN : Hid (houseB s = false) := by show _ = _; unfold houseB; rw [small_not s k hlt (by omega)]; simp
          go_wp2
          go_ret
          exact ⟨ret_bool HN.out.symm, rfl⟩
      · have HN : Hid (houseB s = false) := by show _ = _; unfold houseB; rw [small_not s k hlt (by omega)]; simp
        go_wp2
        go_ret
        exact ⟨ret_bool HN.out.symm, rfl⟩
    · have HS : Hid (houseB s = (decide ((1 : Int) ≤ (s.size : Int)) && decide ((s.size : Int) ≤ 5))) := by
        show _ = _
        have hall : smallB s = true := by
          have := HP.out
          rwa [List.take_of_length_le (by simp; omega)] at this
        unfold houseB
        rw [hall, Bool.and_true, Bool.eq_iff_iff]; simp; omega
      go_wp2_with (go_at_call 57; refine (in_any _ _ _ _).mono ?_; rintro e w1 ⟨rfl, rfl⟩)
      go_ret
      exact ⟨ret_bool HS.out.symm, rfl⟩

set_option maxRecDepth 100000 in
set_option maxHeartbeats 800000 in
theorem implSmall_any (s : ByteArray) (w : World) (hs : s.size ≤ maxLen) :
    Calls Tryz.prog 61 #[.string s, .int .i64 5] w fun e w' => e = .returned (.bool (houseB s)) ∧ w' = w := by
  unfold maxLen at hs
  by_cases h1 : s.size < 1
  · have HN : Hid (houseB s = false) := by show _ = _; unfold houseB; rw [decide_eq_false (by omega)]; simp
    go_enter Tryz.func61, Tryz.ntmps61
    go_wp2
    go_ret
    exact ⟨ret_bool HN.out.symm, rfl⟩
  by_cases h5 : 5 < s.size
  · have HN : Hid (houseB s = false) := by show _ = _; unfold houseB; rw [decide_eq_false (by omega)]; simp
    go_enter Tryz.func61, Tryz.ntmps61
    go_wp2
    go_ret
    exact ⟨ret_bool HN.out.symm, rfl⟩
  go_enter Tryz.func61, Tryz.ntmps61
  go_wp2
  go_loop [5] (fun i => ∃ k : Nat, k ≤ s.size ∧ i = .int .i64 (k : Int) ∧ Hid ((s.data.toList.take k).all (fun b => decide (97 ≤ (b.toNat : Int) ∧ (b.toNat : Int) ≤ 122)) = true)) (fun i => s.size - (intOf i).toNat)
  case atStart => exact ⟨0, Nat.zero_le _, rfl, by show _ = _; simp⟩
  case round =>
    obtain ⟨k, hk, rfl, HP⟩ := hrel
    by_cases hlt : k < s.size
    · by_cases h1 : (97 : Int) ≤ (s[k]'hlt).toNat
      · by_cases h2 : ((s[k]'hlt).toNat : Int) ≤ 122
        · have HN : Hid _ := small_take s k hlt HP.out h1 h2
          go_wp2
          go_round
          case rel => exact ⟨k + 1, by omega, by go_num, HN.out⟩
          case measure => simp [intOf]; omega
        · have HN : Hid (houseB s = false) := by show _ = _; unfold houseB; rw [small_not s k hlt (by omega)]; simp
          go_wp2
          go_ret
          exact ⟨ret_bool HN.out.symm, rfl⟩
      · have HN : Hid (houseB s = false) := by show _ = _; unfold houseB; rw [small_not s k hlt (by omega)]; simp
        go_wp2
        go_ret
        exact ⟨ret_bool HN.out.symm, rfl⟩
    · have HS : Hid (houseB s = true) := by
        show _ = _
        have hall : smallB s = true := by
          have := HP.out
          rwa [List.take_of_length_le (by simp; omega)] at this
        unfold houseB
        rw [hall, decide_eq_true (by omega)]; rfl
      go_wp2
      go_ret
      exact ⟨ret_bool HS.out.symm, rfl⟩

theorem specNorm_any (s : ByteArray) (w : World) (hs : s.size ≤ maxLen) :
    Calls Tryz.prog 112 #[.string s] w fun e w' => e = .returned (.bool (normB s)) ∧ Below w.heap.size w w' := by
  cases hb : escB s with
  | true =>
    have HB : Hid _ := hb
    have HN : Hid (normB s = ((escS s).toList == s.toList)) := by show _ = _; unfold normB; rw [hb]; rfl
    clear hb
    go_enter Tryz.func112, Tryz.ntmps112
    go_wp2_with (go_at_call 132; refine (specEsc_any s _ hs).mono ?_; rintro e w1 ⟨rfl, hb1⟩; rw [HB.out])
    go_ret
    exact ⟨ret_bool HN.out.symm, hb1⟩
  | false =>
    have HB : Hid _ := hb
    have HN : Hid (normB s = false) := by show _ = _; unfold normB; rw [hb]; rfl
    clear hb
    go_enter Tryz.func112, Tryz.ntmps112
    go_wp2_with (go_at_call 132; refine (specEsc_any s _ hs).mono ?_; rintro e w1 ⟨rfl, hb1⟩; rw [HB.out])
    go_ret
    exact ⟨ret_bool HN.out.symm, hb1⟩

theorem implNorm_any (s : ByteArray) (w : World) (hs : s.size ≤ maxLen) :
    Calls Tryz.prog 130 #[.string s] w fun e w' => e = .returned (.bool (normB s)) ∧ Below w.heap.size w w' := by
  cases hb : escB s with
  | true =>
    have HB : Hid _ := hb
    have HN : Hid (normB s = ((escS s).toList == s.toList)) := by show _ = _; unfold normB; rw [hb]; rfl
    clear hb
    go_enter Tryz.func130, Tryz.ntmps130
    go_wp2_with (go_at_call 152; refine (implEsc_any s _ hs).mono ?_; rintro e w1 ⟨rfl, hb1⟩; rw [HB.out])
    go_ret
    exact ⟨ret_bool HN.out.symm, hb1⟩
  | false =>
    have HB : Hid _ := hb
    have HN : Hid (normB s = false) := by show _ = _; unfold normB; rw [hb]; rfl
    clear hb
    go_enter Tryz.func130, Tryz.ntmps130
    go_wp2_with (go_at_call 152; refine (implEsc_any s _ hs).mono ?_; rintro e w1 ⟨rfl, hb1⟩; rw [HB.out])
    go_ret
    exact ⟨ret_bool HN.out.symm, hb1⟩

theorem implPart_any (s : ByteArray) (w : World) (hs : s.size ≤ maxLen) :
    Calls Tryz.prog 129 #[.string s] w fun e w' => e = .returned (.bool (partB s)) ∧ Below w.heap.size w w' := by
  cases h1 : s.toList.isEmpty with
  | true =>
    have HN : Hid (partB s = false) := by show _ = _; unfold partB; rw [h1]; rfl
    go_enter Tryz.func129, Tryz.ntmps129
    go_wp2
    go_ret
    exact ⟨ret_bool HN.out.symm, Below.refl _ _⟩
  | false =>
    cases h2 : (s.toList == [46]) with
    | true =>
      have HN : Hid (partB s = false) := by show _ = _; unfold partB; rw [h1, h2]; rfl
      go_enter Tryz.func129, Tryz.ntmps129
      go_wp2
      go_ret
      exact ⟨ret_bool HN.out.symm, Below.refl _ _⟩
    | false =>
      cases h3 : (s.toList == [46, 46]) with
      | true =>
        have HN : Hid (partB s = false) := by show _ = _; unfold partB; rw [h1, h2, h3]; rfl
        go_enter Tryz.func129, Tryz.ntmps129
        go_wp2
        go_ret
        exact ⟨ret_bool HN.out.symm, Below.refl _ _⟩
      | false =>
        have HN : Hid (partB s = normB s) := by show _ = _; unfold partB; rw [h1, h2, h3]; rfl
        go_enter Tryz.func129, Tryz.ntmps129
        go_wp2_with (go_at_call 130; refine (implNorm_any s _ hs).mono ?_; rintro e w1 ⟨rfl, hb1⟩)
        go_ret
        exact ⟨ret_bool HN.out.symm, hb1⟩
end Go.Proofs.YtiennniclkbjlaaGreatDoor.Ad1
/- Two growing lists of one's own, apart. -/
namespace Go.Proofs.YtiennniclkbjlaaGreatDoor.ReM
open Go.RowKit Go.Proofs.YtiennniclkbjlaaGreatDoor.AddrM Go.Proofs.YtiennniclkbjlaaGreatDoor.St Go.Proofs.YtiennniclkbjlaaGreatDoor.EscL

/-- two lists, each in its own block -/
def TwoL (w : World) (base : Nat) (v1 : Value) (L1 : List ByteArray) (v2 : Value) (L2 : List ByteArray) : Prop :=
  Owns w base v1 L1 ∧ Owns w base v2 L2 ∧ ∀ k, v1.ownBlock = some k → v2.ownBlock = some k → False
variable {w w' : World} {base : Nat} {v1 v2 v1' v2' : Value} {L1 L2 L1' L2' : List ByteArray}
theorem owns_lt {v : Value} {L : List ByteArray} (h : Owns w base v L) : ∀ k, v.ownBlock = some k → k < w.heap.size := by
  obtain ⟨_, ⟨hv, _⟩ | ⟨g, cap, cur, hv, _, hh, _⟩⟩ := h
  · intro k hk; rw [hv] at hk; cases hk
  · intro k hk
    rw [hv] at hk
    have e : g = k := Option.some.inj hk
    subst e
    exact (Array.getElem?_eq_some_iff.1 hh).1
theorem owns_apart {v : Value} {L : List ByteArray} {row : Option Nat} (h : Owns w base v L) (hg : w.grownBy w' row) (ha : ∀ k, v.ownBlock = some k → row = some k → False) : Owns w' base v L := by
  refine World.ownsRow.kept h hg ?_
  cases hv : v.ownBlock with
  | none => exact Or.inl rfl
  | some k => exact Or.inr fun e => ha k hv e.symm
/-- the first has grown -/
theorem TwoL.one (h : TwoL w base v1 L1 v2 L2) (hg : w.grownBy w' v1.ownBlock) (hO : Owns w' base v1' L1') (hn : v1'.ownBlock = v1.ownBlock ∨ ∃ g, v1'.ownBlock = some g ∧ w.heap.size ≤ g) : TwoL w' base v1' L1' v2 L2 := by
  obtain ⟨h1, h2, h3⟩ := h
  refine ⟨hO, owns_apart h2 hg (fun k hk hk2 => h3 k hk2 hk), fun k hk hk2 => ?_⟩
  rcases hn with e | ⟨g, e, hge⟩
  · rw [e] at hk; exact h3 k hk hk2
  · rw [e] at hk
    have e2 : g = k := Option.some.inj hk
    have := owns_lt h2 k hk2
    omega
theorem TwoL.swap (h : TwoL w base v1 L1 v2 L2) : TwoL w base v2 L2 v1 L1 := ⟨h.2.1, h.1, fun k hk hk2 => h.2.2 k hk2 hk⟩
/-- the second has grown -/
theorem TwoL.two (h : TwoL w base v1 L1 v2 L2) (hg : w.grownBy w' v2.ownBlock) (hO : Owns w' base v2' L2') (hn : v2'.ownBlock = v2.ownBlock ∨ ∃ g, v2'.ownBlock = some g ∧ w.heap.size ≤ g) : TwoL w' base v1 L1 v2' L2' := (h.swap.one hg hO hn).swap
theorem TwoL.below (h : TwoL w base v1 L1 v2 L2) (hb : Below w.heap.size w w') : TwoL w' base v1 L1 v2 L2 := ⟨h.1.below hb, h.2.1.below hb, h.2.2⟩
theorem TwoL.alloc (h : TwoL w base v1 L1 v2 L2) (o : Obj) : TwoL (w.alloc o) base v1 L1 v2 L2 := ⟨h.1.keep (alloc_keep _ _), h.2.1.keep (alloc_keep _ _), h.2.2⟩
theorem TwoL.mono (h : TwoL w base v1 L1 v2 L2) {base' : Nat} (hb : base' ≤ base) : TwoL w base' v1 L1 v2 L2 := ⟨h.1.mono hb, h.2.1.mono hb, h.2.2⟩
end Go.Proofs.YtiennniclkbjlaaGreatDoor.ReM
/- How an address is written: of the program and of the model. -/
namespace Go.Proofs.YtiennniclkbjlaaGreatDoor.Ad1
open Go.RowKit Go.Proofs.YtiennniclkbjlaaGreatDoor.EscM Go.Proofs.YtiennniclkbjlaaGreatDoor.AddrM Go.Proofs.YtiennniclkbjlaaGreatDoor.St Go.Proofs.YtiennniclkbjlaaGreatDoor.EscL

theorem size_mk (l : List UInt8) : (⟨l.toArray⟩ : ByteArray).size = l.length := by show l.toArray.size = _; simp
theorem app_mk (l : List UInt8) (s : ByteArray) : (⟨l.toArray⟩ : ByteArray) ++ s = ⟨(l ++ s.data.toList).toArray⟩ := by apply ByteArray.ext; simp
theorem app_mk' (s : ByteArray) (l : List UInt8) : s ++ (⟨l.toArray⟩ : ByteArray) = ⟨(s.data.toList ++ l).toArray⟩ := by apply ByteArray.ext; simp

theorem path_step (L : List ByteArray) (k : Nat) (hk : k < L.length) (h0 : 0 < k) : 47 :: joinL (L.take (k + 1)) = ((47 :: joinL (L.take k)) ++ [47]) ++ L[k].data.toList := by
  rw [List.take_succ_eq_append_getElem hk, joinL_snoc _ _ (by intro e; have := congrArg List.length e; rw [List.length_take] at this; simp only [List.length_nil] at this; omega)]
  simp
theorem path_zero (L : List ByteArray) (k : Nat) (hk : k < L.length) (h0 : k = 0) : 47 :: joinL (L.take (k + 1)) = (47 :: joinL (L.take k)) ++ L[k].data.toList := by
  subst h0
  rw [List.take_succ_eq_append_getElem hk]; simp [joinL]
theorem sum_take (L : List ByteArray) (k : Nat) : sumS (L.take k) ≤ sumS L := by
  induction L generalizing k with
  | nil => simp [sumS]
  | cons x r ih =>
    cases k with
    | zero => simp [sumS]
    | succ k => have := ih k; simp only [List.take_succ_cons, sumS]; omega

set_option maxRecDepth 100000 in
set_option maxHeartbeats 1600000 in
theorem specPathW_any (A : Ad) (a0 : Option Addr) (cap : Nat) (w : World) (hS : IsStrs w a0 cap A.parts) (hB : bulkA A ≤ 4194304) :
    Calls Tryz.prog 113 #[.agg #[.string A.house, .slice a0 A.parts.length cap, .bool A.asks, .string A.ask]] w fun e w' => e = .returned (.string (pathS A)) ∧ Below w.heap.size w w' := by
  have HS : Hid (IsStrs (w.alloc (.cells #[.string A.house, .slice a0 A.parts.length cap, .bool A.asks, .string A.ask] 97)) a0 cap A.parts) := hS.keep (alloc_keep _ _)
  have hB2 : A.house.size + sumS A.parts + A.parts.length + A.ask.size ≤ 4194304 := hB
  have hpl := pathL_len A
  have hc := hS.1
  have hm := hS.2.1
  unfold maxLen at hm
  have HE : Hid (pathL A = (47 :: joinL A.parts) ++ if A.asks then [63] ++ A.ask.data.toList else []) := by show _ = _; unfold pathL; simp
  have hjl := joinL_len A.parts
  unfold pathS
  clear hS
  obtain ⟨house, parts, asks, ask⟩ := A
  dsimp only at *
  go_enter Tryz.func113, Tryz.ntmps113
  go_wp2
  go_loop [3, 4] (fun v i => ∃ k : Nat, k ≤ parts.length ∧ i = .int .i64 (k : Int) ∧ v = .string ⟨(47 :: joinL (parts.take k)).toArray⟩) (fun _ i => parts.length - (intOf i).toNat)
  case atStart => exact ⟨0, Nat.zero_le _, rfl, rfl⟩
  case round =>
    obtain ⟨k, hk, rfl, rfl⟩ := hrel
    have hjk := joinL_len (parts.take k)
    have hst := sum_take parts k
    have hjn : (joinL (parts.take k)).length ≤ 8400000 := by rw [List.length_take] at hjk; omega
    clear hjk hst
    by_cases hlt : k < parts.length
    · obtain ⟨b, o, e, c⟩ := HS.out.at hlt
      have hps := sum_mem (List.getElem_mem hlt)
      subst e
      by_cases hk0 : 0 < k
      · have HT : Hid _ := path_step parts k hlt hk0
        generalize parts[k] = p at *
        go_wp2
        go_round
        case rel => exact ⟨k + 1, by omega, by go_num, val_str (by rw [HT.out, show (⟨#[47]⟩ : ByteArray) = ⟨[47].toArray⟩ from rfl, str_app, app_mk])⟩
        case measure => simp [intOf]; omega
      · have HT : Hid _ := path_zero parts k hlt (by omega)
        generalize parts[k] = p at *
        go_wp2
        go_round
        case rel => exact ⟨k + 1, by omega, by go_num, val_str (by rw [HT.out, app_mk])⟩
        case measure => simp [intOf]; omega
    · have e1 : parts.take k = parts := List.take_of_length_le (by omega)
      rw [e1] at hjn ⊢
      cases asks with
      | true =>
        clear e1
        go_wp2
        go_ret
        refine ⟨ret_str ?_, (Below.refl _ _).alloc (Nat.le_refl _) _⟩
        rw [HE.out, show (⟨#[63]⟩ : ByteArray) = ⟨[63].toArray⟩ from rfl, str_app, app_mk]
        simp
      | false =>
        clear e1
        go_wp2
        go_ret
        refine ⟨ret_str ?_, (Below.refl _ _).alloc (Nat.le_refl _) _⟩
        rw [HE.out]; simp

set_option maxRecDepth 100000 in
set_option maxHeartbeats 1600000 in
theorem implPathW_any (A : Ad) (a0 : Option Addr) (cap : Nat) (w : World) (hS : IsStrs w a0 cap A.parts) (hB : bulkA A ≤ 4194304) :
    Calls Tryz.prog 117 #[.agg #[.string A.house, .slice a0 A.parts.length cap, .bool A.asks, .string A.ask]] w fun e w' => e = .returned (.string (pathS A)) ∧ Below w.heap.size w w' := by
  have HS : Hid (IsStrs (w.alloc (.cells #[.string A.house, .slice a0 A.parts.length cap, .bool A.asks, .string A.ask] 97)) a0 cap A.parts) := hS.keep (alloc_keep _ _)
  have hB2 : A.house.size + sumS A.parts + A.parts.length + A.ask.size ≤ 4194304 := hB
  have hc := hS.1
  have hm := hS.2.1
  unfold maxLen at hm
  have HE : Hid (pathL A = (47 :: joinL A.parts) ++ if A.asks then [63] ++ A.ask.data.toList else []) := by show _ = _; unfold pathL; simp
  have hjl := joinL_len A.parts
  unfold pathS
  clear hS
  obtain ⟨house, parts, asks, ask⟩ := A
  dsimp only at *
  have HJ : Hid (Calls Tryz.prog 142 #[.slice a0 parts.length cap, .string ⟨#[47]⟩] (w.alloc (.cells #[.string house, .slice a0 parts.length cap, .bool asks, .string ask] 97)) fun e w' => e = .returned (.string ⟨(joinL parts).toArray⟩) ∧ Below (w.heap.size + 1) (w.alloc (.cells #[.string house, .slice a0 parts.length cap, .bool asks, .string ask] 97)) w') := by
    show Calls _ _ _ _ _
    by_cases hne : parts = []
    · subst hne
      refine (Tryz.strings_Join_none a0 cap ⟨#[47]⟩ _).mono ?_
      rintro e w' ⟨rfl, rfl⟩
      exact ⟨rfl, Below.refl _ _⟩
    · obtain ⟨b, o, e, hcell⟩ := HS.out.2.2.2 hne
      subst e
      have hblk := cell_block (hcell 0 (List.length_pos_iff.2 hne))
      have hlen : (Lib.join (parts.map (·.data.toList)) (⟨#[47]⟩ : ByteArray).data.toList).length ≤ 140737488355328 := by
        rw [show (⟨#[47]⟩ : ByteArray).data.toList = [47] from rfl, join_eq]; omega
      refine (Tryz.strings_Join b o cap parts ⟨#[47]⟩ _ ?_ hblk (by omega) hc hlen).mono ?_
      · intro j x hj
        have hj' := (List.getElem?_eq_some_iff.1 hj)
        rw [hcell j hj'.1, hj'.2]
      · rintro e w' ⟨rfl, hb⟩
        refine ⟨?_, by simpa using hb⟩
        rw [show (⟨#[47]⟩ : ByteArray).data.toList = [47] from rfl, join_eq]
  go_enter Tryz.func117, Tryz.ntmps117
  go_wp2_with fail
  refine HJ.out.mono ?_
  rintro e w1 ⟨rfl, hb1⟩
  have hc1 : ∀ j, w1.cell? ⟨w.heap.size, j, none⟩ = (w.alloc (.cells #[.string house, .slice a0 parts.length cap, .bool asks, .string ask] 97)).cell? ⟨w.heap.size, j, none⟩ := fun j => hb1.cell (by show w.heap.size < _; omega)
  have c2 : w1.cell? ⟨w.heap.size, 2, none⟩ = some (.bool asks) := by rw [hc1]; simp
  have c3 : w1.cell? ⟨w.heap.size, 3, none⟩ = some (.string ask) := by rw [hc1]; simp
  have hbw : Below w.heap.size w w1 := ((Below.refl _ _).alloc (Nat.le_refl _) _).trans (hb1.mono (by omega))
  clear hc1 HJ HS hb1
  cases asks with
  | true =>
    go_wp2
    go_ret
    refine ⟨ret_str ?_, hbw⟩
    rw [HE.out, show (⟨#[47]⟩ : ByteArray) = ⟨[47].toArray⟩ from rfl, show (⟨#[63]⟩ : ByteArray) = ⟨[63].toArray⟩ from rfl, str_app, app_mk, str_app]
    simp
  | false =>
    go_wp2
    go_ret
    refine ⟨ret_str ?_, hbw⟩
    rw [HE.out, show (⟨#[47]⟩ : ByteArray) = ⟨[47].toArray⟩ from rfl, str_app]
    simp
end Go.Proofs.YtiennniclkbjlaaGreatDoor.Ad1
/- An address's text, and whether it is ok: of the program and of the model. -/
namespace Go.Proofs.YtiennniclkbjlaaGreatDoor.Ad1
open Go.RowKit Go.Proofs.YtiennniclkbjlaaGreatDoor.EscM Go.Proofs.YtiennniclkbjlaaGreatDoor.AddrM Go.Proofs.YtiennniclkbjlaaGreatDoor.St Go.Proofs.YtiennniclkbjlaaGreatDoor.EscL

theorem text_eq (A : Ad) : (⟨#[47, 47]⟩ : ByteArray) ++ A.house ++ pathS A = textS A := by
  unfold pathS textS textL
  apply ByteArray.ext; simp

set_option maxRecDepth 100000 in
set_option maxHeartbeats 1600000 in
theorem specText_any (A : Ad) (a0 : Option Addr) (cap : Nat) (w : World) (hS : IsStrs w a0 cap A.parts) (hB : bulkA A ≤ 4194304) :
    Calls Tryz.prog 85 #[.agg #[.string A.house, .slice a0 A.parts.length cap, .bool A.asks, .string A.ask]] w fun e w' => e = .returned (.string (textS A)) ∧ Below w.heap.size w w' := by
  have HS : Hid (IsStrs (w.alloc (.cells #[.string A.house, .slice a0 A.parts.length cap, .bool A.asks, .string A.ask] 97)).drew a0 cap A.parts) := hS.keep (alloc_keep _ _)
  have HT : Hid _ := text_eq A
  have hps : (pathS A).size ≤ 4194307 := by unfold pathS; rw [size_mk]; have := pathL_len A; omega
  have hhs : A.house.size ≤ 4194304 := by unfold bulkA at hB; omega
  clear hS
  go_enter Tryz.func85, Tryz.ntmps85
  go_wp2
  go_region_with (go_at_call 113; refine (specPathW_any A a0 cap _ HS.out hB).mono ?_; rintro e w1 ⟨rfl, hb1⟩; have cw : w1.cell? ⟨w.heap.size, 0, none⟩ = some (.string A.house) := (hb1.cell (by show w.heap.size < _; simp)).trans (by simp))
  all_goals
    go_wp2
    go_ret
    exact ⟨ret_str HT.out, (((Below.refl _ _).alloc (Nat.le_refl _) _).drew).trans (hb1.mono (by simp))⟩

set_option maxRecDepth 100000 in
set_option maxHeartbeats 1600000 in
theorem implText_any (A : Ad) (a0 : Option Addr) (cap : Nat) (w : World) (hS : IsStrs w a0 cap A.parts) (hB : bulkA A ≤ 4194304) :
    Calls Tryz.prog 108 #[.agg #[.string A.house, .slice a0 A.parts.length cap, .bool A.asks, .string A.ask]] w fun e w' => e = .returned (.string (textS A)) ∧ Below w.heap.size w w' := by
  have HS : Hid (IsStrs (w.alloc (.cells #[.string A.house, .slice a0 A.parts.length cap, .bool A.asks, .string A.ask] 97)).drew a0 cap A.parts) := hS.keep (alloc_keep _ _)
  have HT : Hid _ := text_eq A
  have hps : (pathS A).size ≤ 4194307 := by unfold pathS; rw [size_mk]; have := pathL_len A; omega
  have hhs : A.house.size ≤ 4194304 := by unfold bulkA at hB; omega
  clear hS
  go_enter Tryz.func108, Tryz.ntmps108
  go_wp2
  go_region_with (go_at_call 117; refine (implPathW_any A a0 cap _ HS.out hB).mono ?_; rintro e w1 ⟨rfl, hb1⟩; have cw : w1.cell? ⟨w.heap.size, 0, none⟩ = some (.string A.house) := (hb1.cell (by show w.heap.size < _; simp)).trans (by simp))
  all_goals
    go_wp2
    go_ret
    exact ⟨ret_str HT.out, (((Below.refl _ _).alloc (Nat.le_refl _) _).drew).trans (hb1.mono (by simp))⟩
end Go.Proofs.YtiennniclkbjlaaGreatDoor.Ad1
/- Whether an address is ok: of the program and of the model. -/
namespace Go.Proofs.YtiennniclkbjlaaGreatDoor.Ad1
open Go.RowKit Go.Proofs.YtiennniclkbjlaaGreatDoor.EscM Go.Proofs.YtiennniclkbjlaaGreatDoor.AddrM Go.Proofs.YtiennniclkbjlaaGreatDoor.St Go.Proofs.YtiennniclkbjlaaGreatDoor.EscL

theorem box_cells {w wr : World} {x0 x1 x2 x3 : Value} {t : TypeId} (hb : Below (w.heap.size + 1) (w.alloc (.cells #[x0, x1, x2, x3] t)) wr) :
    wr.cell? ⟨w.heap.size, 0, none⟩ = some x0 ∧ wr.cell? ⟨w.heap.size, 1, none⟩ = some x1 ∧ wr.cell? ⟨w.heap.size, 2, none⟩ = some x2 ∧ wr.cell? ⟨w.heap.size, 3, none⟩ = some x3 := by
  have h : ∀ j, wr.cell? ⟨w.heap.size, j, none⟩ = (w.alloc (.cells #[x0, x1, x2, x3] t)).cell? ⟨w.heap.size, j, none⟩ := fun j => hb.cell (by show w.heap.size < _; omega)
  exact ⟨by rw [h]; simp, by rw [h]; simp, by rw [h]; simp, by rw [h]; simp⟩
theorem box_below {w wr : World} {o : Obj} (hb : Below (w.heap.size + 1) (w.alloc o) wr) : Below w.heap.size w wr := ((Below.refl _ _).alloc (Nat.le_refl _) _).trans (hb.mono (by omega))
theorem box_strs {w wr : World} {o : Obj} {a0 : Option Addr} {cap : Nat} {L : List ByteArray} (hS : IsStrs w a0 cap L) (hb : Below (w.heap.size + 1) (w.alloc o) wr) : IsStrs wr a0 cap L := hS.below (box_below hb)
theorem box_next {w wr w1 : World} {o : Obj} (hb : Below (w.heap.size + 1) (w.alloc o) wr) (h1 : Below wr.heap.size wr w1) : Below (w.heap.size + 1) (w.alloc o) w1 := hb.trans (h1.mono (by have := hb.size; simp at this; omega))

theorem ok_house {A : Ad} (h : houseB A.house = false) : okB A = false := by unfold okB; rw [h]; simp
theorem ok_long {A : Ad} (h : ¬ A.parts.length ≤ 5) : okB A = false := by unfold okB; rw [decide_eq_false h]; simp
theorem ok_norm {A : Ad} (h : normB A.ask = false) : okB A = false := by unfold okB; rw [h]; simp
theorem ok_ask {A : Ad} (h1 : A.asks = false) (h2 : A.ask.toList.isEmpty = false) : okB A = false := by unfold okB; rw [h1, h2]; simp
theorem ok_part {A : Ad} {p : ByteArray} (hp : p ∈ A.parts) (h : partB p = false) : okB A = false := by
  unfold okB
  have : A.parts.all partB = false := by
    rw [List.all_eq_false]; exact ⟨p, hp, by simp [h]⟩
  rw [this]; simp
theorem ok_rest {A : Ad} (h1 : houseB A.house = true) (h2 : A.parts.length ≤ 5) (h3 : A.parts.all partB = true) (h4 : (A.asks || A.ask.toList.isEmpty) = true) (h5 : normB A.ask = true) : okB A = decide (((textS A).size : Int) ≤ 60) := by
  unfold okB textS
  rw [h1, decide_eq_true h2, h3, h4, h5, size_mk]; simp; omega
theorem all_take {L : List ByteArray} {k : Nat} (hk : k < L.length) (h : (L.take k).all partB = true) (hp : partB L[k] = true) : (L.take (k + 1)).all partB = true := by
  rw [List.take_succ_eq_append_getElem hk, List.all_append, h]; simp [hp]
theorem part_norm {s : ByteArray} (h : normB s = false) : partB s = false := by unfold partB; rw [h]; simp
theorem part_empty {s : ByteArray} (h : s.toList.isEmpty = true) : partB s = false := by unfold partB; rw [h]; simp
theorem part_dot {s : ByteArray} (h : (s.toList == [46]) = true) : partB s = false := by unfold partB; rw [h]; simp
theorem part_up {s : ByteArray} (h : (s.toList == [46, 46]) = true) : partB s = false := by unfold partB; rw [h]; simp
theorem part_ok {s : ByteArray} (h0 : normB s = true) (h1 : s.toList.isEmpty = false) (h2 : (s.toList == [46]) = false) (h3 : (s.toList == [46, 46]) = false) : partB s = true := by unfold partB; rw [h0, h1, h2, h3]; rfl

theorem implText_q (A : Ad) (q : Bool) (a0 : Option Addr) (cap : Nat) (w : World) (hq : A.asks = q) (hS : IsStrs w a0 cap A.parts) (hB : bulkA A ≤ 4194304) :
    Calls Tryz.prog 108 #[.agg #[.string A.house, .slice a0 A.parts.length cap, .bool q, .string A.ask]] w fun e w' => e = .returned (.string (textS A)) ∧ Below w.heap.size w w' := by
  subst hq; exact implText_any A a0 cap w hS hB
theorem specText_q (A : Ad) (q : Bool) (a0 : Option Addr) (cap : Nat) (w : World) (hq : A.asks = q) (hS : IsStrs w a0 cap A.parts) (hB : bulkA A ≤ 4194304) :
    Calls Tryz.prog 85 #[.agg #[.string A.house, .slice a0 A.parts.length cap, .bool q, .string A.ask]] w fun e w' => e = .returned (.string (textS A)) ∧ Below w.heap.size w w' := by
  subst hq; exact specText_any A a0 cap w hS hB

set_option maxRecDepth 100000 in
set_option maxHeartbeats 1600000 in
theorem implOk_any (A : Ad) (a0 : Option Addr) (cap : Nat) (w : World) (hS : IsStrs w a0 cap A.parts) (hB : bulkA A ≤ 4194304) :
    Calls Tryz.prog 107 #[.agg #[.string A.house, .slice a0 A.parts.length cap, .bool A.asks, .string A.ask]] w fun e w' => e = .returned (.bool (okB A)) ∧ Below w.heap.size w w' := by
  have hB2 : A.house.size + sumS A.parts + A.parts.length + A.ask.size ≤ 4194304 := hB
  have hhm : A.house.size ≤ maxLen := by unfold maxLen; omega
  have ham : A.ask.size ≤ maxLen := by unfold maxLen; omega
  have hc := hS.1
  have hm := hS.2.1
  unfold maxLen at hm
  have HS : Hid (IsStrs w a0 cap A.parts) := hS
  clear hS
  cases hh : houseB A.house with
  | false =>
    have HN : Hid _ := ok_house hh
    go_enter Tryz.func107, Tryz.ntmps107
    go_wp2_with (go_at_call 61; refine (implSmall_any _ _ hhm).mono ?_; rintro e w1 ⟨rfl, rfl⟩)
    go_ret
    exact ⟨ret_bool HN.out.symm, (Below.refl _ _).alloc (Nat.le_refl _) _⟩
  | true =>
  by_cases h5 : A.parts.length ≤ 5
  case neg =>
    have HN : Hid _ := ok_long h5
    go_enter Tryz.func107, Tryz.ntmps107
    go_wp2_with (go_at_call 61; refine (implSmall_any _ _ hhm).mono ?_; rintro e w1 ⟨rfl, rfl⟩)
    go_ret
    exact ⟨ret_bool HN.out.symm, (Below.refl _ _).alloc (Nat.le_refl _) _⟩
  case pos =>
  have HH : Hid (houseB A.house = true) := hh
  go_enter Tryz.func107, Tryz.ntmps107
  go_wp2_with (go_at_call 61; refine (implSmall_any _ _ hhm).mono ?_; rintro e w1 ⟨rfl, rfl⟩)
  go_loopw [18] (fun i wr => ∃ k : Nat, k ≤ A.parts.length ∧ i = .int .i64 (k : Int) ∧ Hid ((A.parts.take k).all partB = true) ∧ Below (w.heap.size + 1) (w.alloc (.cells #[.string A.house, .slice a0 A.parts.length cap, .bool A.asks, .string A.ask] 97)) wr) (fun i _ => A.parts.length - (intOf i).toNat)
  case atStart => exact ⟨0, Nat.zero_le _, rfl, by show _ = _; simp, Below.refl _ _⟩
  case round =>
    obtain ⟨k, hk, rfl, HP, hb⟩ := hrel
    obtain ⟨c0, c1, c2, c3⟩ := box_cells hb
    by_cases hlt : k < A.parts.length
    · obtain ⟨b, o, e, c⟩ := (box_strs HS.out hb).at hlt
      have hps := sum_mem (List.getElem_mem hlt)
      have hpm : A.parts[k].size ≤ maxLen := by unfold maxLen; omega
      subst e
      cases hp : partB A.parts[k] with
      | false =>
        have HN : Hid _ := ok_part (List.getElem_mem hlt) hp
        go_wp2_with (go_at_call 129; refine (implPart_any _ _ hpm).mono ?_; rintro e w1 ⟨rfl, hb1⟩)
        go_ret
        exact ⟨ret_bool HN.out.symm, box_below (box_next hb hb1)⟩
      | true =>
        have HN : Hid _ := all_take hlt HP.out hp
        go_wp2_with (go_at_call 129; refine (implPart_any _ _ hpm).mono ?_; rintro e w1 ⟨rfl, hb1⟩)
        go_roundw
        case rel => exact ⟨k + 1, by omega, by go_num, HN.out, box_next hb hb1⟩
        case measure => simp [intOf]; omega
    · have HA : Hid (A.parts.all partB = true) := by
        show _ = _
        have := HP.out
        rwa [List.take_of_length_le (by omega)] at this
      cases hq : A.asks with
      | false =>
        have HQ : Hid (A.asks = false) := hq
        rw [hq] at c2
        clear hq
        cases he : A.ask.toList.isEmpty with
        | false =>
          have HN : Hid _ := ok_ask HQ.out he
          go_wp2
          go_ret
          exact ⟨ret_bool HN.out.symm, box_below hb⟩
        | true =>
          cases hn : normB A.ask with
          | false =>
            have HN : Hid _ := ok_norm hn
            go_wp2_with (go_at_call 130; refine (implNorm_any _ _ ham).mono ?_; rintro e w1 ⟨rfl, hb1⟩)
            go_ret
            exact ⟨ret_bool HN.out.symm, box_below (box_next hb hb1)⟩
          | true =>
            have HN : Hid _ := ok_rest HH.out h5 HA.out (by rw [HQ.out, he]; rfl) hn
            go_wp2_with fail
            refine (implNorm_any _ _ ham).mono ?_
            rintro e w1 ⟨rfl, hb1⟩
            have hb2 := box_next hb hb1
            obtain ⟨d0, d1, d2, d3⟩ := box_cells hb2
            rw [HQ.out] at d2
            clear c0 c1 c2 c3 hb hb1
            go_wp2_with fail
            refine (implText_q A false a0 cap _ HQ.out (box_strs HS.out hb2) hB).mono ?_
            rintro e w2 ⟨rfl, hb3⟩
            go_wp2
            go_ret
            exact ⟨ret_bool HN.out.symm, box_below (box_next hb2 hb3)⟩
      | true =>
        have HQ : Hid (A.asks = true) := hq
        rw [hq] at c2
        clear hq
        cases hn : normB A.ask with
        | false =>
          have HN : Hid _ := ok_norm hn
          go_wp2_with (go_at_call 130; refine (implNorm_any _ _ ham).mono ?_; rintro e w1 ⟨rfl, hb1⟩)
          go_ret
          exact ⟨ret_bool HN.out.symm, box_below (box_next hb hb1)⟩
        | true =>
          have HN : Hid _ := ok_rest HH.out h5 HA.out (by rw [HQ.out]; rfl) hn
          go_wp2_with fail
          refine (implNorm_any _ _ ham).mono ?_
          rintro e w1 ⟨rfl, hb1⟩
          have hb2 := box_next hb hb1
          obtain ⟨d0, d1, d2, d3⟩ := box_cells hb2
          rw [HQ.out] at d2
          clear c0 c1 c2 c3 hb hb1
          go_wp2_with fail
          refine (implText_q A true a0 cap _ HQ.out (box_strs HS.out hb2) hB).mono ?_
          rintro e w2 ⟨rfl, hb3⟩
          go_wp2
          go_ret
          exact ⟨ret_bool HN.out.symm, box_below (box_next hb2 hb3)⟩

set_option maxRecDepth 100000 in
set_option maxHeartbeats 3200000 in
theorem specOk_any (A : Ad) (a0 : Option Addr) (cap : Nat) (w : World) (hS : IsStrs w a0 cap A.parts) (hB : bulkA A ≤ 4194304) :
    Calls Tryz.prog 84 #[.agg #[.string A.house, .slice a0 A.parts.length cap, .bool A.asks, .string A.ask]] w fun e w' => e = .returned (.bool (okB A)) ∧ Below w.heap.size w w' := by
  have hB2 : A.house.size + sumS A.parts + A.parts.length + A.ask.size ≤ 4194304 := hB
  have hhm : A.house.size ≤ maxLen := by unfold maxLen; omega
  have ham : A.ask.size ≤ maxLen := by unfold maxLen; omega
  have hc := hS.1
  have hm := hS.2.1
  unfold maxLen at hm
  have HS : Hid (IsStrs w a0 cap A.parts) := hS
  clear hS
  cases hh : houseB A.house with
  | false =>
    have HN : Hid _ := ok_house hh
    go_enter Tryz.func84, Tryz.ntmps84
    go_wp2_with (go_at_call 111; refine (specHouse_any _ _ hhm).mono ?_; rintro e w1 ⟨rfl, rfl⟩)
    go_ret
    exact ⟨ret_bool HN.out.symm, (Below.refl _ _).alloc (Nat.le_refl _) _⟩
  | true =>
  by_cases h5 : A.parts.length ≤ 5
  case neg =>
    have HN : Hid _ := ok_long h5
    go_enter Tryz.func84, Tryz.ntmps84
    go_wp2_with (go_at_call 111; refine (specHouse_any _ _ hhm).mono ?_; rintro e w1 ⟨rfl, rfl⟩)
    go_ret
    exact ⟨ret_bool HN.out.symm, (Below.refl _ _).alloc (Nat.le_refl _) _⟩
  case pos =>
  have HH : Hid (houseB A.house = true) := hh
  go_enter Tryz.func84, Tryz.ntmps84
  go_wp2_with fail
  refine (specHouse_any _ _ hhm).mono ?_
  rintro e w1 ⟨rfl, rfl⟩
  cases hn : normB A.ask with
  | false =>
    have HN : Hid _ := ok_norm hn
    go_wp2_with (go_at_call 112; refine (specNorm_any _ _ ham).mono ?_; rintro e w1 ⟨rfl, hb1⟩)
    go_ret
    exact ⟨ret_bool HN.out.symm, box_below (box_next (Below.refl _ _) hb1)⟩
  | true =>
    have HNORM : Hid _ := hn
    go_wp2_with fail
    refine (specNorm_any _ _ ham).mono ?_
    rintro e w1 ⟨rfl, hb1⟩
    have hb2 : Below (w.heap.size + 1) (w.alloc (.cells #[.string A.house, .slice a0 A.parts.length cap, .bool A.asks, .string A.ask] 97)) w1 := box_next (Below.refl _ _) hb1
    obtain ⟨c0, c1, c2, c3⟩ := box_cells hb2
    clear hb1 hh
    cases hq : A.asks with
    | false =>
      have HQ : Hid (A.asks = false) := hq
      rw [hq] at c2
      clear hq
      cases he : A.ask.toList.isEmpty with
      | false =>
        have HN : Hid _ := ok_ask HQ.out he
        go_wp2
        go_ret
        exact ⟨ret_bool HN.out.symm, box_below hb2⟩
      | true =>
        have HE : Hid (A.ask.toList.isEmpty = true) := he
        go_wp2
        clear c0 c1 c2 c3
        go_loopw [3] (fun i wr => ∃ k : Nat, k ≤ A.parts.length ∧ i = .int .i64 (k : Int) ∧ Hid ((A.parts.take k).all partB = true) ∧ Below (w.heap.size + 1) (w.alloc (.cells #[.string A.house, .slice a0 A.parts.length cap, .bool A.asks, .string A.ask] 97)) wr) (fun i _ => A.parts.length - (intOf i).toNat)
        case atStart => exact ⟨0, Nat.zero_le _, rfl, by show _ = _; simp, hb2⟩
        case round =>
          obtain ⟨k, hk, rfl, HP, hb⟩ := hrel
          obtain ⟨c0, c1, c2, c3⟩ := box_cells hb
          rw [HQ.out] at c2
          clear hb2
          by_cases hlt : k < A.parts.length
          · obtain ⟨b, o, e, c⟩ := (box_strs HS.out hb).at hlt
            have hps := sum_mem (List.getElem_mem hlt)
            have hpm : A.parts[k].size ≤ maxLen := by unfold maxLen; omega
            have HM : Hid (A.parts[k] ∈ A.parts) := List.getElem_mem hlt
            subst e
            cases h0 : normB A.parts[k] with
            | false =>
              have HN : Hid _ := ok_part HM.out (part_norm h0)
              go_wp2_with (go_at_call 112; refine (specNorm_any _ _ hpm).mono ?_; rintro e w1 ⟨rfl, hb1⟩)
              go_ret
              exact ⟨ret_bool HN.out.symm, box_below (box_next hb hb1)⟩
            | true =>
              have HT : Hid (partB A.parts[k] = true → (A.parts.take (k + 1)).all partB = true) := fun hp => all_take hlt HP.out hp
              go_wp2_with fail
              refine (specNorm_any _ _ hpm).mono ?_
              rintro e w1 ⟨rfl, hb1⟩
              have hb3 := box_next hb hb1
              obtain ⟨d0, d1, d2, d3⟩ := box_cells hb3
              obtain ⟨b', o', e', c'⟩ := (box_strs HS.out hb3).at hlt
              injection e' with e'
              injection e' with e1 e2 _
              subst e1; subst e2
              have H0 : Hid _ := h0
              clear c0 c1 c2 c3 c hb hb1 h0
              generalize hp : A.parts[k] = p at *
              cases h1 : p.toList.isEmpty with
              | true =>
                have HN : Hid _ := ok_part HM.out (part_empty h1)
                go_wp2
                go_ret
                exact ⟨ret_bool HN.out.symm, box_below hb3⟩
              | false =>
                cases h2 : (p.toList == [46]) with
                | true =>
                  have HN : Hid _ := ok_part HM.out (part_dot h2)
                  go_wp2
                  go_ret
                  exact ⟨ret_bool HN.out.symm, box_below hb3⟩
                | false =>
                  cases h3 : (p.toList == [46, 46]) with
                  | true =>
                    have HN : Hid _ := ok_part HM.out (part_up h3)
                    go_wp2
                    go_ret
                    exact ⟨ret_bool HN.out.symm, box_below hb3⟩
                  | false =>
                    have HN : Hid _ := HT.out (part_ok H0.out h1 h2 h3)
                    go_wp2
                    go_roundw
                    case rel => exact ⟨k + 1, by omega, by go_num, HN.out, hb3⟩
                    case measure => simp [intOf]; omega
          · have HA : Hid (A.parts.all partB = true) := by
              show _ = _
              have := HP.out
              rwa [List.take_of_length_le (by omega)] at this
            have HN : Hid _ := ok_rest HH.out h5 HA.out (by rw [HQ.out, HE.out]; rfl) HNORM.out
            go_wp2_with fail
            refine (specText_q A false a0 cap _ HQ.out (box_strs HS.out hb) hB).mono ?_
            rintro e w2 ⟨rfl, hb3⟩
            go_wp2
            go_ret
            exact ⟨ret_bool HN.out.symm, box_below (box_next hb hb3)⟩
    | true =>
      have HQ : Hid (A.asks = true) := hq
      rw [hq] at c2
      clear hq
      go_wp2
      clear c0 c1 c2 c3
      go_loopw [3] (fun i wr => ∃ k : Nat, k ≤ A.parts.length ∧ i = .int .i64 (k : Int) ∧ Hid ((A.parts.take k).all partB = true) ∧ Below (w.heap.size + 1) (w.alloc (.cells #[.string A.house, .slice a0 A.parts.length cap, .bool A.asks, .string A.ask] 97)) wr) (fun i _ => A.parts.length - (intOf i).toNat)
      case atStart => exact ⟨0, Nat.zero_le _, rfl, by show _ = _; simp, hb2⟩
      case round =>
        obtain ⟨k, hk, rfl, HP, hb⟩ := hrel
        obtain ⟨c0, c1, c2, c3⟩ := box_cells hb
        rw [HQ.out] at c2
        clear hb2
        by_cases hlt : k < A.parts.length
        · obtain ⟨b, o, e, c⟩ := (box_strs HS.out hb).at hlt
          have hps := sum_mem (List.getElem_mem hlt)
          have hpm : A.parts[k].size ≤ maxLen := by unfold maxLen; omega
          have HM : Hid (A.parts[k] ∈ A.parts) := List.getElem_mem hlt
          subst e
          cases h0 : normB A.parts[k] with
          | false =>
            have HN : Hid _ := ok_part HM.out (part_norm h0)
            go_wp2_with (go_at_call 112; refine (specNorm_any _ _ hpm).mono ?_; rintro e w1 ⟨rfl, hb1⟩)
            go_ret
            exact ⟨ret_bool HN.out.symm, box_below (box_next hb hb1)⟩
          | true =>
            have HT : Hid (partB A.parts[k] = true → (A.parts.take (k + 1)).all partB = true) := fun hp => all_take hlt HP.out hp
            go_wp2_with fail
            refine (specNorm_any _ _ hpm).mono ?_
            rintro e w1 ⟨rfl, hb1⟩
            have hb3 := box_next hb hb1
            obtain ⟨d0, d1, d2, d3⟩ := box_cells hb3
            obtain ⟨b', o', e', c'⟩ := (box_strs HS.out hb3).at hlt
            injection e' with e'
            injection e' with e1 e2 _
            subst e1; subst e2
            have H0 : Hid _ := h0
            clear c0 c1 c2 c3 c hb hb1 h0
            generalize hp : A.parts[k] = p at *
            cases h1 : p.toList.isEmpty with
            | true =>
              have HN : Hid _ := ok_part HM.out (part_empty h1)
              go_wp2
              go_ret
              exact ⟨ret_bool HN.out.symm, box_below hb3⟩
            | false =>
              cases h2 : (p.toList == [46]) with
              | true =>
                have HN : Hid _ := ok_part HM.out (part_dot h2)
                go_wp2
                go_ret
                exact ⟨ret_bool HN.out.symm, box_below hb3⟩
              | false =>
                cases h3 : (p.toList == [46, 46]) with
                | true =>
                  have HN : Hid _ := ok_part HM.out (part_up h3)
                  go_wp2
                  go_ret
                  exact ⟨ret_bool HN.out.symm, box_below hb3⟩
                | false =>
                  have HN : Hid _ := HT.out (part_ok H0.out h1 h2 h3)
                  go_wp2
                  go_roundw
                  case rel => exact ⟨k + 1, by omega, by go_num, HN.out, hb3⟩
                  case measure => simp [intOf]; omega
        · have HA : Hid (A.parts.all partB = true) := by
            show _ = _
            have := HP.out
            rwa [List.take_of_length_le (by omega)] at this
          have HN : Hid _ := ok_rest HH.out h5 HA.out (by rw [HQ.out]; rfl) HNORM.out
          go_wp2_with fail
          refine (specText_q A true a0 cap _ HQ.out (box_strs HS.out hb) hB).mono ?_
          rintro e w2 ⟨rfl, hb3⟩
          go_wp2
          go_ret
          exact ⟨ret_bool HN.out.symm, box_below (box_next hb hb3)⟩
end Go.Proofs.YtiennniclkbjlaaGreatDoor.Ad1
/- AddrText and AddrPath, of the program and of the model; the exact laws' helpers on addresses. -/
namespace Go.Proofs.YtiennniclkbjlaaGreatDoor.Ad1
open Go.RowKit Go.Proofs.YtiennniclkbjlaaGreatDoor.EscM Go.Proofs.YtiennniclkbjlaaGreatDoor.AddrM Go.Proofs.YtiennniclkbjlaaGreatDoor.St Go.Proofs.YtiennniclkbjlaaGreatDoor.EscL

def textF (A : Ad) : ByteArray := if okB A then textS A else ⟨#[]⟩
def pathF (A : Ad) : ByteArray := if okB A then pathS A else ⟨#[]⟩

theorem implAddrText_any (A : Ad) (a0 : Option Addr) (cap : Nat) (w : World) (hS : IsStrs w a0 cap A.parts) (hB : bulkA A ≤ 4194304) :
    Calls Tryz.prog 79 #[.agg #[.string A.house, .slice a0 A.parts.length cap, .bool A.asks, .string A.ask]] w fun e w' => e = .returned (.string (textF A)) ∧ Below w.heap.size w w' := by
  have HS : Hid (IsStrs w a0 cap A.parts) := hS
  clear hS
  cases hk : okB A with
  | false =>
    have HN : Hid (textF A = ⟨#[]⟩) := by show _ = _; unfold textF; rw [hk]; rfl
    go_enter Tryz.func79, Tryz.ntmps79
    go_wp2_with fail
    refine (implOk_any A a0 cap _ (HS.out.keep (alloc_keep _ _)) hB).mono ?_
    rintro e w1 ⟨rfl, hb1⟩
    go_wp2
    go_ret
    exact ⟨ret_str HN.out.symm, ((Below.refl _ _).alloc (Nat.le_refl _) _).trans (hb1.mono (by simp))⟩
  | true =>
    have HN : Hid (textF A = textS A) := by show _ = _; unfold textF; rw [hk]; rfl
    go_enter Tryz.func79, Tryz.ntmps79
    go_wp2_with fail
    refine (implOk_any A a0 cap _ (HS.out.keep (alloc_keep _ _)) hB).mono ?_
    rintro e w1 ⟨rfl, hb1⟩
    have hb2 : Below (w.heap.size + 1) (w.alloc (.cells #[.string A.house, .slice a0 A.parts.length cap, .bool A.asks, .string A.ask] 97)) w1 := by simpa using hb1
    obtain ⟨c0, c1, c2, c3⟩ := box_cells hb2
    clear hb1
    go_wp2_with fail
    refine (implText_any A a0 cap _ (box_strs HS.out hb2) hB).mono ?_
    rintro e w2 ⟨rfl, hb3⟩
    go_wp2
    go_ret
    exact ⟨ret_str HN.out.symm, box_below (box_next hb2 hb3)⟩

theorem specAddrText_any (A : Ad) (a0 : Option Addr) (cap : Nat) (w : World) (hS : IsStrs w a0 cap A.parts) (hB : bulkA A ≤ 4194304) :
    Calls Tryz.prog 59 #[.agg #[.string A.house, .slice a0 A.parts.length cap, .bool A.asks, .string A.ask]] w fun e w' => e = .returned (.string (textF A)) ∧ Below w.heap.size w w' := by
  have HS : Hid (IsStrs w a0 cap A.parts) := hS
  clear hS
  cases hk : okB A with
  | false =>
    have HN : Hid (textF A = ⟨#[]⟩) := by show _ = _; unfold textF; rw [hk]; rfl
    go_enter Tryz.func59, Tryz.ntmps59
    go_wp2_with fail
    refine (specOk_any A a0 cap _ (HS.out.keep (alloc_keep _ _)) hB).mono ?_
    rintro e w1 ⟨rfl, hb1⟩
    go_wp2
    go_ret
    exact ⟨ret_str HN.out.symm, ((Below.refl _ _).alloc (Nat.le_refl _) _).trans (hb1.mono (by simp))⟩
  | true =>
    have HN : Hid (textF A = textS A) := by show _ = _; unfold textF; rw [hk]; rfl
    go_enter Tryz.func59, Tryz.ntmps59
    go_wp2_with fail
    refine (specOk_any A a0 cap _ (HS.out.keep (alloc_keep _ _)) hB).mono ?_
    rintro e w1 ⟨rfl, hb1⟩
    have hb2 : Below (w.heap.size + 1) (w.alloc (.cells #[.string A.house, .slice a0 A.parts.length cap, .bool A.asks, .string A.ask] 97)) w1 := by simpa using hb1
    obtain ⟨c0, c1, c2, c3⟩ := box_cells hb2
    clear hb1
    go_wp2_with fail
    refine (specText_any A a0 cap _ (box_strs HS.out hb2) hB).mono ?_
    rintro e w2 ⟨rfl, hb3⟩
    go_wp2
    go_ret
    exact ⟨ret_str HN.out.symm, box_below (box_next hb2 hb3)⟩

theorem implAddrPath_any (A : Ad) (a0 : Option Addr) (cap : Nat) (w : World) (hS : IsStrs w a0 cap A.parts) (hB : bulkA A ≤ 4194304) :
    Calls Tryz.prog 89 #[.agg #[.string A.house, .slice a0 A.parts.length cap, .bool A.asks, .string A.ask]] w fun e w' => e = .returned (.string (pathF A)) ∧ Below w.heap.size w w' := by
  have HS : Hid (IsStrs w a0 cap A.parts) := hS
  clear hS
  cases hk : okB A with
  | false =>
    have HN : Hid (pathF A = ⟨#[]⟩) := by show _ = _; unfold pathF; rw [hk]; rfl
    go_enter Tryz.func89, Tryz.ntmps89
    go_wp2_with fail
    refine (implOk_any A a0 cap _ (HS.out.keep (alloc_keep _ _)) hB).mono ?_
    rintro e w1 ⟨rfl, hb1⟩
    go_wp2
    go_ret
    exact ⟨ret_str HN.out.symm, ((Below.refl _ _).alloc (Nat.le_refl _) _).trans (hb1.mono (by simp))⟩
  | true =>
    have HN : Hid (pathF A = pathS A) := by show _ = _; unfold pathF; rw [hk]; rfl
    go_enter Tryz.func89, Tryz.ntmps89
    go_wp2_with fail
    refine (implOk_any A a0 cap _ (HS.out.keep (alloc_keep _ _)) hB).mono ?_
    rintro e w1 ⟨rfl, hb1⟩
    have hb2 : Below (w.heap.size + 1) (w.alloc (.cells #[.string A.house, .slice a0 A.parts.length cap, .bool A.asks, .string A.ask] 97)) w1 := by simpa using hb1
    obtain ⟨c0, c1, c2, c3⟩ := box_cells hb2
    clear hb1
    go_wp2_with fail
    refine (implPathW_any A a0 cap _ (box_strs HS.out hb2) hB).mono ?_
    rintro e w2 ⟨rfl, hb3⟩
    go_wp2
    go_ret
    exact ⟨ret_str HN.out.symm, box_below (box_next hb2 hb3)⟩


theorem fz_of_below {B : Nat} {w w1 : World} (hb : Below B w w1) {p : Addr} (hp : p.block < B) (h : w.frozen? p = false) : w1.frozen? p = false := (hb.frozen hp).trans h

end Go.Proofs.YtiennniclkbjlaaGreatDoor.Ad1
/- The exact laws' helpers on addresses, further: how great, the same. -/
namespace Go.Proofs.YtiennniclkbjlaaGreatDoor.Ad1
open Go.RowKit Go.Proofs.YtiennniclkbjlaaGreatDoor.EscM Go.Proofs.YtiennniclkbjlaaGreatDoor.AddrM Go.Proofs.YtiennniclkbjlaaGreatDoor.St Go.Proofs.YtiennniclkbjlaaGreatDoor.EscL

theorem sum_same : ∀ L : List ByteArray, sumSz L = sumS L := by
  intro L
  induction L with
  | nil => rfl
  | cons x r ih => simp only [sumSz, sumS, ih]


end Go.Proofs.YtiennniclkbjlaaGreatDoor.Ad1
/- strings.IndexAny of "/?" in a text of any bytes. -/
namespace Go.Proofs.YtiennniclkbjlaaGreatDoor.DecM
open Go.RowKit Go.Proofs.YtiennniclkbjlaaGreatDoor.EscM Go.Proofs.YtiennniclkbjlaaGreatDoor.EscL

def chS : ByteArray := ⟨#[47, 63]⟩
theorem ch_size : chS.size = 2 := rfl

set_option maxRecDepth 100000 in
set_option maxHeartbeats 1600000 in
set_option maxRecDepth 100000 in
theorem rune_error (s : ByteArray) (w : World) (hs : s = chS) :
    Calls Tryz.prog 157 #[.string s, .int .i32 65533] w fun e w' => e = .returned (.int .i64 (-1)) ∧ Below w.heap.size w w' := by
  have hsz : s.size = 2 := by rw [hs]; rfl
  have HA : Hid (∀ (i : Nat) (h : i < s.size), (s[i]'h).toNat < 128) := by
    subst hs
    intro i h
    have h2 : i < 2 := h
    have : i = 0 ∨ i = 1 := by omega
    rcases this with rfl | rfl
    · show (47 : UInt8).toNat < 128; decide
    · show (63 : UInt8).toNat < 128; decide
  clear hs
  have hbw : ∀ i, Below w.heap.size w (w.iter s i) := fun i => (Below.refl _ w).alloc (Nat.le_refl _) _
  go_enter Tryz.func157, Tryz.ntmps157
  go_wp2
  go_loopg [5, 6] 2 (fun g _ _ wx => ∃ i : Nat, i + g = 2 ∧ wx = w.iter s i)
  case atStart => exact ⟨0, by omega, rfl⟩
  case round =>
    obtain ⟨i, hig, rfl⟩ := hrel
    cases gk with
    | zero =>
      obtain rfl : i = 2 := by omega
      have hnx := fun ty => run_next_end (P := Tryz.prog) w s 2 ty (by omega)
      go_wp2
      go_ret
      exact ⟨rfl, hbw 2⟩
    | succ g =>
      have hi : i < s.size := by omega
      have hx := HA.out i hi
      have hnx := fun ty => run_next_ascii (P := Tryz.prog) w s i ty hi hx
      generalize (s[i]'hi).toNat = x at *
      have hne : ((x : Int) == 65533) = false := by simp; omega
      go_wp2
      go_roundg g
      case measure => omega
      case rel => exact ⟨i + 1, by omega, rfl⟩

set_option maxRecDepth 100000 in
set_option maxHeartbeats 1600000 in
set_option maxRecDepth 100000 in
theorem rune_valid (r : Int) (w : World) (h0 : 128 ≤ r) (h1 : r ≤ 2147483647) :
    Calls Tryz.prog 181 #[.int .i32 r] w fun e w' => e = .returned (.bool (decide (r < 55296 ∨ (57343 < r ∧ r ≤ 1114111)))) ∧ w' = w := by
  by_cases a : r < 55296
  · go_enter Tryz.func181, Tryz.ntmps181
    go_wp2
    go_ret
    exact ⟨ret_bool (decide_eq_true (Or.inl a)).symm, rfl⟩
  · by_cases b : 57343 < r ∧ r ≤ 1114111
    · obtain ⟨b1, b2⟩ := b
      go_enter Tryz.func181, Tryz.ntmps181
      go_wp2
      go_ret
      exact ⟨ret_bool (by simp <;> omega), rfl⟩
    · have b1 : (decide (57343 < r) && decide (r ≤ 1114111)) = false := by simp; omega
      by_cases c : 57343 < r
      · have d : ¬ r ≤ 1114111 := fun h => b ⟨c, h⟩
        go_enter Tryz.func181, Tryz.ntmps181
        go_wp2
        go_ret
        exact ⟨ret_bool (by simp <;> omega), rfl⟩
      · go_enter Tryz.func181, Tryz.ntmps181
        go_wp2
        go_ret
        exact ⟨ret_bool (by simp <;> omega), rfl⟩

theorem enc_two (r : Int) (h0 : 128 ≤ r) (hv : Utf8.valid r = true) : (∃ a b : UInt8, Utf8.encode r = ⟨#[a, b]⟩ ∧ 128 ≤ b.toNat) ∨ (Utf8.encode r).size = 3 ∨ (Utf8.encode r).size = 4 := by
  have e : (if Utf8.valid r then r.toNat else Utf8.runeError) = r.toNat := by rw [hv]; rfl
  have h8 : ¬ r.toNat < 128 := by omega
  unfold Utf8.encode
  simp only [e]
  by_cases h2 : r.toNat < 2048
  · left
    refine ⟨UInt8.ofNat (192 + r.toNat / 64), UInt8.ofNat (128 + r.toNat % 64), by simp [h8, h2], ?_⟩
    rw [UInt8.toNat_ofNat']
    omega
  · right
    by_cases h3 : r.toNat < 65536
    · left; simp only [h8, h2, h3, if_true, if_false]; rfl
    · right; simp only [h8, h2, h3, if_false]; rfl

theorem byte_none (t : ByteArray) (c : Int) (w : World) (h : t.size = 0) :
    Calls Tryz.prog 180 #[.string t, .int .u8 c] w fun e w' => e = .returned (.int .i64 (-1)) ∧ w = w' := by
  refine (Tryz.strings_IndexByte t c w).mono ?_
  rintro e w' ⟨rfl, rfl⟩
  have : t.data.toList = [] := by
    have h2 : t.data.toList.length = 0 := by simpa using h
    exact List.eq_nil_of_length_eq_zero h2
  rw [this]
  exact ⟨rfl, rfl⟩

set_option maxRecDepth 100000 in
set_option maxHeartbeats 3200000 in
set_option maxRecDepth 100000 in
theorem rune_high (s : ByteArray) (r : Int) (w : World) (hs : s = chS) (h0 : 128 ≤ r) (h1 : r ≤ 2147483647) :
    Calls Tryz.prog 157 #[.string s, .int .i32 r] w fun e w' => e = .returned (.int .i64 (-1)) ∧ Below w.heap.size w w' := by
  by_cases he : r = 65533
  · subst he; exact rune_error s w hs
  have heb : (r == 65533) = false := by simp; exact he
  by_cases hv : r < 55296 ∨ (57343 < r ∧ r ≤ 1114111)
  · have hval : Utf8.valid r = true := by unfold Utf8.valid; simp; omega
    have henc := enc_two r h0 hval
    have hsz : s.size = 2 := by rw [hs]; rfl
    have HV : Hid _ := decide_eq_true hv
    clear hv
    rcases henc with ⟨a, b, hab, hb⟩ | h3 | h3
    · have hcv0 : ∀ W, (convert 21 9 (.int .i32 r)).run Tryz.prog W = .ok (.string ⟨#[a, b]⟩) W := fun W => by rw [← hab]; exact run_convert_int_string (P := Tryz.prog) W 21 9 .i32 r (by kernel_rfl) Tryz.underlying9
      obtain ⟨E, hcv, hz2, hEb⟩ : ∃ E : ByteArray, (∀ W, (convert 21 9 (.int .i32 r)).run Tryz.prog W = .ok (.string E) W) ∧ E.size = 2 ∧ ∀ h : 1 < E.size, (E[1]'h).toNat = b.toNat := ⟨⟨#[a, b]⟩, hcv0, rfl, fun _ => rfl⟩
      have hsb : ∀ h : 1 < s.size, (s[1]'h).toNat = 63 := by subst hs; intro _; rfl
      have hb1 : 1 < E.size := by omega
      have hs1 : 1 < s.size := by omega
      have hEb1 := hEb hb1
      have hsb1 := hsb hs1
      have hne : ((63 : Int) != (b.toNat : Int)) = true := by simp; omega
      clear hab hs hcv0 hEb hsb
      go_enter Tryz.func157, Tryz.ntmps157
      go_wp2_with fail
      refine (rune_valid r _ h0 h1).mono ?_
      rintro e w1 ⟨rfl, e1⟩
      subst e1
      rw [HV.out]
      go_wp2
      go_step3
      go_wp2
      go_loopw [9] (fun i wr => i = .int .i64 1 ∧ wr = w1) (fun _ _ => 0)
      case atStart => exact ⟨rfl, rfl⟩
      case round =>
        obtain ⟨rfl, rfl⟩ := hrel
        go_wp2
        go_step3
        go_wp2
        go_region_with fail
        all_goals
          have e2 : IntKind.i64.wrap 2 = 2 := by decide
          have hle : (2 : Int) ≤ (s.size : Int) := by omega
          go_wp2
          go_region_with (go_at_call 180; refine (byte_none _ _ _ (by first | (simp; done) | (simp; omega) | omega)).mono ?_; rintro e w2 ⟨rfl, e3⟩; subst e3)
          all_goals
            go_wp2
            rw [Exit.noGoto_ret]
            simp only [Exit.inBlock]
            show Exit.noGoto _ Exit.ret _ _
            rw [Exit.noGoto_ret]
            simp only [Exit.inBlock, Exit.then]
            rw [Exit.noGoto_ret]
            go_ret
            exact ⟨rfl, ((Below.refl _ _).drew).drew⟩
    · generalize hE : Utf8.encode r = E at *
      have hcv : ∀ W, (convert 21 9 (.int .i32 r)).run Tryz.prog W = .ok (.string E) W := fun W => by rw [← hE]; exact run_convert_int_string (P := Tryz.prog) W 21 9 .i32 r (by kernel_rfl) Tryz.underlying9
      clear hE
      go_enter Tryz.func157, Tryz.ntmps157
      go_wp2_with fail
      refine (rune_valid r _ h0 h1).mono ?_
      rintro e w1 ⟨rfl, e1⟩
      subst e1
      rw [HV.out]
      go_wp2
      go_step3
      go_wp2
      go_loopw [9] (fun i wr => i = .int .i64 2 ∧ wr = w1) (fun _ _ => 0)
      case atStart => exact ⟨rfl, rfl⟩
      case round =>
        obtain ⟨rfl, rfl⟩ := hrel
        go_wp2
        rw [Exit.noGoto_ret]
        go_ret
        exact ⟨rfl, Below.refl _ _⟩
    · generalize hE : Utf8.encode r = E at *
      have hcv : ∀ W, (convert 21 9 (.int .i32 r)).run Tryz.prog W = .ok (.string E) W := fun W => by rw [← hE]; exact run_convert_int_string (P := Tryz.prog) W 21 9 .i32 r (by kernel_rfl) Tryz.underlying9
      clear hE
      go_enter Tryz.func157, Tryz.ntmps157
      go_wp2_with fail
      refine (rune_valid r _ h0 h1).mono ?_
      rintro e w1 ⟨rfl, e1⟩
      subst e1
      rw [HV.out]
      go_wp2
      go_step3
      go_wp2
      go_loopw [9] (fun i wr => i = .int .i64 3 ∧ wr = w1) (fun _ _ => 0)
      case atStart => exact ⟨rfl, rfl⟩
      case round =>
        obtain ⟨rfl, rfl⟩ := hrel
        go_wp2
        rw [Exit.noGoto_ret]
        go_ret
        exact ⟨rfl, Below.refl _ _⟩
  · have HV : Hid _ := decide_eq_false hv
    clear hv
    go_enter Tryz.func157, Tryz.ntmps157
    go_wp2_with fail
    refine (rune_valid r _ h0 h1).mono ?_
    rintro e w1 ⟨rfl, e1⟩
    subst e1
    rw [HV.out]
    go_wp2
    go_ret
    exact ⟨rfl, Below.refl _ _⟩

end Go.Proofs.YtiennniclkbjlaaGreatDoor.DecM
/- strings.IndexAny of "/?" in a text of any bytes: the short ones too. -/
namespace Go.Proofs.YtiennniclkbjlaaGreatDoor.DecM
open Go.RowKit Go.Proofs.YtiennniclkbjlaaGreatDoor.EscM Go.Proofs.YtiennniclkbjlaaGreatDoor.EscL

theorem idx_ch (b : UInt8) : (([47, 63] : List UInt8).contains b = true ∧ 0 ≤ Lib.indexByte [47, 63] b) ∨ (([47, 63] : List UInt8).contains b = false ∧ Lib.indexByte [47, 63] b = -1) := by
  by_cases h1 : b = 47
  · subst h1; left; decide
  · by_cases h2 : b = 63
    · subst h2; left; decide
    · right
      have e1 : ((47 : UInt8) == b) = false := by simp; exact fun e => h1 e.symm
      have e2 : ((63 : UInt8) == b) = false := by simp; exact fun e => h2 e.symm
      refine ⟨by simp [h1, h2], ?_⟩
      simp [Lib.indexByte, e1, e2]

set_option maxRecDepth 100000 in
set_option maxHeartbeats 3200000 in
set_option maxRecDepth 100000 in
theorem rune_low (s : ByteArray) (b : UInt8) (w : World) (hs : s = chS) (hb : b.toNat < 128) :
    Calls Tryz.prog 157 #[.string s, .int .i32 (b.toNat : Int)] w fun e w' => e = .returned (.int .i64 (Lib.indexByte [47, 63] b)) ∧ w' = w := by
  have hdl : s.data.toList = [47, 63] := by rw [hs]; rfl
  have hw : IntKind.u8.wrap (b.toNat : Int) = (b.toNat : Int) := by unfold IntKind.wrap; simp [IntKind.bits, IntKind.signed]; omega
  have hib := Tryz.strings_IndexByte s (b.toNat : Int)
  have hbb : ((b.toNat : Int).toNat.toUInt8) = b := by simp
  rw [hdl, hbb] at hib
  clear hs hdl
  have HIB : Hid _ := hib
  clear hib hbb
  go_enter Tryz.func157, Tryz.ntmps157
  go_wp2_with fail
  refine (HIB.out _).mono ?_
  rintro e w1 ⟨rfl, e1⟩
  subst e1
  go_wp2
  go_ret
  exact ⟨rfl, rfl⟩

set_option maxRecDepth 100000 in
set_option maxHeartbeats 3200000 in
set_option maxRecDepth 100000 in
/-- strings.IndexAny OF AT MOST 8 BYTES, WHATEVER THEY ARE -/
theorem any_short (s : ByteArray) (w : World) (h8 : s.size ≤ 8) :
    Calls Tryz.prog 135 #[.string s, .string chS] w fun e w' => e = .returned (.int .i64 (Lib.indexAny s.data.toList [47, 63])) ∧ Below w.heap.size w w' := by
  have hc2 : chS.size = 2 := rfl
  have h8z : decide ((8 : Int) < (s.size : Int)) = false := decide_eq_false (by omega)
  have hemp : chS.toList.isEmpty = false := by rw [ByteArray.toList_eq]; rfl
  generalize hC : chS = C at *
  have HC : Hid (C = chS) := hC.symm
  clear hC
  have hn1 : ((C.size : Int) == 1) = false := by rw [hc2]; decide
  have hdl : s.data.toList.length = s.size := by simp
  go_enter Tryz.func135, Tryz.ntmps135
  go_wp2_with fail
  refine (Tryz.strings_shouldUseASCIISet _ _).mono ?_
  rintro e w1 ⟨rfl, e1⟩
  subst e1
  rw [h8z]
  have hit0 : (w1.iter s 0).heap[w1.heap.size]? = some (.stringIter s 0) := World.iter_heap _ _ _
  have hbw0 : Below w1.heap.size w1 (w1.iter s 0) := (Below.refl _ w1).alloc (Nat.le_refl _) _
  generalize hK : w1.heap.size = K at *
  go_wp2
  go_loopg [9, 10] s.size (fun g _ _ wr => ∃ i : Nat, i + g = s.size ∧ Hid (Lib.NoAny s.data.toList [47, 63] i) ∧ Hid (wr.heap[K]? = some (.stringIter s i)) ∧ Hid (Below K w1 wr))
  case atStart => exact ⟨0, by omega, Lib.NoAny.zero _ _, hit0, hbw0⟩
  case round =>
    obtain ⟨i, hig, HN, HI, HB⟩ := hrel
    cases gk with
    | zero =>
      obtain rfl : i = s.size := by omega
      have hnx := fun ty => Lib.run_next_end_at (P := Tryz.prog) wr K s s.size ty HI.out (by omega)
      have HE : Hid (Lib.indexAny s.data.toList [47, 63] = -1) := Lib.indexAny_none (by rw [hdl]; exact HN.out)
      go_wp2
      go_ret
      exact ⟨ret_int HE.out.symm, by rw [hK]; exact HB.out⟩
    | succ g =>
      have hi : i < s.size := by omega
      have hxi : s.data.toList[i]? = some (s[i]'hi) := by rw [List.getElem?_eq_getElem (by omega)]; rfl
      by_cases hx : (s[i]'hi).toNat < 128
      · have hnx := fun ty => Lib.run_next_ascii_at (P := Tryz.prog) wr K s i ty HI.out hi hx
        have HI2 : Hid ((wr.iterAt K s (i + 1)).heap[K]? = some (.stringIter s (i + 1))) := Lib.iterAt_heap _ _ _ _ _ HI.out
        have HB2 : Hid (Below K w1 (wr.iterAt K s (i + 1))) := Lib.below_iterAt HB.out (Nat.le_refl _) _ _
        have HXI : Hid _ := hxi
        clear hxi
        generalize hX : (s[i]'hi) = x at *
        clear hX
        generalize wr.iterAt K s (i + 1) = wn at *
        rcases idx_ch x with ⟨hc, hge⟩ | ⟨hc, hge⟩
        · have HE : Hid (Lib.indexAny s.data.toList [47, 63] = i) := Lib.indexAny_hit HN.out HXI.out hc
          have hgd : decide ((0 : Int) ≤ Lib.indexByte [47, 63] x) = true := decide_eq_true hge
          go_wp2_with fail
          refine (rune_low C x _ HC.out hx).mono ?_
          rintro e w2 ⟨rfl, e2⟩
          subst e2
          go_wp2
          go_ret
          exact ⟨ret_int HE.out.symm, by rw [hK]; exact HB2.out⟩
        · have HN2 : Hid (Lib.NoAny s.data.toList [47, 63] (i + 1)) := HN.out.succ HXI.out hc
          go_wp2_with fail
          refine (rune_low C x _ HC.out hx).mono ?_
          rintro e w2 ⟨rfl, e2⟩
          subst e2
          rw [hge]
          go_wp2
          go_roundg g
          case measure => omega
          case rel => exact ⟨i + 1, by omega, HN2, HI2, HB2⟩
      · have hx2 : 128 ≤ (s[i]'hi).toNat := by omega
        obtain ⟨hd1, hd2⟩ := decode_high s i hi hx2
        have hd3 := decode_le s i
        have hsk := decode_skip s i hi hx2
        have hnx := fun ty => Lib.run_next_any_at (P := Tryz.prog) wr K s i ty HI.out hi
        generalize hD1 : (Utf8.decode s i).1 = r at *
        generalize hD2 : (Utf8.decode s i).2 = n at *
        have hin : i + n ≤ s.size := by obtain ⟨hk, _⟩ := hsk (i + n - 1) (by omega) (by omega); omega
        have HI2 : Hid ((wr.iterAt K s (i + n)).heap[K]? = some (.stringIter s (i + n))) := Lib.iterAt_heap _ _ _ _ _ HI.out
        have HB2 : Hid (Below K w1 (wr.iterAt K s (i + n))) := Lib.below_iterAt HB.out (Nat.le_refl _) _ _
        have HN2 : Hid (Lib.NoAny s.data.toList [47, 63] (i + n)) := by
          intro j b hj hb
          by_cases hji : j < i
          · exact HN.out j b hji hb
          · obtain ⟨hk, hge⟩ := hsk j (by omega) hj
            have e : b = s[j]'hk := by
              rw [List.getElem?_eq_getElem (by omega)] at hb
              exact (Option.some.inj hb).symm
            rcases idx_ch b with ⟨hc, _⟩ | ⟨hc, _⟩
            · exfalso
              have : b = 47 ∨ b = 63 := by simpa using hc
              rw [← e] at hge
              rcases this with h | h <;> (rw [h] at hge; revert hge; decide)
            · exact hc
        clear hsk hxi hx hx2 hD1 hD2
        generalize wr.iterAt K s (i + n) = wn at *
        go_wp2_with fail
        refine (rune_high C _ _ HC.out (by omega) (by omega)).mono ?_
        rintro e w2 ⟨rfl, hb2⟩
        have hKlt : K < wn.heap.size := (Array.getElem?_eq_some_iff.1 HI2.out).1
        have HI3 : Hid (w2.heap[K]? = some (.stringIter s (i + n))) := by show _ = _; rw [hb2.block K hKlt]; exact HI2.out
        have HB3 : Hid (Below K w1 w2) := HB2.out.trans (hb2.mono (by omega))
        go_wp2
        go_roundg (s.size - (i + n))
        case measure => omega
        case rel => exact ⟨i + n, by omega, HN2, HI3, HB3⟩

/-- strings.IndexAny of "/?" -/
theorem any_all (s : ByteArray) (w : World) (hs : s.size ≤ 1000000) :
    Calls Tryz.prog 135 #[.string s, .string ⟨#[47, 63]⟩] w fun e w' => e = .returned (.int .i64 (Lib.indexAny s.data.toList [47, 63])) ∧ Below w.heap.size w w' := by
  by_cases h8 : s.size ≤ 8
  · exact any_short s w h8
  · have hca : ∀ (j : Nat) b, chS.data.toList[j]? = some b → b.toNat < 128 := by
      intro j b hb
      have hm := List.mem_of_getElem? hb
      have : b = 47 ∨ b = 63 := by simpa [chS] using hm
      rcases this with rfl | rfl <;> decide
    refine (Tryz.strings_IndexAny_long (zero_of_info (show (Tryz.prog.info? 195).map (fun i => (i.zero, i.size)) = some (some (.agg (Array.replicate 256 (.bool false))), 256) by kernel_rfl)).1 s chS w (by decide) (by omega) (by omega) (by decide) hca).mono ?_
    rintro e w' ⟨rfl, rfl⟩
    exact ⟨rfl, ((Below.refl _ w).alloc (Nat.le_refl _) _).alloc (by simp) _⟩
end Go.Proofs.YtiennniclkbjlaaGreatDoor.DecM
/- The lines of a group: of the program, and how each is written. -/
namespace Go.Proofs.YtiennniclkbjlaaGreatDoor.Nt
open Go.RowKit Go.Proofs.YtiennniclkbjlaaGreatDoor.EscM Go.Proofs.YtiennniclkbjlaaGreatDoor.EscL Go.Proofs.YtiennniclkbjlaaGreatDoor.RuleM Go.Proofs.YtiennniclkbjlaaGreatDoor.St Go.Proofs.YtiennniclkbjlaaGreatDoor.RR Go.Proofs.YtiennniclkbjlaaGreatDoor.LetM Go.Proofs.YtiennniclkbjlaaGreatDoor.Nm Go.Proofs.YtiennniclkbjlaaGreatDoor.GrM Go.Proofs.YtiennniclkbjlaaGreatDoor.NtM Go.Proofs.YtiennniclkbjlaaGreatDoor.Bl

/-- a line that is to be written -/
inductive Ln where
  | c (s : ByteArray)
  | r (x : Ru)
  | t (n : Int)
def lnV : Ln → Value
  | .c s => .iface 225 (.agg #[.string s])
  | .r x => .iface 227 (.agg #[.bool x.lt, .string x.path])
  | .t n => .iface 230 (.agg #[.int .i64 n])
def FLn : Frm Ln where
  enc x := [lnV x]
  k := 1
  pos := by decide
  len _ := rfl
  one x u hu := by
    simp only [List.mem_cons, List.not_mem_nil, or_false] at hu
    subst hu
    cases x <;> rfl
theorem Tryz.infoLn : (Tryz.prog.info? 209).map (fun i => (i.zero, i.size, i.bytes)) = some (some .nilIface, 1, 16) := by kernel_rfl
theorem info_ln : ∃ i, Tryz.prog.info? 209 = some i ∧ i.zero = some .nilIface ∧ i.size = 1 ∧ i.bytes = 16 := by
  have h := Tryz.infoLn
  cases hi : Tryz.prog.info? 209 with
  | none => rw [hi] at h; cases h
  | some i =>
    rw [hi] at h
    have := Option.some.inj h
    simp only [Prod.mk.injEq] at this
    exact ⟨i, rfl, this.1, this.2.1, this.2.2⟩

theorem cell_one_new (w : World) (x : Value) (t : TypeId) : ∀ (j : Nat) (u : Value), [x][j]? = some u → (w.alloc (.cells #[x] t)).cell? ((⟨w.heap.size, 0, none⟩ : Addr).add j) = some u := by
  intro j u hu
  have hb : (w.alloc (.cells #[x] t)).heap[w.heap.size]? = some (.cells #[x] t) := by show (w.heap.push _)[w.heap.size]? = _; simp
  rw [add_mk, Nat.zero_add]
  unfold World.cell?
  dsimp only
  rw [hb]
  simpa using hu
theorem cell_one_new2 (w : World) (o : Obj) (x : Value) (t : TypeId) : ∀ (j : Nat) (u : Value), [x][j]? = some u → ((w.alloc o).alloc (.cells #[x] t)).cell? ((⟨w.heap.size + 1, 0, none⟩ : Addr).add j) = some u := by
  have h := cell_one_new (w.alloc o) x t
  have e : (w.alloc o).heap.size = w.heap.size + 1 := by simp
  rw [e] at h; exact h
/-- all lines of a group -/
def linesG (g : Gr) : List Ln := g.nm.map .c ++ g.ru.map .r ++ (if g.wait = 0 then [] else [.t g.wait])
theorem app_below {b : Nat} {w wr w2 : World} {row : Option Nat} (h : Below b w wr) (hg : wr.grownBy w2 row) (hb : b ≤ wr.heap.size) (hr : ∀ k, row = some k → b ≤ k) : Below b w w2 := h.grown hg hb hr

end Go.Proofs.YtiennniclkbjlaaGreatDoor.Nt
/- Is a way of a pattern: the program's. -/
namespace Go.Proofs.YtiennniclkbjlaaGreatDoor.Ha
open Go.RowKit Go.Proofs.YtiennniclkbjlaaGreatDoor.EscM Go.Proofs.YtiennniclkbjlaaGreatDoor.EscL Go.Proofs.YtiennniclkbjlaaGreatDoor.RuleM Go.Proofs.YtiennniclkbjlaaGreatDoor.Ru1 Go.Proofs.YtiennniclkbjlaaGreatDoor.ReadM Go.Proofs.YtiennniclkbjlaaGreatDoor.HasM Go.Proofs.YtiennniclkbjlaaGreatDoor.St Go.Proofs.YtiennniclkbjlaaGreatDoor.Rd1 Go.Proofs.YtiennniclkbjlaaGreatDoor.LibS

/-- internal/bytealg.MaxLen (the program's variable 0) holds some number -/
def Mx (w : World) : Prop := ∃ m : Int, w.cell? ⟨2, 0, none⟩ = some (.int .i64 m)
theorem Mx.keep {w w' : World} (h : Mx w) (hb : ∀ k, k < w.heap.size → w'.heap[k]? = w.heap[k]?) : Mx w' := by
  obtain ⟨m, hm⟩ := h
  exact ⟨m, by rw [World.cell?_of_block (w := w) (hb _ (cell_block hm))]; exact hm⟩
theorem Mx.below {w w' : World} (h : Mx w) (hb : Below w.heap.size w w') : Mx w' := h.keep fun k hk => hb.block k hk
theorem Mx.alloc {w : World} (h : Mx w) (o : Obj) : Mx (w.alloc o) := h.keep (alloc_keep w o)
theorem Mx.drewN {w : World} (h : Mx w) (n : Nat) : Mx (w.drewN n) := h.keep fun _ _ => rfl

theorem split_any (s : ByteArray) (w : World) (h : Mx w) (hs : s.size ≤ 1000000) :
    Calls Tryz.prog 141 #[.string s, .string ⟨#[42]⟩] w fun e w' => e = .returned (.slice (some ⟨w.heap.size, 0, none⟩) (splitS 42 s).length (splitS 42 s).length) ∧ w' = w.alloc (.cells ((splitS 42 s).map Value.string).toArray 9) := by
  obtain ⟨m, hm⟩ := h
  refine (Tryz.strings_Split s ⟨#[42]⟩ m w (by omega) hm (by decide)).mono ?_
  rintro e w' ⟨rfl, rfl⟩
  have e1 : Lib.splitB ⟨#[42]⟩ 0 (Lib.countB s ⟨#[42]⟩) s = splitS 42 s := splitB_lib 42 s
  have e2 : Lib.countB s ⟨#[42]⟩ + 1 = (splitS 42 s).length := by
    rw [← e1]; exact (Lib.splitB_all ⟨#[42]⟩ (by decide) 0 _ s rfl).symm
  rw [e1, e2]
  exact ⟨rfl, rfl⟩
theorem strs_at {w : World} {B cap : Nat} {P : List ByteArray} (h : IsStrs w (some ⟨B, 0, none⟩) cap P) {i : Nat} (hi : i < P.length) : w.cell? ⟨B, i, none⟩ = some (.string P[i]) := by
  obtain ⟨b, o, e, c⟩ := h.2.2.2 (by rintro rfl; simp at hi)
  injection e with e
  injection e with e1 e2 _
  subst e1; subst e2
  have := c i hi
  rwa [Nat.zero_add] at this
def rawL (P : List ByteArray) : List (List UInt8) := P.map fun x => x.data.toList
theorem cut_any (s x : ByteArray) (w : World) (h : Mx w) (hs : s.size ≤ 1000000) :
    Calls Tryz.prog 138 #[.string s, .string x] w fun e w' => e = .returned (.tuple #[.string (bs (Lib.cut s.data.toList x.data.toList).1), .string (bs (Lib.cut s.data.toList x.data.toList).2.1), .bool (Lib.cut s.data.toList x.data.toList).2.2]) ∧ ∃ n, w' = w.drewN n := by
  obtain ⟨m, hm⟩ := h
  exact Tryz.strings_Cut s x m w (by omega) hm
theorem pre_any (s x : ByteArray) (w : World) :
    Calls Tryz.prog 134 #[.string s, .string x] w fun e w' => e = .returned (.tuple #[.string (bs (Lib.trimPrefix s.data.toList x.data.toList)), .bool (x.data.toList.isPrefixOf s.data.toList)]) ∧ w' = w := Tryz.strings_CutPrefix s x w

theorem suf_lib (s x : ByteArray) (w : World) (hs : s.size ≤ 1000000) :
    Calls Tryz.prog 164 #[.string s, .string x] w fun e w' => e = .returned (.bool (decide (x.data.toList <:+ s.data.toList))) ∧ w' = w := by
  refine (Tryz.strings_HasSuffix s x w (by omega)).mono ?_
  rintro e w' ⟨rfl, rfl⟩
  refine ⟨ret_bool ?_, rfl⟩
  unfold Lib.hasSuffix
  rw [Bool.eq_iff_iff, List.isSuffixOf_iff_suffix, decide_eq_true_eq]
theorem raw_drop {P : List ByteArray} {k : Nat} (h : k < P.length) : rawL (P.drop k) = P[k].data.toList :: rawL (P.drop (k + 1)) := by
  unfold rawL; rw [List.drop_eq_getElem_cons h, List.map_cons]
theorem raw_len (P : List ByteArray) : (rawL P).length = P.length := by simp [rawL]
theorem just_pre {P : List ByteArray} (h : 0 < P.length) (s : List UInt8) : justL true (rawL P) s = (P[0].data.toList.isPrefixOf s && restL true (rawL (P.drop 1)) (s.drop P[0].data.toList.length)) := by
  have := raw_drop (P := P) (k := 0) h
  rw [List.drop_zero] at this
  rw [this]; rfl
theorem rest_mid {P : List ByteArray} {k : Nat} (h : k + 1 < P.length) (r : List UInt8) : restL true (rawL (P.drop k)) r = if Lib.index r P[k].data.toList = -1 then false else restL true (rawL (P.drop (k + 1))) (r.drop ((Lib.index r P[k].data.toList).toNat + P[k].data.toList.length)) := by
  rw [raw_drop (by omega)]
  conv => lhs; unfold restL
  rw [if_neg]
  rw [raw_drop h]; simp
theorem rest_last {P : List ByteArray} {k : Nat} (h : k + 1 = P.length) (r : List UInt8) : restL true (rawL (P.drop k)) r = decide ((P[P.length - 1]'(by omega)).data.toList <:+ r) := by
  obtain rfl : k = P.length - 1 := by omega
  rw [raw_drop (by omega), List.drop_eq_nil_of_le (by omega)]
  unfold restL
  rw [if_pos (by rfl)]
theorem cut_yes {s x : List UInt8} (h : ¬ Lib.index s x = -1) : Lib.cut s x = (s.take (Lib.index s x).toNat, s.drop ((Lib.index s x).toNat + x.length), true) := by
  unfold Lib.cut
  rw [if_pos]
  have := Lib.index_ge s x; omega
theorem cut_no {s x : List UInt8} (h : Lib.index s x = -1) : Lib.cut s x = (s, [], false) := by
  unfold Lib.cut
  rw [if_neg (by omega)]

set_option maxRecDepth 100000 in
set_option maxHeartbeats 1600000 in
theorem implJust_any (B : Nat) (P : List ByteArray) (s : ByteArray) (w : World) (hM : Mx w) (hI : IsStrs w (some ⟨B, 0, none⟩) P.length P) (h1 : 1 ≤ P.length) (h2 : P.length ≤ 30) (hs : s.size ≤ 60) :
    Calls Tryz.prog 140 #[.slice (some ⟨B, 0, none⟩) P.length P.length, .string s] w fun e w' => e = .returned (.bool (justL true (rawL P) s.data.toList)) ∧ Below w.heap.size w w' := by
  have c0 := strs_at hI (show 0 < P.length from h1)
  have HJ : Hid _ := just_pre (show 0 < P.length from h1) s.data.toList
  have HI : Hid _ := hI
  have HM : Hid _ := hM
  clear hI hM
  cases hx : P[0].data.toList.isPrefixOf s.data.toList with
  | false =>
    rw [hx, Bool.false_and] at HJ
    have HX : Hid _ := hx
    clear hx
    go_enter Tryz.func140, Tryz.ntmps140
    go_wp2_with fail
    refine (pre_any s P[0] _).mono ?_
    rintro e w1 ⟨rfl, rfl⟩
    rw [HX.out]
    go_wp2
    go_ret
    exact ⟨ret_bool HJ.out.symm, Below.refl _ _⟩
  | true =>
    rw [hx, Bool.true_and] at HJ
    have hr : Lib.trimPrefix s.data.toList P[0].data.toList = s.data.toList.drop P[0].data.toList.length := by unfold Lib.trimPrefix Lib.hasPrefix; rw [hx]; rfl
    obtain ⟨r0, hr0⟩ : ∃ r0, r0 = s.data.toList.drop P[0].data.toList.length := ⟨_, rfl⟩
    have hl0 : r0.length ≤ 60 := by rw [hr0, List.length_drop, len_eq]; omega
    rw [← hr0] at hr HJ
    have HX : Hid _ := hx
    have HR : Hid _ := hr
    clear hx hr hr0
    by_cases h11 : P.length = 1
    · have HE : Hid (r0.isEmpty = justL true (rawL P) s.data.toList) := by
        show _ = _
        rw [HJ.out, List.drop_eq_nil_of_le (by omega)]; rfl
      have h11' : (((P.length : Nat) : Int) == 1) = true := by simp; omega
      go_enter Tryz.func140, Tryz.ntmps140
      go_wp2_with fail
      refine (pre_any s P[0] _).mono ?_
      rintro e w1 ⟨rfl, rfl⟩
      rw [HX.out, HR.out]
      clear c0
      go_wp2
      go_ret
      refine ⟨ret_bool ?_, Below.refl _ _⟩
      rw [← HE.out, ByteArray.toList_eq, show (bs r0).data.toList = r0 from by unfold bs; simp]
    · have h11' : (((P.length : Nat) : Int) == 1) = false := by simp; omega
      have HLL := fun (W : World) (q : Nat) (hq : q < P.length) (h : IsStrs W (some ⟨B, 0, none⟩) P.length P) => strs_at h hq
      go_enter Tryz.func140, Tryz.ntmps140
      go_wp2_with fail
      refine (pre_any s P[0] _).mono ?_
      rintro e w1 ⟨rfl, rfl⟩
      rw [HX.out, HR.out]
      clear c0
      go_wp2
      go_loopw [5, 35] (fun v i wr => ∃ (k : Nat) (r : List UInt8), k + 2 ≤ P.length ∧ i = .int .i64 (k : Int) ∧ v = .string (bs r) ∧ r.length ≤ 60 ∧ Hid (justL true (rawL P) s.data.toList = restL true (rawL (P.drop (k + 1))) r) ∧ Hid (IsStrs wr (some ⟨B, 0, none⟩) P.length P) ∧ Hid (Mx wr) ∧ Hid (Below w1.heap.size w1 wr)) (fun _ i _ => P.length - (intOf i).toNat)
      case atStart => exact ⟨0, r0, by omega, rfl, rfl, hl0, HJ.out, HI, HM, Below.refl _ _⟩
      case round =>
        obtain ⟨k, r, hk, rfl, rfl, hrl, HE, HIn, HMn, HBn⟩ := hrel
        by_cases hlt : k + 2 < P.length
        · have ck : wr.cell? ⟨B, 1 + k, none⟩ = some (.string P[k + 1]) := by rw [Nat.add_comm]; exact strs_at HIn.out (show k + 1 < P.length by omega)
          have HS : Hid _ := rest_mid (show k + 1 + 1 < P.length by omega) r
          by_cases hix : Lib.index r P[k + 1].data.toList = -1
          · have HC : Hid _ := cut_no hix
            have HF : Hid (justL true (rawL P) s.data.toList = false) := by show _ = _; rw [HE.out, HS.out, if_pos hix]
            clear HS hix
            go_wp2_with fail
            refine (cut_any (bs r) P[k + 1] _ HMn.out (by rw [bs_size]; omega)).mono ?_
            rintro e w2 ⟨rfl, m, rfl⟩
            rw [show (bs r).data.toList = r from by unfold bs; simp, HC.out]
            go_wp2
            go_ret
            exact ⟨ret_bool HF.out.symm, below_drewN HBn.out m⟩
          · have HC : Hid _ := cut_yes hix
            have HF : Hid (justL true (rawL P) s.data.toList = restL true (rawL (P.drop (k + 1 + 1))) (r.drop ((Lib.index r P[k + 1].data.toList).toNat + P[k + 1].data.toList.length))) := by show _ = _; rw [HE.out, HS.out, if_neg hix]
            clear HS hix
            go_wp2_with fail
            refine (cut_any (bs r) P[k + 1] _ HMn.out (by rw [bs_size]; omega)).mono ?_
            rintro e w2 ⟨rfl, m, rfl⟩
            rw [show (bs r).data.toList = r from by unfold bs; simp, HC.out]
            go_wp2
            go_roundw
            case rel => exact ⟨k + 1, _, by omega, by go_num, rfl, by rw [List.length_drop]; omega, HF.out, IsStrs.drewN HIn.out m, Mx.drewN HMn.out m, below_drewN HBn.out m⟩
            case measure => simp [intOf]; omega
        · have hk2 : k + 2 = P.length := by omega
          have ck := strs_at HIn.out (show P.length - 1 < P.length by omega)
          have HF : Hid (justL true (rawL P) s.data.toList = decide (P[P.length - 1].data.toList <:+ r)) := by
            show _ = _
            rw [HE.out, rest_last (show k + 1 + 1 = P.length by omega)]
          go_wp2_with fail
          refine (suf_lib (bs r) P[P.length - 1] _ (by rw [bs_size]; omega)).mono ?_
          rintro e w2 ⟨rfl, rfl⟩
          rw [show (bs r).data.toList = r from by unfold bs; simp]
          go_wp2
          go_ret
          exact ⟨ret_bool HF.out.symm, HBn.out⟩
end Go.Proofs.YtiennniclkbjlaaGreatDoor.Ha
/- Is a way of a pattern: the program's, whole. -/
namespace Go.Proofs.YtiennniclkbjlaaGreatDoor.Ha
open Go.RowKit Go.Proofs.YtiennniclkbjlaaGreatDoor.EscM Go.Proofs.YtiennniclkbjlaaGreatDoor.EscL Go.Proofs.YtiennniclkbjlaaGreatDoor.RuleM Go.Proofs.YtiennniclkbjlaaGreatDoor.Ru1 Go.Proofs.YtiennniclkbjlaaGreatDoor.ReadM Go.Proofs.YtiennniclkbjlaaGreatDoor.HasM Go.Proofs.YtiennniclkbjlaaGreatDoor.St Go.Proofs.YtiennniclkbjlaaGreatDoor.Rd1 Go.Proofs.YtiennniclkbjlaaGreatDoor.LibS

theorem bs_list (l : List UInt8) : (bs l).data.toList = l := by unfold bs; simp
theorem raw_split (c : Int) (s : ByteArray) : rawL (splitS c s) = splitL c s.data.toList := by
  unfold rawL splitS
  rw [List.map_map]
  conv => rhs; rw [← List.map_id (splitL c s.data.toList)]
  apply List.map_congr_left
  intro x _
  exact bs_list x
theorem split_snoc : ∀ l : List UInt8, splitL 42 (l ++ [42]) = splitL 42 l ++ [[]] := by
  intro l
  induction l with
  | nil => rfl
  | cons b r ih =>
    rw [List.cons_append, split_cons, split_cons, ih]
    by_cases h : (b.toNat : Int) = 42
    · rw [if_pos h, if_pos h]; rfl
    · rw [if_neg h, if_neg h]
      cases hs : splitL 42 r with
      | nil => exact absurd hs (split_ne _ _)
      | cons y u => rfl
theorem rest_snoc : ∀ (t : List (List UInt8)) (r : List UInt8), restL true (t ++ [[]]) r = restL false t r := by
  intro t
  induction t with
  | nil => intro r; show restL true [[]] r = _; unfold restL; rw [if_pos (by rfl)]; simp
  | cons x t ih =>
    intro r
    rw [List.cons_append]
    conv => lhs; unfold restL
    conv => rhs; unfold restL
    have h1 : (true && (t ++ [[]]).isEmpty) = false := by simp
    have h2 : (false && t.isEmpty) = false := rfl
    rw [h1, h2, if_neg Bool.false_ne_true, if_neg Bool.false_ne_true, ih]
theorem just_snoc (l s : List UInt8) : justL true (splitL 42 (l ++ [42])) s = justL false (splitL 42 l) s := by
  rw [split_snoc]
  cases hs : splitL 42 l with
  | nil => exact absurd hs (split_ne _ _)
  | cons x t => rw [List.cons_append]; unfold justL; dsimp only; rw [rest_snoc]
theorem has_suf (l : List UInt8) : Lib.hasSuffix l [36] = endsB l := by
  unfold Lib.hasSuffix endsB
  rw [Bool.eq_iff_iff, List.isSuffixOf_iff_suffix, decide_eq_true_eq]
  constructor
  · rintro ⟨a, rfl⟩; simp
  · intro h
    have hne : l ≠ [] := by rintro rfl; cases h
    rw [List.getLast?_eq_some_getLast hne] at h
    refine ⟨l.dropLast, ?_⟩
    rw [← Option.some.inj h]; exact List.dropLast_concat_getLast hne
theorem trim_suf (l : List UInt8) : Lib.trimSuffix l [36] = bodyL l := by
  unfold Lib.trimSuffix bodyL
  rw [has_suf]
  cases endsB l with
  | true => rw [if_pos rfl, if_pos rfl, List.dropLast_eq_take]; rfl
  | false => rfl
theorem cutsuf_any (s : ByteArray) (w : World) (hs : s.size ≤ 1000000) :
    Calls Tryz.prog 139 #[.string s, .string ⟨#[36]⟩] w fun e w' => e = .returned (.tuple #[.string (bs (bodyL s.data.toList)), .bool (endsB s.data.toList)]) ∧ w' = w := by
  refine (Tryz.strings_CutSuffix s ⟨#[36]⟩ w (by omega)).mono ?_
  rintro e w' ⟨rfl, rfl⟩
  have e1 : (⟨#[36]⟩ : ByteArray).data.toList = [36] := rfl
  rw [e1, has_suf, trim_suf]
  exact ⟨rfl, rfl⟩
theorem body_len (l : List UInt8) : (bodyL l).length ≤ l.length := by
  unfold bodyL; split
  · simp
  · exact Nat.le_refl _

set_option maxRecDepth 100000 in
set_option maxHeartbeats 1600000 in
theorem implHas_any (p s : ByteArray) (w : World) (hM : Mx w) (hp : p.size ≤ maxLen) (hs : s.size ≤ maxLen) :
    Calls Tryz.prog 116 #[.string p, .string s] w fun e w' => e = .returned (.bool (hasL p.data.toList s.data.toList)) ∧ Below w.heap.size w w' := by
  unfold maxLen at hs
  have HM : Hid (Mx w) := hM
  clear hM
  cases hr : ruleL p.data.toList with
  | false =>
    have HF : Hid (hasL p.data.toList s.data.toList = false) := has_bad hr _
    have HR : Hid _ := hr
    clear hr
    go_enter Tryz.func116, Tryz.ntmps116
    go_wp2_with fail
    refine (implRule_any p _ hp).mono ?_
    rintro e w1 ⟨rfl, hb1⟩
    rw [HR.out]
    go_wp2
    go_ret
    exact ⟨ret_bool HF.out.symm, hb1⟩
  | true =>
    have HR : Hid _ := hr
    obtain ⟨⟨_, hp16⟩, _, _⟩ := ruleL_parts hr
    rw [len_eq] at hp16
    clear hr
    by_cases hl : s.size ≤ 60
    · have HE : Hid (hasL p.data.toList s.data.toList = justL (endsB p.data.toList) (splitL 42 (bodyL p.data.toList)) s.data.toList) := by
        show _ = _
        unfold hasL
        rw [HR.out, decide_eq_true (by rw [len_eq]; exact hl)]; rfl
      obtain ⟨b, hb⟩ : ∃ b, b = bodyL p.data.toList := ⟨_, rfl⟩
      have hbl : b.length ≤ 16 := by rw [hb]; have := body_len p.data.toList; rw [len_eq] at this; omega
      obtain ⟨f, hf⟩ : ∃ f, f = endsB p.data.toList := ⟨_, rfl⟩
      rw [← hb, ← hf] at HE
      have HBF : Hid (b = bodyL p.data.toList ∧ f = endsB p.data.toList) := ⟨hb, hf⟩
      clear hb hf
      have main : ∀ (W : World) (c : List UInt8), Mx W → c.length ≤ 17 → Calls Tryz.prog 140 #[.slice (some ⟨W.heap.size, 0, none⟩) (splitS 42 (bs c)).length (splitS 42 (bs c)).length, .string s] (W.alloc (.cells ((splitS 42 (bs c)).map Value.string).toArray 9)) fun e w' => e = .returned (.bool (justL true (splitL 42 c) s.data.toList)) ∧ Below W.heap.size W w' := by
        intro W c hW hc
        have h1 : 1 ≤ (splitS 42 (bs c)).length := by
          unfold splitS; rw [List.length_map]
          have := split_ne 42 (bs c).data.toList
          cases hq : splitL 42 (bs c).data.toList with
          | nil => exact absurd hq this
          | cons => simp
        have h2 : (splitS 42 (bs c)).length ≤ 18 := by
          unfold splitS; rw [List.length_map]
          have := split_len 42 (bs c).data.toList
          rw [bs_list] at this ⊢; omega
        have hIs : IsStrs (W.alloc (.cells ((splitS 42 (bs c)).map Value.string).toArray 9)) (some ⟨W.heap.size, 0, none⟩) (splitS 42 (bs c)).length (splitS 42 (bs c)) := by
          refine ⟨Nat.le_refl _, by unfold maxLen; omega, (fun e => by cases e), fun _ => ⟨W.heap.size, 0, rfl, fun i hi => ?_⟩⟩
          have hb : (W.alloc (.cells ((splitS 42 (bs c)).map Value.string).toArray 9)).heap[W.heap.size]? = some (.cells ((splitS 42 (bs c)).map Value.string).toArray 9) := by show (W.heap.push _)[W.heap.size]? = _; simp
          unfold World.cell?
          dsimp only
          rw [hb]; simp [List.getElem?_eq_getElem hi]
        refine (implJust_any W.heap.size (splitS 42 (bs c)) s _ (hW.alloc _) hIs h1 (by omega) hl).mono ?_
        rintro e w' ⟨rfl, hb⟩
        refine ⟨ret_bool (by rw [raw_split, bs_list]), ?_⟩
        exact ((Below.refl _ W).alloc (Nat.le_refl _) _).trans (hb.mono (by simp))
      have MAIN : Hid _ := main
      clear main
      cases f with
      | true =>
        go_enter Tryz.func116, Tryz.ntmps116
        go_wp2_with fail
        refine (implRule_any p _ hp).mono ?_
        rintro e w1 ⟨rfl, hb1⟩
        rw [HR.out]
        have HM1 : Hid (Mx w1) := Mx.below HM.out hb1
        have HB1 : Hid _ := hb1
        clear hb1
        go_wp2_with fail
        refine (cutsuf_any p _ (by omega)).mono ?_
        rintro e w2 ⟨rfl, rfl⟩
        rw [← HBF.out.1, ← HBF.out.2]
        go_wp2_with fail
        refine (split_any (bs b) _ HM1.out (by rw [bs_size]; omega)).mono ?_
        rintro e w3 ⟨rfl, rfl⟩
        go_wp2_with fail
        refine (MAIN.out _ b HM1.out (by omega)).mono ?_
        rintro e w4 ⟨rfl, hb4⟩
        go_wp2
        go_ret
        exact ⟨ret_bool HE.out.symm, HB1.out.trans (hb4.mono HB1.out.size)⟩
      | false =>
        have HE2 : Hid (hasL p.data.toList s.data.toList = justL true (splitL 42 (b ++ [42])) s.data.toList) := by show _ = _; rw [HE.out, just_snoc]
        go_enter Tryz.func116, Tryz.ntmps116
        go_wp2_with fail
        refine (implRule_any p _ hp).mono ?_
        rintro e w1 ⟨rfl, hb1⟩
        rw [HR.out]
        have HM1 : Hid (Mx w1) := Mx.below HM.out hb1
        have HB1 : Hid _ := hb1
        clear hb1
        go_wp2_with fail
        refine (cutsuf_any p _ (by omega)).mono ?_
        rintro e w2 ⟨rfl, rfl⟩
        rw [← HBF.out.1, ← HBF.out.2]
        have hb42 : ¬ 9223372036854775807 < (bs b).size + (⟨#[42]⟩ : ByteArray).size := by rw [bs_size]; show ¬ _ < _ + 1; omega
        have HBS : Hid (bs b ++ (⟨#[42]⟩ : ByteArray) = bs (b ++ [42])) := by
          show _ = _
          unfold bs; apply ByteArray.ext; simp
        go_wp2_with fail
        rw [HBS.out]
        refine (split_any (bs (b ++ [42])) _ HM1.out (by rw [bs_size, List.length_append]; simp; omega)).mono ?_
        rintro e w3 ⟨rfl, rfl⟩
        go_wp2_with fail
        refine (MAIN.out _ (b ++ [42]) HM1.out (by simp; omega)).mono ?_
        rintro e w4 ⟨rfl, hb4⟩
        go_wp2
        go_ret
        exact ⟨ret_bool HE2.out.symm, HB1.out.trans (hb4.mono HB1.out.size)⟩
    · have HF : Hid (hasL p.data.toList s.data.toList = false) := has_long _ (by rw [len_eq]; exact hl)
      have hl' : 60 < s.size := by omega
      go_enter Tryz.func116, Tryz.ntmps116
      go_wp2_with fail
      refine (implRule_any p _ hp).mono ?_
      rintro e w1 ⟨rfl, hb1⟩
      rw [HR.out]
      go_wp2
      go_ret
      exact ⟨ret_bool HF.out.symm, hb1⟩
end Go.Proofs.YtiennniclkbjlaaGreatDoor.Ha
/- What the laws over patterns share. -/
namespace Go.Proofs.YtiennniclkbjlaaGreatDoor.Ha
open Go.RowKit Go.Proofs.YtiennniclkbjlaaGreatDoor.EscM Go.Proofs.YtiennniclkbjlaaGreatDoor.EscL Go.Proofs.YtiennniclkbjlaaGreatDoor.RuleM Go.Proofs.YtiennniclkbjlaaGreatDoor.Ru1 Go.Proofs.YtiennniclkbjlaaGreatDoor.ReadM Go.Proofs.YtiennniclkbjlaaGreatDoor.HasM Go.Proofs.YtiennniclkbjlaaGreatDoor.St Go.Proofs.YtiennniclkbjlaaGreatDoor.Rd1
theorem mx_of {w : World} (h : w.ShapedOpen Tryz.prog) : Mx w :=
  cell_of_shapedOpen_int (g := 2) (t := 3) (zero := #[.int .i64 0]) (k := .i64) h (of_decide_eq_true (by kernel_rfl)) (by kernel_rfl) rfl (by kernel_rfl) (by kernel_rfl) Tryz.underlying3

end Go.Proofs.YtiennniclkbjlaaGreatDoor.Ha
