/- Several texts in one: Strs, Cmp, Draw1, Draw2, Draw3, Path1, Rows2, MapMath, RowPg, Draw4, Bld, RowIt, RowLk. -/
import Derived.Test.YtiennniclkbjlaaGreatDoorChecked
import Derived.WalkKit
import Derived.WalkLawsBesides
import Derived.WalkSpells
import Derived.WalkSmall
import Derived.BigQuiet
import Derived.Deep.QuietTactic
import Derived.Outline
import Derived.Test.YtiennniclkbjlaaGreatDoorPathMath
import Derived.Maps.OwnOps
import Derived.Lib.Builder
import Derived.Lib.AppendStr
import Derived.Lib.UnsafeStr
import Derived.Laws.Externs
/- Slices of strings: what is known of one; append onto one of the call's own; steps that compare. -/
namespace Go.Proofs.YtiennniclkbjlaaGreatDoor.St
open Go.RowKit

def cellsS (L : List ByteArray) : List Value := L.map Value.string
theorem cellsS_len (L : List ByteArray) : (cellsS L).length = L.length := by simp [cellsS]
theorem cellsS_append (A B : List ByteArray) : cellsS (A ++ B) = cellsS A ++ cellsS B := by simp [cellsS]

/-- a slice that reads as a list of strings -/
def IsStrs (w : World) (a0 : Option Addr) (cap : Nat) (L : List ByteArray) : Prop :=
  L.length ≤ cap ∧ cap ≤ maxLen ∧ (a0 = none → cap = 0) ∧ (L ≠ [] → ∃ b off, a0 = some ⟨b, off, none⟩ ∧ ∀ i (h : i < L.length), w.cell? ⟨b, off + i, none⟩ = some (.string L[i]))

theorem cell_block {w : World} {a : Addr} {v : Value} (h : w.cell? a = some v) : a.block < w.heap.size := by
  unfold World.cell? at h
  by_cases hh : a.block < w.heap.size
  · exact hh
  · rw [Array.getElem?_eq_none (by omega)] at h; simp at h

theorem IsStrs.keep {w w' : World} {a0 : Option Addr} {cap : Nat} {L : List ByteArray} (h : IsStrs w a0 cap L) (hb : ∀ k, k < w.heap.size → w'.heap[k]? = w.heap[k]?) : IsStrs w' a0 cap L := by
  obtain ⟨h1, h2, h3, h4⟩ := h
  refine ⟨h1, h2, h3, fun hne => ?_⟩
  obtain ⟨b, off, e, hc⟩ := h4 hne
  refine ⟨b, off, e, fun i hi => ?_⟩
  rw [World.cell?_of_block (w := w) (hb _ (cell_block (hc i hi)))]; exact hc i hi
theorem IsStrs.below {w w' : World} {a0 : Option Addr} {cap : Nat} {L : List ByteArray} (h : IsStrs w a0 cap L) (hb : Below w.heap.size w w') : IsStrs w' a0 cap L := h.keep fun k hk => hb.block k hk

theorem add_mk (g o i : Nat) : (⟨g, o, none⟩ : Addr).add i = ⟨g, o + i, none⟩ := by simp [Addr.add]

theorem IsStrs.drewN {w : World} {a0 : Option Addr} {cap : Nat} {L : List ByteArray} (h : IsStrs w a0 cap L) (n : Nat) : IsStrs (w.drewN n) a0 cap L := h.keep fun _ _ => rfl

/-- one of the call's own -/
def Owns (w : World) (base : Nat) (v : Value) (L : List ByteArray) : Prop := w.ownsRow base 9 1 v L.length (cellsS L)

theorem Owns.strs {w : World} {base : Nat} {v : Value} {L : List ByteArray} (h : Owns w base v L) : ∃ a0 cap, v = .slice a0 L.length cap ∧ IsStrs w a0 cap L := by
  have h' := h
  obtain ⟨_, ⟨rfl, hn⟩ | ⟨g, cap, cur, rfl, hg, hh, hn, hm, _⟩⟩ := h
  · have : L = [] := List.eq_nil_of_length_eq_zero hn
    subst this
    exact ⟨none, 0, rfl, by simp, by simp, fun _ => rfl, fun h => absurd rfl h⟩
  · refine ⟨_, cap, rfl, hn, hm, (fun e => by cases e), (fun _ => ⟨g, 0, rfl, fun i hi => ?_⟩)⟩
    have := World.ownsRow.cells h' (g := g) rfl i (.string L[i]) (by simp [cellsS, List.getElem?_eq_getElem hi])
    rw [add_mk] at this; exact this
theorem Owns.keep {w w' : World} {base : Nat} {v : Value} {L : List ByteArray} (h : Owns w base v L) (hb : ∀ k, k < w.heap.size → w'.heap[k]? = w.heap[k]?) : Owns w' base v L := by
  obtain ⟨h1, h2 | ⟨g, cap, cur, hv, hg, hc, r⟩⟩ := h
  · exact ⟨h1, Or.inl h2⟩
  · refine ⟨h1, Or.inr ⟨g, cap, cur, hv, hg, ?_, r⟩⟩
    rw [hb g (Array.getElem?_eq_some_iff.1 hc).1]; exact hc
theorem Owns.below {w w' : World} {base : Nat} {v : Value} {L : List ByteArray} (h : Owns w base v L) (hb : Below w.heap.size w w') : Owns w' base v L := h.keep fun k hk => hb.block k hk
theorem Owns.mono {w : World} {base base' : Nat} {v : Value} {L : List ByteArray} (h : Owns w base v L) (hb : base' ≤ base) : Owns w base' v L := by
  obtain ⟨h1, h2 | ⟨g, cap, cur, hv, hg, r⟩⟩ := h
  · exact ⟨h1, Or.inl h2⟩
  · exact ⟨h1, Or.inr ⟨g, cap, cur, hv, by omega, r⟩⟩
theorem Owns.block {w : World} {base : Nat} {v : Value} {L : List ByteArray} (h : Owns w base v L) : ∀ k, v.ownBlock = some k → base ≤ k := by
  intro k hk
  obtain ⟨_, h | ⟨g, cap, cur, rfl, hb, _⟩⟩ := h
  · rw [h.1] at hk; simp [Value.ownBlock] at hk
  · simp [Value.ownBlock] at hk; omega

theorem Tryz.infoS : (Tryz.prog.info? 9).map (fun i => (i.zero, i.size, i.bytes)) = some (some (.string ⟨#[]⟩), 1, 16) := by kernel_rfl

theorem Owns.nil (w : World) (base : Nat) : Owns w base (.slice none 0 0) [] := World.ownsRow_nil _ _ _ _
theorem Owns.empty (w : World) (base : Nat) (hb : base ≤ w.heap.size) : Owns (w.alloc (.cells #[] 9)) base (.slice (some ⟨w.heap.size, 0, none⟩) 0 0) [] := by
  refine ⟨by simp [cellsS], Or.inr ⟨w.heap.size, 0, #[], rfl, hb, ?_, by simp, by simp, by simp, by simp [cellsS]⟩⟩
  show (w.heap.push _)[w.heap.size]? = _
  simp

theorem Owns.pop {w : World} {base g cap : Nat} {L : List ByteArray} (hne : L ≠ []) (h : Owns w base (.slice (some ⟨g, 0, none⟩) L.length cap) L) : Owns w base (.slice (some ⟨g, 0, none⟩) (L.length - 1) cap) L.dropLast := by
  have hl : L.dropLast.length = L.length - 1 := by simp
  have e : L.length = L.dropLast.length + 1 := by
    have : 0 < L.length := List.length_pos_iff.2 hne
    omega
  have e2 : cellsS L = cellsS L.dropLast ++ [Value.string (L.getLast hne)] := by
    conv => lhs; rw [← List.dropLast_concat_getLast hne]
    rw [cellsS_append]; rfl
  unfold Owns at h ⊢
  rw [e, e2] at h
  rw [← hl]
  exact ownsRow_pop (by rw [cellsS_len]; omega) h
theorem Owns.pop' {w : World} {base co : Nat} {ao : Option Addr} {L : List ByteArray} (hne : L.length ≠ 0) (h : Owns w base (.slice ao L.length co) L) : Owns w base (.slice ao (L.length - 1) co) L.dropLast := by
  have hne' : L ≠ [] := by intro e; rw [e] at hne; exact hne rfl
  have h' := h
  obtain ⟨_, ⟨h1, hn⟩ | ⟨g, cap, cur, hv, _⟩⟩ := h
  · exact absurd hn hne
  · injection hv with e1 _ e2
    subst e1; subst e2
    exact Owns.pop hne' h'

theorem Owns.append {w' : World} {base : Nat} {v' : Value} {X : List ByteArray} {p : ByteArray} (hO : w'.ownsRow base 9 1 v' (X.length + 1) (cellsS X ++ [.string p])) : Owns w' base v' (X ++ [p]) := by
  unfold Owns
  rw [cellsS_append, List.length_append]; exact hO

theorem cellsS_one (L : List ByteArray) : ∀ u ∈ cellsS L, u.oneCell' = true := by
  intro u hu
  simp [cellsS] at hu
  obtain ⟨s, _, rfl⟩ := hu; rfl
/-- what is appended from such a slice -/
theorem IsStrs.news {w : World} {g o cap : Nat} {L : List ByteArray} (h : IsStrs w (some ⟨g, o, none⟩) cap L) {w' : World} (hb : ∀ k, k < w.heap.size → w'.heap[k]? = w.heap[k]?) : ∀ j u, (cellsS L)[j]? = some u → w'.cell? ((⟨g, o, none⟩ : Addr).add j) = some u := by
  intro j u hj
  have hj' : j < L.length := by have := (List.getElem?_eq_some_iff.1 hj).1; rwa [cellsS_len] at this
  obtain ⟨b, off, e, hc⟩ := (h.keep hb).2.2.2 (by intro e; rw [e] at hj'; simp at hj')
  injection e with e; injection e with e1 e2 _
  subst e1; subst e2
  rw [add_mk, hc j hj']
  simp [cellsS, List.getElem?_eq_getElem hj'] at hj
  rw [hj]
theorem Owns.of_row {w : World} {base n : Nat} {v : Value} {L : List ByteArray} {xs : List Value} (h : w.ownsRow base 9 1 v n xs) (hn : n = L.length) (hx : xs = cellsS L) : Owns w base v L := by
  subst hn; subst hx; exact h
theorem alloc_keep (w : World) (o : Obj) : ∀ k, k < w.heap.size → (w.alloc o).heap[k]? = w.heap[k]? := fun k hk => Below.heap_alloc w o k hk
theorem IsStrs.cut {w : World} {a0 : Option Addr} {cap : Nat} {L : List ByteArray} (h : IsStrs w a0 cap L) (n : Nat) : IsStrs w a0 cap (L.take n) := by
  obtain ⟨h1, h2, h3, h4⟩ := h
  refine ⟨by simp; omega, h2, h3, fun hne => ?_⟩
  obtain ⟨b, off, e, hc⟩ := h4 (by intro e; subst e; simp at hne)
  refine ⟨b, off, e, fun i hi => ?_⟩
  have hi' : i < L.length := by simp at hi; omega
  rw [hc i hi']; simp

/-- append(append([]string{}, parts...), more...), once both are made -/
theorem two_app {W W1 W2 : World} {o1 o2 : Obj} {v1 v2 : Value} {L M : List ByteArray} {n m : Nat} (h1 : (W.alloc o1).grownBy W1 (Value.slice (some ⟨W.heap.size, 0, none⟩) 0 0).ownBlock) (ho1 : W1.ownsRow W.heap.size 9 1 v1 n ([] ++ cellsS L))
    (h2 : (W1.alloc o2).grownBy W2 v1.ownBlock) (ho2 : W2.ownsRow W.heap.size 9 1 v2 m ([] ++ cellsS L ++ cellsS M)) (hn : n = L.length) (hm : m = (L ++ M).length) : Owns W2 W.heap.size v2 (L ++ M) ∧ Below W.heap.size W W2 := by
  have hO1 : Owns W1 W.heap.size v1 L := Owns.of_row ho1 hn (by simp)
  have hb1 : Below W.heap.size W W1 := Below.grown ((Below.refl _ _).alloc (Nat.le_refl _) _) h1 (by simp) (by intro k hk; simp [Value.ownBlock] at hk; omega)
  refine ⟨Owns.of_row ho2 hm (by simp [cellsS]), ?_⟩
  exact Below.grown (hb1.alloc hb1.size _) h2 (by have := hb1.size; simp; omega) (Owns.block hO1)

/-- a slice of strings that came in -/
theorem open_strs {w : World} {x : Addr} {len cap : Nat} {ss : List ByteArray} (hl : len ≤ cap) (hm : cap ≤ maxLen) (hz : ss.length = cap) (hcell : ∀ i, i < ss.length → w.cell? (x.add i) = some (.string (ss.getD i ByteArray.empty))) (hws : ∀ s ∈ ss, s.size ≤ maxLen) :
    ∃ L : List ByteArray, len = L.length ∧ IsStrs w (some x) cap L ∧ ∀ s ∈ L, s.size ≤ maxLen := by
  refine ⟨ss.take len, by simp; omega, ⟨by simp; omega, hm, (fun e => by cases e), fun hne => ?_⟩, fun s hs => hws s (List.mem_of_mem_take hs)⟩
  have h0 : 0 < ss.length := by
    rcases Nat.eq_zero_or_pos ss.length with h | h
    · have : ss = [] := List.eq_nil_of_length_eq_zero h
      subst this; simp at hne
    · exact h
  have hc0 := hcell 0 h0
  have hspot : x.spot = none := by simpa [Addr.add] using World.cell?_spot hc0
  obtain ⟨b, off, spot⟩ := x
  simp at hspot; subst hspot
  refine ⟨b, off, rfl, fun i hi => ?_⟩
  have hi' : i < ss.length := by simp at hi; omega
  have := hcell i hi'
  rw [add_mk] at this
  rw [this, List.getD_eq_getElem?_getD, List.getElem?_eq_getElem hi']
  simp

theorem Owns.keptR {w w' : World} {base r : Nat} {v : Value} {L : List ByteArray} (h : Owns w base v L) (hg : w.grownBy w' (some r)) (hr : r < base) : Owns w' base v L := by
  refine World.ownsRow.kept h hg ?_
  cases hv : v.ownBlock with
  | none => exact Or.inl rfl
  | some g =>
    right
    have := Owns.block h g hv
    intro e; have := Option.some.inj e; omega
theorem grown_low {a b : World} {row : Option Nat} (B : Nat) (h : a.grownBy b row) (hB : B ≤ a.heap.size) (hrow : ∀ k, row = some k → B ≤ k) : Below B a b :=
  ⟨h.os, h.tape, h.output, h.size, fun k hk => h.block k (by omega) (fun e => by have := hrow k e.symm; omega)⟩
theorem Owns.strsOf {w : World} {base : Nat} {a0 : Option Addr} {cap n : Nat} {L : List ByteArray} (h : Owns w base (.slice a0 n cap) L) : IsStrs w a0 cap L := by
  obtain ⟨a1, c1, e, hs⟩ := h.strs
  injection e with e1 _ e2
  subst e1; subst e2; exact hs
end Go.Proofs.YtiennniclkbjlaaGreatDoor.St
/- The laws' comparisons of lists of strings, and the drawn parts of a way. -/
namespace Go.Proofs.YtiennniclkbjlaaGreatDoor.St
open Go.RowKit

theorem str_eq_iff (a b : ByteArray) : (a.toList == b.toList) = decide (a = b) := by
  rw [Bool.eq_iff_iff]
  simp only [beq_iff_eq, decide_eq_true_eq, ByteArray.toList_eq]
  constructor
  · intro h; apply ByteArray.ext; exact Array.toList_inj.1 h
  · intro h; rw [h]

def hasB (x : ByteArray) (A : List ByteArray) : Bool := A.any fun y => decide (y = x)
theorem hasB_iff {x : ByteArray} {A : List ByteArray} : hasB x A = true ↔ x ∈ A := by
  simp [hasB]
theorem hasB_no {x : ByteArray} {A : List ByteArray} : hasB x A = false ↔ x ∉ A := by
  rw [← hasB_iff]; simp

theorem IsStrs.at {w : World} {a0 : Option Addr} {cap : Nat} {L : List ByteArray} (h : IsStrs w a0 cap L) {k : Nat} (hk : k < L.length) : ∃ b off, a0 = some ⟨b, off, none⟩ ∧ w.cell? ⟨b, off + k, none⟩ = some (.string L[k]) := by
  obtain ⟨b, off, e, hc⟩ := h.2.2.2 (by intro e; rw [e] at hk; simp at hk)
  exact ⟨b, off, e, hc k hk⟩

theorem take_ne {A B : List ByteArray} {k : Nat} (h : A.take k = B.take k) (hA : k < A.length) (hB : k < B.length) (he : A[k] = B[k]) : A.take (k + 1) = B.take (k + 1) := by
  rw [List.take_succ_eq_append_getElem hA, List.take_succ_eq_append_getElem hB, h, he]

set_option maxRecDepth 100000 in
set_option maxHeartbeats 1600000 in
theorem lpTexts_any (a0 : Option Addr) (cap : Nat) (A : List ByteArray) (b0 : Option Addr) (dap : Nat) (B : List ByteArray) (w : World) (hA : IsStrs w a0 cap A) (hB : IsStrs w b0 dap B) (hl : A.length ≤ 4194304) (hl2 : B.length ≤ 4194304) :
    Calls Tryz.prog 35 #[.slice a0 A.length cap, .slice b0 B.length dap] w fun e w' => e = .returned (.bool (decide (A = B))) ∧ ∃ n, w' = w.drewN n := by
  have HA : Hid (IsStrs w a0 cap A) := hA
  have HB : Hid (IsStrs w b0 dap B) := hB
  clear hA hB
  by_cases hlen : A.length = B.length
  · have hlb : ((A.length : Int) != (B.length : Int)) = false := by simp; omega
    have hl3 : A.length ≤ B.length := by omega
    have hl4 : B.length ≤ A.length := by omega
    have HL : Hid _ := hlen
    clear hlen
    go_enter Tryz.func35, Tryz.ntmps35
    go_wp2
    go_loopw [5] (fun i wr => ∃ k n : Nat, k ≤ A.length ∧ i = .int .i64 (k : Int) ∧ wr = w.drewN n ∧ Hid (A.take k = B.take k)) (fun i _ => A.length - (intOf i).toNat)
    case atStart => exact ⟨0, 0, Nat.zero_le _, rfl, rfl, rfl⟩
    case round =>
      obtain ⟨k, n, hk, rfl, rfl, HT⟩ := hrel
      by_cases hlt : k < A.length
      · have hltB : k < B.length := by omega
        obtain ⟨b1, o1, e1, c1⟩ := HA.out.at hlt
        obtain ⟨b2, o2, e2, c2⟩ := HB.out.at hltB
        subst e1 e2
        have c1' : (w.drewN n).cell? ⟨b1, o1 + k, none⟩ = some (.string A[k]) := c1
        have c2' : (w.drewN n).cell? ⟨b2, o2 + k, none⟩ = some (.string B[k]) := c2
        have hi1 : (k : Int) < (A.length : Int) := by omega
        have hi2 : (k : Int) < (B.length : Int) := by omega
        cases he : (A[k].toList == B[k].toList) with
        | true =>
          have he' : A[k] = B[k] := by rw [str_eq_iff] at he; exact of_decide_eq_true he
          have HE : Hid _ := he'
          clear he'
          go_wp2
          go_quiet (fail)
          go_wp2
          go_roundw
          case rel => exact ⟨k + 1, n + nq, by omega, by go_num, rfl, take_ne HT.out hlt hltB HE.out⟩
          case measure => simp [intOf]; omega
        | false =>
          have he' : A[k] ≠ B[k] := by rw [str_eq_iff] at he; exact of_decide_eq_false he
          have hAB : decide (A = B) = false := by
            apply decide_eq_false
            intro e; subst e; exact he' rfl
          have HAB : Hid _ := hAB
          clear he' hAB
          go_wp2
          go_quiet (fail)
          go_wp2
          go_ret
          exact ⟨by rw [HAB.out]; rfl, n + nq, by simp⟩
      · have HAB : Hid (decide (A = B) = true) := by
          apply decide_eq_true
          have e1 : A.take k = A := List.take_of_length_le (by omega)
          have e2 : B.take k = B := List.take_of_length_le (by omega)
          rw [← e1, ← e2]; exact HT.out
        go_wp2
        go_ret
        exact ⟨by rw [HAB.out]; rfl, n, rfl⟩
  · have hlb : ((A.length : Int) != (B.length : Int)) = true := by simp; omega
    go_enter Tryz.func35, Tryz.ntmps35
    go_wp2
    go_ret
    have hAB : decide (A = B) = false := by
      apply decide_eq_false
      intro e; subst e; exact hlen rfl
    exact ⟨by rw [hAB]; rfl, 0, rfl⟩

theorem texts_any (a0 : Option Addr) (cap : Nat) (A : List ByteArray) (b0 : Option Addr) (dap : Nat) (B : List ByteArray) (w : World) (hA : IsStrs w a0 cap A) (hB : IsStrs w b0 dap B) (hl : A.length ≤ 4194304) (hl2 : B.length ≤ 4194304) :
    Calls Tryz.prog 35 #[.slice a0 A.length cap, .slice b0 B.length dap] w fun e w' => e = .returned (.bool (decide (A = B))) ∧ ∃ n, w' = w.drewN n := lpTexts_any a0 cap A b0 dap B w hA hB hl hl2

theorem texts_n (a0 : Option Addr) (n cap : Nat) (A : List ByteArray) (b0 : Option Addr) (m dap : Nat) (B : List ByteArray) (w : World) (hn : A.length = n) (hm : B.length = m) (hA : IsStrs w a0 cap A) (hB : IsStrs w b0 dap B) (hl : n ≤ 4194304) (hl2 : m ≤ 4194304) :
    Calls Tryz.prog 35 #[.slice a0 n cap, .slice b0 m dap] w fun e w' => e = .returned (.bool (decide (A = B))) ∧ ∃ n, w' = w.drewN n := by
  subst hn; subst hm; exact lpTexts_any a0 cap A b0 dap B w hA hB hl hl2

set_option maxRecDepth 100000 in
set_option maxHeartbeats 1600000 in
theorem has_any (a0 : Option Addr) (cap : Nat) (A : List ByteArray) (x : ByteArray) (w : World) (hA : IsStrs w a0 cap A) (hl : A.length ≤ 4194304) :
    Calls Tryz.prog 42 #[.slice a0 A.length cap, .string x] w fun e w' => e = .returned (.bool (hasB x A)) ∧ w' = w := by
  have HA : Hid (IsStrs w a0 cap A) := hA
  clear hA
  go_enter Tryz.func42, Tryz.ntmps42
  go_wp2
  go_loop [5] (fun i => ∃ k : Nat, k ≤ A.length ∧ i = .int .i64 (k : Int) ∧ Hid (x ∉ A.take k)) (fun i => A.length - (intOf i).toNat)
  case atStart => exact ⟨0, Nat.zero_le _, rfl, by show x ∉ _; simp⟩
  case round =>
    obtain ⟨k, hk, rfl, HN⟩ := hrel
    by_cases hlt : k < A.length
    · obtain ⟨b1, o1, e1, c1⟩ := HA.out.at hlt
      subst e1
      cases he : (A[k].toList == x.toList) with
      | true =>
        have HE : Hid (hasB x A = true) := by
          apply hasB_iff.2
          rw [str_eq_iff] at he
          have := of_decide_eq_true he
          rw [← this]; exact List.getElem_mem hlt
        go_wp2
        go_ret
        exact ⟨by rw [HE.out]; rfl, rfl⟩
      | false =>
        have HE : Hid (x ∉ A.take (k + 1)) := by
          show x ∉ _
          rw [str_eq_iff] at he
          have := of_decide_eq_false he
          rw [List.take_succ_eq_append_getElem hlt, List.mem_append]
          intro h
          rcases h with h | h
          · exact HN.out h
          · simp at h; exact this h.symm
        go_wp2
        go_round
        case rel => exact ⟨k + 1, by omega, by go_num, HE⟩
        case measure => simp [intOf]; omega
    · have HE : Hid (hasB x A = false) := by
        apply hasB_no.2
        have e1 : A.take k = A := List.take_of_length_le (by omega)
        rw [← e1]; exact HN.out
      go_wp2
      go_ret
      exact ⟨by rw [HE.out]; rfl, rfl⟩

set_option maxRecDepth 100000 in
set_option maxHeartbeats 1600000 in
theorem within_any (a0 : Option Addr) (cap : Nat) (A : List ByteArray) (b0 : Option Addr) (dap : Nat) (B : List ByteArray) (w : World) (hA : IsStrs w a0 cap A) (hB : IsStrs w b0 dap B) (hl : A.length ≤ 4194304) (hl2 : B.length ≤ 4194304) (hAB : ∀ x ∈ A, x ∈ B) :
    Calls Tryz.prog 14 #[.slice a0 A.length cap, .slice b0 B.length dap] w fun e w' => e = .returned (.bool true) ∧ w' = w := by
  have HA : Hid (IsStrs w a0 cap A) := hA
  have HB : Hid (IsStrs w b0 dap B) := hB
  have HI : Hid _ := hAB
  clear hA hB hAB
  go_enter Tryz.func14, Tryz.ntmps14
  go_wp2
  go_loopw [5] (fun i wr => ∃ k : Nat, k ≤ A.length ∧ i = .int .i64 (k : Int) ∧ wr = w) (fun i _ => A.length - (intOf i).toNat)
  case atStart => exact ⟨0, Nat.zero_le _, rfl, rfl⟩
  case round =>
    obtain ⟨k, hk, rfl, rfl⟩ := hrel
    by_cases hlt : k < A.length
    · obtain ⟨b1, o1, e1, c1⟩ := HA.out.at hlt
      subst e1
      have hm : hasB A[k] B = true := hasB_iff.2 (HI.out _ (List.getElem_mem hlt))
      have HM : Hid _ := hm
      clear hm
      go_wp2_with fail
      refine (has_any b0 dap B A[k] _ HB.out hl2).mono ?_
      rintro e w1 ⟨rfl, rfl⟩
      rw [HM.out]
      go_wp2
      go_roundw
      case rel => exact ⟨k + 1, by omega, by go_num, by trivial⟩
      case measure => simp [intOf]; omega
    · go_wp2
      go_ret
      exact ⟨rfl, rfl⟩

end Go.Proofs.YtiennniclkbjlaaGreatDoor.St
namespace Go.Proofs.YtiennniclkbjlaaGreatDoor.Dr
open Go.RowKit

/-- THE READER OF A CODE lies in block r: its bytes lie in old memory (below B), its place is at most q -/
def IsRd (B : Nat) (w : World) (r q : Nat) : Prop :=
  ∃ (a0 : Option Addr) (len cap p : Nat), w.heap[r]? = some (.cells #[.slice a0 len cap, .int .i64 p] 92 (0, 0)) ∧ p ≤ q ∧ len ≤ 2000 ∧ B ≤ r ∧
    (len = 0 ∨ ∃ b off, a0 = some ⟨b, off, none⟩ ∧ b < B ∧ ∀ i, i < len → ∃ z : Int, w.cell? ⟨b, off + i, none⟩ = some (.int .u8 z) ∧ 0 ≤ z ∧ z ≤ 255)

theorem grown_refl (w : World) (row : Option Nat) : w.grownBy w row := ⟨rfl, rfl, rfl, Nat.le_refl _, fun _ _ _ => rfl⟩
theorem grown_trans {a b c : World} {row : Option Nat} (h : a.grownBy b row) (k : b.grownBy c row) : a.grownBy c row :=
  ⟨k.os.trans h.os, k.tape.trans h.tape, k.output.trans h.output, Nat.le_trans h.size k.size, fun i hi hr => (k.block i (Nat.lt_of_lt_of_le hi h.size) hr).trans (h.block i hi hr)⟩
theorem grown_below {B r : Nat} {a b : World} (h : a.grownBy b (some r)) (hB : B ≤ a.heap.size) (hr : B ≤ r) : Below B a b :=
  ⟨h.os, h.tape, h.output, h.size, fun k hk => h.block k (by omega) (by intro e; have := Option.some.inj e; omega)⟩

theorem IsRd.mono {B : Nat} {w : World} {r q q' : Nat} (h : IsRd B w r q) (hq : q ≤ q') : IsRd B w r q' := by
  obtain ⟨a0, len, cap, p, h1, h2, h3⟩ := h
  exact ⟨a0, len, cap, p, h1, by omega, h3⟩

theorem cell_block {w : World} {a : Addr} {v : Value} (h : w.cell? a = some v) : a.block < w.heap.size := by
  unfold World.cell? at h
  by_cases hh : a.block < w.heap.size
  · exact hh
  · rw [Array.getElem?_eq_none (by omega)] at h; simp at h

/-- what leaves the reader's block alone keeps it -/
theorem IsRd.keep {B : Nat} {w w' : World} {r q : Nat} (h : IsRd B w r q) (hb : ∀ k, k < w.heap.size → w'.heap[k]? = w.heap[k]?) : IsRd B w' r q := by
  obtain ⟨a0, len, cap, p, h1, h2, h3, h4, h5⟩ := h
  refine ⟨a0, len, cap, p, ?_, h2, h3, h4, ?_⟩
  · rw [hb r (Array.getElem?_eq_some_iff.1 h1).1]; exact h1
  · rcases h5 with h5 | ⟨b, off, h6, h7, h8⟩
    · exact Or.inl h5
    · refine Or.inr ⟨b, off, h6, h7, fun i hi => ?_⟩
      obtain ⟨z, hz, hz'⟩ := h8 i hi
      refine ⟨z, ?_, hz'⟩
      have := cell_block hz
      rw [World.cell?_of_block (w := w) (hb _ this)]; exact hz
theorem IsRd.alloc {B : Nat} {w : World} {r q : Nat} (h : IsRd B w r q) (o : Obj) : IsRd B (w.alloc o) r q := h.keep fun k hk => Below.heap_alloc w o k hk
theorem IsRd.drew {B : Nat} {w : World} {r q : Nat} (h : IsRd B w r q) : IsRd B w.drew r q := h
theorem IsRd.drewN {B : Nat} {w : World} {r q : Nat} (h : IsRd B w r q) (n : Nat) : IsRd B (w.drewN n) r q := h.keep fun _ _ => rfl
theorem IsRd.below {B : Nat} {w w' : World} {r q : Nat} (h : IsRd B w r q) (hb : Below w.heap.size w w') : IsRd B w' r q := h.keep fun k hk => hb.block k hk
theorem IsRd.le {B : Nat} {w : World} {r q : Nat} (h : IsRd B w r q) : B ≤ r ∧ r < w.heap.size := by
  obtain ⟨a0, len, cap, p, h1, h2, h3, h4, h5⟩ := h
  exact ⟨h4, (Array.getElem?_eq_some_iff.1 h1).1⟩

/-- the reader's place, one on -/
theorem IsRd.step {B : Nat} {w : World} {r q : Nat} {a0 : Option Addr} {len cap p : Nat} (h1 : w.heap[r]? = some (.cells #[.slice a0 len cap, .int .i64 p] 92 (0, 0))) (h2 : p ≤ q) (h3 : len ≤ 2000) (h4 : B ≤ r)
    (h5 : len = 0 ∨ ∃ b off, a0 = some ⟨b, off, none⟩ ∧ b < B ∧ ∀ i, i < len → ∃ z : Int, w.cell? ⟨b, off + i, none⟩ = some (.int .u8 z) ∧ 0 ≤ z ∧ z ≤ 255) :
    IsRd B (w.setCell ⟨r, 1, none⟩ (.int .i64 ((p : Int) + 1))) r (q + 1) ∧ w.grownBy (w.setCell ⟨r, 1, none⟩ (.int .i64 ((p : Int) + 1))) (some r) := by
  refine ⟨⟨a0, len, cap, p + 1, ?_, by omega, h3, h4, ?_⟩, ⟨rfl, rfl, rfl, by simp [World.setCell], fun k hk hr => Below.heap_setCell _ _ _ _ (fun e => hr (by rw [e]))⟩⟩
  · have hr : r < w.heap.size := (Array.getElem?_eq_some_iff.1 h1).1
    simp only [World.setCell, Array.getElem?_modify, if_true, h1, Option.map_some]
    simp [Array.setIfInBounds]
  · rcases h5 with h5 | ⟨b, off, h6, h7, h8⟩
    · exact Or.inl h5
    · refine Or.inr ⟨b, off, h6, h7, fun i hi => ?_⟩
      obtain ⟨z, hz, hz'⟩ := h8 i hi
      refine ⟨z, ?_, hz'⟩
      rw [World.cell?_of_block (w := w) (Below.heap_setCell _ _ _ _ (by show b ≠ r; omega))]; exact hz

set_option maxRecDepth 100000 in
set_option maxHeartbeats 800000 in
theorem pick_none (r : Nat) (n : Int) (w : World) (cap p : Nat) (a0 : Option Addr) (h1 : w.heap[r]? = some (.cells #[.slice a0 0 cap, .int .i64 p] 92 (0, 0))) (hp : p ≤ 1000000) (hn : 1 ≤ n) :
    Calls Tryz.prog 28 #[.pointer (some ⟨r, 0, none⟩), .int .i64 n] w fun e w' => e = .returned (.int .i64 0) ∧ w' = w.setCell ⟨r, 1, none⟩ (.int .i64 ((p : Int) + 1)) := by
  have c0 : w.cell? ⟨r, 0, none⟩ = some (.slice a0 0 cap) := by simp [World.cell?, h1]
  have c1 : w.cell? ⟨r, 1, none⟩ = some (.int .i64 p) := by simp [World.cell?, h1]
  have f1 : w.frozen? ⟨r, 1, none⟩ = false := by simp [World.frozen?, h1]
  have H1 : Hid _ := h1
  clear h1
  go_enter Tryz.func28, Tryz.ntmps28
  go_wp2
  go_ret
  exact ⟨rfl, rfl⟩

set_option maxRecDepth 100000 in
set_option maxHeartbeats 800000 in
theorem pick_at (r : Nat) (n : Int) (w : World) (len cap p b off : Nat) (z : Int) (h1 : w.heap[r]? = some (.cells #[.slice (some ⟨b, off, none⟩) len cap, .int .i64 p] 92 (0, 0))) (hp : p ≤ 1000000) (hn : 1 ≤ n) (hn2 : n ≤ 1000000)
    (_hl : len ≤ 2000) (hlt : p < len) (hbr : b ≠ r) (hz : w.cell? ⟨b, off + p, none⟩ = some (.int .u8 z)) (hz0 : 0 ≤ z) (hz1 : z ≤ 255) :
    Calls Tryz.prog 28 #[.pointer (some ⟨r, 0, none⟩), .int .i64 n] w fun e w' => e = .returned (.int .i64 (z % n)) ∧ w' = w.setCell ⟨r, 1, none⟩ (.int .i64 ((p : Int) + 1)) := by
  have c0 : w.cell? ⟨r, 0, none⟩ = some (.slice (some ⟨b, off, none⟩) len cap) := by simp [World.cell?, h1]
  have c1 : w.cell? ⟨r, 1, none⟩ = some (.int .i64 p) := by simp [World.cell?, h1]
  have f1 : w.frozen? ⟨r, 1, none⟩ = false := by simp [World.frozen?, h1]
  have hz' : (w.setCell ⟨r, 1, none⟩ (.int .i64 ((p : Int) + 1))).cell? ⟨b, off + p, none⟩ = some (.int .u8 z) := by
    rw [World.cell?_of_block (w := w) (Below.heap_setCell _ _ _ _ (by exact hbr))]; exact hz
  have hl0 : ((len : Int) == 0) = false := by simp; omega
  clear h1 hz
  go_enter Tryz.func28, Tryz.ntmps28
  go_wp2
  go_ret
  exact ⟨rfl, rfl⟩

theorem xor_bd (a b : Int) (h1 : 0 ≤ a) (h2 : a < 4294967296) (h3 : 0 ≤ b) (h4 : b < 4294967296) : 0 ≤ bits .xor .i64 a b := by
  obtain ⟨A, rfl⟩ := Int.eq_ofNat_of_zero_le h1
  obtain ⟨C, rfl⟩ := Int.eq_ofNat_of_zero_le h3
  have hx : A ^^^ C < 2 ^ 32 := Nat.xor_lt_two_pow (by omega) (by omega)
  show 0 ≤ IntKind.i64.wrap ((BitVec.ofInt 64 (A : Int) ^^^ BitVec.ofInt 64 (C : Int)).toNat : Int)
  rw [BitVec.toNat_xor, ofInt_u64 A (by omega), ofInt_u64 C (by omega), IntKind.wrap_i64]
  omega

set_option maxRecDepth 100000 in
set_option maxHeartbeats 1600000 in
theorem pick_mix (r : Nat) (n : Int) (w : World) (len cap p b off : Nat) (z1 z2 : Int) (h1 : w.heap[r]? = some (.cells #[.slice (some ⟨b, off, none⟩) len cap, .int .i64 p] 92 (0, 0))) (hp : p ≤ 1000000) (hn : 1 ≤ n) (hn2 : n ≤ 1000000)
    (hl : len ≤ 2000) (hl1 : 1 ≤ len) (hge : len ≤ p) (hbr : b ≠ r) (m1 m2 d : Nat) (hm1 : m1 < len) (hm2 : m2 < len) (hd : d ≤ 1000000) (hr1 : Int.tmod (p : Int) (len : Int) = (m1 : Int)) (hr2 : Int.tmod ((p : Int) * 7 + 3) (len : Int) = (m2 : Int)) (hr3 : Int.tdiv (p : Int) (len : Int) = (d : Int)) (hz1 : w.cell? ⟨b, off + m1, none⟩ = some (.int .u8 z1)) (hz2 : w.cell? ⟨b, off + m2, none⟩ = some (.int .u8 z2)) (g1 : 0 ≤ z1 ∧ z1 ≤ 255) (g2 : 0 ≤ z2 ∧ z2 ≤ 255) :
    Calls Tryz.prog 28 #[.pointer (some ⟨r, 0, none⟩), .int .i64 n] w fun e w' => (∃ x : Int, e = .returned (.int .i64 x) ∧ 0 ≤ x ∧ x < n) ∧ ∃ nq, w' = (w.setCell ⟨r, 1, none⟩ (.int .i64 ((p : Int) + 1))).drewN nq := by
  have c0 : w.cell? ⟨r, 0, none⟩ = some (.slice (some ⟨b, off, none⟩) len cap) := by simp [World.cell?, h1]
  have c1 : w.cell? ⟨r, 1, none⟩ = some (.int .i64 p) := by simp [World.cell?, h1]
  have f1 : w.frozen? ⟨r, 1, none⟩ = false := by simp [World.frozen?, h1]
  have hz1' : (w.setCell ⟨r, 1, none⟩ (.int .i64 ((p : Int) + 1))).cell? ⟨b, off + m1, none⟩ = some (.int .u8 z1) := by
    rw [World.cell?_of_block (w := w) (Below.heap_setCell _ _ _ _ (by exact hbr))]; exact hz1
  have hz2' : (w.setCell ⟨r, 1, none⟩ (.int .i64 ((p : Int) + 1))).cell? ⟨b, off + m2, none⟩ = some (.int .u8 z2) := by
    rw [World.cell?_of_block (w := w) (Below.heap_setCell _ _ _ _ (by exact hbr))]; exact hz2
  have hl0 : ((len : Int) == 0) = false := by simp; omega
  have hlN : ¬ len = 0 := by omega
  have hw1 : IntKind.i64.wrap ((p : Int) * 7) = (p : Int) * 7 := IntWalk.i64_in _ (by omega)
  have hw2 : IntKind.i64.wrap ((p : Int) * 7 + 3) = (p : Int) * 7 + 3 := IntWalk.i64_in _ (by omega)
  obtain ⟨g11, g12⟩ := g1
  obtain ⟨g21, g22⟩ := g2
  clear h1 hz1 hz2
  go_enter Tryz.func28, Tryz.ntmps28
  go_wp2
  go_quiet (fail)
  have hx0 : 0 ≤ z1 * 131 + z2 * 1117 + (p : Int) * 29 + (d : Int) * 53 := by omega
  have hx1 : z1 * 131 + z2 * 1117 + (p : Int) * 29 + (d : Int) * 53 ≤ 1000000000 := by omega
  generalize z1 * 131 + z2 * 1117 + (p : Int) * 29 + (d : Int) * 53 = x at hx0 hx1
  go_wp2
  go_ret
  have hb := xor_bd x (x / 64) hx0 (by omega) (by omega) (by omega)
  refine ⟨⟨_, rfl, ?_, ?_⟩, nq, rfl⟩
  · exact Int.tmod_nonneg _ hb
  · exact Int.tmod_lt_of_pos _ (by omega)

/-- A NUMBER IS DRAWN: below n; the reader goes one on; nothing else turns. -/
theorem pick_any (B r q : Nat) (n : Int) (w : World) (h : IsRd B w r q) (hq : q ≤ 1000000) (hn : 1 ≤ n) (hn2 : n ≤ 1000000) :
    Calls Tryz.prog 28 #[.pointer (some ⟨r, 0, none⟩), .int .i64 n] w fun e w' => ∃ x : Nat, e = .returned (.int .i64 (x : Int)) ∧ (x : Int) < n ∧ IsRd B w' r (q + 1) ∧ w.grownBy w' (some r) := by
  obtain ⟨a0, len, cap, p, h1, h2, h3, h4, h5⟩ := h
  have hst := IsRd.step (B := B) (q := q) h1 h2 h3 h4 h5
  rcases h5 with rfl | ⟨b, off, rfl, hb, hc⟩
  · refine (pick_none r n w cap p a0 h1 (by omega) hn).mono ?_
    rintro e w' ⟨rfl, rfl⟩
    exact ⟨0, rfl, by omega, hst.1, hst.2⟩
  · by_cases hl : len = 0
    · subst hl
      refine (pick_none r n w cap p _ h1 (by omega) hn).mono ?_
      rintro e w' ⟨rfl, rfl⟩
      exact ⟨0, rfl, by omega, hst.1, hst.2⟩
    · by_cases hlt : p < len
      · obtain ⟨z, hz, hz0, hz1⟩ := hc p hlt
        refine (pick_at r n w len cap p b off z h1 (by omega) hn hn2 h3 hlt (by omega) hz hz0 hz1).mono ?_
        rintro e w' ⟨rfl, rfl⟩
        have e1 : ((z % n).toNat : Int) = z % n := Int.toNat_of_nonneg (Int.emod_nonneg _ (by omega))
        exact ⟨(z % n).toNat, by rw [e1], by rw [e1]; exact Int.emod_lt_of_pos _ (by omega), hst.1, hst.2⟩
      · have hm1 : p % len < len := Nat.mod_lt _ (by omega)
        have hm2 : (p * 7 + 3) % len < len := Nat.mod_lt _ (by omega)
        obtain ⟨z1, c1, d1⟩ := hc _ hm1
        obtain ⟨z2, c2, d2⟩ := hc _ hm2
        refine (pick_mix r n w len cap p b off z1 z2 h1 (by omega) hn hn2 h3 (by omega) (by omega) (by omega) (p % len) ((p * 7 + 3) % len) (p / len) hm1 hm2 (Nat.le_trans (Nat.div_le_self _ _) (by omega)) ?_ ?_ ?_ c1 c2 d1 d2).mono ?_
        · rw [Int.tmod_eq_emod_of_nonneg (by omega)]; exact (Int.natCast_emod p len).symm
        · rw [Int.tmod_eq_emod_of_nonneg (by omega)]; have := Int.natCast_emod (p * 7 + 3) len; rw [this]; push_cast; rfl
        · rw [Int.tdiv_eq_ediv_of_nonneg (by omega)]; exact (Int.natCast_ediv p len).symm
        · rintro e w' ⟨⟨x, rfl, hx0, hx1⟩, nq, rfl⟩
          have e1 : (x.toNat : Int) = x := Int.toNat_of_nonneg hx0
          refine ⟨x.toNat, by rw [e1], by rw [e1]; exact hx1, hst.1.drewN nq, ?_⟩
          exact grown_trans hst.2 ⟨rfl, rfl, rfl, Nat.le_refl _, fun _ _ _ => rfl⟩

/-- ONE OF A LIST IS DRAWN. -/
theorem of_any (B r q g : Nat) (L : List ByteArray) (w : World) (h : IsRd B w r q) (hq : q ≤ 1000000) (hL : 1 ≤ L.length) (hL2 : L.length ≤ 1000) (hg : g ≠ r) (hc : ∀ i (hi : i < L.length), w.cell? ⟨g, i, none⟩ = some (.string L[i])) :
    Calls Tryz.prog 56 #[.pointer (some ⟨r, 0, none⟩), .slice (some ⟨g, 0, none⟩) L.length L.length] w fun e w' => ∃ s, e = .returned (.string s) ∧ s ∈ L ∧ IsRd B w' r (q + 1) ∧ w.grownBy w' (some r) := by
  go_enter Tryz.func56, Tryz.ntmps56
  go_wp2_with fail
  refine (pick_any B r q (L.length : Int) _ h hq (by omega) (by omega)).mono ?_
  rintro e w1 ⟨x, rfl, hx, hr1, hg1⟩
  have hx' : x < L.length := by omega
  have hc0 := hc x hx'
  have hc1 : w1.cell? ⟨g, x, none⟩ = some (.string L[x]) := by
    rw [World.cell?_of_block (w := w) (hg1.block g (cell_block hc0) (by intro e; exact hg (Option.some.inj e)))]; exact hc0
  have HC : Hid _ := hc
  clear hc hc0
  go_wp2
  go_ret
  exact ⟨_, rfl, List.getElem_mem hx', hr1, hg1⟩
end Go.Proofs.YtiennniclkbjlaaGreatDoor.Dr
namespace Go.Proofs.YtiennniclkbjlaaGreatDoor.Dr
open Go.RowKit

/-- WHAT THE WALK IS TOLD OF A SLICE OF INTEGERS THAT CAME IN -/
def IsRow (k : IntKind) (w : World) (a : Option Addr) (len cap : Nat) (zs : List Int) : Prop :=
  (a = none ∧ len = 0 ∧ cap = 0 ∧ zs = []) ∨
  ∃ x, a = some x ∧ len ≤ cap ∧ cap ≤ maxLen ∧ zs.length = cap ∧ (∀ i, i < zs.length → w.cell? (x.add i) = some (.int k (zs.getD i 0))) ∧ ∀ n ∈ zs, (Lit.int k n).wf = true

theorem IsRow.below {k : IntKind} {w w' : World} {a : Option Addr} {len cap : Nat} {zs : List Int} (h : IsRow k w a len cap zs) (hb : Below w.heap.size w w') : IsRow k w' a len cap zs := by
  rcases h with h | ⟨x, h1, h2, h3, h4, h5, h6⟩
  · exact Or.inl h
  · refine Or.inr ⟨x, h1, h2, h3, h4, fun i hi => ?_, h6⟩
    have := h5 i hi
    rw [hb.cell (cell_block this)]; exact this

theorem wf_u8 {n : Int} (h : (Lit.int .u8 n).wf = true) : 0 ≤ n ∧ n ≤ 255 := by
  simpa [Lit.wf, IntKind.min, IntKind.max, IntKind.signed, IntKind.bits] using h

theorem heap_new (W : World) (o : Obj) : (W.alloc o).heap[W.heap.size]? = some o := by
  show (W.heap.push o)[W.heap.size]? = _
  simp

theorem grown_alloc (w : World) (o : Obj) (row : Option Nat) : w.grownBy (w.alloc o) row := ⟨rfl, rfl, rfl, by simp, fun k hk _ => Below.heap_alloc w o k hk⟩

theorem open_rd {w : World} {x : Addr} {len cap : Nat} {zs : List Int} (hl : len ≤ cap) (hz : zs.length = cap) (hcell : ∀ i, i < zs.length → w.cell? (x.add i) = some (.int .u8 (zs.getD i 0))) (hwf : ∀ n ∈ zs, (Lit.int .u8 n).wf = true) (hlen : len ≤ 2000) :
    IsRd w.heap.size (w.alloc (.cells #[.slice (some x) len cap, .int .i64 0] 92)) w.heap.size 0 := by
  refine ⟨some x, len, cap, 0, heap_new _ _, Nat.le_refl _, hlen, Nat.le_refl _, ?_⟩
  by_cases h0 : len = 0
  · exact Or.inl h0
  · have hc0 := hcell 0 (by omega)
    have hspot : x.spot = none := by simpa [Addr.add] using World.cell?_spot hc0
    obtain ⟨b, off, spot⟩ := x
    simp at hspot; subst hspot
    have hb : b < w.heap.size := cell_block hc0
    refine Or.inr ⟨b, off, rfl, hb, fun i hi => ?_⟩
    have hci := hcell i (by omega)
    rw [show (⟨b, off, none⟩ : Addr).add i = ⟨b, off + i, none⟩ by simp [Addr.add]] at hci
    have hmem : zs.getD i 0 ∈ zs := by
      rw [List.getD_eq_getElem?_getD, List.getElem?_eq_getElem (by omega)]; exact List.getElem_mem _
    refine ⟨zs.getD i 0, ?_, wf_u8 (hwf _ hmem)⟩
    rw [World.cell?_of_block (w := w) (Below.heap_alloc w _ b hb)]
    exact hci

set_option maxRecDepth 100000 in
set_option maxHeartbeats 800000 in
theorem open_any (a0 : Option Addr) (len cap : Nat) (zs : List Int) (w : World) (h : IsRow .u8 w a0 len cap zs) :
    Calls Tryz.prog 26 #[.slice a0 len cap] w fun e w' => e = .returned (.pointer (some ⟨w.heap.size, 0, none⟩)) ∧ IsRd w.heap.size w' w.heap.size 0 ∧ Below w.heap.size w w' := by
  rcases h with ⟨rfl, rfl, rfl, rfl⟩ | ⟨x, rfl, hl, hm, hz, hcell, hwz⟩
  · go_enter Tryz.func26, Tryz.ntmps26
    go_wp2
    go_ret
    exact ⟨rfl, ⟨none, 0, 0, 0, heap_new _ _, Nat.le_refl _, by omega, Nat.le_refl _, Or.inl rfl⟩, (Below.refl _ _).alloc (Nat.le_refl _) _⟩
  · unfold maxLen at hm
    have HR := fun (n : Nat) (hn : n ≤ cap) (hn2 : n ≤ 2000) => open_rd (len := n) hn hz hcell hwz hn2
    have HR' : Hid _ := HR
    by_cases hlong : 2000 < len
    · have h2 : 2000 ≤ cap := by omega
      clear hcell hwz HR
      go_enter Tryz.func26, Tryz.ntmps26
      go_wp2
      go_ret
      exact ⟨rfl, HR'.out 2000 h2 (by omega), (Below.refl _ _).alloc (Nat.le_refl _) _⟩
    · clear hcell hwz HR
      go_enter Tryz.func26, Tryz.ntmps26
      go_wp2
      go_ret
      exact ⟨rfl, HR'.out len hl (by omega), (Below.refl _ _).alloc (Nat.le_refl _) _⟩

/-- all of a block's cells are strings of a kind -/
def strAll (P : ByteArray → Bool) (C : Array Value) : Bool := C.toList.all fun v => match v with | .string s => P s | _ => false

theorem strAll_at {P : ByteArray → Bool} {C : Array Value} (h : strAll P C = true) (i : Nat) (hi : i < C.size) : ∃ s, C[i]? = some (.string s) ∧ P s = true := by
  have := List.all_eq_true.1 h C[i] (by simp)
  rw [Array.getElem?_eq_getElem hi]
  split at this
  · rename_i s hs; exact ⟨s, by rw [hs], this⟩
  · cases this

set_option maxRecDepth 100000 in
set_option maxHeartbeats 800000 in
/-- ONE OF A LIST THAT IS WRITTEN OUT IS DRAWN. -/
theorem of_lit (B r q g m : Nat) (C : Array Value) (fz : Nat × Nat) (P : ByteArray → Bool) (w : World) (h : IsRd B w r q) (hq : q ≤ 1000000) (hg : g ≠ r) (hb : w.heap[g]? = some (.cells C 9 fz)) (hm : C.size = m) (h1 : 1 ≤ m) (h2 : m ≤ 1000) (hall : strAll P C = true) :
    Calls Tryz.prog 56 #[.pointer (some ⟨r, 0, none⟩), .slice (some ⟨g, 0, none⟩) m m] w fun e w' => ∃ s, e = .returned (.string s) ∧ P s = true ∧ IsRd B w' r (q + 1) ∧ w.grownBy w' (some r) := by
  go_enter Tryz.func56, Tryz.ntmps56
  go_wp2_with fail
  refine (pick_any B r q (m : Int) _ h hq (by omega) (by omega)).mono ?_
  rintro e w1 ⟨x, rfl, hx, hr1, hg1⟩
  have hx' : x < m := by omega
  obtain ⟨s, hs, hp⟩ := strAll_at hall x (by omega)
  have hc1 : w1.cell? ⟨g, x, none⟩ = some (.string s) := by
    rw [World.cell?_of_block (w := w) (hg1.block g (Array.getElem?_eq_some_iff.1 hb).1 (by intro e; exact hg (Option.some.inj e)))]
    simp [World.cell?, hb, hs]
  have HP : Hid (P s = true) := hp
  clear hs hp hall hb
  go_wp2
  go_ret
  exact ⟨_, rfl, HP.out, hr1, hg1⟩


end Go.Proofs.YtiennniclkbjlaaGreatDoor.Dr
/- Parts of a way are drawn. -/
namespace Go.Proofs.YtiennniclkbjlaaGreatDoor.Dr
open Go.RowKit Go.Proofs.YtiennniclkbjlaaGreatDoor.St

/-- what leaves the blocks up to the reader's alone keeps it -/
theorem IsRd.upto {B : Nat} {w w' : World} {r q : Nat} (h : IsRd B w r q) (hb : ∀ k, k ≤ r → w'.heap[k]? = w.heap[k]?) : IsRd B w' r q := by
  obtain ⟨a0, len, cap, p, h1, h2, h3, h4, h5⟩ := h
  refine ⟨a0, len, cap, p, ?_, h2, h3, h4, ?_⟩
  · rw [hb r (Nat.le_refl _)]; exact h1
  · rcases h5 with h5 | ⟨b, off, h6, h7, h8⟩
    · exact Or.inl h5
    · refine Or.inr ⟨b, off, h6, h7, fun i hi => ?_⟩
      obtain ⟨z, hz, hz'⟩ := h8 i hi
      exact ⟨z, by rw [World.cell?_of_block (w := w) (hb _ (by show b ≤ r; omega))]; exact hz, hz'⟩

theorem IsRd.grownRow {B base : Nat} {w w' : World} {r q : Nat} {row : Option Nat} (h : IsRd B w r q) (hg : w.grownBy w' row) (hr : r < base) (hrow : ∀ k, row = some k → base ≤ k) : IsRd B w' r q :=
  h.upto fun k hk => hg.block k (by have := h.le; omega) (fun e => by have := hrow k e.symm; omega)
theorem grown_past {w w1 w2 : World} {r : Nat} {row : Option Nat} (h : w.grownBy w1 (some r)) (g : w1.grownBy w2 row) (hrow : ∀ k, row = some k → w.heap.size ≤ k) : w.grownBy w2 (some r) :=
  ⟨g.os.trans h.os, g.tape.trans h.tape, g.output.trans h.output, Nat.le_trans h.size g.size, fun k hk hr => (g.block k (Nat.lt_of_lt_of_le hk h.size) (fun e => by have := hrow k e.symm; omega)).trans (h.block k hk hr)⟩

theorem Owns.kept {w w' : World} {base r : Nat} {v : Value} {L : List ByteArray} (h : Owns w base v L) (hg : w.grownBy w' (some r)) (hr : r < base) : Owns w' base v L := by
  refine World.ownsRow.kept h hg ?_
  cases hv : v.ownBlock with
  | none => exact Or.inl rfl
  | some g =>
    right
    have := Owns.block h g hv
    intro e; have := Option.some.inj e; omega

theorem Owns.form {w : World} {base : Nat} {v : Value} {L : List ByteArray} (h : Owns w base v L) (hn : v ≠ .slice none 0 0) : ∃ g cap, v = .slice (some ⟨g, 0, none⟩) L.length cap := by
  obtain ⟨_, h | ⟨g, cap, cur, hv, _⟩⟩ := h
  · exact absurd h.1 hn
  · exact ⟨g, cap, hv⟩


theorem grown_any {a b : World} {row : Option Nat} (B : Nat) (h : a.grownBy b row) (hB : B ≤ a.heap.size) (hrow : ∀ k, row = some k → B ≤ k) : Below B a b :=
  ⟨h.os, h.tape, h.output, h.size, fun k hk => h.block k (by omega) (fun e => by have := hrow k e.symm; omega)⟩

end Go.Proofs.YtiennniclkbjlaaGreatDoor.Dr
/- PathClean, of the program and of the model: both are the fold over the parts. -/
namespace Go.Proofs.YtiennniclkbjlaaGreatDoor.St
open Go.RowKit Go.Proofs.YtiennniclkbjlaaGreatDoor.PathM

set_option maxRecDepth 100000 in
set_option maxHeartbeats 1600000 in
theorem implPath_any (a0 : Option Addr) (cap : Nat) (L : List ByteArray) (w : World) (h : IsStrs w a0 cap L) (hL : L.length ≤ 4194304) :
    Calls Tryz.prog 161 #[.slice a0 L.length cap] w fun e w' => ∃ v, e = .returned v ∧ Owns w' w.heap.size v (cleanL L) ∧ Below w.heap.size w w' := by
  obtain ⟨i0, hi, hz0, hz1, hz2⟩ := info_parts Tryz.infoS
  have HS : Hid (IsStrs w a0 cap L) := h
  have hc1 := h.1
  clear h
  go_enter Tryz.func161, Tryz.ntmps161
  go_wp2
  go_step3
  go_wp2
  go_step3
  go_wp2
  go_loopw [3, 8] (fun v i wr => ∃ k : Nat, k ≤ L.length ∧ i = .int .i64 (k : Int) ∧ Hid (Owns wr w.heap.size v (cleanL (L.take k))) ∧ Below w.heap.size w wr)
    (fun _ i _ => L.length - (intOf i).toNat)
  case atStart => exact ⟨0, Nat.zero_le _, rfl, Owns.nil _ _, Below.refl _ _⟩
  case round =>
    obtain ⟨k, hk, rfl, HO, hbel⟩ := hrel
    by_cases hlt : k < L.length
    · obtain ⟨_, hcm, _, hcc⟩ := HS.out.below hbel
      obtain ⟨b, off, rfl, hcell⟩ := hcc (by intro e; rw [e] at hlt; simp at hlt)
      have hck := hcell k hlt
      have HT : Hid _ := take_snoc L k hlt
      have hlen := clean_len (L.take k)
      have hlen2 : (cleanL (L.take k)).length ≤ k := Nat.le_trans hlen (by simp; omega)
      obtain ⟨ao, co, hv, hst⟩ := HO.out.strs
      have hso := hst.1
      have hsm := hst.2.1
      unfold maxLen at hcm hsm
      clear hcell hcc hlen hst
      generalize hX : cleanL (L.take k) = X at *
      generalize hp : L[k] = p at *
      subst hv
      cases h1 : p.toList.isEmpty with
      | true =>
        go_wp2
        go_roundw
        case rel => exact ⟨k + 1, by omega, by go_num, by rw [HT.out, step_none _ _ h1]; exact HO, hbel⟩
        case measure => simp [intOf]; omega
      | false =>
        cases h2 : (p.toList == [46]) with
        | true =>
          go_wp2
          go_roundw
          case rel => exact ⟨k + 1, by omega, by go_num, by rw [HT.out, step_dot _ _ h2]; exact HO, hbel⟩
          case measure => simp [intOf]; omega
        | false =>
          cases h3 : (p.toList == [46, 46]) with
          | true =>
            by_cases hX0 : X.length = 0
            · go_wp2
              go_roundw
              case rel =>
                refine ⟨k + 1, by omega, by go_num, ?_, hbel⟩
                rw [HT.out, step_up _ _ h1 h2 h3]
                have : X = [] := List.eq_nil_of_length_eq_zero hX0
                subst this; exact HO
              case measure => simp [intOf]; omega
            · go_wp2
              go_roundw
              case rel =>
                refine ⟨k + 1, by omega, by go_num, ?_, hbel⟩
                rw [HT.out, step_up _ _ h1 h2 h3]
                exact Owns.pop' hX0 HO.out
              case measure => simp [intOf]; omega
          | false =>
            go_wp2_with (at_builtin; refine wpList_append_own _ rfl _ _ 23 rfl w.heap.size 9 i0 (.string ⟨#[]⟩) 1 16 Tryz.underlying23 hi hz0 hz1 hz2 rfl (by decide) _ _ _ rfl (World.ownsRow.alloc HO.out _) ⟨wr.heap.size, 0, none⟩ 1 1 [.string p] rfl rfl (cell_one_new _ _ _) ?c2 ?c3 ?c4 ?c5 ?_)
            case c2 => intro u hu; simp at hu; subst hu; rfl
            case c3 => unfold maxLen; omega
            case c4 => omega
            case c5 => have := hbel.size; simp; omega
            intro v' w1 hown' hgrow _
            have HO' : Hid _ := hown'
            have HG : Hid _ := hgrow
            clear hown' hgrow
            go_wp2
            go_roundw
            case rel =>
              refine ⟨k + 1, by omega, by go_num, ?_, ?_⟩
              · rw [HT.out, step_on _ _ h1 h2 h3]; exact Owns.append HO'.out
              · exact Below.grown (hbel.alloc hbel.size _) HG.out (by have := hbel.size; simp; omega) (Owns.block HO.out)
            case measure => simp [intOf]; omega
    · have hall : L.take k = L := List.take_of_length_le (by omega)
      rw [hall] at HO
      clear hall
      go_wp2
      rw [Exit.noGoto_ret]
      go_ret
      exact ⟨_, rfl, HO.out, hbel⟩

set_option maxRecDepth 100000 in
set_option maxHeartbeats 1600000 in
theorem specPath_any (a0 : Option Addr) (cap : Nat) (L : List ByteArray) (w : World) (h : IsStrs w a0 cap L) (hL : L.length ≤ 4194304) :
    Calls Tryz.prog 133 #[.slice a0 L.length cap] w fun e w' => ∃ v, e = .returned v ∧ Owns w' w.heap.size v (cleanL L) ∧ Below w.heap.size w w' := by
  obtain ⟨i0, hi, hz0, hz1, hz2⟩ := info_parts Tryz.infoS
  have HS : Hid (IsStrs w a0 cap L) := h
  have hc1 := h.1
  clear h
  go_enter Tryz.func133, Tryz.ntmps133
  go_wp2
  go_loopw [3, 4] (fun v i wr => ∃ k : Nat, k ≤ L.length ∧ i = .int .i64 (k : Int) ∧ Hid (Owns wr w.heap.size v (cleanL (L.take k))) ∧ Below w.heap.size w wr)
    (fun _ i _ => L.length - (intOf i).toNat)
  case atStart => exact ⟨0, Nat.zero_le _, rfl, Owns.empty _ _ (Nat.le_refl _), (Below.refl _ _).alloc (Nat.le_refl _) _⟩
  case round =>
    obtain ⟨k, hk, rfl, HO, hbel⟩ := hrel
    by_cases hlt : k < L.length
    · obtain ⟨_, hcm, _, hcc⟩ := HS.out.below hbel
      obtain ⟨b, off, rfl, hcell⟩ := hcc (by intro e; rw [e] at hlt; simp at hlt)
      have hck := hcell k hlt
      have HT : Hid _ := take_snoc L k hlt
      have hlen := clean_len (L.take k)
      have hlen2 : (cleanL (L.take k)).length ≤ k := Nat.le_trans hlen (by simp; omega)
      obtain ⟨ao, co, hv, hst⟩ := HO.out.strs
      have hso := hst.1
      have hsm := hst.2.1
      unfold maxLen at hcm hsm
      clear hcell hcc hlen hst
      generalize hX : cleanL (L.take k) = X at *
      generalize hp : L[k] = p at *
      subst hv
      cases h1 : p.toList.isEmpty with
      | true =>
        go_wp2
        go_roundw
        case rel => exact ⟨k + 1, by omega, by go_num, by rw [HT.out, step_none _ _ h1]; exact HO, hbel⟩
        case measure => simp [intOf]; omega
      | false =>
        cases h2 : (p.toList == [46]) with
        | true =>
          go_wp2
          go_roundw
          case rel => exact ⟨k + 1, by omega, by go_num, by rw [HT.out, step_dot _ _ h2]; exact HO, hbel⟩
          case measure => simp [intOf]; omega
        | false =>
          cases h3 : (p.toList == [46, 46]) with
          | true =>
            by_cases hX0 : X.length = 0
            · go_wp2
              go_roundw
              case rel =>
                refine ⟨k + 1, by omega, by go_num, ?_, hbel⟩
                rw [HT.out, step_up _ _ h1 h2 h3]
                have : X = [] := List.eq_nil_of_length_eq_zero hX0
                subst this; exact HO
              case measure => simp [intOf]; omega
            · go_wp2
              go_roundw
              case rel =>
                refine ⟨k + 1, by omega, by go_num, ?_, hbel⟩
                rw [HT.out, step_up _ _ h1 h2 h3]
                exact Owns.pop' hX0 HO.out
              case measure => simp [intOf]; omega
          | false =>
            go_wp2_with (at_builtin; refine wpList_append_own _ rfl _ _ 23 rfl w.heap.size 9 i0 (.string ⟨#[]⟩) 1 16 Tryz.underlying23 hi hz0 hz1 hz2 rfl (by decide) _ _ _ rfl (World.ownsRow.alloc HO.out _) ⟨wr.heap.size, 0, none⟩ 1 1 [.string p] rfl rfl (cell_one_new _ _ _) ?c2 ?c3 ?c4 ?c5 ?_)
            case c2 => intro u hu; simp at hu; subst hu; rfl
            case c3 => unfold maxLen; omega
            case c4 => omega
            case c5 => have := hbel.size; simp; omega
            intro v' w1 hown' hgrow _
            have HO' : Hid _ := hown'
            have HG : Hid _ := hgrow
            clear hown' hgrow
            go_wp2
            go_roundw
            case rel =>
              refine ⟨k + 1, by omega, by go_num, ?_, ?_⟩
              · rw [HT.out, step_on _ _ h1 h2 h3]; exact Owns.append HO'.out
              · exact Below.grown (hbel.alloc hbel.size _) HG.out (by have := hbel.size; simp; omega) (Owns.block HO.out)
            case measure => simp [intOf]; omega
    · have hall : L.take k = L := List.take_of_length_le (by omega)
      rw [hall] at HO
      clear hall
      go_wp2
      go_ret
      exact ⟨_, rfl, HO.out, hbel⟩

theorem implPath_n (a0 : Option Addr) (n cap : Nat) (L : List ByteArray) (w : World) (hn : L.length = n) (h : IsStrs w a0 cap L) (hL : n ≤ 4194304) :
    Calls Tryz.prog 161 #[.slice a0 n cap] w fun e w' => ∃ v, e = .returned v ∧ Owns w' w.heap.size v (cleanL L) ∧ Below w.heap.size w w' := by
  subst hn; exact implPath_any a0 cap L w h hL
end Go.Proofs.YtiennniclkbjlaaGreatDoor.St
/- Slices of structs: what is known of one; one of the call's own. An element's fields are its cells, k of them. -/
namespace Go.Proofs.YtiennniclkbjlaaGreatDoor.RR
open Go.RowKit Go.Proofs.YtiennniclkbjlaaGreatDoor.St

/-- how an element lies in its cells -/
structure Frm (α : Type) where
  enc : α → List Value
  k : Nat
  pos : 0 < k
  len : ∀ a, (enc a).length = k
  one : ∀ a, ∀ u ∈ enc a, u.oneCell' = true
variable {α : Type}
def Frm.cells (F : Frm α) (L : List α) : List Value := L.flatMap F.enc
theorem Frm.cells_len (F : Frm α) (L : List α) : (F.cells L).length = L.length * F.k := by
  unfold Frm.cells
  induction L with
  | nil => simp
  | cons x r ih => simp only [List.flatMap_cons, List.length_append, ih, F.len, List.length_cons]; rw [Nat.add_mul]; omega
theorem Frm.cells_append (F : Frm α) (A B : List α) : F.cells (A ++ B) = F.cells A ++ F.cells B := by unfold Frm.cells; simp
theorem Frm.cells_one (F : Frm α) (L : List α) : ∀ u ∈ F.cells L, u.oneCell' = true := by
  intro u hu
  unfold Frm.cells at hu
  obtain ⟨a, _, h⟩ := List.mem_flatMap.1 hu
  exact F.one a u h
theorem Frm.cells_at (F : Frm α) : ∀ (L : List α) (i : Nat) (h : i < L.length) (j : Nat), j < F.k → (F.cells L)[i * F.k + j]? = (F.enc L[i])[j]? := by
  intro L
  induction L with
  | nil => intro i h; simp at h
  | cons x r ih =>
    intro i h j hj
    show (F.enc x ++ F.cells r)[i * F.k + j]? = _
    cases i with
    | zero => rw [Nat.zero_mul, Nat.zero_add, List.getElem?_append_left (by rw [F.len]; exact hj)]; rfl
    | succ i =>
      rw [List.getElem?_append_right (by rw [F.len, Nat.add_mul]; omega), F.len, show (i + 1) * F.k + j - F.k = i * F.k + j from by rw [Nat.add_mul]; omega, ih i (by simpa using h) j hj]; rfl

/-- a slice that reads as a list of such elements -/
def IsRows (F : Frm α) (w : World) (a0 : Option Addr) (cap : Nat) (L : List α) : Prop :=
  L.length ≤ cap ∧ cap ≤ maxLen ∧ (a0 = none → cap = 0) ∧ (L ≠ [] → ∃ b off, a0 = some ⟨b, off, none⟩ ∧ ∀ j u, (F.cells L)[j]? = some u → w.cell? ⟨b, off + j, none⟩ = some u)
theorem IsRows.keep {F : Frm α} {w w' : World} {a0 : Option Addr} {cap : Nat} {L : List α} (h : IsRows F w a0 cap L) (hb : ∀ k, k < w.heap.size → w'.heap[k]? = w.heap[k]?) : IsRows F w' a0 cap L := by
  obtain ⟨h1, h2, h3, h4⟩ := h
  refine ⟨h1, h2, h3, fun hne => ?_⟩
  obtain ⟨b, off, e, hc⟩ := h4 hne
  refine ⟨b, off, e, fun j u hu => ?_⟩
  rw [World.cell?_of_block (w := w) (hb _ (cell_block (hc j u hu)))]; exact hc j u hu
theorem IsRows.below {F : Frm α} {w w' : World} {a0 : Option Addr} {cap : Nat} {L : List α} (h : IsRows F w a0 cap L) (hb : Below w.heap.size w w') : IsRows F w' a0 cap L := h.keep fun k hk => hb.block k hk
theorem IsRows.drewN {F : Frm α} {w : World} {a0 : Option Addr} {cap : Nat} {L : List α} (h : IsRows F w a0 cap L) (n : Nat) : IsRows F (w.drewN n) a0 cap L := h.keep fun _ _ => rfl
theorem IsRows.nil (F : Frm α) (w : World) : IsRows F w none 0 ([] : List α) := ⟨Nat.le_refl _, by simp, fun _ => rfl, fun h => absurd rfl h⟩
theorem IsRows.at {F : Frm α} {w : World} {a0 : Option Addr} {cap : Nat} {L : List α} (h : IsRows F w a0 cap L) {i : Nat} (hi : i < L.length) : ∃ b off, a0 = some ⟨b, off, none⟩ ∧ ∀ j u, (F.enc L[i])[j]? = some u → w.cell? ⟨b, off + (i * F.k + j), none⟩ = some u := by
  obtain ⟨b, off, e, hc⟩ := h.2.2.2 (by intro e; rw [e] at hi; simp at hi)
  refine ⟨b, off, e, fun j u hu => hc _ u ?_⟩
  have hj : j < F.k := by have := (List.getElem?_eq_some_iff.1 hu).1; rwa [F.len] at this
  rw [F.cells_at L i hi j hj]; exact hu
/-- what is appended from such a slice -/
theorem IsRows.news {F : Frm α} {w : World} {g o cap : Nat} {L : List α} (h : IsRows F w (some ⟨g, o, none⟩) cap L) {w' : World} (hb : ∀ k, k < w.heap.size → w'.heap[k]? = w.heap[k]?) : ∀ j u, (F.cells L)[j]? = some u → w'.cell? ((⟨g, o, none⟩ : Addr).add j) = some u := by
  intro j u hj
  have hne : L ≠ [] := by rintro rfl; simp [Frm.cells] at hj
  obtain ⟨b, off, e, hc⟩ := (h.keep hb).2.2.2 hne
  injection e with e; injection e with e1 e2 _
  subst e1; subst e2
  rw [add_mk]; exact hc j u hj
theorem IsRows.none {F : Frm α} {w : World} {a0 : Option Addr} {cap : Nat} {L : List α} (h : IsRows F w a0 cap L) : a0 = .none → L.length = 0 ∧ cap = 0 := by
  intro e
  have h1 := h.2.2.1 e
  have h2 := h.1
  omega
theorem IsRows.newsAny {F : Frm α} {w : World} {a0 : Option Addr} {cap : Nat} {L : List α} (h : IsRows F w a0 cap L) {w' : World} (hb : ∀ k, k < w.heap.size → w'.heap[k]? = w.heap[k]?) : ∀ ad, a0 = some ad → ∀ j u, (F.cells L)[j]? = some u → w'.cell? (ad.add j) = some u := by
  intro ad e j u hj
  have hne : L ≠ [] := by rintro rfl; simp [Frm.cells] at hj
  obtain ⟨b, off, e', hc⟩ := (h.keep hb).2.2.2 hne
  rw [e] at e'
  injection e' with e'
  subst e'
  rw [add_mk]; exact hc j u hj
theorem IsRows.cut {F : Frm α} {w : World} {a0 : Option Addr} {cap : Nat} {L : List α} (h : IsRows F w a0 cap L) (n : Nat) : IsRows F w a0 cap (L.take n) := by
  obtain ⟨h1, h2, h3, h4⟩ := h
  refine ⟨by simp; omega, h2, h3, fun hne => ?_⟩
  obtain ⟨b, off, e, hc⟩ := h4 (by intro e; subst e; simp at hne)
  refine ⟨b, off, e, fun j u hu => hc j u ?_⟩
  have e2 : F.cells L = F.cells (L.take n) ++ F.cells (L.drop n) := by rw [← F.cells_append, List.take_append_drop]
  rw [e2, List.getElem?_append_left (List.getElem?_eq_some_iff.1 hu).1]; exact hu

/-- one of the call's own -/
def OwnsR (F : Frm α) (t : TypeId) (w : World) (base : Nat) (v : Value) (L : List α) : Prop := w.ownsRow base t F.k v L.length (F.cells L)
section
variable {F : Frm α} {t : TypeId} {w w' : World} {base : Nat} {v : Value} {L : List α}
theorem OwnsR.rows (h : OwnsR F t w base v L) : ∃ a0 cap, v = .slice a0 L.length cap ∧ IsRows F w a0 cap L := by
  have h' := h
  obtain ⟨_, ⟨rfl, hn⟩ | ⟨g, cap, cur, rfl, hg, hh, hn, hm, _⟩⟩ := h
  · have : L = [] := List.eq_nil_of_length_eq_zero hn
    subst this
    exact ⟨none, 0, rfl, IsRows.nil F w⟩
  · refine ⟨_, cap, rfl, hn, hm, (fun e => by cases e), (fun _ => ⟨g, 0, rfl, fun j u hu => ?_⟩)⟩
    have := World.ownsRow.cells h' (g := g) rfl j u hu
    rw [add_mk] at this; exact this
theorem OwnsR.rowsOf {a0 : Option Addr} {cap n : Nat} (h : OwnsR F t w base (.slice a0 n cap) L) : IsRows F w a0 cap L := by
  obtain ⟨a1, c1, e, hs⟩ := h.rows
  injection e with e1 _ e2
  subst e1; subst e2; exact hs
theorem OwnsR.keep (h : OwnsR F t w base v L) (hb : ∀ k, k < w.heap.size → w'.heap[k]? = w.heap[k]?) : OwnsR F t w' base v L := by
  obtain ⟨h1, h2 | ⟨g, cap, cur, hv, hg, hc, r⟩⟩ := h
  · exact ⟨h1, Or.inl h2⟩
  · refine ⟨h1, Or.inr ⟨g, cap, cur, hv, hg, ?_, r⟩⟩
    rw [hb g (Array.getElem?_eq_some_iff.1 hc).1]; exact hc
theorem OwnsR.below (h : OwnsR F t w base v L) (hb : Below w.heap.size w w') : OwnsR F t w' base v L := h.keep fun k hk => hb.block k hk
theorem OwnsR.mono {base' : Nat} (h : OwnsR F t w base v L) (hb : base' ≤ base) : OwnsR F t w base' v L := by
  obtain ⟨h1, h2 | ⟨g, cap, cur, hv, hg, r⟩⟩ := h
  · exact ⟨h1, Or.inl h2⟩
  · exact ⟨h1, Or.inr ⟨g, cap, cur, hv, by omega, r⟩⟩
theorem OwnsR.block (h : OwnsR F t w base v L) : ∀ k, v.ownBlock = some k → base ≤ k := by
  intro k hk
  obtain ⟨_, h | ⟨g, cap, cur, rfl, hb, _⟩⟩ := h
  · rw [h.1] at hk; simp [Value.ownBlock] at hk
  · simp [Value.ownBlock] at hk; omega
theorem OwnsR.nil (F : Frm α) (t : TypeId) (w : World) (base : Nat) : OwnsR F t w base (.slice none 0 0) ([] : List α) := by
  refine ⟨by simp [Frm.cells], Or.inl ⟨rfl, rfl⟩⟩
theorem OwnsR.empty (F : Frm α) (t : TypeId) (w : World) (base : Nat) (hb : base ≤ w.heap.size) : OwnsR F t (w.alloc (.cells #[] t)) base (.slice (some ⟨w.heap.size, 0, none⟩) 0 0) ([] : List α) := by
  refine ⟨by simp [Frm.cells], Or.inr ⟨w.heap.size, 0, #[], rfl, hb, ?_, by simp, by simp, by simp, by simp [Frm.cells]⟩⟩
  show (w.heap.push _)[w.heap.size]? = _
  simp
theorem OwnsR.append {X : List α} {x : α} (hO : w'.ownsRow base t F.k v (X.length + 1) (F.cells X ++ F.enc x)) : OwnsR F t w' base v (X ++ [x]) := by
  unfold OwnsR
  rw [F.cells_append, List.length_append, show F.cells [x] = F.enc x from by simp [Frm.cells]]; exact hO
theorem OwnsR.of_row {n : Nat} {xs : List Value} (h : w.ownsRow base t F.k v n xs) (hn : n = L.length) (hx : xs = F.cells L) : OwnsR F t w base v L := by
  subst hn; subst hx; exact h
theorem OwnsR.keptR {r : Nat} (h : OwnsR F t w base v L) (hg : w.grownBy w' (some r)) (hr : r < base) : OwnsR F t w' base v L := by
  refine World.ownsRow.kept h hg ?_
  cases hv : v.ownBlock with
  | none => exact Or.inl rfl
  | some g =>
    right
    have := OwnsR.block h g hv
    intro e; have := Option.some.inj e; omega
end
theorem cell_two_new (w : World) (x y : Value) (t : TypeId) : ∀ (j : Nat) (u : Value), [x, y][j]? = some u → (w.alloc (.cells #[x, y] t)).cell? ((⟨w.heap.size, 0, none⟩ : Addr).add j) = some u := by
  intro j u hu
  have hb : (w.alloc (.cells #[x, y] t)).heap[w.heap.size]? = some (.cells #[x, y] t) := by show (w.heap.push _)[w.heap.size]? = _; simp
  rw [add_mk, Nat.zero_add]
  unfold World.cell?
  dsimp only
  rw [hb]
  simpa using hu
end Go.Proofs.YtiennniclkbjlaaGreatDoor.RR
/- Maps keyed by texts, of the call's own: what they hold, as a list of pairs. -/
namespace Go.Proofs.YtiennniclkbjlaaGreatDoor.Mp
open Go.RowKit Go.Proofs.YtiennniclkbjlaaGreatDoor.St Go.MapKept

theorem ba_beq (a b : ByteArray) : (a == b) = decide (a = b) := by
  by_cases h : a = b
  · rw [decide_eq_true h]; exact (MapKept.bytes_beq a b).2 h
  · rw [decide_eq_false h]
    cases hb : (a == b) with
    | false => rfl
    | true => exact absurd ((MapKept.bytes_beq a b).1 hb) h
def getM : List (ByteArray × Value) → ByteArray → Option Value
  | [], _ => none
  | p :: r, s => if s = p.1 then some p.2 else getM r s
def putM : List (ByteArray × Value) → ByteArray → Value → List (ByteArray × Value)
  | [], s, v => [(s, v)]
  | p :: r, s, v => if s = p.1 then (s, v) :: r else p :: putM r s v
theorem get_put (M : List (ByteArray × Value)) (s : ByteArray) (v : Value) (t : ByteArray) : getM (putM M s v) t = if t = s then some v else getM M t := by
  induction M with
  | nil => simp only [putM, getM]
  | cons p r ih =>
    unfold putM
    by_cases h : s = p.1
    · rw [if_pos h]
      simp only [getM]
      by_cases h2 : t = s
      · rw [if_pos h2, if_pos h2]
      · rw [if_neg h2, if_neg h2, if_neg (fun e => h2 (e.trans h.symm))]
    · rw [if_neg h]
      simp only [getM]
      by_cases h2 : t = p.1
      · rw [if_pos h2, if_pos h2, if_neg (fun e => h (e.symm.trans h2))]
      · rw [if_neg h2, if_neg h2, ih]
theorem get_put_same (M : List (ByteArray × Value)) (s : ByteArray) (v : Value) : getM (putM M s v) s = some v := by rw [get_put, if_pos rfl]
theorem get_put_other {M : List (ByteArray × Value)} {s t : ByteArray} {v : Value} (h : t ≠ s) : getM (putM M s v) t = getM M t := by rw [get_put, if_neg h]

/-- block b holds these pairs -/
def IsMap (w : World) (b : Nat) (M : List (ByteArray × Value)) : Prop := ∃ es clock, w.heap[b]? = some (.map es clock) ∧ es.toList.map (fun e => (e.key, e.val)) = M.map (fun p => (Value.string p.1, p.2))
section
variable {w w' : World} {b : Nat} {M : List (ByteArray × Value)} {P : Program}
theorem IsMap.lt (h : IsMap w b M) : b < w.heap.size := by obtain ⟨_, _, hb, _⟩ := h; exact (Array.getElem?_eq_some_iff.1 hb).1
theorem IsMap.same (h : IsMap w b M) (e : w'.heap[b]? = w.heap[b]?) : IsMap w' b M := by
  obtain ⟨es, c, hb, hm⟩ := h
  exact ⟨es, c, e.trans hb, hm⟩
theorem IsMap.keep (h : IsMap w b M) (hb : ∀ k, k < w.heap.size → w'.heap[k]? = w.heap[k]?) : IsMap w' b M := h.same (hb b h.lt)
theorem IsMap.below (h : IsMap w b M) (hb : Below w.heap.size w w') : IsMap w' b M := h.keep fun k hk => hb.block k hk
theorem IsMap.grown {row : Option Nat} (h : IsMap w b M) (hg : w.grownBy w' row) (hr : row ≠ some b) : IsMap w' b M := h.same (hg.block b h.lt (fun e => hr e.symm))
theorem IsMap.alloc (h : IsMap w b M) (o : Obj) : IsMap (w.alloc o) b M := h.keep (alloc_keep _ _)
theorem IsMap.drewN (h : IsMap w b M) (n : Nat) : IsMap (w.drewN n) b M := h.same rfl
theorem IsMap.setCell (h : IsMap w b M) {p : Addr} (hp : p.block ≠ b) (v : Value) : IsMap (w.setCell p v) b M := h.same (Below.heap_setCell _ _ _ _ (fun e => hp e.symm))
theorem IsMap.new (w : World) : IsMap (w.alloc (.map #[] 0)) w.heap.size [] := ⟨#[], 0, by show (w.heap.push _)[w.heap.size]? = _; simp, rfl⟩

theorem find_now (s : ByteArray) : ∀ (l : List MapEntry) (M : List (ByteArray × Value)) (i : Nat), l.map (fun e => (e.key, e.val)) = M.map (fun p => (Value.string p.1, p.2)) →
    (Instr.findNow .string (.string s) l i = some none ∧ getM M s = none ∧ ∀ v, putM M s v = M ++ [(s, v)]) ∨
    ∃ j v e, Instr.findNow .string (.string s) l i = some (some (i + j, v)) ∧ getM M s = some v ∧ l[j]? = some e ∧ e.key = .string s ∧ ∀ v', (l.modify j fun e => { e with key := .string s, val := v' }).map (fun e => (e.key, e.val)) = (putM M s v').map (fun p => (Value.string p.1, p.2)) := by
  intro l
  induction l with
  | nil =>
    intro M i h
    cases M with
    | nil => left; exact ⟨rfl, rfl, fun _ => rfl⟩
    | cons p r => simp at h
  | cons e l ih =>
    intro M i h
    cases M with
    | nil => simp at h
    | cons p r =>
      simp only [List.map_cons, List.cons.injEq, Prod.mk.injEq] at h
      obtain ⟨⟨hk, hv⟩, hr⟩ := h
      by_cases hs : s = p.1
      · right
        refine ⟨0, e.val, e, ?_, ?_, rfl, by rw [hk, hs], ?_⟩
        · simp [Instr.findNow, hk, Instr.sameNow, hs, ba_beq]
        · unfold getM; rw [if_pos hs, hv]
        · intro v'
          unfold putM; rw [if_pos hs]
          simp [hr]
      · have hn : Instr.findNow .string (.string s) (e :: l) i = Instr.findNow .string (.string s) l (i + 1) := by
          simp [Instr.findNow, hk, Instr.sameNow, hs, ba_beq]
        rcases ih r (i + 1) hr with ⟨h1, h2, h3⟩ | ⟨j, v, e0, h1, h2, h3, h4, h5⟩
        · left
          refine ⟨by rw [hn]; exact h1, by unfold getM; rw [if_neg hs]; exact h2, fun v => ?_⟩
          unfold putM; rw [if_neg hs, h3]; rfl
        · right
          refine ⟨j + 1, v, e0, by rw [hn, h1]; congr 3; omega, by unfold getM; rw [if_neg hs]; exact h2, by simpa using h3, h4, fun v' => ?_⟩
          unfold putM; rw [if_neg hs]
          simp only [List.modify_succ_cons, List.map_cons, h5 v', hk, hv]

theorem run_look (h : IsMap w b M) {t k e : TypeId} (ht : P.underlying t = some (.map k e)) (hk : P.underlying k = some .string) {z : Value} (hz : (zeroValue e).run P w = .ok z w) (s : ByteArray) (c : Bool) :
    (Instr.lookup t (.map (some b)) (.string s) c).run P w = .ok (if c then .tuple #[(getM M s).getD z, .bool (getM M s).isSome] else (getM M s).getD z) w := by
  obtain ⟨es, clock, hb, hm⟩ := h
  rcases find_now s es.toList M 0 hm with ⟨h1, h2, _⟩ | ⟨j, v, e0, h1, h2, _⟩
  · have hf := run_findKey (P := P) (w := w) hk h1
    simp [Instr.lookup, run_underlying ht, MapKept.run_getObj_map hb, run_checkKey hk (show IsKey .string (.string s) from trivial), hf, hz, Result.andThen, h2]
  · have hf := run_findKey (P := P) (w := w) hk h1
    simp [Instr.lookup, run_underlying ht, MapKept.run_getObj_map hb, run_checkKey hk (show IsKey .string (.string s) from trivial), hf, Result.andThen, h2]
theorem run_store (h : IsMap w b M) {t k e : TypeId} (ht : P.underlying t = some (.map k e)) (hk : P.underlying k = some .string) (s : ByteArray) (v : Value) :
    ∃ w', (Instr.mapUpdate t (.map (some b)) (.string s) v).run P w = .ok () w' ∧ IsMap w' b (putM M s v) ∧ w.grownBy w' (some b) := by
  obtain ⟨es, clock, hb, hm⟩ := h
  have hg : ∀ o, w.grownBy { w with heap := w.heap.setIfInBounds b o } (some b) := fun o => ⟨rfl, rfl, rfl, by simp, fun i _ hi => by
    have : i ≠ b := fun e => hi (by rw [e])
    simp [Ne.symm this]⟩
  have hlt : b < w.heap.size := (Array.getElem?_eq_some_iff.1 hb).1
  rcases find_now s es.toList M 0 hm with ⟨h1, h2, h3⟩ | ⟨j, v0, e0, h1, h2, h3, h4, h5⟩
  · have hf := run_findKey (P := P) (w := w) hk h1
    refine ⟨_, by simp [Instr.mapUpdate, run_underlying ht, MapKept.run_getObj_map hb, run_checkKey hk (show IsKey .string (.string s) from trivial), hf, MapKept.run_setObj_map _ hb, Result.andThen]; rfl, ?_, hg _⟩
    refine ⟨es.push ⟨.string s, v, clock⟩, clock + 1, by simp [hlt], ?_⟩
    rw [h3]; simp [hm]
  · have hf := run_findKey (P := P) (w := w) hk h1
    have hj : es[j]? = some e0 := by simpa using h3
    refine ⟨_, by simp [Instr.mapUpdate, run_underlying ht, MapKept.run_getObj_map hb, run_checkKey hk (show IsKey .string (.string s) from trivial), hf, hj, h4, run_keyThatStays (show IsKey .string (.string s) from trivial), MapKept.run_setObj_map _ hb, Result.andThen]; rfl, ?_, hg _⟩
    refine ⟨_, clock, by simp [hlt]; rfl, ?_⟩
    simpa using h5 v
end

/-- a look-up, at the operation -/
theorem wp_look {P : Program} (w : World) {ops : Array Oper} {rest : List Oper} {o : Oper} {a : Act} {Q : Exit → Act → World → Prop}
    (hg : o.guard = none) (m x : Operand) (t : TypeId) (c : Bool) (hop : o.op = Op.lookup t m x c) (k e : TypeId) (ht : P.underlying t = some (.map k e)) (hk : P.underlying k = some .string) (z : Value) (hz : (zeroValue e).run P w = .ok z w) (b : Nat) (M : List (ByteArray × Value))
    (hm : a.eval m = .map (some b)) (hown : IsMap w b M) (s : ByteArray) (hx : a.eval x = .string s) (y : Value) (hy : (if c then .tuple #[(getM M s).getD z, .bool (getM M s).isSome] else (getM M s).getD z) = y)
    (hK : wpList P ops Q rest (a.put o.dst y) w) :
    wpList P ops Q (o :: rest) a w := by
  refine wpList_plain hg fun K' hK' => ?_
  have hrun := run_look hown ht hk hz s c
  rw [hy] at hrun
  unfold Oper.wp
  simp [execOp, hop, hm, hx, hrun, Result.andThen]
  exact hK' _ _ hK
/-- a store, at the operation -/
theorem wp_store {P : Program} (w : World) {ops : Array Oper} {rest : List Oper} {o : Oper} {a : Act} {Q : Exit → Act → World → Prop}
    (hg : o.guard = none) (m x v : Operand) (t : TypeId) (hop : o.op = Op.mapUpdate t m x v) (k e : TypeId) (ht : P.underlying t = some (.map k e)) (hk : P.underlying k = some .string) (b : Nat) (M : List (ByteArray × Value))
    (hm : a.eval m = .map (some b)) (hown : IsMap w b M) (s : ByteArray) (hx : a.eval x = .string s) (val : Value) (hv : a.eval v = val)
    (hK : ∀ w', IsMap w' b (putM M s val) → w.grownBy w' (some b) → wpList P ops Q rest (a.put o.dst undef) w') :
    wpList P ops Q (o :: rest) a w := by
  refine wpList_plain hg fun K' hK' => ?_
  obtain ⟨w', hrun, r1, r2⟩ := run_store (P := P) hown ht hk s val
  unfold Oper.wp
  simp [execOp, hop, hm, hx, hv, hrun, Result.andThen]
  exact hK' _ _ (hK w' r1 r2)
end Go.Proofs.YtiennniclkbjlaaGreatDoor.Mp
/- Pages in a slice: how they lie in cells. -/
namespace Go.Proofs.YtiennniclkbjlaaGreatDoor.RoPg
open Go.RowKit Go.Proofs.YtiennniclkbjlaaGreatDoor.St Go.Proofs.YtiennniclkbjlaaGreatDoor.RR

structure Pg where
  addr : ByteArray
  text : ByteArray
  lead : ByteArray
  fails : Int
def FPg : Frm Pg where
  enc p := [.string p.addr, .string p.text, .string p.lead, .int .i64 p.fails]
  k := 4
  pos := by decide
  len _ := rfl
  one _ u hu := by
    simp only [List.mem_cons, List.not_mem_nil, or_false] at hu
    rcases hu with rfl | rfl | rfl | rfl <;> rfl
theorem pg_at {w : World} {a0 : Option Addr} {cap : Nat} {L : List Pg} (h : IsRows FPg w a0 cap L) {i : Nat} (hi : i < L.length) : ∃ b off, a0 = some ⟨b, off, none⟩ ∧ w.cell? ⟨b, off + i * 4, none⟩ = some (.string L[i].addr) ∧ w.cell? ⟨b, off + i * 4 + 1, none⟩ = some (.string L[i].text) ∧ w.cell? ⟨b, off + i * 4 + 2, none⟩ = some (.string L[i].lead) ∧ w.cell? ⟨b, off + i * 4 + 3, none⟩ = some (.int .i64 L[i].fails) := by
  obtain ⟨b, off, e, hc⟩ := h.at hi
  exact ⟨b, off, e, hc 0 _ rfl, hc 1 _ rfl, hc 2 _ rfl, hc 3 _ rfl⟩
/-- no text of it is too long for a machine -/
def PgIn (p : Pg) : Prop := p.addr.size ≤ maxLen ∧ p.text.size ≤ maxLen ∧ p.lead.size ≤ maxLen ∧ (Lit.int .i64 p.fails).wf = true
end Go.Proofs.YtiennniclkbjlaaGreatDoor.RoPg
/- A pattern is drawn. -/
namespace Go.Proofs.YtiennniclkbjlaaGreatDoor.Dr
open Go.RowKit

set_option maxRecDepth 100000 in
set_option maxHeartbeats 800000 in
theorem rule_any (B r q : Nat) (w : World) (h : IsRd B w r q) (hq : q ≤ 10000) :
    Calls Tryz.prog 146 #[.pointer (some ⟨r, 0, none⟩)] w fun e w' => ∃ s, e = .returned (.string s) ∧ s.size ≤ 16 ∧ IsRd B w' r (q + 1) ∧ w.grownBy w' (some r) := by
  go_enter Tryz.func146, Tryz.ntmps146
  have hle := h.le
  go_wp2_with fail
  refine (of_lit B r _ w.heap.size 14 _ _ (fun s => decide (s.size ≤ 16)) _ (h.alloc _) (by omega) (by omega) (heap_new _ _) rfl (by decide) (by decide) (by decide)).mono ?_
  rintro e w2 ⟨t, rfl, ht, hr2, hg2⟩
  have ht' : t.size ≤ 16 := of_decide_eq_true ht
  clear ht hle
  go_wp2
  go_ret
  exact ⟨t, rfl, ht', hr2, grown_trans (grown_alloc _ _ _) hg2⟩

end Go.Proofs.YtiennniclkbjlaaGreatDoor.Dr
/- A builder of texts that a call made itself: how it is written into. -/
namespace Go.Proofs.YtiennniclkbjlaaGreatDoor.Bl
open Go.RowKit Go.Proofs.YtiennniclkbjlaaGreatDoor.St Go.Proofs.YtiennniclkbjlaaGreatDoor.RR

theorem Tryz.infoBld : (Tryz.prog.info? 201).map (·.size) = some 2 := by kernel_rfl
theorem Tryz.liesBld : liesAt Tryz.prog Tryz.prog.depth 201 (2 / Tryz.prog.cellsOf 201) 0 201 1 = true := by kernel_rfl
theorem Tryz.infoByte : (Tryz.prog.info? 5).map (fun i => (i.zero, i.size, i.bytes)) = some (some (.int .u8 0), 1, 1) := by kernel_rfl
theorem info_byte : ∃ i, Tryz.prog.info? 5 = some i ∧ i.zero = some (.int .u8 0) ∧ i.size = 1 ∧ i.bytes = 1 := by
  have h := Tryz.infoByte
  cases hi : Tryz.prog.info? 5 with
  | none => rw [hi] at h; cases h
  | some i =>
    rw [hi] at h
    have := Option.some.inj h
    simp only [Prod.mk.injEq] at this
    exact ⟨i, rfl, this.1, this.2.1, this.2.2⟩

set_option maxRecDepth 100000 in
set_option maxHeartbeats 1000000 in
set_option maxRecDepth 100000 in
theorem check_used (b : Nat) (w : World) (h0 : w.cell? ⟨b, 0, none⟩ = some (.pointer (some ⟨b, 0, none⟩))) :
    Calls Tryz.prog 189 #[.pointer (some ⟨b, 0, none⟩)] w fun e w' => e = .returned (.tuple #[]) ∧ w' = w := by
  obtain ⟨j, hj, _⟩ := Option.map_eq_some_iff.1 Tryz.infoBld
  go_enter Tryz.func189, Tryz.ntmps189
  go_wp2
  rw [Lib.run_neq_ptr_same w _ Tryz.underlying199 hj]
  go_wp2
  go_end0
  exact ⟨rfl, rfl⟩

set_option maxRecDepth 100000 in
set_option maxHeartbeats 1000000 in
set_option maxRecDepth 100000 in
theorem check_fresh (b : Nat) (w : World) (h0 : w.cell? ⟨b, 0, none⟩ = some (.pointer none)) (hsh : w.shape? b = some (201, 2)) (hfz : w.frozen? ⟨b, 0, none⟩ = false) :
    Calls Tryz.prog 189 #[.pointer (some ⟨b, 0, none⟩)] w fun e w' => e = .returned (.tuple #[]) ∧ w' = w.setCell ⟨b, 0, none⟩ (.pointer (some ⟨b, 0, none⟩)) := by
  obtain ⟨j, hj, hjs⟩ := Option.map_eq_some_iff.1 Tryz.infoBld
  go_enter Tryz.func189, Tryz.ntmps189
  go_wp2
  rw [Lib.run_to_unsafe w ⟨b, 0, none⟩ Tryz.underlying199 Tryz.underlying234 hj (by rw [hjs]; decide) hsh (Nat.zero_lt_succ 1)]
  simp only [Result.andThen]
  rw [Oper.upon_value]
  go_wp2
  rw [run_callFunc_extern Tryz.func204 (by kernel_rfl) (by kernel_rfl) (by kernel_rfl) (e := Extern.AbiNoEscape.same) (by kernel_rfl)]
  rw [Lib.run_noEscape]
  simp only [Result.andThen]
  rw [Oper.upon_value]
  go_wp2
  rw [Lib.run_from_unsafe w ⟨b, 0, none⟩ Tryz.underlying234 Tryz.underlying199 hj hsh Tryz.liesBld]
  simp only [Result.andThen]
  rw [Oper.upon_value]
  go_wp2
  go_end0
  exact ⟨rfl, rfl⟩

/-- every block but b, and but rows of bytes, stands as it stood -/
def Kept (b : Nat) (w w' : World) : Prop := w.heap.size ≤ w'.heap.size ∧ ∀ k, k < w.heap.size → k ≠ b → (∀ cur z, w.heap[k]? ≠ some (.cells cur 5 z)) → w'.heap[k]? = w.heap[k]?
theorem Kept.refl (b : Nat) (w : World) : Kept b w w := ⟨Nat.le_refl _, fun _ _ _ _ => rfl⟩
theorem Kept.trans {b : Nat} {w w1 w2 : World} (h1 : Kept b w w1) (h2 : Kept b w1 w2) : Kept b w w2 := by
  refine ⟨Nat.le_trans h1.1 h2.1, fun k hk hb hn => ?_⟩
  rw [h2.2 k (Nat.lt_of_lt_of_le hk h1.1) hb (by rw [h1.2 k hk hb hn]; exact hn), h1.2 k hk hb hn]
theorem Kept.of_below {b : Nat} {w w' : World} (h : Below w.heap.size w w') : Kept b w w' := ⟨h.size, fun k hk _ _ => h.block k hk⟩

theorem check_any (B b : Nat) (bs : List Value) (w : World) (h : Lib.IsBuilder 201 5 B b bs w) :
    Calls Tryz.prog 189 #[.pointer (some ⟨b, 0, none⟩)] w fun e w' => e = .returned (.tuple #[]) ∧ Lib.BuilderAt 201 5 B b (.pointer (some ⟨b, 0, none⟩)) bs w' ∧ Below B w w' ∧ Kept b w w' := by
  rcases h with h | h
  · refine (check_fresh b w h.cell0 h.shape h.frozen0).mono ?_
    rintro e w' ⟨rfl, rfl⟩
    refine ⟨rfl, h.used _, (Below.refl B w).setCell (p := ⟨b, 0, none⟩) h.1 _, by simp, fun k hk hne _ => ?_⟩
    exact Below.heap_setCell w ⟨b, 0, none⟩ _ k hne
  · refine (check_used b w h.cell0).mono ?_
    rintro e w' ⟨rfl, rfl⟩
    exact ⟨rfl, h, Below.refl B _, Kept.refl _ _⟩

set_option maxRecDepth 100000 in
set_option maxHeartbeats 2000000 in
set_option maxRecDepth 100000 in
theorem write_any (B b : Nat) (bs : List Value) (s : ByteArray) (w : World) (h : Lib.IsBuilder 201 5 B b bs w) (hlen : bs.length + s.size ≤ 140737488355328) (hBw : B ≤ w.heap.size) :
    Calls Tryz.prog 167 #[.pointer (some ⟨b, 0, none⟩), .string s] w fun e w' => e = .returned (.tuple #[.int .i64 s.size, .nilIface]) ∧ Lib.BuilderAt 201 5 B b (.pointer (some ⟨b, 0, none⟩)) (bs ++ Lib.strCells s) w' ∧ Below B w w' ∧ Kept b w w' := by
  obtain ⟨i0, hi, hz0, hz1, hz2⟩ := info_byte
  go_enter Tryz.func167, Tryz.ntmps167
  go_wp2_with fail
  refine (check_any B b bs _ h).mono ?_
  rintro e w1 ⟨rfl, h1, hb1, hk1⟩
  obtain ⟨hB, v, hbk, hown, hne⟩ := h1
  have c0 : w1.cell? ⟨b, 0, none⟩ = some (.pointer (some ⟨b, 0, none⟩)) := by rw [Lib.cell_of_heap hbk]; rfl
  have c1 : w1.cell? ⟨b, 1, none⟩ = some v := by rw [Lib.cell_of_heap hbk]; rfl
  go_wp2_with (at_builtin; refine Lib.wpList_append_own_string _ rfl _ _ 22 9 rfl B 5 i0 Tryz.underlying22 Tryz.underlying9 hi hz0 hz1 hz2 _ _ _ rfl hown s rfl ?c3 ?c4 ?c5 ?_)
  case c3 => unfold maxLen; omega
  case c4 => omega
  case c5 => have := hb1.size; omega
  intro v' w2 hown' hgrow _
  have hlt : b < w1.heap.size := by
    rcases Nat.lt_or_ge b w1.heap.size with h' | h'
    · exact h'
    · simp [Array.getElem?_eq_none h'] at hbk
  have hb2 : w2.heap[b]? = some (.cells #[.pointer (some ⟨b, 0, none⟩), v] 201 (0, 0)) := by
    rw [hgrow.block b hlt (fun e => hne e.symm)]
    exact hbk
  have d0 : w2.cell? ⟨b, 0, none⟩ = some (.pointer (some ⟨b, 0, none⟩)) := by rw [Lib.cell_of_heap hb2]; rfl
  have d1 : w2.cell? ⟨b, 1, none⟩ = some v := by rw [Lib.cell_of_heap hb2]; rfl
  have f1 : w2.frozen? ⟨b, 1, none⟩ = false := Lib.frozen_of_heap hb2 1
  obtain ⟨ao, n', cap, rfl⟩ : ∃ ao n' cap, v' = .slice ao n' cap := by
    rcases hown'.2 with ⟨hv, _⟩ | ⟨g, cap, cur, hv, _⟩
    · exact ⟨_, _, _, hv⟩
    · exact ⟨_, _, _, hv⟩
  have HK : Hid (Kept b w1 (w2.setCell ⟨b, 1, none⟩ (.slice ao n' cap))) := by
    refine ⟨by have := hgrow.size; simp; omega, fun k hk hkb hn => ?_⟩
    rw [Below.heap_setCell _ _ _ k hkb]
    refine hgrow.block k hk ?_
    intro e
    rcases hown.2 with ⟨hv, _⟩ | ⟨g, cp, cur, hv, _, hg, _⟩
    · rw [hv] at e; simp [Value.ownBlock] at e
    · rw [hv] at e
      simp [Value.ownBlock] at e
      subst e
      exact hn cur _ hg
  go_wp2
  go_ret2
  refine ⟨rfl, ?_, ?_, hk1.trans HK.out⟩
  · exact Lib.BuilderAt.put (T := 201) (e := 5) hB hb2 (bs' := bs ++ Lib.strCells s) (by simpa [Lib.strCells_length] using hown') (by decide)
  · exact (hb1.grown hgrow (by have := hb1.size; omega) (fun k hk => (hown.lt k hk).1)).setCell (p := ⟨b, 1, none⟩) hB _
/-- a new builder -/
theorem new_builder (w : World) : Lib.IsBuilder 201 5 w.heap.size w.heap.size [] (w.alloc (.cells #[.pointer none, .slice none 0 0] 201)) := by
  left
  refine ⟨Nat.le_refl _, .slice none 0 0, by show (w.heap.push _)[w.heap.size]? = _; simp, ⟨rfl, Or.inl ⟨rfl, rfl⟩⟩, by simp [Value.ownBlock]⟩
/-- what is laid behind it does not touch it -/
theorem bld_keep {B b : Nat} {p : Value} {bs : List Value} {w w' : World} (h : Lib.BuilderAt 201 5 B b p bs w) (hb : ∀ k, k < w.heap.size → w'.heap[k]? = w.heap[k]?) : Lib.BuilderAt 201 5 B b p bs w' := by
  have hlt := h.lt
  obtain ⟨hB, v, hbk, hown, hne⟩ := h
  refine ⟨hB, v, by rw [hb b hlt]; exact hbk, ?_, hne⟩
  obtain ⟨h1, h2 | ⟨g, cap, cur, hv, hg, hc, r⟩⟩ := hown
  · exact ⟨h1, Or.inl h2⟩
  · refine ⟨h1, Or.inr ⟨g, cap, cur, hv, hg, ?_, r⟩⟩
    rw [hb g (Array.getElem?_eq_some_iff.1 hc).1]; exact hc
theorem isb_keep {B b : Nat} {bs : List Value} {w w' : World} (h : Lib.IsBuilder 201 5 B b bs w) (hb : ∀ k, k < w.heap.size → w'.heap[k]? = w.heap[k]?) : Lib.IsBuilder 201 5 B b bs w' := by
  rcases h with h | h
  · exact Or.inl (bld_keep h hb)
  · exact Or.inr (bld_keep h hb)
end Go.Proofs.YtiennniclkbjlaaGreatDoor.Bl
/- Items in a slice: how they lie in cells. -/
namespace Go.Proofs.YtiennniclkbjlaaGreatDoor.RoIt
open Go.RowKit Go.Proofs.YtiennniclkbjlaaGreatDoor.St Go.Proofs.YtiennniclkbjlaaGreatDoor.RR

structure It where
  addr : ByteArray
  tries : Int
def FIt : Frm It where
  enc p := [.string p.addr, .int .i64 p.tries]
  k := 2
  pos := by decide
  len _ := rfl
  one _ u hu := by
    simp only [List.mem_cons, List.not_mem_nil, or_false] at hu
    rcases hu with rfl | rfl <;> rfl
theorem it_at {w : World} {a0 : Option Addr} {cap : Nat} {L : List It} (h : IsRows FIt w a0 cap L) {i : Nat} (hi : i < L.length) : ∃ b off, a0 = some ⟨b, off, none⟩ ∧ w.cell? ⟨b, off + i * 2, none⟩ = some (.string L[i].addr) ∧ w.cell? ⟨b, off + i * 2 + 1, none⟩ = some (.int .i64 L[i].tries) := by
  obtain ⟨b, off, e, hc⟩ := h.at hi
  exact ⟨b, off, e, hc 0 _ rfl, hc 1 _ rfl⟩
/-- no text of it is too long for a machine -/
def ItIn (p : It) : Prop := p.addr.size ≤ maxLen ∧ (Lit.int .i64 p.tries).wf = true
end Go.Proofs.YtiennniclkbjlaaGreatDoor.RoIt
/- Looks in a slice: how they lie in cells. -/
namespace Go.Proofs.YtiennniclkbjlaaGreatDoor.RoLk
open Go.RowKit Go.Proofs.YtiennniclkbjlaaGreatDoor.St Go.Proofs.YtiennniclkbjlaaGreatDoor.RR

structure Lk where
  time : Int
  addr : ByteArray
  kind : Int
def FLk : Frm Lk where
  enc p := [.int .i64 p.time, .string p.addr, .int .i64 p.kind]
  k := 3
  pos := by decide
  len _ := rfl
  one _ u hu := by
    simp only [List.mem_cons, List.not_mem_nil, or_false] at hu
    rcases hu with rfl | rfl | rfl <;> rfl
theorem lk_at {w : World} {a0 : Option Addr} {cap : Nat} {L : List Lk} (h : IsRows FLk w a0 cap L) {i : Nat} (hi : i < L.length) : ∃ b off, a0 = some ⟨b, off, none⟩ ∧ w.cell? ⟨b, off + i * 3, none⟩ = some (.int .i64 L[i].time) ∧ w.cell? ⟨b, off + i * 3 + 1, none⟩ = some (.string L[i].addr) ∧ w.cell? ⟨b, off + i * 3 + 2, none⟩ = some (.int .i64 L[i].kind) := by
  obtain ⟨b, off, e, hc⟩ := h.at hi
  exact ⟨b, off, e, hc 0 _ rfl, hc 1 _ rfl, hc 2 _ rfl⟩
/-- no text of it is too long for a machine -/
def LkIn (p : Lk) : Prop := p.addr.size ≤ maxLen ∧ (Lit.int .i64 p.time).wf = true ∧ (Lit.int .i64 p.kind).wf = true
end Go.Proofs.YtiennniclkbjlaaGreatDoor.RoLk
