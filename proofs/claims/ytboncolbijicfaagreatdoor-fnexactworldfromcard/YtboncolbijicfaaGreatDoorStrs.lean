/- Slices of strings: what is known of one; append onto one of the call's own; steps that compare. -/
import Derived.Test.YtboncolbijicfaaGreatDoorChecked
import Derived.WalkKit
import Derived.WalkLawsBesides
import Derived.WalkSpells
import Derived.WalkSmall
import Derived.BigQuiet
import Derived.Deep.QuietTactic
import Derived.Outline
namespace Go.Proofs.YtboncolbijicfaaGreatDoor.St
open Go.RowKit

def cellsS (L : List ByteArray) : List Value := L.map Value.string
theorem cellsS_len (L : List ByteArray) : (cellsS L).length = L.length := by simp [cellsS]
theorem cellsS_append (A B : List ByteArray) : cellsS (A ++ B) = cellsS A ++ cellsS B := by simp [cellsS]

/-- a slice that reads as a list of strings -/
def IsStrs (w : World) (a0 : Option Addr) (cap : Nat) (L : List ByteArray) : Prop :=
  L.length ≤ cap ∧ cap ≤ maxLen ∧ (a0 = none → cap = 0) ∧ (L ≠ [] → ∃ b off, a0 = some ⟨b, off, none⟩ ∧ ∀ i (h : i < L.length), w.cell? ⟨b, off + i, none⟩ = some (.string L[i]))

theorem cell_block {w : World} {a : Addr} {v : Value} (h : w.cell? a = some v) : a.block < w.heap.size := by
  unfold World.cell? at h
  by_cases hh : a.block < w.heap.size
  · exact hh
  · rw [Array.getElem?_eq_none (by omega)] at h; simp at h

theorem IsStrs.keep {w w' : World} {a0 : Option Addr} {cap : Nat} {L : List ByteArray} (h : IsStrs w a0 cap L) (hb : ∀ k, k < w.heap.size → w'.heap[k]? = w.heap[k]?) : IsStrs w' a0 cap L := by
  obtain ⟨h1, h2, h3, h4⟩ := h
  refine ⟨h1, h2, h3, fun hne => ?_⟩
  obtain ⟨b, off, e, hc⟩ := h4 hne
  refine ⟨b, off, e, fun i hi => ?_⟩
  rw [World.cell?_of_block (w := w) (hb _ (cell_block (hc i hi)))]; exact hc i hi
theorem IsStrs.below {w w' : World} {a0 : Option Addr} {cap : Nat} {L : List ByteArray} (h : IsStrs w a0 cap L) (hb : Below w.heap.size w w') : IsStrs w' a0 cap L := h.keep fun k hk => hb.block k hk

theorem add_mk (g o i : Nat) : (⟨g, o, none⟩ : Addr).add i = ⟨g, o + i, none⟩ := by simp [Addr.add]

theorem IsStrs.drewN {w : World} {a0 : Option Addr} {cap : Nat} {L : List ByteArray} (h : IsStrs w a0 cap L) (n : Nat) : IsStrs (w.drewN n) a0 cap L := h.keep fun _ _ => rfl

/-- one of the call's own -/
def Owns (w : World) (base : Nat) (v : Value) (L : List ByteArray) : Prop := w.ownsRow base 9 1 v L.length (cellsS L)

theorem Owns.strs {w : World} {base : Nat} {v : Value} {L : List ByteArray} (h : Owns w base v L) : ∃ a0 cap, v = .slice a0 L.length cap ∧ IsStrs w a0 cap L := by
  have h' := h
  obtain ⟨_, ⟨rfl, hn⟩ | ⟨g, cap, cur, rfl, hg, hh, hn, hm, _⟩⟩ := h
  · have : L = [] := List.eq_nil_of_length_eq_zero hn
    subst this
    exact ⟨none, 0, rfl, by simp, by simp, fun _ => rfl, fun h => absurd rfl h⟩
  · refine ⟨_, cap, rfl, hn, hm, (fun e => by cases e), (fun _ => ⟨g, 0, rfl, fun i hi => ?_⟩)⟩
    have := World.ownsRow.cells h' (g := g) rfl i (.string L[i]) (by simp [cellsS, List.getElem?_eq_getElem hi])
    rw [add_mk] at this; exact this
theorem Owns.keep {w w' : World} {base : Nat} {v : Value} {L : List ByteArray} (h : Owns w base v L) (hb : ∀ k, k < w.heap.size → w'.heap[k]? = w.heap[k]?) : Owns w' base v L := by
  obtain ⟨h1, h2 | ⟨g, cap, cur, hv, hg, hc, r⟩⟩ := h
  · exact ⟨h1, Or.inl h2⟩
  · refine ⟨h1, Or.inr ⟨g, cap, cur, hv, hg, ?_, r⟩⟩
    rw [hb g (Array.getElem?_eq_some_iff.1 hc).1]; exact hc
theorem Owns.below {w w' : World} {base : Nat} {v : Value} {L : List ByteArray} (h : Owns w base v L) (hb : Below w.heap.size w w') : Owns w' base v L := h.keep fun k hk => hb.block k hk
theorem Owns.mono {w : World} {base base' : Nat} {v : Value} {L : List ByteArray} (h : Owns w base v L) (hb : base' ≤ base) : Owns w base' v L := by
  obtain ⟨h1, h2 | ⟨g, cap, cur, hv, hg, r⟩⟩ := h
  · exact ⟨h1, Or.inl h2⟩
  · exact ⟨h1, Or.inr ⟨g, cap, cur, hv, by omega, r⟩⟩
theorem Owns.block {w : World} {base : Nat} {v : Value} {L : List ByteArray} (h : Owns w base v L) : ∀ k, v.ownBlock = some k → base ≤ k := by
  intro k hk
  obtain ⟨_, h | ⟨g, cap, cur, rfl, hb, _⟩⟩ := h
  · rw [h.1] at hk; simp [Value.ownBlock] at hk
  · simp [Value.ownBlock] at hk; omega

theorem Tryz.infoS : (Tryz.prog.info? 9).map (fun i => (i.zero, i.size, i.bytes)) = some (some (.string ⟨#[]⟩), 1, 16) := by kernel_rfl

theorem Owns.nil (w : World) (base : Nat) : Owns w base (.slice none 0 0) [] := World.ownsRow_nil _ _ _ _
theorem Owns.empty (w : World) (base : Nat) (hb : base ≤ w.heap.size) : Owns (w.alloc (.cells #[] 9)) base (.slice (some ⟨w.heap.size, 0, none⟩) 0 0) [] := by
  refine ⟨by simp [cellsS], Or.inr ⟨w.heap.size, 0, #[], rfl, hb, ?_, by simp, by simp, by simp, by simp [cellsS]⟩⟩
  show (w.heap.push _)[w.heap.size]? = _
  simp

theorem Owns.pop {w : World} {base g cap : Nat} {L : List ByteArray} (hne : L ≠ []) (h : Owns w base (.slice (some ⟨g, 0, none⟩) L.length cap) L) : Owns w base (.slice (some ⟨g, 0, none⟩) (L.length - 1) cap) L.dropLast := by
  have hl : L.dropLast.length = L.length - 1 := by simp
  have e : L.length = L.dropLast.length + 1 := by
    have : 0 < L.length := List.length_pos_iff.2 hne
    omega
  have e2 : cellsS L = cellsS L.dropLast ++ [Value.string (L.getLast hne)] := by
    conv => lhs; rw [← List.dropLast_concat_getLast hne]
    rw [cellsS_append]; rfl
  unfold Owns at h ⊢
  rw [e, e2] at h
  rw [← hl]
  exact ownsRow_pop (by rw [cellsS_len]; omega) h
theorem Owns.pop' {w : World} {base co : Nat} {ao : Option Addr} {L : List ByteArray} (hne : L.length ≠ 0) (h : Owns w base (.slice ao L.length co) L) : Owns w base (.slice ao (L.length - 1) co) L.dropLast := by
  have hne' : L ≠ [] := by intro e; rw [e] at hne; exact hne rfl
  have h' := h
  obtain ⟨_, ⟨h1, hn⟩ | ⟨g, cap, cur, hv, _⟩⟩ := h
  · exact absurd hn hne
  · injection hv with e1 _ e2
    subst e1; subst e2
    exact Owns.pop hne' h'

theorem Owns.append {w' : World} {base : Nat} {v' : Value} {X : List ByteArray} {p : ByteArray} (hO : w'.ownsRow base 9 1 v' (X.length + 1) (cellsS X ++ [.string p])) : Owns w' base v' (X ++ [p]) := by
  unfold Owns
  rw [cellsS_append, List.length_append]; exact hO

theorem cellsS_one (L : List ByteArray) : ∀ u ∈ cellsS L, u.oneCell' = true := by
  intro u hu
  simp [cellsS] at hu
  obtain ⟨s, _, rfl⟩ := hu; rfl
/-- what is appended from such a slice -/
theorem IsStrs.news {w : World} {g o cap : Nat} {L : List ByteArray} (h : IsStrs w (some ⟨g, o, none⟩) cap L) {w' : World} (hb : ∀ k, k < w.heap.size → w'.heap[k]? = w.heap[k]?) : ∀ j u, (cellsS L)[j]? = some u → w'.cell? ((⟨g, o, none⟩ : Addr).add j) = some u := by
  intro j u hj
  have hj' : j < L.length := by have := (List.getElem?_eq_some_iff.1 hj).1; rwa [cellsS_len] at this
  obtain ⟨b, off, e, hc⟩ := (h.keep hb).2.2.2 (by intro e; rw [e] at hj'; simp at hj')
  injection e with e; injection e with e1 e2 _
  subst e1; subst e2
  rw [add_mk, hc j hj']
  simp [cellsS, List.getElem?_eq_getElem hj'] at hj
  rw [hj]
theorem Owns.of_row {w : World} {base n : Nat} {v : Value} {L : List ByteArray} {xs : List Value} (h : w.ownsRow base 9 1 v n xs) (hn : n = L.length) (hx : xs = cellsS L) : Owns w base v L := by
  subst hn; subst hx; exact h
theorem alloc_keep (w : World) (o : Obj) : ∀ k, k < w.heap.size → (w.alloc o).heap[k]? = w.heap[k]? := fun k hk => Below.heap_alloc w o k hk
theorem IsStrs.cut {w : World} {a0 : Option Addr} {cap : Nat} {L : List ByteArray} (h : IsStrs w a0 cap L) (n : Nat) : IsStrs w a0 cap (L.take n) := by
  obtain ⟨h1, h2, h3, h4⟩ := h
  refine ⟨by simp; omega, h2, h3, fun hne => ?_⟩
  obtain ⟨b, off, e, hc⟩ := h4 (by intro e; subst e; simp at hne)
  refine ⟨b, off, e, fun i hi => ?_⟩
  have hi' : i < L.length := by simp at hi; omega
  rw [hc i hi']; simp

/-- append(append([]string{}, parts...), more...), once both are made -/
theorem two_app {W W1 W2 : World} {o1 o2 : Obj} {v1 v2 : Value} {L M : List ByteArray} {n m : Nat} (h1 : (W.alloc o1).grownBy W1 (Value.slice (some ⟨W.heap.size, 0, none⟩) 0 0).ownBlock) (ho1 : W1.ownsRow W.heap.size 9 1 v1 n ([] ++ cellsS L))
    (h2 : (W1.alloc o2).grownBy W2 v1.ownBlock) (ho2 : W2.ownsRow W.heap.size 9 1 v2 m ([] ++ cellsS L ++ cellsS M)) (hn : n = L.length) (hm : m = (L ++ M).length) : Owns W2 W.heap.size v2 (L ++ M) ∧ Below W.heap.size W W2 := by
  have hO1 : Owns W1 W.heap.size v1 L := Owns.of_row ho1 hn (by simp)
  have hb1 : Below W.heap.size W W1 := Below.grown ((Below.refl _ _).alloc (Nat.le_refl _) _) h1 (by simp) (by intro k hk; simp [Value.ownBlock] at hk; omega)
  refine ⟨Owns.of_row ho2 hm (by simp [cellsS]), ?_⟩
  exact Below.grown (hb1.alloc hb1.size _) h2 (by have := hb1.size; simp; omega) (Owns.block hO1)

/-- a slice of strings that came in -/
theorem open_strs {w : World} {x : Addr} {len cap : Nat} {ss : List ByteArray} (hl : len ≤ cap) (hm : cap ≤ maxLen) (hz : ss.length = cap) (hcell : ∀ i, i < ss.length → w.cell? (x.add i) = some (.string (ss.getD i ByteArray.empty))) (hws : ∀ s ∈ ss, s.size ≤ maxLen) :
    ∃ L : List ByteArray, len = L.length ∧ IsStrs w (some x) cap L ∧ ∀ s ∈ L, s.size ≤ maxLen := by
  refine ⟨ss.take len, by simp; omega, ⟨by simp; omega, hm, (fun e => by cases e), fun hne => ?_⟩, fun s hs => hws s (List.mem_of_mem_take hs)⟩
  have h0 : 0 < ss.length := by
    rcases Nat.eq_zero_or_pos ss.length with h | h
    · have : ss = [] := List.eq_nil_of_length_eq_zero h
      subst this; simp at hne
    · exact h
  have hc0 := hcell 0 h0
  have hspot : x.spot = none := by simpa [Addr.add] using World.cell?_spot hc0
  obtain ⟨b, off, spot⟩ := x
  simp at hspot; subst hspot
  refine ⟨b, off, rfl, fun i hi => ?_⟩
  have hi' : i < ss.length := by simp at hi; omega
  have := hcell i hi'
  rw [add_mk] at this
  rw [this, List.getD_eq_getElem?_getD, List.getElem?_eq_getElem hi']
  simp

theorem Owns.keptR {w w' : World} {base r : Nat} {v : Value} {L : List ByteArray} (h : Owns w base v L) (hg : w.grownBy w' (some r)) (hr : r < base) : Owns w' base v L := by
  refine World.ownsRow.kept h hg ?_
  cases hv : v.ownBlock with
  | none => exact Or.inl rfl
  | some g =>
    right
    have := Owns.block h g hv
    intro e; have := Option.some.inj e; omega
theorem grown_low {a b : World} {row : Option Nat} (B : Nat) (h : a.grownBy b row) (hB : B ≤ a.heap.size) (hrow : ∀ k, row = some k → B ≤ k) : Below B a b :=
  ⟨h.os, h.tape, h.output, h.size, fun k hk => h.block k (by omega) (fun e => by have := hrow k e.symm; omega)⟩
theorem Owns.strsOf {w : World} {base : Nat} {a0 : Option Addr} {cap n : Nat} {L : List ByteArray} (h : Owns w base (.slice a0 n cap) L) : IsStrs w a0 cap L := by
  obtain ⟨a1, c1, e, hs⟩ := h.strs
  injection e with e1 _ e2
  subst e1; subst e2; exact hs
end Go.Proofs.YtboncolbijicfaaGreatDoor.St
