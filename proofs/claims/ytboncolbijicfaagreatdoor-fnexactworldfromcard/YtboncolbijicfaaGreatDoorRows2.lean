/- Slices of structs: what is known of one; one of the call's own. An element's fields are its cells, k of them. -/
import Derived.Test.YtboncolbijicfaaGreatDoorStrs
namespace Go.Proofs.YtboncolbijicfaaGreatDoor.RR
open Go.RowKit Go.Proofs.YtboncolbijicfaaGreatDoor.St

/-- how an element lies in its cells -/
structure Frm (α : Type) where
  enc : α → List Value
  k : Nat
  pos : 0 < k
  len : ∀ a, (enc a).length = k
  one : ∀ a, ∀ u ∈ enc a, u.oneCell' = true
variable {α : Type}
def Frm.cells (F : Frm α) (L : List α) : List Value := L.flatMap F.enc
theorem Frm.cells_len (F : Frm α) (L : List α) : (F.cells L).length = L.length * F.k := by
  unfold Frm.cells
  induction L with
  | nil => simp
  | cons x r ih => simp only [List.flatMap_cons, List.length_append, ih, F.len, List.length_cons]; rw [Nat.add_mul]; omega
theorem Frm.cells_append (F : Frm α) (A B : List α) : F.cells (A ++ B) = F.cells A ++ F.cells B := by unfold Frm.cells; simp
theorem Frm.cells_one (F : Frm α) (L : List α) : ∀ u ∈ F.cells L, u.oneCell' = true := by
  intro u hu
  unfold Frm.cells at hu
  obtain ⟨a, _, h⟩ := List.mem_flatMap.1 hu
  exact F.one a u h
theorem Frm.cells_at (F : Frm α) : ∀ (L : List α) (i : Nat) (h : i < L.length) (j : Nat), j < F.k → (F.cells L)[i * F.k + j]? = (F.enc L[i])[j]? := by
  intro L
  induction L with
  | nil => intro i h; simp at h
  | cons x r ih =>
    intro i h j hj
    show (F.enc x ++ F.cells r)[i * F.k + j]? = _
    cases i with
    | zero => rw [Nat.zero_mul, Nat.zero_add, List.getElem?_append_left (by rw [F.len]; exact hj)]; rfl
    | succ i =>
      rw [List.getElem?_append_right (by rw [F.len, Nat.add_mul]; omega), F.len, show (i + 1) * F.k + j - F.k = i * F.k + j from by rw [Nat.add_mul]; omega, ih i (by simpa using h) j hj]; rfl

/-- a slice that reads as a list of such elements -/
def IsRows (F : Frm α) (w : World) (a0 : Option Addr) (cap : Nat) (L : List α) : Prop :=
  L.length ≤ cap ∧ cap ≤ maxLen ∧ (a0 = none → cap = 0) ∧ (L ≠ [] → ∃ b off, a0 = some ⟨b, off, none⟩ ∧ ∀ j u, (F.cells L)[j]? = some u → w.cell? ⟨b, off + j, none⟩ = some u)
theorem IsRows.keep {F : Frm α} {w w' : World} {a0 : Option Addr} {cap : Nat} {L : List α} (h : IsRows F w a0 cap L) (hb : ∀ k, k < w.heap.size → w'.heap[k]? = w.heap[k]?) : IsRows F w' a0 cap L := by
  obtain ⟨h1, h2, h3, h4⟩ := h
  refine ⟨h1, h2, h3, fun hne => ?_⟩
  obtain ⟨b, off, e, hc⟩ := h4 hne
  refine ⟨b, off, e, fun j u hu => ?_⟩
  rw [World.cell?_of_block (w := w) (hb _ (cell_block (hc j u hu)))]; exact hc j u hu
theorem IsRows.below {F : Frm α} {w w' : World} {a0 : Option Addr} {cap : Nat} {L : List α} (h : IsRows F w a0 cap L) (hb : Below w.heap.size w w') : IsRows F w' a0 cap L := h.keep fun k hk => hb.block k hk
theorem IsRows.drewN {F : Frm α} {w : World} {a0 : Option Addr} {cap : Nat} {L : List α} (h : IsRows F w a0 cap L) (n : Nat) : IsRows F (w.drewN n) a0 cap L := h.keep fun _ _ => rfl
theorem IsRows.nil (F : Frm α) (w : World) : IsRows F w none 0 ([] : List α) := ⟨Nat.le_refl _, by simp, fun _ => rfl, fun h => absurd rfl h⟩
theorem IsRows.at {F : Frm α} {w : World} {a0 : Option Addr} {cap : Nat} {L : List α} (h : IsRows F w a0 cap L) {i : Nat} (hi : i < L.length) : ∃ b off, a0 = some ⟨b, off, none⟩ ∧ ∀ j u, (F.enc L[i])[j]? = some u → w.cell? ⟨b, off + (i * F.k + j), none⟩ = some u := by
  obtain ⟨b, off, e, hc⟩ := h.2.2.2 (by intro e; rw [e] at hi; simp at hi)
  refine ⟨b, off, e, fun j u hu => hc _ u ?_⟩
  have hj : j < F.k := by have := (List.getElem?_eq_some_iff.1 hu).1; rwa [F.len] at this
  rw [F.cells_at L i hi j hj]; exact hu
/-- what is appended from such a slice -/
theorem IsRows.news {F : Frm α} {w : World} {g o cap : Nat} {L : List α} (h : IsRows F w (some ⟨g, o, none⟩) cap L) {w' : World} (hb : ∀ k, k < w.heap.size → w'.heap[k]? = w.heap[k]?) : ∀ j u, (F.cells L)[j]? = some u → w'.cell? ((⟨g, o, none⟩ : Addr).add j) = some u := by
  intro j u hj
  have hne : L ≠ [] := by rintro rfl; simp [Frm.cells] at hj
  obtain ⟨b, off, e, hc⟩ := (h.keep hb).2.2.2 hne
  injection e with e; injection e with e1 e2 _
  subst e1; subst e2
  rw [add_mk]; exact hc j u hj
theorem IsRows.none {F : Frm α} {w : World} {a0 : Option Addr} {cap : Nat} {L : List α} (h : IsRows F w a0 cap L) : a0 = .none → L.length = 0 ∧ cap = 0 := by
  intro e
  have h1 := h.2.2.1 e
  have h2 := h.1
  omega
theorem IsRows.newsAny {F : Frm α} {w : World} {a0 : Option Addr} {cap : Nat} {L : List α} (h : IsRows F w a0 cap L) {w' : World} (hb : ∀ k, k < w.heap.size → w'.heap[k]? = w.heap[k]?) : ∀ ad, a0 = some ad → ∀ j u, (F.cells L)[j]? = some u → w'.cell? (ad.add j) = some u := by
  intro ad e j u hj
  have hne : L ≠ [] := by rintro rfl; simp [Frm.cells] at hj
  obtain ⟨b, off, e', hc⟩ := (h.keep hb).2.2.2 hne
  rw [e] at e'
  injection e' with e'
  subst e'
  rw [add_mk]; exact hc j u hj
theorem IsRows.cut {F : Frm α} {w : World} {a0 : Option Addr} {cap : Nat} {L : List α} (h : IsRows F w a0 cap L) (n : Nat) : IsRows F w a0 cap (L.take n) := by
  obtain ⟨h1, h2, h3, h4⟩ := h
  refine ⟨by simp; omega, h2, h3, fun hne => ?_⟩
  obtain ⟨b, off, e, hc⟩ := h4 (by intro e; subst e; simp at hne)
  refine ⟨b, off, e, fun j u hu => hc j u ?_⟩
  have e2 : F.cells L = F.cells (L.take n) ++ F.cells (L.drop n) := by rw [← F.cells_append, List.take_append_drop]
  rw [e2, List.getElem?_append_left (List.getElem?_eq_some_iff.1 hu).1]; exact hu

/-- one of the call's own -/
def OwnsR (F : Frm α) (t : TypeId) (w : World) (base : Nat) (v : Value) (L : List α) : Prop := w.ownsRow base t F.k v L.length (F.cells L)
section
variable {F : Frm α} {t : TypeId} {w w' : World} {base : Nat} {v : Value} {L : List α}
theorem OwnsR.rows (h : OwnsR F t w base v L) : ∃ a0 cap, v = .slice a0 L.length cap ∧ IsRows F w a0 cap L := by
  have h' := h
  obtain ⟨_, ⟨rfl, hn⟩ | ⟨g, cap, cur, rfl, hg, hh, hn, hm, _⟩⟩ := h
  · have : L = [] := List.eq_nil_of_length_eq_zero hn
    subst this
    exact ⟨none, 0, rfl, IsRows.nil F w⟩
  · refine ⟨_, cap, rfl, hn, hm, (fun e => by cases e), (fun _ => ⟨g, 0, rfl, fun j u hu => ?_⟩)⟩
    have := World.ownsRow.cells h' (g := g) rfl j u hu
    rw [add_mk] at this; exact this
theorem OwnsR.rowsOf {a0 : Option Addr} {cap n : Nat} (h : OwnsR F t w base (.slice a0 n cap) L) : IsRows F w a0 cap L := by
  obtain ⟨a1, c1, e, hs⟩ := h.rows
  injection e with e1 _ e2
  subst e1; subst e2; exact hs
theorem OwnsR.keep (h : OwnsR F t w base v L) (hb : ∀ k, k < w.heap.size → w'.heap[k]? = w.heap[k]?) : OwnsR F t w' base v L := by
  obtain ⟨h1, h2 | ⟨g, cap, cur, hv, hg, hc, r⟩⟩ := h
  · exact ⟨h1, Or.inl h2⟩
  · refine ⟨h1, Or.inr ⟨g, cap, cur, hv, hg, ?_, r⟩⟩
    rw [hb g (Array.getElem?_eq_some_iff.1 hc).1]; exact hc
theorem OwnsR.below (h : OwnsR F t w base v L) (hb : Below w.heap.size w w') : OwnsR F t w' base v L := h.keep fun k hk => hb.block k hk
theorem OwnsR.mono {base' : Nat} (h : OwnsR F t w base v L) (hb : base' ≤ base) : OwnsR F t w base' v L := by
  obtain ⟨h1, h2 | ⟨g, cap, cur, hv, hg, r⟩⟩ := h
  · exact ⟨h1, Or.inl h2⟩
  · exact ⟨h1, Or.inr ⟨g, cap, cur, hv, by omega, r⟩⟩
theorem OwnsR.block (h : OwnsR F t w base v L) : ∀ k, v.ownBlock = some k → base ≤ k := by
  intro k hk
  obtain ⟨_, h | ⟨g, cap, cur, rfl, hb, _⟩⟩ := h
  · rw [h.1] at hk; simp [Value.ownBlock] at hk
  · simp [Value.ownBlock] at hk; omega
theorem OwnsR.nil (F : Frm α) (t : TypeId) (w : World) (base : Nat) : OwnsR F t w base (.slice none 0 0) ([] : List α) := by
  refine ⟨by simp [Frm.cells], Or.inl ⟨rfl, rfl⟩⟩
theorem OwnsR.empty (F : Frm α) (t : TypeId) (w : World) (base : Nat) (hb : base ≤ w.heap.size) : OwnsR F t (w.alloc (.cells #[] t)) base (.slice (some ⟨w.heap.size, 0, none⟩) 0 0) ([] : List α) := by
  refine ⟨by simp [Frm.cells], Or.inr ⟨w.heap.size, 0, #[], rfl, hb, ?_, by simp, by simp, by simp, by simp [Frm.cells]⟩⟩
  show (w.heap.push _)[w.heap.size]? = _
  simp
theorem OwnsR.append {X : List α} {x : α} (hO : w'.ownsRow base t F.k v (X.length + 1) (F.cells X ++ F.enc x)) : OwnsR F t w' base v (X ++ [x]) := by
  unfold OwnsR
  rw [F.cells_append, List.length_append, show F.cells [x] = F.enc x from by simp [Frm.cells]]; exact hO
theorem OwnsR.of_row {n : Nat} {xs : List Value} (h : w.ownsRow base t F.k v n xs) (hn : n = L.length) (hx : xs = F.cells L) : OwnsR F t w base v L := by
  subst hn; subst hx; exact h
theorem OwnsR.keptR {r : Nat} (h : OwnsR F t w base v L) (hg : w.grownBy w' (some r)) (hr : r < base) : OwnsR F t w' base v L := by
  refine World.ownsRow.kept h hg ?_
  cases hv : v.ownBlock with
  | none => exact Or.inl rfl
  | some g =>
    right
    have := OwnsR.block h g hv
    intro e; have := Option.some.inj e; omega
end
theorem cell_two_new (w : World) (x y : Value) (t : TypeId) : ∀ (j : Nat) (u : Value), [x, y][j]? = some u → (w.alloc (.cells #[x, y] t)).cell? ((⟨w.heap.size, 0, none⟩ : Addr).add j) = some u := by
  intro j u hu
  have hb : (w.alloc (.cells #[x, y] t)).heap[w.heap.size]? = some (.cells #[x, y] t) := by show (w.heap.push _)[w.heap.size]? = _; simp
  rw [add_mk, Nat.zero_add]
  unfold World.cell?
  dsimp only
  rw [hb]
  simpa using hu
end Go.Proofs.YtboncolbijicfaaGreatDoor.RR
