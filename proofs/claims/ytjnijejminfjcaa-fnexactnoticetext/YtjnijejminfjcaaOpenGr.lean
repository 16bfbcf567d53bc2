/- A slice of groups that came in: each with its names, its rules and its Wait. -/
import Derived.Test.YtjnijejminfjcaaGrpMath
import Derived.Test.YtjnijejminfjcaaOpenRu
import Derived.Deep.SlicePairs
import Derived.ProofKit
import Derived.OpenShut
namespace Go.Proofs.Ytjnijejminfjcaa.OpG
open Go.ChangeShapes Go.WideShapes Go.RowKit Go.Deep Go.Proofs.Ytjnijejminfjcaa.St Go.Proofs.Ytjnijejminfjcaa.RR Go.Proofs.Ytjnijejminfjcaa.LetM Go.Proofs.Ytjnijejminfjcaa.GrM

section
variable {H : Type} {enc : TypeId × Value → H} {P : Program} {w : World} {base : Nat} {spare : Nat → Bool} {held : Bool}
/-- a slice whose elements are structs of three fields of one cell each -/
theorem open_slice_three {t e : TypeId} {f0 f1 f2 : Field} {fuel : Nat} {cs : List Value} {x : DataW H × List MemPlace} (ht : P.underlying t = some (.slice e)) (he : P.underlying e = some (.struct #[f0, f1, f2]))
    (ce : P.cellsOf e = 3) (o0 : f0.offset = 0) (o1 : f1.offset = 1) (o2 : f2.offset = 2) (c0 : P.cellsOf f0.type = 1) (c1 : P.cellsOf f1.type = 1) (c2 : P.cellsOf f2.type = 1)
    (h : DataW.trod enc P w base spare held fuel t cs = some x) :
    cs = [.slice none 0 0] ∨
    ∃ (a : Addr) (len cap m n : Nat), cs = [.slice (some a) len cap] ∧ len ≤ cap ∧ cap ≤ maxLen ∧ m = (if spare a.block then cap else len) ∧
      ∀ i, i < m → ∃ v0 v1 v2, w.cell? (a.add (i * 3)) = some v0 ∧ w.cell? (a.add (i * 3 + 1)) = some v1 ∧ w.cell? (a.add (i * 3 + 2)) = some v2 ∧
        (∃ y, DataW.trod enc P w base spare held n f0.type [v0] = some y) ∧ (∃ y, DataW.trod enc P w base spare held n f1.type [v1] = some y) ∧ ∃ y, DataW.trod enc P w base spare held n f2.type [v2] = some y := by
  rcases open_slice ht h with h0 | ⟨a, len, cap, m, n, D, Pl, rfl, hb, hl, hm, hmm, rfl, hx⟩
  · exact Or.inl h0.1
  right
  refine ⟨a, len, cap, m, n - 1, rfl, hl, hm, hmm, fun i hi => ?_⟩
  obtain ⟨cs', h1, h2⟩ := hx i hi
  rw [ce] at h1
  obtain ⟨_, hlen, hcell⟩ := World.cells?_some h1
  obtain ⟨xs, k, hk, hxy, _, hxl, hf⟩ := DataW.trod_struct he h2
  have hk' : k = n - 1 := by omega
  subst hk'
  match xs, hxl, cs', hlen with
  | [y0, y1, y2], _, [v0, v1, v2], _ =>
    have g0 := hf 0 f0 rfl
    have g1 := hf 1 f1 rfl
    have g2 := hf 2 f2 rfl
    simp [o0, o1, o2, c0, c1, c2] at g0 g1 g2
    have e0 := hcell 0 (by omega)
    have e1 := hcell 1 (by omega)
    have e2 := hcell 2 (by omega)
    rw [add_add] at e0 e1 e2
    exact ⟨v0, v1, v2, by simpa using e0, by simpa using e1, by simpa using e2, ⟨_, g0⟩, ⟨_, g1⟩, ⟨_, g2⟩⟩
end

/-- one group, from its three cells -/
def GrIs (W : World) (v0 v1 v2 : Value) (g : Gr) : Prop :=
  v0 = .slice g.na g.nm.length g.nc ∧ v1 = .slice g.ra g.ru.length g.rc ∧ v2 = .int .i64 g.wait ∧ GrAt W g ∧ (∀ s ∈ g.nm, s.size ≤ maxLen) ∧ (∀ r ∈ g.ru, r.path.size ≤ maxLen) ∧ (Lit.int .i64 g.wait).wf = true

theorem open_names {H : Type} {enc : TypeId × Value → H} {W : World} {n : Nat} {v : Value} {y : DataW H × List MemPlace} (h : DataW.trod enc Try.prog W 0 (fun _ => true) true n 31 [v] = some y) :
    ∃ (a : Option Addr) (c : Nat) (L : List ByteArray), v = .slice a L.length c ∧ IsStrs W a c L ∧ ∀ s ∈ L, s.size ≤ maxLen := by
  rcases open_strings Try.underlying31 Try.underlying9 (by kernel_rfl) h with ⟨hcs, _⟩ | ⟨x, l, c, ss, hcs, _, hl, hm, hz, _, hcell, hws⟩
  · injection hcs with hcs
    exact ⟨none, 0, [], hcs, ⟨by simp, by simp, fun _ => rfl, fun h => absurd rfl h⟩, by simp⟩
  · injection hcs with hcs
    obtain ⟨L, hL, hI, hs⟩ := St.open_strs hl hm (by simpa using hz) hcell hws
    subst hL
    exact ⟨some x, c, L, hcs, hI, hs⟩
theorem open_rus {H : Type} {enc : TypeId × Value → H} {W : World} {n : Nat} {v : Value} {y : DataW H × List MemPlace} (h : DataW.trod enc Try.prog W 0 (fun _ => true) true n 32 [v] = some y) :
    ∃ (a : Option Addr) (c : Nat) (L : List Ru), v = .slice a L.length c ∧ IsRows FRu W a c L ∧ ∀ r ∈ L, r.path.size ≤ maxLen := by
  rcases Deep.open_slice_pairs Try.underlying32 Try.underlying76 (by kernel_rfl) rfl rfl (by kernel_rfl) (by kernel_rfl) h with ⟨hcs, _⟩ | ⟨x, l, c, m, n, V0, V1, D0, D1, P0, P1, hcs, _, hl, hm, hmm, _, hx⟩
  · injection hcs with hcs
    exact ⟨none, 0, [], hcs, IsRows.nil _ _, by simp⟩
  · injection hcs with hcs
    simp at hmm
    subst hmm
    obtain ⟨L, hL, hI, hs⟩ := OpR.open_rules hl hm (V0 := V0) (V1 := V1) fun i hi => by
      obtain ⟨x0, x1, x2, x3⟩ := hx i hi
      refine ⟨x0, x1, ?_, ?_⟩
      · obtain ⟨b, hb, _⟩ := DataW.trod_bool Try.underlying4 x2
        exact ⟨b, by simpa using hb⟩
      · obtain ⟨s, hs, hs2⟩ := DataW.trod_string Try.underlying9 x3
        first
        | exact ⟨s, by simpa using hs, by simpa using hs2⟩
        | exact ⟨s, by simpa using hs, by simpa using hs2.1⟩
        | exact ⟨s, by simpa using hs, by simpa using hs2.2⟩
    subst hL
    exact ⟨some x, _, L, hcs, hI, hs⟩
theorem open_group {H : Type} {enc : TypeId × Value → H} {W : World} {n : Nat} {v0 v1 v2 : Value} (h0 : ∃ y, DataW.trod enc Try.prog W 0 (fun _ => true) true n 31 [v0] = some y) (h1 : ∃ y, DataW.trod enc Try.prog W 0 (fun _ => true) true n 32 [v1] = some y) (h2 : ∃ y, DataW.trod enc Try.prog W 0 (fun _ => true) true n 3 [v2] = some y) :
    ∃ g : Gr, GrIs W v0 v1 v2 g := by
  obtain ⟨_, h0⟩ := h0
  obtain ⟨_, h1⟩ := h1
  obtain ⟨_, h2⟩ := h2
  obtain ⟨na, nc, nm, e0, i0, s0⟩ := open_names h0
  obtain ⟨ra, rc, ru, e1, i1, s1⟩ := open_rus h1
  obtain ⟨k, e2, _, hk⟩ := DataW.trod_int Try.underlying3 h2
  injection e2 with e2
  exact ⟨⟨nm, na, nc, ru, ra, rc, k⟩, e0, e1, e2, ⟨i0, i1⟩, s0, s1, hk⟩

/-- ALL GROUPS THAT CAME IN -/
theorem open_groups {H : Type} {enc : TypeId × Value → H} {W : World} {fuel : Nat} {a0 : Option Addr} {len cap : Nat} {x : DataW H × List MemPlace} (h : DataW.trod enc Try.prog W 0 (fun _ => true) true fuel 22 [.slice a0 len cap] = some x) :
    ∃ L : List Gr, len = L.length ∧ IsRows FGr W a0 cap L ∧ GrsAt W L ∧ ∀ g ∈ L, (∀ s ∈ g.nm, s.size ≤ maxLen) ∧ (∀ r ∈ g.ru, r.path.size ≤ maxLen) ∧ (Lit.int .i64 g.wait).wf = true := by
  rcases open_slice_three Try.underlying22 Try.underlying34 (by kernel_rfl) rfl rfl rfl (by kernel_rfl) (by kernel_rfl) (by kernel_rfl) h with hcs | ⟨a, l, c, m, n, hcs, hl, hm, hmm, hx⟩
  · injection hcs with hcs
    injection hcs with e1 e2 e3
    subst e1; subst e2; subst e3
    exact ⟨[], rfl, IsRows.nil _ _, (fun g hg => by cases hg), fun g hg => by cases hg⟩
  · injection hcs with hcs
    injection hcs with e1 e2 e3
    subst e1; subst e2; subst e3
    have hmc : m = cap := by simpa using hmm
    subst hmc
    have each : ∀ i, i < m → ∃ g : Gr, W.cell? (a.add (i * 3)) = some (.slice g.na g.nm.length g.nc) ∧ W.cell? (a.add (i * 3 + 1)) = some (.slice g.ra g.ru.length g.rc) ∧ W.cell? (a.add (i * 3 + 2)) = some (.int .i64 g.wait) ∧ GrAt W g ∧ (∀ s ∈ g.nm, s.size ≤ maxLen) ∧ (∀ r ∈ g.ru, r.path.size ≤ maxLen) ∧ (Lit.int .i64 g.wait).wf = true := by
      intro i hi
      obtain ⟨v0, v1, v2, k0, k1, k2, t0, t1, t2⟩ := hx i hi
      obtain ⟨g, e0, e1, e2, hrest⟩ := open_group t0 t1 t2
      exact ⟨g, by rw [← e0]; exact k0, by rw [← e1]; exact k1, by rw [← e2]; exact k2, hrest⟩
    haveI : Inhabited Gr := ⟨⟨[], none, 0, [], none, 0, 0⟩⟩
    obtain ⟨q, hq⟩ := choose_lt each
    refine ⟨(List.range len).map q, by simp, ⟨by simp; exact hl, hm, (fun e => by cases e), fun hne => ?_⟩, ?_, ?_⟩
    · have h0 : 0 < len := by
        rcases Nat.eq_zero_or_pos len with h | h
        · subst h; simp at hne
        · exact h
      obtain ⟨hc0, _⟩ := hq 0 (by omega)
      have hspot : a.spot = none := by simpa [Addr.add] using World.cell?_spot hc0
      obtain ⟨b, off, spot⟩ := a
      simp at hspot; subst hspot
      refine ⟨b, off, rfl, fun j u hu => ?_⟩
      have hj : j < len * 3 := by
        have := (List.getElem?_eq_some_iff.1 hu).1
        rw [FGr.cells_len] at this
        simp at this
        exact this
      have h2 : j = j / 3 * FGr.k + j % 3 := by show j = j / 3 * 3 + j % 3; omega
      have h3 : j / 3 < ((List.range len).map q).length := by simp; omega
      have h4 := FGr.cells_at _ (j / 3) h3 (j % 3) (Nat.mod_lt _ (by decide))
      rw [← h2, hu] at h4
      simp only [List.getElem_map, List.getElem_range] at h4
      obtain ⟨k0, k1, k2, _⟩ := hq (j / 3) (by omega)
      rw [add_mk] at k0 k1 k2
      have h5 : j % 3 = 0 ∨ j % 3 = 1 ∨ j % 3 = 2 := by omega
      rcases h5 with h | h | h
      · rw [h] at h4
        rw [Option.some.inj h4, ← k0]
        congr 2; omega
      · rw [h] at h4
        rw [Option.some.inj h4, ← k1]
        congr 2; omega
      · rw [h] at h4
        rw [Option.some.inj h4, ← k2]
        congr 2; omega
    · intro g hg
      obtain ⟨i, hi, rfl⟩ := List.mem_map.1 hg
      exact (hq i (by have := List.mem_range.1 hi; omega)).2.2.2.1
    · intro g hg
      obtain ⟨i, hi, rfl⟩ := List.mem_map.1 hg
      exact (hq i (by have := List.mem_range.1 hi; omega)).2.2.2.2
end Go.Proofs.Ytjnijejminfjcaa.OpG
