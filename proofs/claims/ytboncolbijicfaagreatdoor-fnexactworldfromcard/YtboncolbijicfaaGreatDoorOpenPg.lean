/- A slice of Pages that came in. -/
import Derived.Test.YtboncolbijicfaaGreatDoorRowPg
import Derived.Deep.SlicePairs
import Derived.ProofKit
import Derived.OpenShut
namespace Go.Proofs.YtboncolbijicfaaGreatDoor.OpPg
open Go.ChangeShapes Go.WideShapes Go.RowKit Go.Deep Go.Proofs.YtboncolbijicfaaGreatDoor.St Go.Proofs.YtboncolbijicfaaGreatDoor.RR Go.Proofs.YtboncolbijicfaaGreatDoor.RoPg

section
variable {H : Type} {enc : TypeId × Value → H} {P : Program} {w : World} {base : Nat} {spare : Nat → Bool} {held : Bool}
theorem open_slice_fields {t e : TypeId} {f0 f1 f2 f3 : Field} {fuel : Nat} {cs : List Value} {x : DataW H × List MemPlace} (ht : P.underlying t = some (.slice e)) (he : P.underlying e = some (.struct #[f0, f1, f2, f3]))
    (ce : P.cellsOf e = 4) (o0 : f0.offset = 0) (o1 : f1.offset = 1) (o2 : f2.offset = 2) (o3 : f3.offset = 3) (c0 : P.cellsOf f0.type = 1) (c1 : P.cellsOf f1.type = 1) (c2 : P.cellsOf f2.type = 1) (c3 : P.cellsOf f3.type = 1)
    (h : DataW.trod enc P w base spare held fuel t cs = some x) :
    cs = [.slice none 0 0] ∨
    ∃ (a : Addr) (len cap m n : Nat), cs = [.slice (some a) len cap] ∧ len ≤ cap ∧ cap ≤ maxLen ∧ m = (if spare a.block then cap else len) ∧
      ∀ i, i < m → ∃ v0 v1 v2 v3, w.cell? (a.add (i * 4)) = some v0 ∧ w.cell? (a.add (i * 4 + 1)) = some v1 ∧ w.cell? (a.add (i * 4 + 2)) = some v2 ∧ w.cell? (a.add (i * 4 + 3)) = some v3 ∧
        (∃ y, DataW.trod enc P w base spare held n f0.type [v0] = some y) ∧ (∃ y, DataW.trod enc P w base spare held n f1.type [v1] = some y) ∧ (∃ y, DataW.trod enc P w base spare held n f2.type [v2] = some y) ∧ (∃ y, DataW.trod enc P w base spare held n f3.type [v3] = some y) := by
  rcases open_slice ht h with h0 | ⟨a, len, cap, m, n, D, Pl, rfl, hb, hl, hm, hmm, rfl, hx⟩
  · exact Or.inl h0.1
  right
  refine ⟨a, len, cap, m, n - 1, rfl, hl, hm, hmm, fun i hi => ?_⟩
  obtain ⟨cs', h1, h2⟩ := hx i hi
  rw [ce] at h1
  obtain ⟨_, hlen, hcell⟩ := World.cells?_some h1
  obtain ⟨xs, k, hk, hxy, _, hxl, hf⟩ := DataW.trod_struct he h2
  have hk' : k = n - 1 := by omega
  subst hk'
  match xs, hxl, cs', hlen with
  | [y0, y1, y2, y3], _, [v0, v1, v2, v3], _ =>
    have g0 := hf 0 f0 rfl
    have g1 := hf 1 f1 rfl
    have g2 := hf 2 f2 rfl
    have g3 := hf 3 f3 rfl
    simp [o0, o1, o2, o3, c0, c1, c2, c3] at g0 g1 g2 g3
    have e0 := hcell 0 (by omega)
    have e1 := hcell 1 (by omega)
    have e2 := hcell 2 (by omega)
    have e3 := hcell 3 (by omega)
    rw [add_add] at e0 e1 e2 e3
    exact ⟨v0, v1, v2, v3, by simpa using e0, by simpa using e1, by simpa using e2, by simpa using e3, ⟨_, g0⟩, ⟨_, g1⟩, ⟨_, g2⟩, ⟨_, g3⟩⟩
end

theorem open_pgs {H : Type} {enc : TypeId × Value → H} {W : World} {fuel : Nat} {a0 : Option Addr} {len cap : Nat} {x : DataW H × List MemPlace} (h : DataW.trod enc Tryz.prog W 0 (fun _ => true) true fuel 22 [.slice a0 len cap] = some x) :
    ∃ L : List Pg, len = L.length ∧ IsRows FPg W a0 cap L ∧ ∀ g ∈ L, PgIn g := by
  rcases open_slice_fields Tryz.underlying22 Tryz.underlying61 (by kernel_rfl) rfl rfl rfl rfl (by kernel_rfl) (by kernel_rfl) (by kernel_rfl) (by kernel_rfl) h with hcs | ⟨a, l, c, m, n, hcs, hl, hm, hmm, hx⟩
  · injection hcs with hcs
    injection hcs with e1 e2 e3
    subst e1; subst e2; subst e3
    exact ⟨[], rfl, IsRows.nil _ _, fun g hg => by cases hg⟩
  · injection hcs with hcs
    injection hcs with e1 e2 e3
    subst e1; subst e2; subst e3
    have hmc : m = cap := by simpa using hmm
    subst hmc
    have each : ∀ i, i < m → ∃ g : Pg, W.cell? (a.add (i * 4)) = some (.string g.addr) ∧ W.cell? (a.add (i * 4 + 1)) = some (.string g.text) ∧ W.cell? (a.add (i * 4 + 2)) = some (.string g.lead) ∧ W.cell? (a.add (i * 4 + 3)) = some (.int .i64 g.fails) ∧ PgIn g := by
      intro i hi
      obtain ⟨v0, v1, v2, v3, k0, k1, k2, k3, ⟨_, t0⟩, ⟨_, t1⟩, ⟨_, t2⟩, ⟨_, t3⟩⟩ := hx i hi
      obtain ⟨x0, e0, _, z0⟩ := DataW.trod_string Tryz.underlying9 t0
      injection e0 with e0
      obtain ⟨x1, e1, _, z1⟩ := DataW.trod_string Tryz.underlying9 t1
      injection e1 with e1
      obtain ⟨x2, e2, _, z2⟩ := DataW.trod_string Tryz.underlying9 t2
      injection e2 with e2
      obtain ⟨x3, e3, _, z3⟩ := DataW.trod_int Tryz.underlying3 t3
      injection e3 with e3
      exact ⟨⟨x0, x1, x2, x3⟩, by rw [← e0]; exact k0, by rw [← e1]; exact k1, by rw [← e2]; exact k2, by rw [← e3]; exact k3, z0, z1, z2, z3⟩
    haveI : Inhabited Pg := ⟨⟨⟨#[]⟩, ⟨#[]⟩, ⟨#[]⟩, 0⟩⟩
    obtain ⟨q, hq⟩ := choose_lt each
    refine ⟨(List.range len).map q, by simp, ⟨by simp; exact hl, hm, (fun e => by cases e), fun hne => ?_⟩, ?_⟩
    · have h0 : 0 < len := by
        rcases Nat.eq_zero_or_pos len with h | h
        · subst h; simp at hne
        · exact h
      obtain ⟨hc0, _⟩ := hq 0 (by omega)
      have hspot : a.spot = none := by simpa [Addr.add] using World.cell?_spot hc0
      obtain ⟨b, off, spot⟩ := a
      simp at hspot; subst hspot
      refine ⟨b, off, rfl, fun j u hu => ?_⟩
      have hj : j < len * 4 := by
        have := (List.getElem?_eq_some_iff.1 hu).1
        rw [FPg.cells_len] at this
        simp at this
        exact this
      have h2 : j = j / 4 * FPg.k + j % 4 := by show j = j / 4 * 4 + j % 4; omega
      have h3 : j / 4 < ((List.range len).map q).length := by simp; omega
      have h4 := FPg.cells_at _ (j / 4) h3 (j % 4) (Nat.mod_lt _ (by decide))
      rw [← h2, hu] at h4
      simp only [List.getElem_map, List.getElem_range] at h4
      obtain ⟨k0, k1, k2, k3, _⟩ := hq (j / 4) (by omega)
      rw [add_mk] at k0 k1 k2 k3
      have h5 : j % 4 = 0 ∨ j % 4 = 1 ∨ j % 4 = 2 ∨ j % 4 = 3 := by omega
      rcases h5 with h | h | h | h
      · rw [h] at h4
        rw [Option.some.inj h4, ← k0]
        congr 2; omega
      · rw [h] at h4
        rw [Option.some.inj h4, ← k1]
        congr 2; omega
      · rw [h] at h4
        rw [Option.some.inj h4, ← k2]
        congr 2; omega
      · rw [h] at h4
        rw [Option.some.inj h4, ← k3]
        congr 2; omega
    · intro g hg
      obtain ⟨i, hi, rfl⟩ := List.mem_map.1 hg
      exact (hq i (by have := List.mem_range.1 hi; omega)).2.2.2.2
end Go.Proofs.YtboncolbijicfaaGreatDoor.OpPg
