/- Rules are drawn. -/
import Derived.Test.YtiennniclkbjlaaGreatDoorStrsPk
import Derived.Test.YtiennniclkbjlaaGreatDoorLetsMath
namespace Go.Proofs.YtiennniclkbjlaaGreatDoor.Dr
open Go.RowKit Go.Proofs.YtiennniclkbjlaaGreatDoor.St Go.Proofs.YtiennniclkbjlaaGreatDoor.RR Go.Proofs.YtiennniclkbjlaaGreatDoor.LetM

theorem Tryz.infoRu : (Tryz.prog.info? 135).map (fun i => (i.zero, i.size, i.bytes)) = some (some (.agg #[.bool false, .string ⟨#[]⟩]), 2, 24) := by kernel_rfl
theorem info_rule : ∃ i, Tryz.prog.info? 135 = some i ∧ i.zero = some (.agg #[.bool false, .string ⟨#[]⟩]) ∧ i.size = 2 ∧ i.bytes = 24 := by
  have h := Tryz.infoRu
  cases hi : Tryz.prog.info? 135 with
  | none => rw [hi] at h; cases h
  | some i =>
    rw [hi] at h
    have := Option.some.inj h
    simp only [Prod.mk.injEq] at this
    exact ⟨i, rfl, this.1, this.2.1, this.2.2⟩

set_option maxRecDepth 100000 in
set_option maxHeartbeats 3200000 in
theorem rules_any (B r q : Nat) (w : World) (h : IsRd B w r q) (hq : q ≤ 9000) :
    Calls Tryz.prog 121 #[.pointer (some ⟨r, 0, none⟩)] w fun e w' => ∃ (L : List Ru) (a1 : Option Addr) (c1 : Nat), e = .returned (.slice a1 L.length c1) ∧ OwnsR FRu 135 w' w.heap.size (.slice a1 L.length c1) L ∧ L.length ≤ 4 ∧ (∀ x ∈ L, x.path.size ≤ 16) ∧ IsRd B w' r (q + 9) ∧ w.grownBy w' (some r) := by
  obtain ⟨i0, hi, hz0, hz1, hz2⟩ := info_rule
  have hle := h.le
  have HR0 : Hid (IsRd B w r q) := h
  clear h
  go_enter Tryz.func121, Tryz.ntmps121
  go_wp2_with fail
  refine (pick_any B r q 5 _ (HR0.out.alloc _) (by omega) (by omega) (by omega)).mono ?_
  rintro e w1 ⟨n0, rfl, hn0, hr1, hg1⟩
  have HO1 : Hid (OwnsR FRu 135 w1 w.heap.size (.slice (some ⟨w.heap.size, 0, none⟩) 0 0) []) := (OwnsR.empty FRu 135 w w.heap.size (Nat.le_refl _)).keptR hg1 hle.2
  have HR1 : Hid (IsRd B w1 r (q + 1)) := hr1
  have HG1 : Hid (w.grownBy w1 (some r)) := grown_trans (grown_alloc _ _ _) hg1
  have hw1 : w.heap.size < w1.heap.size := by have := hg1.size; simp at this; omega
  clear hr1 hg1
  go_wp2
  go_loopw [3, 4] (fun v i wr => ∃ (k : Nat) (L : List Ru), k ≤ 4 ∧ i = .int .i64 (k : Int) ∧ L.length + k ≤ 4 ∧ Hid (∀ x ∈ L, x.path.size ≤ 16) ∧ Hid (OwnsR FRu 135 wr w.heap.size v L) ∧ Hid (IsRd B wr r (q + 9 - 2 * k)) ∧ Hid (w.grownBy wr (some r)) ∧ w.heap.size < wr.heap.size) (fun _ i _ => (intOf i).toNat)
  case atStart => exact ⟨n0, [], by omega, rfl, by simp; omega, (fun x hx => by cases hx), HO1, HR1.out.mono (by omega), HG1, hw1⟩
  case round =>
    obtain ⟨k, L, hk, rfl, hLk, HL, HO, HR, HG, hwr⟩ := hrel
    by_cases hlt : 0 < k
    · go_wp2_with fail
      refine (pick_any B r (q + 9 - 2 * k) 2 _ HR.out (by omega) (by omega) (by omega)).mono ?_
      rintro e w2 ⟨x, rfl, hx, hr2, hg2⟩
      have HO2 : Hid (OwnsR FRu 135 w2 w.heap.size u3 L) := HO.out.keptR hg2 hle.2
      have HR2 : Hid (IsRd B w2 r (q + 9 - 2 * k + 1)) := hr2
      have HG2 : Hid (w.grownBy w2 (some r)) := grown_trans HG.out hg2
      have hw2 : w.heap.size < w2.heap.size := by have := hg2.size; omega
      clear hr2 hg2
      go_wp2_with fail
      refine (rule_any B r (q + 9 - 2 * k + 1) _ HR2.out (by omega)).mono ?_
      rintro e w3 ⟨s, rfl, hs, hr3, hg3⟩
      have HO3 : Hid (OwnsR FRu 135 w3 w.heap.size u3 L) := HO2.out.keptR hg3 hle.2
      have HR3 : Hid (IsRd B w3 r (q + 9 - 2 * k + 2)) := hr3
      have HG3 : Hid (w.grownBy w3 (some r)) := grown_trans HG2.out hg3
      have hw3 : w.heap.size < w3.heap.size := by have := hg3.size; omega
      clear hr3 hg3
      generalize ((x : Int) == 0) = b at *
      go_wp2_with (at_builtin; refine wpList_append_own _ rfl _ _ 33 rfl w.heap.size 135 i0 (.agg #[.bool false, .string ⟨#[]⟩]) 2 24 Tryz.underlying33 hi hz0 hz1 hz2 rfl (by decide) _ _ _ rfl (World.ownsRow.alloc HO3.out _) ⟨w3.heap.size, 0, none⟩ 1 1 [.bool b, .string s] rfl rfl (cell_two_new _ _ _ _) ?c2 ?c3 ?c4 ?c5 ?_)
      case c2 => exact FRu.one ⟨b, s⟩
      case c3 => unfold maxLen; omega
      case c4 => omega
      case c5 => simp; omega
      intro v' w4 hown' hgrow _
      have HO' : Hid (OwnsR FRu 135 w4 w.heap.size v' (L ++ [⟨b, s⟩])) := by
        show OwnsR _ _ _ _ _ _
        exact OwnsR.append (F := FRu) (x := (⟨b, s⟩ : Ru)) hown'
      have hgA : w3.grownBy w4 u3.ownBlock := grown_trans (grown_alloc w3 _ _) hgrow
      have HR4 : Hid (IsRd B w4 r (q + 9 - 2 * k + 2)) := HR3.out.grownRow (base := w.heap.size) hgA (by omega) (OwnsR.block HO3.out)
      have HG4 : Hid (w.grownBy w4 (some r)) := grown_past HG3.out hgA (fun k hk => by have := OwnsR.block HO3.out k hk; omega)
      have hw4 : w.heap.size < w4.heap.size := by have := hgA.size; omega
      have HL4 : Hid (∀ y ∈ L ++ [(⟨b, s⟩ : Ru)], y.path.size ≤ 16) := by
        intro y hy
        rcases List.mem_append.1 hy with hy | hy
        · exact HL.out y hy
        · simp at hy; subst hy; exact hs
      clear hown' hgrow hgA
      go_wp2
      go_roundw
      case rel => exact ⟨k - 1, L ++ [(⟨b, s⟩ : Ru)], by omega, by go_num, by simp; omega, HL4, HO', HR4.out.mono (by omega), HG4, hw4⟩
      case measure => simp [intOf]; omega
    · go_wp2
      go_ret
      obtain ⟨a1, c1, hv, _⟩ := HO.out.rows
      subst hv
      exact ⟨L, a1, c1, rfl, HO.out, by omega, HL.out, HR.out.mono (by omega), HG.out⟩

end Go.Proofs.YtiennniclkbjlaaGreatDoor.Dr
