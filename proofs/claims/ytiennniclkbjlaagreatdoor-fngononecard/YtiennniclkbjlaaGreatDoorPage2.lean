/- The program's marks of a page. -/
import Derived.Test.YtiennniclkbjlaaGreatDoorDraw5Pk
import Derived.Laws.EntriesVeiled
namespace Go.Proofs.YtiennniclkbjlaaGreatDoor.Pg
open Go.RowKit Go.Proofs.YtiennniclkbjlaaGreatDoor.EscM Go.Proofs.YtiennniclkbjlaaGreatDoor.EscL Go.Proofs.YtiennniclkbjlaaGreatDoor.ReadM Go.Proofs.YtiennniclkbjlaaGreatDoor.St Go.Proofs.YtiennniclkbjlaaGreatDoor.PgM Go.Proofs.YtiennniclkbjlaaGreatDoor.Dr

theorem WalkAt.heapEq {w w' : World} {base p : Nat} {m : List UInt8} {M : List ByteArray} {v : Value} (h : WalkAt w base p m M v) (e : w'.heap = w.heap) : WalkAt w' base p m M v := by
  obtain ⟨am, cm, ax, cs, rfl, hm, hs⟩ := h
  exact ⟨am, cm, ax, cs, rfl, hm.keep (fun k _ => by rw [e]), Owns.keep hs (fun k _ => by rw [e])⟩
/-- where a page's walk stands behind k bytes -/
structure WalkIn (s : ByteArray) (w wr : World) (k : Nat) (p : Nat) (m : List UInt8) (M : List ByteArray) (am : Option Addr) (cm : Nat) (ax : Option Addr) (cs : Nat) : Prop where
  box : Box3 wr (w.heap.size + 1) (.int .i64 (p : Int)) (.slice am m.length cm) (.slice ax M.length cs)
  steps : wr.heap[w.heap.size]? = some (.cells #[.func (.func 206) #[] #[], .func (.func 207) #[] #[], .func (.func 208) #[] #[]] 239 (0, 0))
  mark : OwnsB wr (w.heap.size + 2) (.slice am m.length cm) m
  marks : Owns wr (w.heap.size + 2) (.slice ax M.length cs) M
  low : Below w.heap.size w wr
  size : w.heap.size + 2 ≤ wr.heap.size
  ml : m.length ≤ k
  Ml : M.length ≤ k
  goes : mk 0 [] s.data.toList = M ++ mk p m (s.data.toList.drop k)
theorem WalkIn.at {s : ByteArray} {w wr : World} {k p : Nat} {m : List UInt8} {M : List ByteArray} {am : Option Addr} {cm : Nat} {ax : Option Addr} {cs : Nat} (h : WalkIn s w wr k p m M am cm ax cs) : WalkAt wr (w.heap.size + 2) p m M (.agg #[.int .i64 (p : Int), .slice am m.length cm, .slice ax M.length cs]) := ⟨am, cm, ax, cs, rfl, h.mark, h.marks⟩
theorem WalkIn.funcs {s : ByteArray} {w wr : World} {k p : Nat} {m : List UInt8} {M : List ByteArray} {am : Option Addr} {cm : Nat} {ax : Option Addr} {cs : Nat} (h : WalkIn s w wr k p m M am cm ax cs) :
    wr.cell? ⟨w.heap.size, 0, none⟩ = some (.func (.func 206) #[] #[]) ∧ wr.cell? ⟨w.heap.size, 1, none⟩ = some (.func (.func 207) #[] #[]) ∧ wr.cell? ⟨w.heap.size, 2, none⟩ = some (.func (.func 208) #[] #[]) := by
  have := h.steps
  exact ⟨by simp [World.cell?, this], by simp [World.cell?, this], by simp [World.cell?, this]⟩

theorem Box3.set0 {w : World} {G : Nat} {x0 x1 x2 : Value} (h : Box3 w G x0 x1 x2) (y : Value) : Box3 (w.setCell ⟨G, 0, none⟩ y) G y x1 x2 := by
  unfold Box3 at h ⊢
  simp only [World.setCell, Array.getElem?_modify, if_true, h, Option.map_some]
  simp [Array.setIfInBounds]
theorem Box3.set1 {w : World} {G : Nat} {x0 x1 x2 : Value} (h : Box3 w G x0 x1 x2) (y : Value) : Box3 (w.setCell ⟨G, 1, none⟩ y) G x0 y x2 := by
  unfold Box3 at h ⊢
  simp only [World.setCell, Array.getElem?_modify, if_true, h, Option.map_some]
  simp [Array.setIfInBounds]
theorem Box3.set2 {w : World} {G : Nat} {x0 x1 x2 : Value} (h : Box3 w G x0 x1 x2) (y : Value) : Box3 (w.setCell ⟨G, 2, none⟩ y) G x0 x1 y := by
  unfold Box3 at h ⊢
  simp only [World.setCell, Array.getElem?_modify, if_true, h, Option.map_some]
  simp [Array.setIfInBounds]
theorem set_other {w : World} {G g j : Nat} {y : Value} (h : g ≠ G) : (w.setCell ⟨G, j, none⟩ y).heap[g]? = w.heap[g]? := Below.heap_setCell _ _ _ _ h
theorem WalkIn.step {s : ByteArray} {w wr : World} {k p : Nat} {m : List UInt8} {M : List ByteArray} {am : Option Addr} {cm : Nat} {ax : Option Addr} {cs : Nat} (h : WalkIn s w wr k p m M am cm ax cs) (hlt : k < s.size) {v : Value} {w2 : World}
    (hv : WalkAt w2 (w.heap.size + 2) (nextP p (s[k]'hlt)) (nextM p m (s[k]'hlt)) (M ++ outM p m (s[k]'hlt)) v) (hb : Below (w.heap.size + 2) wr w2) :
    ∃ (p2 : Nat) (m2 : List UInt8) (M2 : List ByteArray) (am2 : Option Addr) (cm2 : Nat) (ax2 : Option Addr) (cs2 : Nat), v = .agg #[.int .i64 (p2 : Int), .slice am2 m2.length cm2, .slice ax2 M2.length cs2] ∧ p2 ≤ 2 ∧ Box3 w2 (w.heap.size + 1) (.int .i64 (p : Int)) (.slice am m.length cm) (.slice ax M.length cs) ∧
      WalkIn s w (((w2.setCell ⟨w.heap.size + 1, 0, none⟩ (.int .i64 (p2 : Int))).setCell ⟨w.heap.size + 1, 1, none⟩ (.slice am2 m2.length cm2)).setCell ⟨w.heap.size + 1, 2, none⟩ (.slice ax2 M2.length cs2)) (k + 1) p2 m2 M2 am2 cm2 ax2 cs2 := by
  obtain ⟨am2, cm2, ax2, cs2, rfl, hm, hs⟩ := hv
  have bx := h.box.below hb (show w.heap.size + 1 < w.heap.size + 2 by omega)
  refine ⟨_, _, _, am2, cm2, ax2, cs2, rfl, nextP_le _ _, bx, ?_⟩
  refine ⟨((bx.set0 _).set1 _).set2 _, ?_, ?_, ?_, ?_, ?_, ?_, ?_, ?_⟩
  · rw [set_other (by omega), set_other (by omega), set_other (by omega), hb.block _ (by omega)]; exact h.steps
  · exact ((hm.set bx.is _ _).set (bx.is.set _ _ _) _ _).set ((bx.is.set _ _ _).set _ _ _) _ _
  · exact owns_set (owns_set (owns_set hs bx.is _ _) (bx.is.set _ _ _) _ _) ((bx.is.set _ _ _).set _ _ _) _ _
  · have hlow : Below w.heap.size w w2 := h.low.trans (hb.mono (by omega))
    iterate 3 refine Below.setCell ?_ (by dsimp only; omega) _
    exact hlow
  · have := hb.size; have := h.size; simp [World.setCell]; omega
  · have := nextM_len p m (s[k]'hlt); have := h.ml; omega
  · have h1 := h.Ml
    have h2 : (outM p m (s[k]'hlt)).length ≤ 1 := by unfold outM; split <;> simp
    rw [List.length_append]; omega
  · exact mk_step (by simpa using hlt) (by rfl) h.goes

theorem walk_start (s : ByteArray) (w : World) : WalkIn s w ((w.alloc (.cells #[.func (.func 206) #[] #[], .func (.func 207) #[] #[], .func (.func 208) #[] #[]] 239)).alloc (.cells #[.int .i64 0, .slice none 0 0, .slice none 0 0] 241)) 0 0 [] [] none 0 none 0 := by
  have e : ∀ o, (w.alloc o).heap.size = w.heap.size + 1 := fun o => by simp
  refine ⟨?_, ?_, OwnsB.nil _ _, Owns.nil _ _, ((Below.refl _ _).alloc (Nat.le_refl _) _).alloc (by simp) _, by simp, Nat.le_refl _, Nat.le_refl _, rfl⟩
  · have := heap_new (w.alloc (.cells #[.func (.func 206) #[] #[], .func (.func 207) #[] #[], .func (.func 208) #[] #[]] 239)) (.cells #[.int .i64 0, .slice none 0 0, .slice none 0 0] 241)
    rwa [e] at this
  · rw [alloc_keep _ _ _ (by simp)]; exact heap_new w _

set_option maxRecDepth 100000 in
set_option maxHeartbeats 3200000 in
theorem implMarks_any (s : ByteArray) (w : World) (hs : s.size ≤ maxLen) :
    Calls Tryz.prog 194 #[.string s] w fun e w' => ∃ v, e = .returned v ∧ Owns w' w.heap.size v (marksF s) ∧ Below w.heap.size w w' := by
  unfold maxLen at hs
  by_cases hlong : 300 < s.size
  · have HL : Hid (marksF s = []) := by show _ = _; unfold marksF; rw [if_pos hlong]
    go_enter Tryz.func194, Tryz.ntmps194
    go_wp2
    go_ret
    exact ⟨_, rfl, by rw [HL.out]; exact Owns.nil _ _, Below.refl _ _⟩
  · have HL : Hid (marksF s = mk 0 [] s.data.toList) := by show _ = _; unfold marksF; rw [if_neg hlong]
    go_enter Tryz.func194, Tryz.ntmps194
    go_wp2
    go_loopw [5] (fun i wr => ∃ (k p : Nat) (m : List UInt8) (M : List ByteArray) (am : Option Addr) (cm : Nat) (ax : Option Addr) (cs : Nat), k ≤ s.size ∧ p ≤ 2 ∧ i = .int .i64 (k : Int) ∧ Hid (WalkIn s w wr k p m M am cm ax cs)) (fun i _ => s.size - (intOf i).toNat)
    case atStart => exact ⟨0, 0, [], [], none, 0, none, 0, by omega, by omega, rfl, walk_start s w⟩
    case round =>
      obtain ⟨k, p, m, M, am, cm, ax, cs, hk, hp, rfl, HW⟩ := hrel
      have hw := HW.out
      obtain ⟨⟨q0, q1, q2⟩, qf⟩ := hw.box.cells
      obtain ⟨f0, f1, f2⟩ := hw.funcs
      clear hw
      by_cases hlt : k < s.size
      · have hp3 : p = 0 ∨ p = 1 ∨ p = 2 := by omega
        rcases hp3 with rfl | rfl | rfl
        · go_wp2_with fail
          go_region_with (
            go_at_call 206
            refine (outside_any (w.heap.size + 2) m M (s[k]'hlt) _ wr.drew (WalkAt.heapEq HW.out.at rfl) HW.out.size).mono ?_
            rintro e w2 ⟨v2, rfl, hv2, hb2⟩
            obtain ⟨p2, m2, M2, am2, cm2, ax2, cs2, rfl, hp2, bx, hW2⟩ := HW.out.step hlt hv2 (((Below.refl (w.heap.size + 2) wr).drew).trans hb2)
            have HW2 : Hid _ := hW2
            obtain ⟨⟨r0, r1, r2⟩, rf⟩ := bx.cells
            clear hv2 hb2 hW2 bx)
          all_goals
            go_wp2
            go_roundw
            case rel => exact ⟨k + 1, p2, m2, M2, am2, cm2, ax2, cs2, by omega, hp2, by go_num, HW2⟩
            case measure => simp [intOf]; omega
        · go_wp2_with fail
          go_region_with (
            go_at_call 207
            refine (mark_any (w.heap.size + 2) m M (s[k]'hlt) _ wr.drew (WalkAt.heapEq HW.out.at rfl) HW.out.size (by have := HW.out.ml; omega) (by have := HW.out.Ml; omega)).mono ?_
            rintro e w2 ⟨v2, rfl, hv2, hb2⟩
            obtain ⟨p2, m2, M2, am2, cm2, ax2, cs2, rfl, hp2, bx, hW2⟩ := HW.out.step hlt hv2 (((Below.refl (w.heap.size + 2) wr).drew).trans hb2)
            have HW2 : Hid _ := hW2
            obtain ⟨⟨r0, r1, r2⟩, rf⟩ := bx.cells
            clear hv2 hb2 hW2 bx)
          all_goals
            go_wp2
            go_roundw
            case rel => exact ⟨k + 1, p2, m2, M2, am2, cm2, ax2, cs2, by omega, hp2, by go_num, HW2⟩
            case measure => simp [intOf]; omega
        · go_wp2_with fail
          go_region_with (
            go_at_call 208
            refine (brackets_any (w.heap.size + 2) m M (s[k]'hlt) _ wr.drew (WalkAt.heapEq HW.out.at rfl) HW.out.size).mono ?_
            rintro e w2 ⟨v2, rfl, hv2, hb2⟩
            obtain ⟨p2, m2, M2, am2, cm2, ax2, cs2, rfl, hp2, bx, hW2⟩ := HW.out.step hlt hv2 (((Below.refl (w.heap.size + 2) wr).drew).trans hb2)
            have HW2 : Hid _ := hW2
            obtain ⟨⟨r0, r1, r2⟩, rf⟩ := bx.cells
            clear hv2 hb2 hW2 bx)
          all_goals
            go_wp2
            go_roundw
            case rel => exact ⟨k + 1, p2, m2, M2, am2, cm2, ax2, cs2, by omega, hp2, by go_num, HW2⟩
            case measure => simp [intOf]; omega
      · have HE : Hid (marksF s = M) := by
          show _ = _
          have e : s.data.toList.drop k = [] := List.drop_eq_nil_of_le (by simp; omega)
          rw [HL.out, HW.out.goes, e]
          cases p <;> simp [mk]
        go_wp2
        go_ret
        exact ⟨_, rfl, by rw [HE.out]; exact Owns.mono HW.out.marks (by omega), HW.out.low⟩
end Go.Proofs.YtiennniclkbjlaaGreatDoor.Pg
