/- Parts of a way are drawn. -/
import Derived.Test.YtggafbkdjipjpaaDraw2
import Derived.Test.YtggafbkdjipjpaaStrs
namespace Go.Proofs.Ytggafbkdjipjpaa.Dr
open Go.RowKit Go.Proofs.Ytggafbkdjipjpaa.St

/-- what leaves the blocks up to the reader's alone keeps it -/
theorem IsRd.upto {B : Nat} {w w' : World} {r q : Nat} (h : IsRd B w r q) (hb : ∀ k, k ≤ r → w'.heap[k]? = w.heap[k]?) : IsRd B w' r q := by
  obtain ⟨a0, len, cap, p, h1, h2, h3, h4, h5⟩ := h
  refine ⟨a0, len, cap, p, ?_, h2, h3, h4, ?_⟩
  · rw [hb r (Nat.le_refl _)]; exact h1
  · rcases h5 with h5 | ⟨b, off, h6, h7, h8⟩
    · exact Or.inl h5
    · refine Or.inr ⟨b, off, h6, h7, fun i hi => ?_⟩
      obtain ⟨z, hz, hz'⟩ := h8 i hi
      exact ⟨z, by rw [World.cell?_of_block (w := w) (hb _ (by show b ≤ r; omega))]; exact hz, hz'⟩

theorem IsRd.grownRow {B base : Nat} {w w' : World} {r q : Nat} {row : Option Nat} (h : IsRd B w r q) (hg : w.grownBy w' row) (hr : r < base) (hrow : ∀ k, row = some k → base ≤ k) : IsRd B w' r q :=
  h.upto fun k hk => hg.block k (by have := h.le; omega) (fun e => by have := hrow k e.symm; omega)

theorem Owns.kept {w w' : World} {base r : Nat} {v : Value} {L : List ByteArray} (h : Owns w base v L) (hg : w.grownBy w' (some r)) (hr : r < base) : Owns w' base v L := by
  refine World.ownsRow.kept h hg ?_
  cases hv : v.ownBlock with
  | none => exact Or.inl rfl
  | some g =>
    right
    have := Owns.block h g hv
    intro e; have := Option.some.inj e; omega

theorem Owns.form {w : World} {base : Nat} {v : Value} {L : List ByteArray} (h : Owns w base v L) (hn : v ≠ .slice none 0 0) : ∃ g cap, v = .slice (some ⟨g, 0, none⟩) L.length cap := by
  obtain ⟨_, h | ⟨g, cap, cur, hv, _⟩⟩ := h
  · exact absurd h.1 hn
  · exact ⟨g, cap, hv⟩

theorem part_any (B r q : Nat) (w : World) (h : IsRd B w r q) (hq : q ≤ 10000) :
    Calls Try.prog 37 #[.pointer (some ⟨r, 0, none⟩)] w fun e w' => ∃ s, e = .returned (.string s) ∧ s.size ≤ 3 ∧ IsRd B w' r (q + 1) ∧ w.grownBy w' (some r) := by
  have hle := h.le
  go_enter Try.func37, Try.ntmps37
  go_wp2_with fail
  refine (of_lit B r _ w.heap.size 11 _ _ (fun s => decide (s.size ≤ 3)) _ (h.alloc _) (by omega) (by omega) (heap_new _ _) rfl (by decide) (by decide) (by decide)).mono ?_
  rintro e w2 ⟨t, rfl, ht, hr2, hg2⟩
  have HT : Hid (t.size ≤ 3) := (of_decide_eq_true ht : t.size ≤ 3)
  clear ht
  go_wp2
  go_ret
  exact ⟨t, rfl, HT.out, hr2, grown_trans (grown_alloc _ _ _) hg2⟩

theorem grown_any {a b : World} {row : Option Nat} (B : Nat) (h : a.grownBy b row) (hB : B ≤ a.heap.size) (hrow : ∀ k, row = some k → B ≤ k) : Below B a b :=
  ⟨h.os, h.tape, h.output, h.size, fun k hk => h.block k (by omega) (fun e => by have := hrow k e.symm; omega)⟩

set_option maxHeartbeats 1600000 in
theorem drawPath_any (a0 : Option Addr) (len cap : Nat) (zs : List Int) (w : World) (h : IsRow .u8 w a0 len cap zs) :
    Calls Try.prog 17 #[.slice a0 len cap] w fun e w' => ∃ g cap L, e = .returned (.slice (some ⟨g, 0, none⟩) L.length cap) ∧ Owns w' w.heap.size (.slice (some ⟨g, 0, none⟩) L.length cap) L ∧ L.length ≤ 7 ∧ Below w.heap.size w w' := by
  obtain ⟨i0, hi, hz0, hz1, hz2⟩ := info_parts Try.infoS
  go_enter Try.func17, Try.ntmps17
  go_wp2_with fail
  refine (open_any a0 len cap zs w h).mono ?_
  rintro e w1 ⟨rfl, hr1, hb1⟩
  have hle1 := hr1.le
  clear h
  go_wp2_with fail
  refine (pick_any _ _ _ 8 _ (hr1.alloc _) (by omega) (by omega) (by omega)).mono ?_
  rintro e w2 ⟨x, rfl, hx, hr2, hg2⟩
  have HO0 : Hid (Owns w2 (w.heap.size + 1) (.slice (some ⟨w1.heap.size, 0, none⟩) 0 0) []) := Owns.kept (Owns.empty w1 (w.heap.size + 1) (by omega)) hg2 (by omega)
  have hb2 : Below w.heap.size w w2 := (hb1.alloc hb1.size _).trans (grown_any w.heap.size hg2 (by have := hb1.size; simp; omega) (by intro k hk; have := Option.some.inj hk; omega))
  have hsz2 : w.heap.size + 1 ≤ w2.heap.size := by have := hg2.size; simp at this; omega
  clear hg2 hb1
  go_wp2
  go_loopw [4, 5] (fun v i wr => ∃ (k : Nat) (L : List ByteArray), k ≤ 7 ∧ i = .int .i64 (k : Int) ∧ Hid (Owns wr (w.heap.size + 1) v L) ∧ v ≠ .slice none 0 0 ∧ L.length + k ≤ 7 ∧ IsRd w.heap.size wr w.heap.size (1 + L.length) ∧ Below w.heap.size w wr ∧ w.heap.size + 1 ≤ wr.heap.size)
    (fun _ i _ => (intOf i).toNat)
  case atStart => exact ⟨x, [], by omega, rfl, HO0, by simp, by simp; omega, hr2, hb2, hsz2⟩
  case round =>
    obtain ⟨k, L, hk, rfl, HO, hnn, hLk, hr, hbel, hsz⟩ := hrel
    by_cases hlt : 0 < k
    · go_wp2_with fail
      refine (part_any _ _ _ _ hr (by omega)).mono ?_
      rintro e w3 ⟨t, rfl, ht, hr3, hg3⟩
      have HO3 : Hid (Owns w3 (w.heap.size + 1) u4 L) := Owns.kept HO.out hg3 (by omega)
      have hb3 : Below w.heap.size w w3 := hbel.trans (grown_any w.heap.size hg3 hbel.size (by intro k hk; have := Option.some.inj hk; omega))
      have hsz3 : w.heap.size + 1 ≤ w3.heap.size := by have := hg3.size; omega
      clear hg3
      go_wp2_with (at_builtin; refine wpList_append_own _ rfl _ _ 29 rfl (w.heap.size + 1) 9 i0 (.string ⟨#[]⟩) 1 16 Try.underlying29 hi hz0 hz1 hz2 rfl (by decide) _ _ _ rfl (World.ownsRow.alloc HO3.out _) ⟨w3.heap.size, 0, none⟩ 1 1 [.string t] rfl rfl (cell_one_new _ _ _) ?c2 ?c3 ?c4 ?c5 ?_)
      case c2 => intro u hu; simp at hu; subst hu; rfl
      case c3 => unfold maxLen; omega
      case c4 => omega
      case c5 => simp; omega
      intro v' w4 hown' hgrow hnil
      have hnn' : v' ≠ .slice none 0 0 := fun e => hnil e
      clear hnil
      have HO' : Hid _ := hown'
      have HG : Hid _ := hgrow
      clear hown' hgrow
      go_wp2
      go_roundw
      case rel =>
        refine ⟨k - 1, L ++ [t], by omega, by go_num, Owns.append HO'.out, hnn', by simp; omega, ?_, ?_, ?_⟩
        · have h4 := IsRd.grownRow (base := w.heap.size + 1) (hr3.alloc _) HG.out (by omega) (Owns.block HO3.out)
          exact h4.mono (by simp; omega)
        · exact Below.grown (hb3.alloc hb3.size _) HG.out (by have := hb3.size; simp; omega) (by intro k hk; have := Owns.block HO3.out k hk; omega)
        · have := HG.out.size; simp at this; omega
      case measure => simp [intOf]; omega
    · obtain ⟨g, c, hv⟩ := Owns.form HO.out hnn
      subst hv
      go_wp2
      go_ret
      exact ⟨g, c, L, rfl, Owns.mono HO.out (by omega), by omega, hbel⟩
end Go.Proofs.Ytggafbkdjipjpaa.Dr
