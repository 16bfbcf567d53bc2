/- Of the program: whether a trip is done. -/
import Derived.Test.YtiennniclkbjlaaGreatDoorReStPk
namespace Go.Proofs.YtiennniclkbjlaaGreatDoor.Tn
open Go.RowKit Go.Proofs.YtiennniclkbjlaaGreatDoor.EscM Go.Proofs.YtiennniclkbjlaaGreatDoor.AddrM Go.Proofs.YtiennniclkbjlaaGreatDoor.ReadM Go.Proofs.YtiennniclkbjlaaGreatDoor.Rd1 Go.Proofs.YtiennniclkbjlaaGreatDoor.Ad1 Go.Proofs.YtiennniclkbjlaaGreatDoor.RuleM Go.Proofs.YtiennniclkbjlaaGreatDoor.St Go.Proofs.YtiennniclkbjlaaGreatDoor.EscL Go.Proofs.YtiennniclkbjlaaGreatDoor.RR Go.Proofs.YtiennniclkbjlaaGreatDoor.LetM Go.Proofs.YtiennniclkbjlaaGreatDoor.GrM Go.Proofs.YtiennniclkbjlaaGreatDoor.RoIt Go.Proofs.YtiennniclkbjlaaGreatDoor.RoLk Go.Proofs.YtiennniclkbjlaaGreatDoor.RoQ Go.Proofs.YtiennniclkbjlaaGreatDoor.Mp Go.Proofs.YtiennniclkbjlaaGreatDoor.WdM Go.Proofs.YtiennniclkbjlaaGreatDoor.Wd Go.Proofs.YtiennniclkbjlaaGreatDoor.TpM Go.Proofs.YtiennniclkbjlaaGreatDoor.TrM Go.Proofs.YtiennniclkbjlaaGreatDoor.TrW Go.Proofs.YtiennniclkbjlaaGreatDoor.Tq Go.Proofs.YtiennniclkbjlaaGreatDoor.PgA Go.Proofs.YtiennniclkbjlaaGreatDoor.MkA Go.Proofs.YtiennniclkbjlaaGreatDoor.Im Go.Proofs.YtiennniclkbjlaaGreatDoor.Nm

theorem doneC_any (h : Hs) (w : World) :
    Calls Tryz.prog 48 #[hsV h] w fun e w' => e = .returned (.bool (decide (0 < h.todo.length))) ∧ Below w.heap.size w w' := by
  have hb : Below w.heap.size w (w.alloc (.cells #[.string h.name, .int .i64 h.ready, .bool h.known, .slice h.gr.na h.gr.nm.length h.gr.nc, .slice h.gr.ra h.gr.ru.length h.gr.rc, .int .i64 h.gr.wait, .int .i64 h.tries, .slice h.ta h.todo.length h.tc] 38)) := (Below.refl _ w).alloc (Nat.le_refl _) _
  have HB : Hid _ := hb
  have hx := (Bs.new 38 w #[.string h.name, .int .i64 h.ready, .bool h.known, .slice h.gr.na h.gr.nm.length h.gr.nc, .slice h.gr.ra h.gr.ru.length h.gr.rc, .int .i64 h.gr.wait, .int .i64 h.tries, .slice h.ta h.todo.length h.tc]).cell 7 rfl
  clear hb
  unfold hsV
  go_enter Tryz.func48, Tryz.ntmps48
  go_wp2
  go_ret
  exact ⟨rfl, HB.out⟩
set_option maxRecDepth 100000 in
set_option maxHeartbeats 3200000 in
theorem idxD_any (a0 : Option Addr) (cap : Nat) (L : List Hs) (w : World) (hI : IsRows FHs w a0 cap L) (hl : L.length ≤ 4194304) :
    Calls Tryz.prog 75 #[.slice a0 L.length cap, .func (.func 48) #[] #[]] w fun e w' => (∃ z : Int, e = .returned (.int .i64 z) ∧ (0 ≤ z ↔ ∃ h ∈ L, 0 < h.todo.length)) ∧ Below w.heap.size w w' := by
  have HI : Hid (IsRows FHs w a0 cap L) := hI
  clear hI
  go_enter Tryz.func75, Tryz.ntmps75
  go_wp2
  go_loopw [8] (fun i wr => ∃ k : Nat, k ≤ L.length ∧ i = .int .i64 (k : Int) ∧ Hid (∀ h ∈ L.take k, h.todo.length = 0) ∧ Hid (Below w.heap.size w wr)) (fun i _ => L.length - (intOf i).toNat)
  case atStart => exact ⟨0, Nat.zero_le _, rfl, (fun h hh => by cases hh), Below.refl _ _⟩
  case round =>
    obtain ⟨k, hk, rfl, HN, HB⟩ := hrel
    by_cases hlt : k < L.length
    · obtain ⟨b, off, e1, c0, c1, c2, c3, c4, c5, c6, c7⟩ := hs_at (HI.out.below HB.out) hlt
      subst e1
      have HCC : Hid (∀ W, Calls Tryz.prog 48 #[hsV L[k]] W fun e w' => e = .returned (.bool (decide (0 < L[k].todo.length))) ∧ Below W.heap.size W w') := fun W => doneC_any _ W
      unfold hsV at HCC
      by_cases he : 0 < L[k].todo.length
      · have HE : Hid (∃ h ∈ L, 0 < h.todo.length) := ⟨_, List.getElem_mem hlt, he⟩
        rw [decide_eq_true he] at HCC
        clear he
        generalize L[k] = y at c0 c1 c2 c3 c4 c5 c6 c7 HCC
        go_wp2_with (go_at_call 48; refine (HCC.out _).mono ?_; rintro e w2 ⟨rfl, hb2⟩; have HB2 : Hid (Below w.heap.size w w2) := HB.out.trans (hb2.mono HB.out.size))
        go_ret
        exact ⟨⟨(k : Int), rfl, ⟨fun _ => HE.out, fun _ => Int.natCast_nonneg _⟩⟩, HB2.out⟩
      · have HN2 : Hid (∀ h ∈ L.take (k + 1), h.todo.length = 0) := fun h hh => by
          rw [List.take_succ_eq_append_getElem hlt] at hh
          rcases List.mem_append.1 hh with hh | hh
          · exact HN.out h hh
          · have e : h = L[k] := by simpa using hh
            rw [e]; omega
        rw [decide_eq_false he] at HCC
        clear he
        generalize L[k] = y at c0 c1 c2 c3 c4 c5 c6 c7 HCC
        go_wp2_with (go_at_call 48; refine (HCC.out _).mono ?_; rintro e w2 ⟨rfl, hb2⟩; have HB2 : Hid (Below w.heap.size w w2) := HB.out.trans (hb2.mono HB.out.size))
        go_roundw
        case rel => exact ⟨k + 1, by omega, by go_num, HN2, HB2⟩
        case measure => simp [intOf]; omega
    · have HF : Hid (∀ h ∈ L, h.todo.length = 0) := by
        have e1 : L.take k = L := List.take_of_length_le (by omega)
        have := HN.out
        rw [e1] at this; exact this
      go_wp2
      go_ret
      refine ⟨⟨-1, rfl, ⟨fun h => absurd h (by decide), fun ⟨h, hh, h0⟩ => ?_⟩⟩, HB.out⟩
      have := HF.out h hh
      omega
theorem hasD_any (a0 : Option Addr) (cap : Nat) (L : List Hs) (w : World) (hI : IsRows FHs w a0 cap L) (hl : L.length ≤ 4194304) :
    Calls Tryz.prog 47 #[.slice a0 L.length cap, .func (.func 48) #[] #[]] w fun e w' => (∃ z : Int, e = .returned (.bool (decide (0 ≤ z))) ∧ (0 ≤ z ↔ ∃ h ∈ L, 0 < h.todo.length)) ∧ Below w.heap.size w w' := by
  have HC : Hid _ := idxD_any a0 cap L w hI hl
  clear hI
  go_enter Tryz.func47, Tryz.ntmps47
  go_wp2_with fail
  refine Calls.mono HC.out ?_
  rintro e w1 ⟨⟨z, rfl, hz⟩, hb⟩
  have HB : Hid _ := hb
  have HZ : Hid _ := hz
  clear hb hz
  go_wp2
  go_ret
  exact ⟨⟨z, rfl, HZ.out⟩, HB.out⟩
set_option maxRecDepth 100000 in
set_option maxHeartbeats 3200000 in
theorem tripDone_any (t : Tp) (w : World) (hM : Mx w) (hA : TpAt w t) (hk : TmOk (tmP t)) (hl : t.hs.length ≤ 1000) (hl2 : ∀ h ∈ t.hs, h.todo.length ≤ 1000) :
    Calls Tryz.prog 20 #[tpV t] w fun e w' => e = .returned (.bool (decide (∀ h ∈ t.hs, h.todo.length = 0))) ∧ Below w.heap.size w w' := by
  have HB0 : Hid (Below w.heap.size w (w.alloc (.cells #[.string t.name, .int .i64 t.now, .slice t.ha t.hs.length t.hc, .slice t.sa t.seen.length t.sc, .slice t.la t.lk.length t.lc] 29))) := (Below.refl _ w).alloc (Nat.le_refl _) _
  have HX0 : Hid (Bs 29 (w.alloc (.cells #[.string t.name, .int .i64 t.now, .slice t.ha t.hs.length t.hc, .slice t.sa t.seen.length t.sc, .slice t.la t.lk.length t.lc] 29)) w.heap.size #[.string t.name, .int .i64 t.now, .slice t.ha t.hs.length t.hc, .slice t.sa t.seen.length t.sc, .slice t.la t.lk.length t.lc]) := Bs.new _ _ _
  have HOK : Hid (∀ W, Below w.heap.size w W → Calls Tryz.prog 13 #[tpV t] W fun e w' => e = .returned (.bool true) ∧ Below W.heap.size W w') := fun W hW => tripOk_true t W (hM.below hW) (hA.below hW) hk hl hl2
  have HIX : Hid (∀ W, Below w.heap.size w W → Calls Tryz.prog 47 #[.slice t.ha t.hs.length t.hc, .func (.func 48) #[] #[]] W fun e w' => (∃ z : Int, e = .returned (.bool (decide (0 ≤ z))) ∧ (0 ≤ z ↔ ∃ h ∈ t.hs, 0 < h.todo.length)) ∧ Below W.heap.size W w') := fun W hW => hasD_any _ _ _ W (hA.1.below hW) (by omega)
  have HDE : Hid (∀ z : Int, (0 ≤ z ↔ ∃ h ∈ t.hs, 0 < h.todo.length) → (!decide (0 ≤ z)) = decide (∀ h ∈ t.hs, h.todo.length = 0)) := fun z hz => by
    by_cases h0 : 0 ≤ z
    · obtain ⟨h, hh, hp⟩ := hz.1 h0
      rw [decide_eq_true h0, decide_eq_false (fun ha => by have := ha h hh; omega)]; rfl
    · rw [decide_eq_false h0, decide_eq_true (fun h hh => by
        rcases Nat.eq_zero_or_pos h.todo.length with h1 | h1
        · exact h1
        · exact absurd (hz.2 ⟨h, hh, h1⟩) h0)]; rfl
  clear hM hA hk hl2
  unfold tpV at HOK ⊢
  have x0 := HX0.out.cell 0 rfl
  have x1 := HX0.out.cell 1 rfl
  have x2 := HX0.out.cell 2 rfl
  have x3 := HX0.out.cell 3 rfl
  have x4 := HX0.out.cell 4 rfl
  go_enter Tryz.func20, Tryz.ntmps20
  go_wp2_with (first
    | (go_at_call 13
       refine Calls.mono (HOK.out _ HB0.out) ?_
       rintro e w2 ⟨rfl, hb2⟩
       have HB2 : Hid (Below w.heap.size w w2) := HB0.out.trans (hb2.mono HB0.out.size)
       have x2' := (HX0.out.below hb2).cell 2 rfl
       clear hb2)
    | (go_at_call 47
       refine Calls.mono (HIX.out _ HB2.out) ?_
       rintro e w3 ⟨⟨z, rfl, hz⟩, hb3⟩
       have HB3 : Hid (Below w.heap.size w w3) := HB2.out.trans (hb3.mono HB2.out.size)
       have HZ : Hid _ := HDE.out z hz
       clear hb3 hz))
  go_ret
  exact ⟨by rw [← HZ.out]; rfl, HB3.out⟩
end Go.Proofs.YtiennniclkbjlaaGreatDoor.Tn
