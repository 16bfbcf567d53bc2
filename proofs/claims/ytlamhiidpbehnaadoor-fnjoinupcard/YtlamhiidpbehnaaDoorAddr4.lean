/- Whether an address is ok: of the program and of the model. -/
import Derived.Test.YtlamhiidpbehnaaDoorAddr3
namespace Go.Proofs.YtlamhiidpbehnaaDoor.Ad1
open Go.RowKit Go.Proofs.YtlamhiidpbehnaaDoor.EscM Go.Proofs.YtlamhiidpbehnaaDoor.AddrM Go.Proofs.YtlamhiidpbehnaaDoor.St Go.Proofs.YtlamhiidpbehnaaDoor.EscL

theorem box_cells {w wr : World} {x0 x1 x2 x3 : Value} {t : TypeId} (hb : Below (w.heap.size + 1) (w.alloc (.cells #[x0, x1, x2, x3] t)) wr) :
    wr.cell? ⟨w.heap.size, 0, none⟩ = some x0 ∧ wr.cell? ⟨w.heap.size, 1, none⟩ = some x1 ∧ wr.cell? ⟨w.heap.size, 2, none⟩ = some x2 ∧ wr.cell? ⟨w.heap.size, 3, none⟩ = some x3 := by
  have h : ∀ j, wr.cell? ⟨w.heap.size, j, none⟩ = (w.alloc (.cells #[x0, x1, x2, x3] t)).cell? ⟨w.heap.size, j, none⟩ := fun j => hb.cell (by show w.heap.size < _; omega)
  exact ⟨by rw [h]; simp, by rw [h]; simp, by rw [h]; simp, by rw [h]; simp⟩
theorem box_below {w wr : World} {o : Obj} (hb : Below (w.heap.size + 1) (w.alloc o) wr) : Below w.heap.size w wr := ((Below.refl _ _).alloc (Nat.le_refl _) _).trans (hb.mono (by omega))
theorem box_strs {w wr : World} {o : Obj} {a0 : Option Addr} {cap : Nat} {L : List ByteArray} (hS : IsStrs w a0 cap L) (hb : Below (w.heap.size + 1) (w.alloc o) wr) : IsStrs wr a0 cap L := hS.below (box_below hb)
theorem box_next {w wr w1 : World} {o : Obj} (hb : Below (w.heap.size + 1) (w.alloc o) wr) (h1 : Below wr.heap.size wr w1) : Below (w.heap.size + 1) (w.alloc o) w1 := hb.trans (h1.mono (by have := hb.size; simp at this; omega))

theorem ok_house {A : Ad} (h : houseB A.house = false) : okB A = false := by unfold okB; rw [h]; simp
theorem ok_long {A : Ad} (h : ¬ A.parts.length ≤ 5) : okB A = false := by unfold okB; rw [decide_eq_false h]; simp
theorem ok_norm {A : Ad} (h : normB A.ask = false) : okB A = false := by unfold okB; rw [h]; simp
theorem ok_ask {A : Ad} (h1 : A.asks = false) (h2 : A.ask.toList.isEmpty = false) : okB A = false := by unfold okB; rw [h1, h2]; simp
theorem ok_part {A : Ad} {p : ByteArray} (hp : p ∈ A.parts) (h : partB p = false) : okB A = false := by
  unfold okB
  have : A.parts.all partB = false := by
    rw [List.all_eq_false]; exact ⟨p, hp, by simp [h]⟩
  rw [this]; simp
theorem ok_rest {A : Ad} (h1 : houseB A.house = true) (h2 : A.parts.length ≤ 5) (h3 : A.parts.all partB = true) (h4 : (A.asks || A.ask.toList.isEmpty) = true) (h5 : normB A.ask = true) : okB A = decide (((textS A).size : Int) ≤ 60) := by
  unfold okB textS
  rw [h1, decide_eq_true h2, h3, h4, h5, size_mk]; simp; omega
theorem all_take {L : List ByteArray} {k : Nat} (hk : k < L.length) (h : (L.take k).all partB = true) (hp : partB L[k] = true) : (L.take (k + 1)).all partB = true := by
  rw [List.take_succ_eq_append_getElem hk, List.all_append, h]; simp [hp]
theorem part_norm {s : ByteArray} (h : normB s = false) : partB s = false := by unfold partB; rw [h]; simp
theorem part_empty {s : ByteArray} (h : s.toList.isEmpty = true) : partB s = false := by unfold partB; rw [h]; simp
theorem part_dot {s : ByteArray} (h : (s.toList == [46]) = true) : partB s = false := by unfold partB; rw [h]; simp
theorem part_up {s : ByteArray} (h : (s.toList == [46, 46]) = true) : partB s = false := by unfold partB; rw [h]; simp
theorem part_ok {s : ByteArray} (h0 : normB s = true) (h1 : s.toList.isEmpty = false) (h2 : (s.toList == [46]) = false) (h3 : (s.toList == [46, 46]) = false) : partB s = true := by unfold partB; rw [h0, h1, h2, h3]; rfl

theorem implText_q (A : Ad) (q : Bool) (a0 : Option Addr) (cap : Nat) (w : World) (hq : A.asks = q) (hS : IsStrs w a0 cap A.parts) (hB : bulkA A ≤ 4194304) :
    Calls Tryd.prog 30 #[.agg #[.string A.house, .slice a0 A.parts.length cap, .bool q, .string A.ask]] w fun e w' => e = .returned (.string (textS A)) ∧ Below w.heap.size w w' := by
  subst hq; exact implText_any A a0 cap w hS hB
theorem specText_q (A : Ad) (q : Bool) (a0 : Option Addr) (cap : Nat) (w : World) (hq : A.asks = q) (hS : IsStrs w a0 cap A.parts) (hB : bulkA A ≤ 4194304) :
    Calls Tryd.prog 29 #[.agg #[.string A.house, .slice a0 A.parts.length cap, .bool q, .string A.ask]] w fun e w' => e = .returned (.string (textS A)) ∧ Below w.heap.size w w' := by
  subst hq; exact specText_any A a0 cap w hS hB

set_option maxRecDepth 100000 in
set_option maxHeartbeats 1600000 in
theorem implOk_any (A : Ad) (a0 : Option Addr) (cap : Nat) (w : World) (hS : IsStrs w a0 cap A.parts) (hB : bulkA A ≤ 4194304) :
    Calls Tryd.prog 19 #[.agg #[.string A.house, .slice a0 A.parts.length cap, .bool A.asks, .string A.ask]] w fun e w' => e = .returned (.bool (okB A)) ∧ Below w.heap.size w w' := by
  have hB2 : A.house.size + sumS A.parts + A.parts.length + A.ask.size ≤ 4194304 := hB
  have hhm : A.house.size ≤ maxLen := by unfold maxLen; omega
  have ham : A.ask.size ≤ maxLen := by unfold maxLen; omega
  have hc := hS.1
  have hm := hS.2.1
  unfold maxLen at hm
  have HS : Hid (IsStrs w a0 cap A.parts) := hS
  clear hS
  cases hh : houseB A.house with
  | false =>
    have HN : Hid _ := ok_house hh
    go_enter Tryd.func19, Tryd.ntmps19
    go_wp2_with (go_at_call 39; refine (implSmall_any _ _ hhm).mono ?_; rintro e w1 ⟨rfl, rfl⟩)
    go_ret
    exact ⟨ret_bool HN.out.symm, (Below.refl _ _).alloc (Nat.le_refl _) _⟩
  | true =>
  by_cases h5 : A.parts.length ≤ 5
  case neg =>
    have HN : Hid _ := ok_long h5
    go_enter Tryd.func19, Tryd.ntmps19
    go_wp2_with (go_at_call 39; refine (implSmall_any _ _ hhm).mono ?_; rintro e w1 ⟨rfl, rfl⟩)
    go_ret
    exact ⟨ret_bool HN.out.symm, (Below.refl _ _).alloc (Nat.le_refl _) _⟩
  case pos =>
  have HH : Hid (houseB A.house = true) := hh
  go_enter Tryd.func19, Tryd.ntmps19
  go_wp2_with (go_at_call 39; refine (implSmall_any _ _ hhm).mono ?_; rintro e w1 ⟨rfl, rfl⟩)
  go_loopw [18] (fun i wr => ∃ k : Nat, k ≤ A.parts.length ∧ i = .int .i64 (k : Int) ∧ Hid ((A.parts.take k).all partB = true) ∧ Below (w.heap.size + 1) (w.alloc (.cells #[.string A.house, .slice a0 A.parts.length cap, .bool A.asks, .string A.ask] 25)) wr) (fun i _ => A.parts.length - (intOf i).toNat)
  case atStart => exact ⟨0, Nat.zero_le _, rfl, by show _ = _; simp, Below.refl _ _⟩
  case round =>
    obtain ⟨k, hk, rfl, HP, hb⟩ := hrel
    obtain ⟨c0, c1, c2, c3⟩ := box_cells hb
    by_cases hlt : k < A.parts.length
    · obtain ⟨b, o, e, c⟩ := (box_strs HS.out hb).at hlt
      have hps := sum_mem (List.getElem_mem hlt)
      have hpm : A.parts[k].size ≤ maxLen := by unfold maxLen; omega
      subst e
      cases hp : partB A.parts[k] with
      | false =>
        have HN : Hid _ := ok_part (List.getElem_mem hlt) hp
        go_wp2_with (go_at_call 40; refine (implPart_any _ _ hpm).mono ?_; rintro e w1 ⟨rfl, hb1⟩)
        go_ret
        exact ⟨ret_bool HN.out.symm, box_below (box_next hb hb1)⟩
      | true =>
        have HN : Hid _ := all_take hlt HP.out hp
        go_wp2_with (go_at_call 40; refine (implPart_any _ _ hpm).mono ?_; rintro e w1 ⟨rfl, hb1⟩)
        go_roundw
        case rel => exact ⟨k + 1, by omega, by go_num, HN.out, box_next hb hb1⟩
        case measure => simp [intOf]; omega
    · have HA : Hid (A.parts.all partB = true) := by
        show _ = _
        have := HP.out
        rwa [List.take_of_length_le (by omega)] at this
      cases hq : A.asks with
      | false =>
        have HQ : Hid (A.asks = false) := hq
        rw [hq] at c2
        clear hq
        cases he : A.ask.toList.isEmpty with
        | false =>
          have HN : Hid _ := ok_ask HQ.out he
          go_wp2
          go_ret
          exact ⟨ret_bool HN.out.symm, box_below hb⟩
        | true =>
          cases hn : normB A.ask with
          | false =>
            have HN : Hid _ := ok_norm hn
            go_wp2_with (go_at_call 41; refine (implNorm_any _ _ ham).mono ?_; rintro e w1 ⟨rfl, hb1⟩)
            go_ret
            exact ⟨ret_bool HN.out.symm, box_below (box_next hb hb1)⟩
          | true =>
            have HN : Hid _ := ok_rest HH.out h5 HA.out (by rw [HQ.out, he]; rfl) hn
            go_wp2_with fail
            refine (implNorm_any _ _ ham).mono ?_
            rintro e w1 ⟨rfl, hb1⟩
            have hb2 := box_next hb hb1
            obtain ⟨d0, d1, d2, d3⟩ := box_cells hb2
            rw [HQ.out] at d2
            clear c0 c1 c2 c3 hb hb1
            go_wp2_with fail
            refine (implText_q A false a0 cap _ HQ.out (box_strs HS.out hb2) hB).mono ?_
            rintro e w2 ⟨rfl, hb3⟩
            go_wp2
            go_ret
            exact ⟨ret_bool HN.out.symm, box_below (box_next hb2 hb3)⟩
      | true =>
        have HQ : Hid (A.asks = true) := hq
        rw [hq] at c2
        clear hq
        cases hn : normB A.ask with
        | false =>
          have HN : Hid _ := ok_norm hn
          go_wp2_with (go_at_call 41; refine (implNorm_any _ _ ham).mono ?_; rintro e w1 ⟨rfl, hb1⟩)
          go_ret
          exact ⟨ret_bool HN.out.symm, box_below (box_next hb hb1)⟩
        | true =>
          have HN : Hid _ := ok_rest HH.out h5 HA.out (by rw [HQ.out]; rfl) hn
          go_wp2_with fail
          refine (implNorm_any _ _ ham).mono ?_
          rintro e w1 ⟨rfl, hb1⟩
          have hb2 := box_next hb hb1
          obtain ⟨d0, d1, d2, d3⟩ := box_cells hb2
          rw [HQ.out] at d2
          clear c0 c1 c2 c3 hb hb1
          go_wp2_with fail
          refine (implText_q A true a0 cap _ HQ.out (box_strs HS.out hb2) hB).mono ?_
          rintro e w2 ⟨rfl, hb3⟩
          go_wp2
          go_ret
          exact ⟨ret_bool HN.out.symm, box_below (box_next hb2 hb3)⟩

set_option maxRecDepth 100000 in
set_option maxHeartbeats 3200000 in
theorem specOk_any (A : Ad) (a0 : Option Addr) (cap : Nat) (w : World) (hS : IsStrs w a0 cap A.parts) (hB : bulkA A ≤ 4194304) :
    Calls Tryd.prog 10 #[.agg #[.string A.house, .slice a0 A.parts.length cap, .bool A.asks, .string A.ask]] w fun e w' => e = .returned (.bool (okB A)) ∧ Below w.heap.size w w' := by
  have hB2 : A.house.size + sumS A.parts + A.parts.length + A.ask.size ≤ 4194304 := hB
  have hhm : A.house.size ≤ maxLen := by unfold maxLen; omega
  have ham : A.ask.size ≤ maxLen := by unfold maxLen; omega
  have hc := hS.1
  have hm := hS.2.1
  unfold maxLen at hm
  have HS : Hid (IsStrs w a0 cap A.parts) := hS
  clear hS
  cases hh : houseB A.house with
  | false =>
    have HN : Hid _ := ok_house hh
    go_enter Tryd.func10, Tryd.ntmps10
    go_wp2_with (go_at_call 27; refine (specHouse_any _ _ hhm).mono ?_; rintro e w1 ⟨rfl, rfl⟩)
    go_ret
    exact ⟨ret_bool HN.out.symm, (Below.refl _ _).alloc (Nat.le_refl _) _⟩
  | true =>
  by_cases h5 : A.parts.length ≤ 5
  case neg =>
    have HN : Hid _ := ok_long h5
    go_enter Tryd.func10, Tryd.ntmps10
    go_wp2_with (go_at_call 27; refine (specHouse_any _ _ hhm).mono ?_; rintro e w1 ⟨rfl, rfl⟩)
    go_ret
    exact ⟨ret_bool HN.out.symm, (Below.refl _ _).alloc (Nat.le_refl _) _⟩
  case pos =>
  have HH : Hid (houseB A.house = true) := hh
  go_enter Tryd.func10, Tryd.ntmps10
  go_wp2_with fail
  refine (specHouse_any _ _ hhm).mono ?_
  rintro e w1 ⟨rfl, rfl⟩
  cases hn : normB A.ask with
  | false =>
    have HN : Hid _ := ok_norm hn
    go_wp2_with (go_at_call 28; refine (specNorm_any _ _ ham).mono ?_; rintro e w1 ⟨rfl, hb1⟩)
    go_ret
    exact ⟨ret_bool HN.out.symm, box_below (box_next (Below.refl _ _) hb1)⟩
  | true =>
    have HNORM : Hid _ := hn
    go_wp2_with fail
    refine (specNorm_any _ _ ham).mono ?_
    rintro e w1 ⟨rfl, hb1⟩
    have hb2 : Below (w.heap.size + 1) (w.alloc (.cells #[.string A.house, .slice a0 A.parts.length cap, .bool A.asks, .string A.ask] 25)) w1 := box_next (Below.refl _ _) hb1
    obtain ⟨c0, c1, c2, c3⟩ := box_cells hb2
    clear hb1 hh
    cases hq : A.asks with
    | false =>
      have HQ : Hid (A.asks = false) := hq
      rw [hq] at c2
      clear hq
      cases he : A.ask.toList.isEmpty with
      | false =>
        have HN : Hid _ := ok_ask HQ.out he
        go_wp2
        go_ret
        exact ⟨ret_bool HN.out.symm, box_below hb2⟩
      | true =>
        have HE : Hid (A.ask.toList.isEmpty = true) := he
        go_wp2
        clear c0 c1 c2 c3
        go_loopw [3] (fun i wr => ∃ k : Nat, k ≤ A.parts.length ∧ i = .int .i64 (k : Int) ∧ Hid ((A.parts.take k).all partB = true) ∧ Below (w.heap.size + 1) (w.alloc (.cells #[.string A.house, .slice a0 A.parts.length cap, .bool A.asks, .string A.ask] 25)) wr) (fun i _ => A.parts.length - (intOf i).toNat)
        case atStart => exact ⟨0, Nat.zero_le _, rfl, by show _ = _; simp, hb2⟩
        case round =>
          obtain ⟨k, hk, rfl, HP, hb⟩ := hrel
          obtain ⟨c0, c1, c2, c3⟩ := box_cells hb
          rw [HQ.out] at c2
          clear hb2
          by_cases hlt : k < A.parts.length
          · obtain ⟨b, o, e, c⟩ := (box_strs HS.out hb).at hlt
            have hps := sum_mem (List.getElem_mem hlt)
            have hpm : A.parts[k].size ≤ maxLen := by unfold maxLen; omega
            have HM : Hid (A.parts[k] ∈ A.parts) := List.getElem_mem hlt
            subst e
            cases h0 : normB A.parts[k] with
            | false =>
              have HN : Hid _ := ok_part HM.out (part_norm h0)
              go_wp2_with (go_at_call 28; refine (specNorm_any _ _ hpm).mono ?_; rintro e w1 ⟨rfl, hb1⟩)
              go_ret
              exact ⟨ret_bool HN.out.symm, box_below (box_next hb hb1)⟩
            | true =>
              have HT : Hid (partB A.parts[k] = true → (A.parts.take (k + 1)).all partB = true) := fun hp => all_take hlt HP.out hp
              go_wp2_with fail
              refine (specNorm_any _ _ hpm).mono ?_
              rintro e w1 ⟨rfl, hb1⟩
              have hb3 := box_next hb hb1
              obtain ⟨d0, d1, d2, d3⟩ := box_cells hb3
              obtain ⟨b', o', e', c'⟩ := (box_strs HS.out hb3).at hlt
              injection e' with e'
              injection e' with e1 e2 _
              subst e1; subst e2
              have H0 : Hid _ := h0
              clear c0 c1 c2 c3 c hb hb1 h0
              generalize hp : A.parts[k] = p at *
              cases h1 : p.toList.isEmpty with
              | true =>
                have HN : Hid _ := ok_part HM.out (part_empty h1)
                go_wp2
                go_ret
                exact ⟨ret_bool HN.out.symm, box_below hb3⟩
              | false =>
                cases h2 : (p.toList == [46]) with
                | true =>
                  have HN : Hid _ := ok_part HM.out (part_dot h2)
                  go_wp2
                  go_ret
                  exact ⟨ret_bool HN.out.symm, box_below hb3⟩
                | false =>
                  cases h3 : (p.toList == [46, 46]) with
                  | true =>
                    have HN : Hid _ := ok_part HM.out (part_up h3)
                    go_wp2
                    go_ret
                    exact ⟨ret_bool HN.out.symm, box_below hb3⟩
                  | false =>
                    have HN : Hid _ := HT.out (part_ok H0.out h1 h2 h3)
                    go_wp2
                    go_roundw
                    case rel => exact ⟨k + 1, by omega, by go_num, HN.out, hb3⟩
                    case measure => simp [intOf]; omega
          · have HA : Hid (A.parts.all partB = true) := by
              show _ = _
              have := HP.out
              rwa [List.take_of_length_le (by omega)] at this
            have HN : Hid _ := ok_rest HH.out h5 HA.out (by rw [HQ.out, HE.out]; rfl) HNORM.out
            go_wp2_with fail
            refine (specText_q A false a0 cap _ HQ.out (box_strs HS.out hb) hB).mono ?_
            rintro e w2 ⟨rfl, hb3⟩
            go_wp2
            go_ret
            exact ⟨ret_bool HN.out.symm, box_below (box_next hb hb3)⟩
    | true =>
      have HQ : Hid (A.asks = true) := hq
      rw [hq] at c2
      clear hq
      go_wp2
      clear c0 c1 c2 c3
      go_loopw [3] (fun i wr => ∃ k : Nat, k ≤ A.parts.length ∧ i = .int .i64 (k : Int) ∧ Hid ((A.parts.take k).all partB = true) ∧ Below (w.heap.size + 1) (w.alloc (.cells #[.string A.house, .slice a0 A.parts.length cap, .bool A.asks, .string A.ask] 25)) wr) (fun i _ => A.parts.length - (intOf i).toNat)
      case atStart => exact ⟨0, Nat.zero_le _, rfl, by show _ = _; simp, hb2⟩
      case round =>
        obtain ⟨k, hk, rfl, HP, hb⟩ := hrel
        obtain ⟨c0, c1, c2, c3⟩ := box_cells hb
        rw [HQ.out] at c2
        clear hb2
        by_cases hlt : k < A.parts.length
        · obtain ⟨b, o, e, c⟩ := (box_strs HS.out hb).at hlt
          have hps := sum_mem (List.getElem_mem hlt)
          have hpm : A.parts[k].size ≤ maxLen := by unfold maxLen; omega
          have HM : Hid (A.parts[k] ∈ A.parts) := List.getElem_mem hlt
          subst e
          cases h0 : normB A.parts[k] with
          | false =>
            have HN : Hid _ := ok_part HM.out (part_norm h0)
            go_wp2_with (go_at_call 28; refine (specNorm_any _ _ hpm).mono ?_; rintro e w1 ⟨rfl, hb1⟩)
            go_ret
            exact ⟨ret_bool HN.out.symm, box_below (box_next hb hb1)⟩
          | true =>
            have HT : Hid (partB A.parts[k] = true → (A.parts.take (k + 1)).all partB = true) := fun hp => all_take hlt HP.out hp
            go_wp2_with fail
            refine (specNorm_any _ _ hpm).mono ?_
            rintro e w1 ⟨rfl, hb1⟩
            have hb3 := box_next hb hb1
            obtain ⟨d0, d1, d2, d3⟩ := box_cells hb3
            obtain ⟨b', o', e', c'⟩ := (box_strs HS.out hb3).at hlt
            injection e' with e'
            injection e' with e1 e2 _
            subst e1; subst e2
            have H0 : Hid _ := h0
            clear c0 c1 c2 c3 c hb hb1 h0
            generalize hp : A.parts[k] = p at *
            cases h1 : p.toList.isEmpty with
            | true =>
              have HN : Hid _ := ok_part HM.out (part_empty h1)
              go_wp2
              go_ret
              exact ⟨ret_bool HN.out.symm, box_below hb3⟩
            | false =>
              cases h2 : (p.toList == [46]) with
              | true =>
                have HN : Hid _ := ok_part HM.out (part_dot h2)
                go_wp2
                go_ret
                exact ⟨ret_bool HN.out.symm, box_below hb3⟩
              | false =>
                cases h3 : (p.toList == [46, 46]) with
                | true =>
                  have HN : Hid _ := ok_part HM.out (part_up h3)
                  go_wp2
                  go_ret
                  exact ⟨ret_bool HN.out.symm, box_below hb3⟩
                | false =>
                  have HN : Hid _ := HT.out (part_ok H0.out h1 h2 h3)
                  go_wp2
                  go_roundw
                  case rel => exact ⟨k + 1, by omega, by go_num, HN.out, hb3⟩
                  case measure => simp [intOf]; omega
        · have HA : Hid (A.parts.all partB = true) := by
            show _ = _
            have := HP.out
            rwa [List.take_of_length_le (by omega)] at this
          have HN : Hid _ := ok_rest HH.out h5 HA.out (by rw [HQ.out]; rfl) HNORM.out
          go_wp2_with fail
          refine (specText_q A true a0 cap _ HQ.out (box_strs HS.out hb) hB).mono ?_
          rintro e w2 ⟨rfl, hb3⟩
          go_wp2
          go_ret
          exact ⟨ret_bool HN.out.symm, box_below (box_next hb hb3)⟩
end Go.Proofs.YtlamhiidpbehnaaDoor.Ad1
