/- Do rules let a way: the model's. -/
import Derived.Test.YtmgcdfmgmpnonaaGreatDoorLetsMath
import Derived.Test.YtmgcdfmgmpnonaaGreatDoorGrpMathPk
namespace Go.Proofs.YtmgcdfmgmpnonaaGreatDoor.LeS
open Go.RowKit Go.Proofs.YtmgcdfmgmpnonaaGreatDoor.EscM Go.Proofs.YtmgcdfmgmpnonaaGreatDoor.EscL Go.Proofs.YtmgcdfmgmpnonaaGreatDoor.RuleM Go.Proofs.YtmgcdfmgmpnonaaGreatDoor.Ru1 Go.Proofs.YtmgcdfmgmpnonaaGreatDoor.ReadM Go.Proofs.YtmgcdfmgmpnonaaGreatDoor.HasM Go.Proofs.YtmgcdfmgmpnonaaGreatDoor.St Go.Proofs.YtmgcdfmgmpnonaaGreatDoor.Rd1 Go.Proofs.YtmgcdfmgmpnonaaGreatDoor.RR Go.Proofs.YtmgcdfmgmpnonaaGreatDoor.LetM

/-- the greatest size so far, as the model has it -/
def bestZ (L : List Ru) (s : List UInt8) : Int := if (letSt L s).1 = 0 then -1 else ((letSt L s).1 : Int)
theorem best_bd (L : List Ru) (s : List UInt8) : -1 ≤ bestZ L s ∧ bestZ L s ≤ 16 := by
  have := letSt_bound L s
  unfold bestZ; split <;> omega

set_option maxRecDepth 100000 in
set_option maxHeartbeats 3200000 in
theorem specLets_any (a0 : Option Addr) (cap : Nat) (L : List Ru) (s : ByteArray) (w : World) (hI : IsRows FRu w a0 cap L) (hl : L.length ≤ 4194304) (hL : ∀ r ∈ L, r.path.size ≤ maxLen) (hs : s.size ≤ maxLen) :
    Calls Tryz.prog 98 #[.slice a0 L.length cap, .string s] w fun e w' => e = .returned (.bool (letsL L s.data.toList)) ∧ Below w.heap.size w w' := by
  have HI : Hid (IsRows FRu w a0 cap L) := hI
  have HL : Hid _ := hL
  clear hI hL
  go_enter Tryz.func98, Tryz.ntmps98
  go_wp2
  go_loopw [5, 6, 7] (fun b t i wr => ∃ k : Nat, k ≤ L.length ∧ i = .int .i64 (k : Int) ∧ b = .int .i64 (bestZ (L.take k) s.data.toList) ∧ t = .bool (letSt (L.take k) s.data.toList).2 ∧ Hid (Below w.heap.size w wr)) (fun _ _ i _ => L.length - (intOf i).toNat)
  case atStart => exact ⟨0, Nat.zero_le _, rfl, rfl, rfl, Below.refl _ _⟩
  case round =>
    obtain ⟨k, hk, rfl, rfl, rfl, HB⟩ := hrel
    by_cases hlt : k < L.length
    · obtain ⟨B, off, e1, c0, c1⟩ := ru_at (IsRows.below HI.out HB.out) hlt
      subst e1
      have hr := HL.out L[k] (List.getElem_mem _)
      have hbd := best_bd (L.take k) s.data.toList
      have HSN : Hid _ := st_snoc hlt s.data.toList
      have HBZ : Hid (bestZ (L.take k) s.data.toList = if (letSt (L.take k) s.data.toList).1 = 0 then -1 else ((letSt (L.take k) s.data.toList).1 : Int)) := rfl
      obtain ⟨m, t, hst⟩ : ∃ m t, letSt (L.take k) s.data.toList = (m, t) := ⟨_, _, rfl⟩
      obtain ⟨b, hb⟩ : ∃ b, bestZ (L.take k) s.data.toList = b := ⟨_, rfl⟩
      simp only [hst, hb] at HSN HBZ hbd ⊢
      have HBN : ∀ (n : Nat) (u : Bool), letSt (L.take (k + 1)) s.data.toList = (n, u) → bestZ (L.take (k + 1)) s.data.toList = if n = 0 then -1 else (n : Int) := by
        intro n u e; unfold bestZ; rw [e]
      have HBN' : Hid _ := HBN
      clear hst hb HBN
      have hm := HBZ.out
      have hbm : b = -1 ∧ m = 0 ∨ b = (m : Int) ∧ 0 < m := by
        by_cases h0 : m = 0
        · left; rw [hm, if_pos h0]; exact ⟨rfl, h0⟩
        · right; rw [hm, if_neg h0]; exact ⟨rfl, by omega⟩
      clear hm HBZ
      go_wp2_with fail
      refine (HaS.specHas_any L[k].path s _ hr hs).mono ?_
      rintro e w1 ⟨rfl, hb1⟩
      have d0 : w1.cell? ⟨B, off + k * 2, none⟩ = some (.bool L[k].lt) := (hb1.cell (cell_block c0)).trans c0
      have HB1 : Hid (Below w.heap.size w w1) := HB.out.trans (hb1.mono HB.out.size)
      clear hb1 c0 c1
      cases hh : hasL L[k].path.data.toList s.data.toList with
      | false =>
        have HN : Hid (letSt (L.take (k + 1)) s.data.toList = (m, t)) := by show _ = _; rw [HSN.out]; exact step_no hh
        have HZ : Hid (bestZ (L.take (k + 1)) s.data.toList = b) := by
          show _ = _
          rw [HBN'.out m t HN.out]
          rcases hbm with ⟨e1, e2⟩ | ⟨e1, e2⟩
          · rw [e1, if_pos e2]
          · rw [e1, if_neg (by omega)]
        clear hh hbm
        go_wp2
        go_roundw
        case rel => exact ⟨k + 1, by omega, by go_num, by rw [HZ.out], by rw [HN.out], HB1⟩
        case measure => simp [intOf]; omega
      | true =>
        have hz := has_size (r := L[k]) (s := s.data.toList) hh
        by_cases h0 : (L[k].path.size : Int) < b
        · have HN : Hid (letSt (L.take (k + 1)) s.data.toList = (m, t)) := by show _ = _; rw [HSN.out]; exact step_low (by show _ < m; omega)
          have HZ : Hid (bestZ (L.take (k + 1)) s.data.toList = b) := by
            show _ = _
            rw [HBN'.out m t HN.out]
            rcases hbm with ⟨e1, e2⟩ | ⟨e1, e2⟩
            · rw [e1, if_pos e2]
            · rw [e1, if_neg (by omega)]
          clear hh hbm
          go_wp2
          go_roundw
          case rel => exact ⟨k + 1, by omega, by go_num, by rw [HZ.out], by rw [HN.out], HB1⟩
          case measure => simp [intOf]; omega
        · by_cases h1 : (L[k].path.size : Int) = b
          · have HN : Hid (letSt (L.take (k + 1)) s.data.toList = (m, t || L[k].lt)) := by show _ = _; rw [HSN.out]; exact step_eq hh (by show _ = m; omega)
            have HZ : Hid (bestZ (L.take (k + 1)) s.data.toList = (L[k].path.size : Int)) := by
              show _ = _
              rw [HBN'.out _ _ HN.out, if_neg (by omega)]; omega
            have h1' : ((L[k].path.size : Int) == b) = true := by simp; exact h1
            have HT : Hid ((t || L[k].lt) = (L[k].lt || t)) := Bool.or_comm _ _
            clear hh hbm
            cases hlt' : L[k].lt with
            | true =>
              rw [hlt'] at d0 HN HT
              go_wp2
              go_roundw
              case rel => exact ⟨k + 1, by omega, by go_num, by rw [HZ.out, h1], by rw [HN.out, HT.out]; rfl, HB1⟩
              case measure => simp [intOf]; omega
            | false =>
              rw [hlt'] at d0 HN HT
              go_wp2
              go_roundw
              case rel => exact ⟨k + 1, by omega, by go_num, by rw [HZ.out, h1], by rw [HN.out, HT.out]; rfl, HB1⟩
              case measure => simp [intOf]; omega
          · have HN : Hid (letSt (L.take (k + 1)) s.data.toList = (L[k].path.size, L[k].lt)) := by show _ = _; rw [HSN.out]; exact step_up hh (by show m < _; omega)
            have HZ : Hid (bestZ (L.take (k + 1)) s.data.toList = (L[k].path.size : Int)) := by
              show _ = _
              rw [HBN'.out _ _ HN.out, if_neg (by omega)]
            have h1' : ((L[k].path.size : Int) == b) = false := by simp; exact h1
            clear hh hbm
            cases hlt' : L[k].lt with
            | true =>
              rw [hlt'] at d0 HN
              go_wp2
              go_roundw
              case rel => exact ⟨k + 1, by omega, by go_num, by rw [HZ.out], by rw [HN.out], HB1⟩
              case measure => simp [intOf]; omega
            | false =>
              rw [hlt'] at d0 HN
              go_wp2
              go_roundw
              case rel => exact ⟨k + 1, by omega, by go_num, by rw [HZ.out], by rw [HN.out], HB1⟩
              case measure => simp [intOf]; omega
    · have HE : Hid (letsL L s.data.toList = (letSt (L.take k) s.data.toList).2) := by
        show _ = _
        rw [List.take_of_length_le (by omega)]; rfl
      go_wp2
      go_ret
      exact ⟨ret_bool HE.out.symm, HB.out⟩
end Go.Proofs.YtmgcdfmgmpnonaaGreatDoor.LeS
