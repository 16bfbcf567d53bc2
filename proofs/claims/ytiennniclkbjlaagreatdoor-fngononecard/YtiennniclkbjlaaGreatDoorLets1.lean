/- Do rules let a way: the program's. -/
import Derived.Test.YtiennniclkbjlaaGreatDoorLetsMath
import Derived.Test.YtiennniclkbjlaaGreatDoorAddr1Pk
namespace Go.Proofs.YtiennniclkbjlaaGreatDoor.Le
open Go.RowKit Go.Proofs.YtiennniclkbjlaaGreatDoor.EscM Go.Proofs.YtiennniclkbjlaaGreatDoor.EscL Go.Proofs.YtiennniclkbjlaaGreatDoor.RuleM Go.Proofs.YtiennniclkbjlaaGreatDoor.Ru1 Go.Proofs.YtiennniclkbjlaaGreatDoor.ReadM Go.Proofs.YtiennniclkbjlaaGreatDoor.HasM Go.Proofs.YtiennniclkbjlaaGreatDoor.St Go.Proofs.YtiennniclkbjlaaGreatDoor.Rd1 Go.Proofs.YtiennniclkbjlaaGreatDoor.RR Go.Proofs.YtiennniclkbjlaaGreatDoor.LetM

set_option maxRecDepth 100000 in
set_option maxHeartbeats 3200000 in
theorem implLets_any (a0 : Option Addr) (cap : Nat) (L : List Ru) (s : ByteArray) (w : World) (hM : Ha.Mx w) (hI : IsRows FRu w a0 cap L) (hl : L.length ≤ 4194304) (hL : ∀ r ∈ L, r.path.size ≤ maxLen) (hs : s.size ≤ maxLen) :
    Calls Tryz.prog 88 #[.slice a0 L.length cap, .string s] w fun e w' => e = .returned (.bool (letsL L s.data.toList)) ∧ Below w.heap.size w w' := by
  have HI : Hid (IsRows FRu w a0 cap L) := hI
  have HM : Hid (Ha.Mx w) := hM
  have HL : Hid _ := hL
  clear hI hM hL
  go_enter Tryz.func88, Tryz.ntmps88
  go_wp2
  go_loopw [5, 6, 12] (fun b t i wr => ∃ k : Nat, k ≤ L.length ∧ i = .int .i64 (k : Int) ∧ b = .int .i64 ((letSt (L.take k) s.data.toList).1 : Int) ∧ t = .bool (letSt (L.take k) s.data.toList).2 ∧ Hid (Below w.heap.size w wr)) (fun _ _ i _ => L.length - (intOf i).toNat)
  case atStart => exact ⟨0, Nat.zero_le _, rfl, rfl, rfl, Below.refl _ _⟩
  case round =>
    obtain ⟨k, hk, rfl, rfl, rfl, HB⟩ := hrel
    by_cases hlt : k < L.length
    · obtain ⟨B, off, e1, c0, c1⟩ := ru_at (IsRows.below HI.out HB.out) hlt
      subst e1
      have hr := HL.out L[k] (List.getElem_mem _)
      have hbd := letSt_bound (L.take k) s.data.toList
      have HSN : Hid _ := st_snoc hlt s.data.toList
      obtain ⟨m, t, hst⟩ : ∃ m t, letSt (L.take k) s.data.toList = (m, t) := ⟨_, _, rfl⟩
      simp only [hst] at HSN hbd ⊢
      clear hst
      go_wp2_with fail
      refine (Ha.implHas_any L[k].path s _ ((HM.out.below HB.out).alloc _) hr hs).mono ?_
      rintro e w1 ⟨rfl, hb1⟩
      have d0 : w1.cell? ⟨wr.heap.size, 0, none⟩ = some (.bool L[k].lt) := (hb1.cell (by show wr.heap.size < _; simp)).trans (by simp)
      have d1 : w1.cell? ⟨wr.heap.size, 1, none⟩ = some (.string L[k].path) := (hb1.cell (by show wr.heap.size < _; simp)).trans (by simp)
      have HB1 : Hid (Below w.heap.size w w1) := HB.out.trans (Below.trans ((Below.refl _ wr).alloc (Nat.le_refl _) _ |>.mono HB.out.size) (hb1.mono (by have := HB.out.size; simp; omega)))
      clear hb1 c0 c1
      cases hh : hasL L[k].path.data.toList s.data.toList with
      | false =>
        have HN : Hid (letSt (L.take (k + 1)) s.data.toList = (m, t)) := by show _ = _; rw [HSN.out]; exact step_no hh
        clear hh
        go_wp2
        go_roundw
        case rel => exact ⟨k + 1, by omega, by go_num, by rw [HN.out], by rw [HN.out], HB1⟩
        case measure => simp [intOf]; omega
      | true =>
        have hz := has_size (r := L[k]) (s := s.data.toList) hh
        by_cases h1 : m < L[k].path.size
        · have HN : Hid (letSt (L.take (k + 1)) s.data.toList = (L[k].path.size, L[k].lt)) := by show _ = _; rw [HSN.out]; exact step_up hh h1
          clear hh
          go_wp2
          go_quiet (fail)
          go_wp2
          go_roundw
          case rel => exact ⟨k + 1, by omega, by go_num, by rw [HN.out], by rw [HN.out], below_drewN HB1.out nq⟩
          case measure => simp [intOf]; omega
        · by_cases h2 : L[k].path.size = m
          · have HN : Hid (letSt (L.take (k + 1)) s.data.toList = (m, t || L[k].lt)) := by show _ = _; rw [HSN.out]; exact step_eq hh h2
            have h2' : ((L[k].path.size : Int) == (m : Int)) = true := by rw [h2]; simp
            clear hh
            cases t with
            | true =>
              go_wp2
              go_roundw
              case rel => exact ⟨k + 1, by omega, by go_num, by rw [HN.out], by rw [HN.out]; rfl, HB1⟩
              case measure => simp [intOf]; omega
            | false =>
              go_wp2
              go_roundw
              case rel => exact ⟨k + 1, by omega, by go_num, by rw [HN.out], by rw [HN.out]; rfl, HB1⟩
              case measure => simp [intOf]; omega
          · have HN : Hid (letSt (L.take (k + 1)) s.data.toList = (m, t)) := by show _ = _; rw [HSN.out]; exact step_low (by show _ < m; omega)
            have h2' : ((L[k].path.size : Int) == (m : Int)) = false := by simp; omega
            clear hh
            go_wp2
            go_roundw
            case rel => exact ⟨k + 1, by omega, by go_num, by rw [HN.out], by rw [HN.out], HB1⟩
            case measure => simp [intOf]; omega
    · have HE : Hid (letsL L s.data.toList = (letSt (L.take k) s.data.toList).2) := by
        show _ = _
        rw [List.take_of_length_le (by omega)]; rfl
      go_wp2
      go_ret
      exact ⟨ret_bool HE.out.symm, HB.out⟩
end Go.Proofs.YtiennniclkbjlaaGreatDoor.Le
