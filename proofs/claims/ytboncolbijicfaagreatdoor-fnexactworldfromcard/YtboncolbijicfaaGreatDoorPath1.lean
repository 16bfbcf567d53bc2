/- PathClean, of the program and of the model: both are the fold over the parts. -/
import Derived.Test.YtboncolbijicfaaGreatDoorStrs
import Derived.Test.YtboncolbijicfaaGreatDoorPathMath
namespace Go.Proofs.YtboncolbijicfaaGreatDoor.St
open Go.RowKit Go.Proofs.YtboncolbijicfaaGreatDoor.PathM

set_option maxRecDepth 100000 in
set_option maxHeartbeats 1600000 in
theorem implPath_any (a0 : Option Addr) (cap : Nat) (L : List ByteArray) (w : World) (h : IsStrs w a0 cap L) (hL : L.length ≤ 4194304) :
    Calls Tryz.prog 181 #[.slice a0 L.length cap] w fun e w' => ∃ v, e = .returned v ∧ Owns w' w.heap.size v (cleanL L) ∧ Below w.heap.size w w' := by
  obtain ⟨i0, hi, hz0, hz1, hz2⟩ := info_parts Tryz.infoS
  have HS : Hid (IsStrs w a0 cap L) := h
  have hc1 := h.1
  clear h
  go_enter Tryz.func181, Tryz.ntmps181
  go_wp2
  go_step3
  go_wp2
  go_step3
  go_wp2
  go_loopw [3, 8] (fun v i wr => ∃ k : Nat, k ≤ L.length ∧ i = .int .i64 (k : Int) ∧ Hid (Owns wr w.heap.size v (cleanL (L.take k))) ∧ Below w.heap.size w wr)
    (fun _ i _ => L.length - (intOf i).toNat)
  case atStart => exact ⟨0, Nat.zero_le _, rfl, Owns.nil _ _, Below.refl _ _⟩
  case round =>
    obtain ⟨k, hk, rfl, HO, hbel⟩ := hrel
    by_cases hlt : k < L.length
    · obtain ⟨_, hcm, _, hcc⟩ := HS.out.below hbel
      obtain ⟨b, off, rfl, hcell⟩ := hcc (by intro e; rw [e] at hlt; simp at hlt)
      have hck := hcell k hlt
      have HT : Hid _ := take_snoc L k hlt
      have hlen := clean_len (L.take k)
      have hlen2 : (cleanL (L.take k)).length ≤ k := Nat.le_trans hlen (by simp; omega)
      obtain ⟨ao, co, hv, hst⟩ := HO.out.strs
      have hso := hst.1
      have hsm := hst.2.1
      unfold maxLen at hcm hsm
      clear hcell hcc hlen hst
      generalize hX : cleanL (L.take k) = X at *
      generalize hp : L[k] = p at *
      subst hv
      cases h1 : p.toList.isEmpty with
      | true =>
        go_wp2
        go_roundw
        case rel => exact ⟨k + 1, by omega, by go_num, by rw [HT.out, step_none _ _ h1]; exact HO, hbel⟩
        case measure => simp [intOf]; omega
      | false =>
        cases h2 : (p.toList == [46]) with
        | true =>
          go_wp2
          go_roundw
          case rel => exact ⟨k + 1, by omega, by go_num, by rw [HT.out, step_dot _ _ h2]; exact HO, hbel⟩
          case measure => simp [intOf]; omega
        | false =>
          cases h3 : (p.toList == [46, 46]) with
          | true =>
            by_cases hX0 : X.length = 0
            · go_wp2
              go_roundw
              case rel =>
                refine ⟨k + 1, by omega, by go_num, ?_, hbel⟩
                rw [HT.out, step_up _ _ h1 h2 h3]
                have : X = [] := List.eq_nil_of_length_eq_zero hX0
                subst this; exact HO
              case measure => simp [intOf]; omega
            · go_wp2
              go_roundw
              case rel =>
                refine ⟨k + 1, by omega, by go_num, ?_, hbel⟩
                rw [HT.out, step_up _ _ h1 h2 h3]
                exact Owns.pop' hX0 HO.out
              case measure => simp [intOf]; omega
          | false =>
            go_wp2_with (at_builtin; refine wpList_append_own _ rfl _ _ 24 rfl w.heap.size 9 i0 (.string ⟨#[]⟩) 1 16 Tryz.underlying24 hi hz0 hz1 hz2 rfl (by decide) _ _ _ rfl (World.ownsRow.alloc HO.out _) ⟨wr.heap.size, 0, none⟩ 1 1 [.string p] rfl rfl (cell_one_new _ _ _) ?c2 ?c3 ?c4 ?c5 ?_)
            case c2 => intro u hu; simp at hu; subst hu; rfl
            case c3 => unfold maxLen; omega
            case c4 => omega
            case c5 => have := hbel.size; simp; omega
            intro v' w1 hown' hgrow _
            have HO' : Hid _ := hown'
            have HG : Hid _ := hgrow
            clear hown' hgrow
            go_wp2
            go_roundw
            case rel =>
              refine ⟨k + 1, by omega, by go_num, ?_, ?_⟩
              · rw [HT.out, step_on _ _ h1 h2 h3]; exact Owns.append HO'.out
              · exact Below.grown (hbel.alloc hbel.size _) HG.out (by have := hbel.size; simp; omega) (Owns.block HO.out)
            case measure => simp [intOf]; omega
    · have hall : L.take k = L := List.take_of_length_le (by omega)
      rw [hall] at HO
      clear hall
      go_wp2
      rw [Exit.noGoto_ret]
      go_ret
      exact ⟨_, rfl, HO.out, hbel⟩

set_option maxRecDepth 100000 in
set_option maxHeartbeats 1600000 in
theorem specPath_any (a0 : Option Addr) (cap : Nat) (L : List ByteArray) (w : World) (h : IsStrs w a0 cap L) (hL : L.length ≤ 4194304) :
    Calls Tryz.prog 172 #[.slice a0 L.length cap] w fun e w' => ∃ v, e = .returned v ∧ Owns w' w.heap.size v (cleanL L) ∧ Below w.heap.size w w' := by
  obtain ⟨i0, hi, hz0, hz1, hz2⟩ := info_parts Tryz.infoS
  have HS : Hid (IsStrs w a0 cap L) := h
  have hc1 := h.1
  clear h
  go_enter Tryz.func172, Tryz.ntmps172
  go_wp2
  go_loopw [3, 4] (fun v i wr => ∃ k : Nat, k ≤ L.length ∧ i = .int .i64 (k : Int) ∧ Hid (Owns wr w.heap.size v (cleanL (L.take k))) ∧ Below w.heap.size w wr)
    (fun _ i _ => L.length - (intOf i).toNat)
  case atStart => exact ⟨0, Nat.zero_le _, rfl, Owns.empty _ _ (Nat.le_refl _), (Below.refl _ _).alloc (Nat.le_refl _) _⟩
  case round =>
    obtain ⟨k, hk, rfl, HO, hbel⟩ := hrel
    by_cases hlt : k < L.length
    · obtain ⟨_, hcm, _, hcc⟩ := HS.out.below hbel
      obtain ⟨b, off, rfl, hcell⟩ := hcc (by intro e; rw [e] at hlt; simp at hlt)
      have hck := hcell k hlt
      have HT : Hid _ := take_snoc L k hlt
      have hlen := clean_len (L.take k)
      have hlen2 : (cleanL (L.take k)).length ≤ k := Nat.le_trans hlen (by simp; omega)
      obtain ⟨ao, co, hv, hst⟩ := HO.out.strs
      have hso := hst.1
      have hsm := hst.2.1
      unfold maxLen at hcm hsm
      clear hcell hcc hlen hst
      generalize hX : cleanL (L.take k) = X at *
      generalize hp : L[k] = p at *
      subst hv
      cases h1 : p.toList.isEmpty with
      | true =>
        go_wp2
        go_roundw
        case rel => exact ⟨k + 1, by omega, by go_num, by rw [HT.out, step_none _ _ h1]; exact HO, hbel⟩
        case measure => simp [intOf]; omega
      | false =>
        cases h2 : (p.toList == [46]) with
        | true =>
          go_wp2
          go_roundw
          case rel => exact ⟨k + 1, by omega, by go_num, by rw [HT.out, step_dot _ _ h2]; exact HO, hbel⟩
          case measure => simp [intOf]; omega
        | false =>
          cases h3 : (p.toList == [46, 46]) with
          | true =>
            by_cases hX0 : X.length = 0
            · go_wp2
              go_roundw
              case rel =>
                refine ⟨k + 1, by omega, by go_num, ?_, hbel⟩
                rw [HT.out, step_up _ _ h1 h2 h3]
                have : X = [] := List.eq_nil_of_length_eq_zero hX0
                subst this; exact HO
              case measure => simp [intOf]; omega
            · go_wp2
              go_roundw
              case rel =>
                refine ⟨k + 1, by omega, by go_num, ?_, hbel⟩
                rw [HT.out, step_up _ _ h1 h2 h3]
                exact Owns.pop' hX0 HO.out
              case measure => simp [intOf]; omega
          | false =>
            go_wp2_with (at_builtin; refine wpList_append_own _ rfl _ _ 24 rfl w.heap.size 9 i0 (.string ⟨#[]⟩) 1 16 Tryz.underlying24 hi hz0 hz1 hz2 rfl (by decide) _ _ _ rfl (World.ownsRow.alloc HO.out _) ⟨wr.heap.size, 0, none⟩ 1 1 [.string p] rfl rfl (cell_one_new _ _ _) ?c2 ?c3 ?c4 ?c5 ?_)
            case c2 => intro u hu; simp at hu; subst hu; rfl
            case c3 => unfold maxLen; omega
            case c4 => omega
            case c5 => have := hbel.size; simp; omega
            intro v' w1 hown' hgrow _
            have HO' : Hid _ := hown'
            have HG : Hid _ := hgrow
            clear hown' hgrow
            go_wp2
            go_roundw
            case rel =>
              refine ⟨k + 1, by omega, by go_num, ?_, ?_⟩
              · rw [HT.out, step_on _ _ h1 h2 h3]; exact Owns.append HO'.out
              · exact Below.grown (hbel.alloc hbel.size _) HG.out (by have := hbel.size; simp; omega) (Owns.block HO.out)
            case measure => simp [intOf]; omega
    · have hall : L.take k = L := List.take_of_length_le (by omega)
      rw [hall] at HO
      clear hall
      go_wp2
      go_ret
      exact ⟨_, rfl, HO.out, hbel⟩

theorem implPath_n (a0 : Option Addr) (n cap : Nat) (L : List ByteArray) (w : World) (hn : L.length = n) (h : IsStrs w a0 cap L) (hL : n ≤ 4194304) :
    Calls Tryz.prog 181 #[.slice a0 n cap] w fun e w' => ∃ v, e = .returned v ∧ Owns w' w.heap.size v (cleanL L) ∧ Below w.heap.size w w' := by
  subst hn; exact implPath_any a0 cap L w h hL
end Go.Proofs.YtboncolbijicfaaGreatDoor.St
