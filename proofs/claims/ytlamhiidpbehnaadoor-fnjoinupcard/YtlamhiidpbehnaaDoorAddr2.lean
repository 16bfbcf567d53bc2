/- How an address is written: of the program and of the model. -/
import Derived.Test.YtlamhiidpbehnaaDoorAddr1
namespace Go.Proofs.YtlamhiidpbehnaaDoor.Ad1
open Go.RowKit Go.Proofs.YtlamhiidpbehnaaDoor.EscM Go.Proofs.YtlamhiidpbehnaaDoor.AddrM Go.Proofs.YtlamhiidpbehnaaDoor.St Go.Proofs.YtlamhiidpbehnaaDoor.EscL

theorem size_mk (l : List UInt8) : (⟨l.toArray⟩ : ByteArray).size = l.length := by show l.toArray.size = _; simp
theorem app_mk (l : List UInt8) (s : ByteArray) : (⟨l.toArray⟩ : ByteArray) ++ s = ⟨(l ++ s.data.toList).toArray⟩ := by apply ByteArray.ext; simp
theorem app_mk' (s : ByteArray) (l : List UInt8) : s ++ (⟨l.toArray⟩ : ByteArray) = ⟨(s.data.toList ++ l).toArray⟩ := by apply ByteArray.ext; simp

theorem path_step (L : List ByteArray) (k : Nat) (hk : k < L.length) (h0 : 0 < k) : 47 :: joinL (L.take (k + 1)) = ((47 :: joinL (L.take k)) ++ [47]) ++ L[k].data.toList := by
  rw [List.take_succ_eq_append_getElem hk, joinL_snoc _ _ (by intro e; have := congrArg List.length e; rw [List.length_take] at this; simp only [List.length_nil] at this; omega)]
  simp
theorem path_zero (L : List ByteArray) (k : Nat) (hk : k < L.length) (h0 : k = 0) : 47 :: joinL (L.take (k + 1)) = (47 :: joinL (L.take k)) ++ L[k].data.toList := by
  subst h0
  rw [List.take_succ_eq_append_getElem hk]; simp [joinL]
theorem sum_take (L : List ByteArray) (k : Nat) : sumS (L.take k) ≤ sumS L := by
  induction L generalizing k with
  | nil => simp [sumS]
  | cons x r ih =>
    cases k with
    | zero => simp [sumS]
    | succ k => have := ih k; simp only [List.take_succ_cons, sumS]; omega

set_option maxRecDepth 100000 in
set_option maxHeartbeats 1600000 in
theorem specPathW_any (A : Ad) (a0 : Option Addr) (cap : Nat) (w : World) (hS : IsStrs w a0 cap A.parts) (hB : bulkA A ≤ 4194304) :
    Calls Tryd.prog 51 #[.agg #[.string A.house, .slice a0 A.parts.length cap, .bool A.asks, .string A.ask]] w fun e w' => e = .returned (.string (pathS A)) ∧ Below w.heap.size w w' := by
  have HS : Hid (IsStrs (w.alloc (.cells #[.string A.house, .slice a0 A.parts.length cap, .bool A.asks, .string A.ask] 25)) a0 cap A.parts) := hS.keep (alloc_keep _ _)
  have hB2 : A.house.size + sumS A.parts + A.parts.length + A.ask.size ≤ 4194304 := hB
  have hpl := pathL_len A
  have hc := hS.1
  have hm := hS.2.1
  unfold maxLen at hm
  have HE : Hid (pathL A = (47 :: joinL A.parts) ++ if A.asks then [63] ++ A.ask.data.toList else []) := by show _ = _; unfold pathL; simp
  have hjl := joinL_len A.parts
  unfold pathS
  clear hS
  obtain ⟨house, parts, asks, ask⟩ := A
  dsimp only at *
  go_enter Tryd.func51, Tryd.ntmps51
  go_wp2
  go_loop [3, 4] (fun v i => ∃ k : Nat, k ≤ parts.length ∧ i = .int .i64 (k : Int) ∧ v = .string ⟨(47 :: joinL (parts.take k)).toArray⟩) (fun _ i => parts.length - (intOf i).toNat)
  case atStart => exact ⟨0, Nat.zero_le _, rfl, rfl⟩
  case round =>
    obtain ⟨k, hk, rfl, rfl⟩ := hrel
    have hjk := joinL_len (parts.take k)
    have hst := sum_take parts k
    have hjn : (joinL (parts.take k)).length ≤ 8400000 := by rw [List.length_take] at hjk; omega
    clear hjk hst
    by_cases hlt : k < parts.length
    · obtain ⟨b, o, e, c⟩ := HS.out.at hlt
      have hps := sum_mem (List.getElem_mem hlt)
      subst e
      by_cases hk0 : 0 < k
      · have HT : Hid _ := path_step parts k hlt hk0
        generalize parts[k] = p at *
        go_wp2
        go_round
        case rel => exact ⟨k + 1, by omega, by go_num, val_str (by rw [HT.out, show (⟨#[47]⟩ : ByteArray) = ⟨[47].toArray⟩ from rfl, str_app, app_mk])⟩
        case measure => simp [intOf]; omega
      · have HT : Hid _ := path_zero parts k hlt (by omega)
        generalize parts[k] = p at *
        go_wp2
        go_round
        case rel => exact ⟨k + 1, by omega, by go_num, val_str (by rw [HT.out, app_mk])⟩
        case measure => simp [intOf]; omega
    · have e1 : parts.take k = parts := List.take_of_length_le (by omega)
      rw [e1] at hjn ⊢
      cases asks with
      | true =>
        clear e1
        go_wp2
        go_ret
        refine ⟨ret_str ?_, (Below.refl _ _).alloc (Nat.le_refl _) _⟩
        rw [HE.out, show (⟨#[63]⟩ : ByteArray) = ⟨[63].toArray⟩ from rfl, str_app, app_mk]
        simp
      | false =>
        clear e1
        go_wp2
        go_ret
        refine ⟨ret_str ?_, (Below.refl _ _).alloc (Nat.le_refl _) _⟩
        rw [HE.out]; simp

set_option maxRecDepth 100000 in
set_option maxHeartbeats 1600000 in
theorem implPathW_any (A : Ad) (a0 : Option Addr) (cap : Nat) (w : World) (hS : IsStrs w a0 cap A.parts) (hB : bulkA A ≤ 4194304) :
    Calls Tryd.prog 52 #[.agg #[.string A.house, .slice a0 A.parts.length cap, .bool A.asks, .string A.ask]] w fun e w' => e = .returned (.string (pathS A)) ∧ Below w.heap.size w w' := by
  have HS : Hid (IsStrs (w.alloc (.cells #[.string A.house, .slice a0 A.parts.length cap, .bool A.asks, .string A.ask] 25)) a0 cap A.parts) := hS.keep (alloc_keep _ _)
  have hB2 : A.house.size + sumS A.parts + A.parts.length + A.ask.size ≤ 4194304 := hB
  have hc := hS.1
  have hm := hS.2.1
  unfold maxLen at hm
  have HE : Hid (pathL A = (47 :: joinL A.parts) ++ if A.asks then [63] ++ A.ask.data.toList else []) := by show _ = _; unfold pathL; simp
  have hjl := joinL_len A.parts
  unfold pathS
  clear hS
  obtain ⟨house, parts, asks, ask⟩ := A
  dsimp only at *
  have HJ : Hid (Calls Tryd.prog 67 #[.slice a0 parts.length cap, .string ⟨#[47]⟩] (w.alloc (.cells #[.string house, .slice a0 parts.length cap, .bool asks, .string ask] 25)) fun e w' => e = .returned (.string ⟨(joinL parts).toArray⟩) ∧ Below (w.heap.size + 1) (w.alloc (.cells #[.string house, .slice a0 parts.length cap, .bool asks, .string ask] 25)) w') := by
    show Calls _ _ _ _ _
    by_cases hne : parts = []
    · subst hne
      refine (Tryd.strings_Join_none a0 cap ⟨#[47]⟩ _).mono ?_
      rintro e w' ⟨rfl, rfl⟩
      exact ⟨rfl, Below.refl _ _⟩
    · obtain ⟨b, o, e, hcell⟩ := HS.out.2.2.2 hne
      subst e
      have hblk := cell_block (hcell 0 (List.length_pos_iff.2 hne))
      have hlen : (Lib.join (parts.map (·.data.toList)) (⟨#[47]⟩ : ByteArray).data.toList).length ≤ 140737488355328 := by
        rw [show (⟨#[47]⟩ : ByteArray).data.toList = [47] from rfl, join_eq]; omega
      refine (Tryd.strings_Join b o cap parts ⟨#[47]⟩ _ ?_ hblk (by omega) hc hlen).mono ?_
      · intro j x hj
        have hj' := (List.getElem?_eq_some_iff.1 hj)
        rw [hcell j hj'.1, hj'.2]
      · rintro e w' ⟨rfl, hb⟩
        refine ⟨?_, by simpa using hb⟩
        rw [show (⟨#[47]⟩ : ByteArray).data.toList = [47] from rfl, join_eq]
  go_enter Tryd.func52, Tryd.ntmps52
  go_wp2_with fail
  refine HJ.out.mono ?_
  rintro e w1 ⟨rfl, hb1⟩
  have hc1 : ∀ j, w1.cell? ⟨w.heap.size, j, none⟩ = (w.alloc (.cells #[.string house, .slice a0 parts.length cap, .bool asks, .string ask] 25)).cell? ⟨w.heap.size, j, none⟩ := fun j => hb1.cell (by show w.heap.size < _; omega)
  have c2 : w1.cell? ⟨w.heap.size, 2, none⟩ = some (.bool asks) := by rw [hc1]; simp
  have c3 : w1.cell? ⟨w.heap.size, 3, none⟩ = some (.string ask) := by rw [hc1]; simp
  have hbw : Below w.heap.size w w1 := ((Below.refl _ _).alloc (Nat.le_refl _) _).trans (hb1.mono (by omega))
  clear hc1 HJ HS hb1
  cases asks with
  | true =>
    go_wp2
    go_ret
    refine ⟨ret_str ?_, hbw⟩
    rw [HE.out, show (⟨#[47]⟩ : ByteArray) = ⟨[47].toArray⟩ from rfl, show (⟨#[63]⟩ : ByteArray) = ⟨[63].toArray⟩ from rfl, str_app, app_mk, str_app]
    simp
  | false =>
    go_wp2
    go_ret
    refine ⟨ret_str ?_, hbw⟩
    rw [HE.out, show (⟨#[47]⟩ : ByteArray) = ⟨[47].toArray⟩ from rfl, str_app]
    simp
end Go.Proofs.YtlamhiidpbehnaaDoor.Ad1
