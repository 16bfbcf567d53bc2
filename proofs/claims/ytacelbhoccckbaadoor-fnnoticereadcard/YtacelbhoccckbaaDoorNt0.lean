/- A number in decimals, of the model: at most 20. -/
import Derived.Test.YtacelbhoccckbaaDoorNtMath
import Derived.Test.YtacelbhoccckbaaDoorEscLeafPk
namespace Go.Proofs.YtacelbhoccckbaaDoor.Nt
open Go.RowKit Go.Proofs.YtacelbhoccckbaaDoor.EscM Go.Proofs.YtacelbhoccckbaaDoor.EscL Go.Proofs.YtacelbhoccckbaaDoor.RuleM Go.Proofs.YtacelbhoccckbaaDoor.St Go.Proofs.YtacelbhoccckbaaDoor.RR Go.Proofs.YtacelbhoccckbaaDoor.LetM Go.Proofs.YtacelbhoccckbaaDoor.Nm Go.Proofs.YtacelbhoccckbaaDoor.GrM Go.Proofs.YtacelbhoccckbaaDoor.NtM

set_option maxRecDepth 100000 in
set_option maxHeartbeats 1600000 in
theorem specDec_small (n : Nat) (w : World) (h : n < 10) :
    Calls Tryd.prog 22 #[.int .i64 (n : Int)] w fun e w' => e = .returned (.string ⟨#[figL n]⟩) ∧ Below w.heap.size w w' := by
  have hob : ∀ W : World, _ := fun W => one_byte W (48 + (n : Int)) (by omega) (by omega)
  have hw : IntKind.u8.wrap (48 + (n : Int)) = 48 + (n : Int) := by
    have : n = 0 ∨ n = 1 ∨ n = 2 ∨ n = 3 ∨ n = 4 ∨ n = 5 ∨ n = 6 ∨ n = 7 ∨ n = 8 ∨ n = 9 := by omega
    rcases this with rfl | rfl | rfl | rfl | rfl | rfl | rfl | rfl | rfl | rfl <;> decide
  have HT : Hid (toB (48 + (n : Int)) = figL n) := by
    have : n = 0 ∨ n = 1 ∨ n = 2 ∨ n = 3 ∨ n = 4 ∨ n = 5 ∨ n = 6 ∨ n = 7 ∨ n = 8 ∨ n = 9 := by omega
    show _ = _
    rcases this with rfl | rfl | rfl | rfl | rfl | rfl | rfl | rfl | rfl | rfl <;> decide
  go_enter Tryd.func22, Tryd.ntmps22
  go_wp2
  go_ret
  exact ⟨ret_str (by rw [HT.out]), (Below.refl _ _).alloc (Nat.le_refl _) _⟩

theorem byte_at (w : World) (b : Nat) (n : Int) (h0 : 0 ≤ n) (h1 : n ≤ 255) (hc : w.cell? ⟨b, 0, none⟩ = some (.int .u8 n)) :
    (convert 22 9 (.slice (some ⟨b, 0, none⟩) 1 1)).run Tryd.prog w = .ok (.string ⟨#[toB n]⟩) w := by
  refine run_convert_bytes_back _ _ _ _ _ 1 [toB n] Tryd.underlying22 Tryd.underlying5 Tryd.underlying9 ?_
  intro j hj
  match j, hj with
  | 0, _ => simp [Addr.add, toB_toNat n h0 h1, hc]

theorem byte_in {w w1 : World} {n : Int} (h0 : 0 ≤ n) (h1 : n ≤ 255) (hb : Below (w.alloc (.cells #[.int .u8 n] 5)).drew.heap.size (w.alloc (.cells #[.int .u8 n] 5)).drew w1) :
    (convert 22 9 (.slice (some ⟨w.heap.size, 0, none⟩) 1 1)).run Tryd.prog w1 = .ok (.string ⟨#[toB n]⟩) w1 := by
  refine byte_at w1 w.heap.size n h0 h1 ((hb.cell (by show w.heap.size < (w.alloc (.cells #[.int .u8 n] 5)).heap.size; simp)).trans (by show (w.alloc (.cells #[.int .u8 n] 5)).cell? _ = _; simp))

theorem two_figs (q r : Nat) (hr : r < 10) : (⟨#[figL q]⟩ : ByteArray) ++ (⟨#[toB (48 + (r : Int))]⟩ : ByteArray) = ⟨#[figL q, figL r]⟩ := by
  have : toB (48 + (r : Int)) = figL r := by
    have : r = 0 ∨ r = 1 ∨ r = 2 ∨ r = 3 ∨ r = 4 ∨ r = 5 ∨ r = 6 ∨ r = 7 ∨ r = 8 ∨ r = 9 := by omega
    rcases this with rfl | rfl | rfl | rfl | rfl | rfl | rfl | rfl | rfl | rfl <;> decide
  rw [this]; apply ByteArray.ext; simp

set_option maxRecDepth 100000 in
set_option maxHeartbeats 1600000 in
theorem specDec_two (n q r : Nat) (w : World) (h1 : 10 ≤ n) (h2 : n ≤ 99) (hq0 : q = n / 10) (hr0 : r = n % 10) :
    Calls Tryd.prog 22 #[.int .i64 (n : Int)] w fun e w' => e = .returned (.string ⟨#[figL q, figL r]⟩) ∧ Below w.heap.size w w' := by
  have hr10 : r < 10 := by omega
  have hq10 : q < 10 := by omega
  have hob : ∀ W : World, _ := fun W => one_byte W (48 + (r : Int)) (by omega) (by omega)
  have hob1 : (convert 22 9 (.slice (some ⟨w.heap.size, 0, none⟩) 1 1)).run Tryd.prog (w.alloc (.cells #[.int .u8 (48 + (r : Int))] 5)).drew = .ok (.string ⟨#[toB (48 + (r : Int))]⟩) (w.alloc (.cells #[.int .u8 (48 + (r : Int))] 5)).drew := byte_at _ _ _ (by omega) (by omega) (by show (w.alloc (.cells #[.int .u8 (48 + (r : Int))] 5)).cell? _ = _; simp)
  have HB : Hid (∀ W : World, Calls Tryd.prog 22 #[.int .i64 (q : Int)] W fun e w' => e = .returned (.string ⟨#[figL q]⟩) ∧ Below W.heap.size W w') := fun W => specDec_small q W hq10
  have hq : (n : Int).tdiv 10 = (q : Int) := by rw [Int.tdiv_eq_ediv_of_nonneg (by omega)]; omega
  have hr : (n : Int).tmod 10 = (r : Int) := by rw [Int.tmod_eq_emod_of_nonneg (by omega)]; omega
  have e1 : IntKind.i64.wrap (q : Int) = (q : Int) := IntWalk.i64_in _ (by omega)
  have e4 : IntKind.i64.wrap (r : Int) = (r : Int) := IntWalk.i64_in _ (by omega)
  have e2 : IntKind.i64.wrap (48 + (r : Int)) = 48 + (r : Int) := IntWalk.i64_in _ (by omega)
  have e3 : IntKind.u8.wrap (48 + (r : Int)) = 48 + (r : Int) := by
    have : r = 0 ∨ r = 1 ∨ r = 2 ∨ r = 3 ∨ r = 4 ∨ r = 5 ∨ r = 6 ∨ r = 7 ∨ r = 8 ∨ r = 9 := by omega
    clear hob hob1 hr hr0
    rcases this with rfl | rfl | rfl | rfl | rfl | rfl | rfl | rfl | rfl | rfl <;> decide
  have HF : Hid _ := two_figs q r hr10
  clear hq0 hr0
  go_enter Tryd.func22, Tryd.ntmps22
  go_wp2
  go_region_with (go_at_call 22; refine (HB.out _).mono ?_; rintro e w1 ⟨rfl, hb1⟩; first | (have hx : (convert 22 9 (.slice (some ⟨w.heap.size, 0, none⟩) 1 1)).run Tryd.prog w1 = .ok (.string ⟨#[toB (48 + (r : Int))]⟩) w1 := byte_in (w := w) (by omega) (by omega) hb1) | skip)
  all_goals
    go_wp2
    go_ret
    refine ⟨ret_str (by rw [HF.out]), ?_⟩
    first
    | exact (((Below.refl _ w).drew).trans hb1).alloc (((Below.refl _ w).drew).trans hb1).size _
    | exact ((((Below.refl _ w).alloc (Nat.le_refl _) _).drew).trans (hb1.mono (by show w.heap.size ≤ (w.alloc _).heap.size; simp)))
    | fail
theorem specDec_any (n : Nat) (w : World) (h2 : n ≤ 99) :
    Calls Tryd.prog 22 #[.int .i64 (n : Int)] w fun e w' => e = .returned (.string ⟨(decL n).toArray⟩) ∧ Below w.heap.size w w' := by
  by_cases h : n < 10
  · have e : decL n = [figL n] := by unfold decL; rw [if_pos h]
    rw [e]; exact specDec_small n w h
  · have e : decL n = [figL (n / 10), figL (n % 10)] := by unfold decL; rw [if_neg h]
    rw [e]; exact specDec_two n _ _ w (by omega) h2 rfl rfl
end Go.Proofs.YtacelbhoccckbaaDoor.Nt
