/- An address's text, and whether it is ok: of the program and of the model. -/
import Derived.Test.YtlamhiidpbehnaaDoorAddr2
namespace Go.Proofs.YtlamhiidpbehnaaDoor.Ad1
open Go.RowKit Go.Proofs.YtlamhiidpbehnaaDoor.EscM Go.Proofs.YtlamhiidpbehnaaDoor.AddrM Go.Proofs.YtlamhiidpbehnaaDoor.St Go.Proofs.YtlamhiidpbehnaaDoor.EscL

theorem text_eq (A : Ad) : (⟨#[47, 47]⟩ : ByteArray) ++ A.house ++ pathS A = textS A := by
  unfold pathS textS textL
  apply ByteArray.ext; simp

set_option maxRecDepth 100000 in
set_option maxHeartbeats 1600000 in
theorem specText_any (A : Ad) (a0 : Option Addr) (cap : Nat) (w : World) (hS : IsStrs w a0 cap A.parts) (hB : bulkA A ≤ 4194304) :
    Calls Tryd.prog 29 #[.agg #[.string A.house, .slice a0 A.parts.length cap, .bool A.asks, .string A.ask]] w fun e w' => e = .returned (.string (textS A)) ∧ Below w.heap.size w w' := by
  have HS : Hid (IsStrs (w.alloc (.cells #[.string A.house, .slice a0 A.parts.length cap, .bool A.asks, .string A.ask] 25)).drew a0 cap A.parts) := hS.keep (alloc_keep _ _)
  have HT : Hid _ := text_eq A
  have hps : (pathS A).size ≤ 4194307 := by unfold pathS; rw [size_mk]; have := pathL_len A; omega
  have hhs : A.house.size ≤ 4194304 := by unfold bulkA at hB; omega
  clear hS
  go_enter Tryd.func29, Tryd.ntmps29
  go_wp2
  go_region_with (go_at_call 51; refine (specPathW_any A a0 cap _ HS.out hB).mono ?_; rintro e w1 ⟨rfl, hb1⟩; have cw : w1.cell? ⟨w.heap.size, 0, none⟩ = some (.string A.house) := (hb1.cell (by show w.heap.size < _; simp)).trans (by simp))
  all_goals
    go_wp2
    go_ret
    exact ⟨ret_str HT.out, (((Below.refl _ _).alloc (Nat.le_refl _) _).drew).trans (hb1.mono (by simp))⟩

set_option maxRecDepth 100000 in
set_option maxHeartbeats 1600000 in
theorem implText_any (A : Ad) (a0 : Option Addr) (cap : Nat) (w : World) (hS : IsStrs w a0 cap A.parts) (hB : bulkA A ≤ 4194304) :
    Calls Tryd.prog 30 #[.agg #[.string A.house, .slice a0 A.parts.length cap, .bool A.asks, .string A.ask]] w fun e w' => e = .returned (.string (textS A)) ∧ Below w.heap.size w w' := by
  have HS : Hid (IsStrs (w.alloc (.cells #[.string A.house, .slice a0 A.parts.length cap, .bool A.asks, .string A.ask] 25)).drew a0 cap A.parts) := hS.keep (alloc_keep _ _)
  have HT : Hid _ := text_eq A
  have hps : (pathS A).size ≤ 4194307 := by unfold pathS; rw [size_mk]; have := pathL_len A; omega
  have hhs : A.house.size ≤ 4194304 := by unfold bulkA at hB; omega
  clear hS
  go_enter Tryd.func30, Tryd.ntmps30
  go_wp2
  go_region_with (go_at_call 52; refine (implPathW_any A a0 cap _ HS.out hB).mono ?_; rintro e w1 ⟨rfl, hb1⟩; have cw : w1.cell? ⟨w.heap.size, 0, none⟩ = some (.string A.house) := (hb1.cell (by show w.heap.size < _; simp)).trans (by simp))
  all_goals
    go_wp2
    go_ret
    exact ⟨ret_str HT.out, (((Below.refl _ _).alloc (Nat.le_refl _) _).drew).trans (hb1.mono (by simp))⟩
end Go.Proofs.YtlamhiidpbehnaaDoor.Ad1
