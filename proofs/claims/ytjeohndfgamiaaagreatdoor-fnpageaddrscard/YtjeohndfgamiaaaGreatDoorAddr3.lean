/- An address's text, and whether it is ok: of the program and of the model. -/
import Derived.Test.YtjeohndfgamiaaaGreatDoorAddr2
namespace Go.Proofs.YtjeohndfgamiaaaGreatDoor.Ad1
open Go.RowKit Go.Proofs.YtjeohndfgamiaaaGreatDoor.EscM Go.Proofs.YtjeohndfgamiaaaGreatDoor.AddrM Go.Proofs.YtjeohndfgamiaaaGreatDoor.St Go.Proofs.YtjeohndfgamiaaaGreatDoor.EscL

theorem text_eq (A : Ad) : (⟨#[47, 47]⟩ : ByteArray) ++ A.house ++ pathS A = textS A := by
  unfold pathS textS textL
  apply ByteArray.ext; simp

set_option maxRecDepth 100000 in
set_option maxHeartbeats 1600000 in
theorem specText_any (A : Ad) (a0 : Option Addr) (cap : Nat) (w : World) (hS : IsStrs w a0 cap A.parts) (hB : bulkA A ≤ 4194304) :
    Calls Tryz.prog 36 #[.agg #[.string A.house, .slice a0 A.parts.length cap, .bool A.asks, .string A.ask]] w fun e w' => e = .returned (.string (textS A)) ∧ Below w.heap.size w w' := by
  have HS : Hid (IsStrs (w.alloc (.cells #[.string A.house, .slice a0 A.parts.length cap, .bool A.asks, .string A.ask] 25)).drew a0 cap A.parts) := hS.keep (alloc_keep _ _)
  have HT : Hid _ := text_eq A
  have hps : (pathS A).size ≤ 4194307 := by unfold pathS; rw [size_mk]; have := pathL_len A; omega
  have hhs : A.house.size ≤ 4194304 := by unfold bulkA at hB; omega
  clear hS
  go_enter Tryz.func36, Tryz.ntmps36
  go_wp2
  go_region_with (go_at_call 65; refine (specPathW_any A a0 cap _ HS.out hB).mono ?_; rintro e w1 ⟨rfl, hb1⟩; have cw : w1.cell? ⟨w.heap.size, 0, none⟩ = some (.string A.house) := (hb1.cell (by show w.heap.size < _; simp)).trans (by simp))
  all_goals
    go_wp2
    go_ret
    exact ⟨ret_str HT.out, (((Below.refl _ _).alloc (Nat.le_refl _) _).drew).trans (hb1.mono (by simp))⟩

set_option maxRecDepth 100000 in
set_option maxHeartbeats 1600000 in
theorem implText_any (A : Ad) (a0 : Option Addr) (cap : Nat) (w : World) (hS : IsStrs w a0 cap A.parts) (hB : bulkA A ≤ 4194304) :
    Calls Tryz.prog 32 #[.agg #[.string A.house, .slice a0 A.parts.length cap, .bool A.asks, .string A.ask]] w fun e w' => e = .returned (.string (textS A)) ∧ Below w.heap.size w w' := by
  have HS : Hid (IsStrs (w.alloc (.cells #[.string A.house, .slice a0 A.parts.length cap, .bool A.asks, .string A.ask] 25)).drew a0 cap A.parts) := hS.keep (alloc_keep _ _)
  have HT : Hid _ := text_eq A
  have hps : (pathS A).size ≤ 4194307 := by unfold pathS; rw [size_mk]; have := pathL_len A; omega
  have hhs : A.house.size ≤ 4194304 := by unfold bulkA at hB; omega
  clear hS
  go_enter Tryz.func32, Tryz.ntmps32
  go_wp2
  go_region_with (go_at_call 62; refine (implPathW_any A a0 cap _ HS.out hB).mono ?_; rintro e w1 ⟨rfl, hb1⟩; have cw : w1.cell? ⟨w.heap.size, 0, none⟩ = some (.string A.house) := (hb1.cell (by show w.heap.size < _; simp)).trans (by simp))
  all_goals
    go_wp2
    go_ret
    exact ⟨ret_str HT.out, (((Below.refl _ _).alloc (Nat.le_refl _) _).drew).trans (hb1.mono (by simp))⟩
end Go.Proofs.YtjeohndfgamiaaaGreatDoor.Ad1
