/- The exact laws' helpers on addresses, further: how great, the same. -/
import Derived.Test.YtboncolbijicfaaDoorAddr5
namespace Go.Proofs.YtboncolbijicfaaDoor.Ad1
open Go.RowKit Go.Proofs.YtboncolbijicfaaDoor.EscM Go.Proofs.YtboncolbijicfaaDoor.AddrM Go.Proofs.YtboncolbijicfaaDoor.St Go.Proofs.YtboncolbijicfaaDoor.EscL

theorem sum_same : ∀ L : List ByteArray, sumSz L = sumS L := by
  intro L
  induction L with
  | nil => rfl
  | cons x r ih => simp only [sumSz, sumS, ih]

set_option maxRecDepth 100000 in
set_option maxHeartbeats 1600000 in
theorem szAddr_any (A : Ad) (a0 : Option Addr) (cap : Nat) (w : World) (hS : IsStrs w a0 cap A.parts) (h1 : A.house.size ≤ maxLen) (h2 : ∀ s ∈ A.parts, s.size ≤ maxLen) (h3 : A.ask.size ≤ maxLen) :
    Calls Tryd.prog 19 #[.agg #[.string A.house, .slice a0 A.parts.length cap, .bool A.asks, .string A.ask], .int .i64 1048576] w fun e w' => (∃ x : Int, e = .returned (.int .i64 x) ∧ (x < 0 ∨ (0 ≤ x ∧ bulkA A ≤ 1048576))) ∧ Below w.heap.size w w' := by
  have HS : Hid (IsStrs w a0 cap A.parts) := hS
  have H2 : Hid (∀ s ∈ A.parts, s.size ≤ maxLen) := h2
  clear hS h2
  have hBD : bulkA A = A.house.size + sumS A.parts + A.parts.length + A.ask.size := rfl
  have HBD : Hid _ := hBD
  clear hBD
  obtain ⟨house, parts, asks, ask⟩ := A
  dsimp only at *
  unfold maxLen at h1 h3
  by_cases hh : 1048576 < house.size
  · go_enter Tryd.func19, Tryd.ntmps19
    go_wp2
    go_ret
    exact ⟨⟨-1, rfl, Or.inl (by omega)⟩, (Below.refl _ _).alloc (Nat.le_refl _) _⟩
  · go_enter Tryd.func19, Tryd.ntmps19
    go_wp2_with fail
    rw [show (1048576 : Int) - (house.size : Int) = ((1048576 - house.size : Nat) : Int) from by omega]
    refine (szS_any a0 cap parts (1048576 - house.size) _ (HS.out.keep (alloc_keep _ _)) H2.out (by omega)).mono ?_
    rintro e w1 ⟨⟨x, rfl, hx⟩, rfl⟩
    rcases hx with hx | ⟨hx0, hx1, _, hsum⟩
    · go_wp2
      go_ret
      exact ⟨⟨-1, rfl, Or.inl (by omega)⟩, (Below.refl _ _).alloc (Nat.le_refl _) _⟩
    · have HX : Hid _ := hsum
      clear hsum
      have hx2 : x ≤ 1048576 := by omega
      clear hx1
      by_cases hq : x < (ask.size : Int)
      · go_wp2
        go_ret
        exact ⟨⟨-1, rfl, Or.inl (by omega)⟩, (Below.refl _ _).alloc (Nat.le_refl _) _⟩
      · go_wp2
        go_ret
        refine ⟨⟨x - (ask.size : Int), rfl, Or.inr ⟨by omega, ?_⟩⟩, (Below.refl _ _).alloc (Nat.le_refl _) _⟩
        have := HX.out
        rw [sum_same] at this
        rw [HBD.out]; omega


set_option maxRecDepth 100000 in
set_option maxHeartbeats 1600000 in
/-- the same in every field -/
theorem eqAddr_same (A : Ad) (a0 : Option Addr) (cap : Nat) (b0 : Option Addr) (dap : Nat) (w : World) (hA : IsStrs w a0 cap A.parts) (hB : IsStrs w b0 dap A.parts) (hl : A.parts.length ≤ 4194304) :
    Calls Tryd.prog 16 #[.agg #[.string A.house, .slice a0 A.parts.length cap, .bool A.asks, .string A.ask], .agg #[.string A.house, .slice b0 A.parts.length dap, .bool A.asks, .string A.ask]] w fun e w' => e = .returned (.bool true) ∧ Below w.heap.size w w' := by
  have HA : Hid (IsStrs w a0 cap A.parts) := hA
  have HB : Hid (IsStrs w b0 dap A.parts) := hB
  clear hA hB
  obtain ⟨house, parts, asks, ask⟩ := A
  dsimp only at *
  go_enter Tryd.func16, Tryd.ntmps16
  go_wp2_with fail
  refine (eqStringS_any _ _ parts _ _ parts _ (HA.out.keep fun k hk => by rw [alloc_keep _ _ k (by simp; omega), alloc_keep _ _ k hk]) (HB.out.keep fun k hk => by rw [alloc_keep _ _ k (by simp; omega), alloc_keep _ _ k hk]) hl hl).mono ?_
  rintro e w1 ⟨rfl, n, rfl⟩
  rw [decide_eq_true (rfl : parts = parts)]
  go_wp2
  go_ret
  exact ⟨rfl, below_drewN (((Below.refl _ _).alloc (Nat.le_refl _) _).alloc (by simp) _) n⟩
end Go.Proofs.YtboncolbijicfaaDoor.Ad1
