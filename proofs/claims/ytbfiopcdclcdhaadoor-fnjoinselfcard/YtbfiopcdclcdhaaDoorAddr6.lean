/- The exact laws' helpers on addresses, further: how great, the same. -/
import Derived.Test.YtbfiopcdclcdhaaDoorAddr5
namespace Go.Proofs.YtbfiopcdclcdhaaDoor.Ad1
open Go.RowKit Go.Proofs.YtbfiopcdclcdhaaDoor.EscM Go.Proofs.YtbfiopcdclcdhaaDoor.AddrM Go.Proofs.YtbfiopcdclcdhaaDoor.St Go.Proofs.YtbfiopcdclcdhaaDoor.EscL

theorem sum_same : ∀ L : List ByteArray, sumSz L = sumS L := by
  intro L
  induction L with
  | nil => rfl
  | cons x r ih => simp only [sumSz, sumS, ih]


set_option maxRecDepth 100000 in
set_option maxHeartbeats 1600000 in
/-- the same in every field -/
theorem eqAddr_same (A : Ad) (a0 : Option Addr) (cap : Nat) (b0 : Option Addr) (dap : Nat) (w : World) (hA : IsStrs w a0 cap A.parts) (hB : IsStrs w b0 dap A.parts) (hl : A.parts.length ≤ 4194304) :
    Calls Tryd.prog 29 #[.agg #[.string A.house, .slice a0 A.parts.length cap, .bool A.asks, .string A.ask], .agg #[.string A.house, .slice b0 A.parts.length dap, .bool A.asks, .string A.ask]] w fun e w' => e = .returned (.bool true) ∧ Below w.heap.size w w' := by
  have HA : Hid (IsStrs w a0 cap A.parts) := hA
  have HB : Hid (IsStrs w b0 dap A.parts) := hB
  clear hA hB
  obtain ⟨house, parts, asks, ask⟩ := A
  dsimp only at *
  go_enter Tryd.func29, Tryd.ntmps29
  go_wp2_with fail
  refine (eqStringS_any _ _ parts _ _ parts _ (HA.out.keep fun k hk => by rw [alloc_keep _ _ k (by simp; omega), alloc_keep _ _ k hk]) (HB.out.keep fun k hk => by rw [alloc_keep _ _ k (by simp; omega), alloc_keep _ _ k hk]) hl hl).mono ?_
  rintro e w1 ⟨rfl, n, rfl⟩
  rw [decide_eq_true (rfl : parts = parts)]
  go_wp2
  go_ret
  exact ⟨rfl, below_drewN (((Below.refl _ _).alloc (Nat.le_refl _) _).alloc (by simp) _) n⟩
end Go.Proofs.YtbfiopcdclcdhaaDoor.Ad1
