/- How an address is written: of the program and of the model. -/
import Derived.Test.YtacelbhoccckbaaDoorAddr1
namespace Go.Proofs.YtacelbhoccckbaaDoor.Ad1
open Go.RowKit Go.Proofs.YtacelbhoccckbaaDoor.EscM Go.Proofs.YtacelbhoccckbaaDoor.AddrM Go.Proofs.YtacelbhoccckbaaDoor.St Go.Proofs.YtacelbhoccckbaaDoor.EscL

theorem size_mk (l : List UInt8) : (⟨l.toArray⟩ : ByteArray).size = l.length := by show l.toArray.size = _; simp
theorem app_mk (l : List UInt8) (s : ByteArray) : (⟨l.toArray⟩ : ByteArray) ++ s = ⟨(l ++ s.data.toList).toArray⟩ := by apply ByteArray.ext; simp
theorem app_mk' (s : ByteArray) (l : List UInt8) : s ++ (⟨l.toArray⟩ : ByteArray) = ⟨(s.data.toList ++ l).toArray⟩ := by apply ByteArray.ext; simp

theorem path_step (L : List ByteArray) (k : Nat) (hk : k < L.length) (h0 : 0 < k) : 47 :: joinL (L.take (k + 1)) = ((47 :: joinL (L.take k)) ++ [47]) ++ L[k].data.toList := by
  rw [List.take_succ_eq_append_getElem hk, joinL_snoc _ _ (by intro e; have := congrArg List.length e; rw [List.length_take] at this; simp only [List.length_nil] at this; omega)]
  simp
theorem path_zero (L : List ByteArray) (k : Nat) (hk : k < L.length) (h0 : k = 0) : 47 :: joinL (L.take (k + 1)) = (47 :: joinL (L.take k)) ++ L[k].data.toList := by
  subst h0
  rw [List.take_succ_eq_append_getElem hk]; simp [joinL]
theorem sum_take (L : List ByteArray) (k : Nat) : sumS (L.take k) ≤ sumS L := by
  induction L generalizing k with
  | nil => simp [sumS]
  | cons x r ih =>
    cases k with
    | zero => simp [sumS]
    | succ k => have := ih k; simp only [List.take_succ_cons, sumS]; omega

end Go.Proofs.YtacelbhoccckbaaDoor.Ad1
