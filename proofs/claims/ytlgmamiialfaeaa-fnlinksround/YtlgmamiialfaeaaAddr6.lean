/- The exact laws' helpers on addresses, further: how great, the same. -/
import Derived.Test.YtlgmamiialfaeaaAddr5
namespace Go.Proofs.Ytlgmamiialfaeaa.Ad1
open Go.RowKit Go.Proofs.Ytlgmamiialfaeaa.EscM Go.Proofs.Ytlgmamiialfaeaa.AddrM Go.Proofs.Ytlgmamiialfaeaa.St Go.Proofs.Ytlgmamiialfaeaa.EscL

theorem sum_same : ∀ L : List ByteArray, sumSz L = sumS L := by
  intro L
  induction L with
  | nil => rfl
  | cons x r ih => simp only [sumSz, sumS, ih]


end Go.Proofs.Ytlgmamiialfaeaa.Ad1
