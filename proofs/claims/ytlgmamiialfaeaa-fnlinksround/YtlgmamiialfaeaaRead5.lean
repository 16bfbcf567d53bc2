/- The model's reading of an address: the whole, walked. -/
import Derived.Test.YtlgmamiialfaeaaRead4
namespace Go.Proofs.Ytlgmamiialfaeaa.Rd1
open Go.RowKit Go.Proofs.Ytlgmamiialfaeaa.EscM Go.Proofs.Ytlgmamiialfaeaa.AddrM Go.Proofs.Ytlgmamiialfaeaa.ReadM Go.Proofs.Ytlgmamiialfaeaa.St Go.Proofs.Ytlgmamiialfaeaa.EscL Go.Proofs.Ytlgmamiialfaeaa.PathM Go.Proofs.Ytlgmamiialfaeaa.Ad1

theorem small_size {s : ByteArray} (h : s.size ≤ 60) : (bs (smallL s.data.toList)).size ≤ 1000 := by
  rw [bs_size, small_len]
  have : s.data.toList.length = s.size := by simp
  omega
end Go.Proofs.Ytlgmamiialfaeaa.Rd1
