/- The drawn addresses of the laws. -/
import Derived.Test.YtlgmamiialfaeaaDraw6
namespace Go.Proofs.Ytlgmamiialfaeaa.Dr
open Go.RowKit Go.Proofs.Ytlgmamiialfaeaa.St Go.Proofs.Ytlgmamiialfaeaa.AddrM Go.Proofs.Ytlgmamiialfaeaa.EscL Go.Proofs.Ytlgmamiialfaeaa.Ad1 Go.Proofs.Ytlgmamiialfaeaa.ReadM Go.Proofs.Ytlgmamiialfaeaa.Rd1

/-- an address that is drawn of a code -/
def DrawnA (w : World) (e : Ending) (w' : World) : Prop :=
  ∃ (A : Ad) (a1 : Option Addr) (c1 : Nat), e = .returned (.agg #[.string A.house, .slice a1 A.parts.length c1, .bool A.asks, .string A.ask]) ∧ Owns w' w.heap.size (.slice a1 A.parts.length c1) A.parts ∧ bulkA A ≤ 1000 ∧ Below w.heap.size w w'

end Go.Proofs.Ytlgmamiialfaeaa.Dr
