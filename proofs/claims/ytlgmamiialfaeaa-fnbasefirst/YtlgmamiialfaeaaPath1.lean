/- PathClean, of the program and of the model: both are the fold over the parts. -/
import Derived.Test.YtlgmamiialfaeaaStrs
import Derived.Test.YtlgmamiialfaeaaPathMath
namespace Go.Proofs.Ytlgmamiialfaeaa.St
open Go.RowKit Go.Proofs.Ytlgmamiialfaeaa.PathM

end Go.Proofs.Ytlgmamiialfaeaa.St
