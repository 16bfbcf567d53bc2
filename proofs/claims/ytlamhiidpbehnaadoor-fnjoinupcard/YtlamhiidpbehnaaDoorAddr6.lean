/- The exact laws' helpers on addresses, further: how great, the same. -/
import Derived.Test.YtlamhiidpbehnaaDoorAddr5
namespace Go.Proofs.YtlamhiidpbehnaaDoor.Ad1
open Go.RowKit Go.Proofs.YtlamhiidpbehnaaDoor.EscM Go.Proofs.YtlamhiidpbehnaaDoor.AddrM Go.Proofs.YtlamhiidpbehnaaDoor.St Go.Proofs.YtlamhiidpbehnaaDoor.EscL

theorem sum_same : ∀ L : List ByteArray, sumSz L = sumS L := by
  intro L
  induction L with
  | nil => rfl
  | cons x r ih => simp only [sumSz, sumS, ih]


end Go.Proofs.YtlamhiidpbehnaaDoor.Ad1
