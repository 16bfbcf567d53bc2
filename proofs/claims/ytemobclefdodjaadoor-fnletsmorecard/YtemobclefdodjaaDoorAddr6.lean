/- The exact laws' helpers on addresses, further: how great, the same. -/
import Derived.Test.YtemobclefdodjaaDoorAddr5
namespace Go.Proofs.YtemobclefdodjaaDoor.Ad1
open Go.RowKit Go.Proofs.YtemobclefdodjaaDoor.EscM Go.Proofs.YtemobclefdodjaaDoor.AddrM Go.Proofs.YtemobclefdodjaaDoor.St Go.Proofs.YtemobclefdodjaaDoor.EscL

theorem sum_same : ∀ L : List ByteArray, sumSz L = sumS L := by
  intro L
  induction L with
  | nil => rfl
  | cons x r ih => simp only [sumSz, sumS, ih]


end Go.Proofs.YtemobclefdodjaaDoor.Ad1
