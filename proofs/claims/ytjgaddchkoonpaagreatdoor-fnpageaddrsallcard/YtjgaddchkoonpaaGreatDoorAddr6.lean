/- The exact laws' helpers on addresses, further: how great, the same. -/
import Derived.Test.YtjgaddchkoonpaaGreatDoorAddr5
namespace Go.Proofs.YtjgaddchkoonpaaGreatDoor.Ad1
open Go.RowKit Go.Proofs.YtjgaddchkoonpaaGreatDoor.EscM Go.Proofs.YtjgaddchkoonpaaGreatDoor.AddrM Go.Proofs.YtjgaddchkoonpaaGreatDoor.St Go.Proofs.YtjgaddchkoonpaaGreatDoor.EscL

theorem sum_same : ∀ L : List ByteArray, sumSz L = sumS L := by
  intro L
  induction L with
  | nil => rfl
  | cons x r ih => simp only [sumSz, sumS, ih]


end Go.Proofs.YtjgaddchkoonpaaGreatDoor.Ad1
