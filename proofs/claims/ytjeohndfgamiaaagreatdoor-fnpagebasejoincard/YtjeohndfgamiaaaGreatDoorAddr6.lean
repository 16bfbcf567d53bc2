/- The exact laws' helpers on addresses, further: how great, the same. -/
import Derived.Test.YtjeohndfgamiaaaGreatDoorAddr5
namespace Go.Proofs.YtjeohndfgamiaaaGreatDoor.Ad1
open Go.RowKit Go.Proofs.YtjeohndfgamiaaaGreatDoor.EscM Go.Proofs.YtjeohndfgamiaaaGreatDoor.AddrM Go.Proofs.YtjeohndfgamiaaaGreatDoor.St Go.Proofs.YtjeohndfgamiaaaGreatDoor.EscL

theorem sum_same : ∀ L : List ByteArray, sumSz L = sumS L := by
  intro L
  induction L with
  | nil => rfl
  | cons x r ih => simp only [sumSz, sumS, ih]


end Go.Proofs.YtjeohndfgamiaaaGreatDoor.Ad1
