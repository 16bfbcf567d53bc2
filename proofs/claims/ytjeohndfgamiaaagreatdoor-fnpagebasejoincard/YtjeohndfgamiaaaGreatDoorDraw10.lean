/- An address, and what is written there, are drawn. -/
import Derived.Test.YtjeohndfgamiaaaGreatDoorDoor
import Derived.Test.YtjeohndfgamiaaaGreatDoorJoin2
namespace Go.Proofs.YtjeohndfgamiaaaGreatDoor.Dr
open Go.RowKit Go.Proofs.YtjeohndfgamiaaaGreatDoor.St Go.Proofs.YtjeohndfgamiaaaGreatDoor.AddrM Go.Proofs.YtjeohndfgamiaaaGreatDoor.EscL Go.Proofs.YtjeohndfgamiaaaGreatDoor.Ad1 Go.Proofs.YtjeohndfgamiaaaGreatDoor.ReadM Go.Proofs.YtjeohndfgamiaaaGreatDoor.Rd1

end Go.Proofs.YtjeohndfgamiaaaGreatDoor.Dr
namespace Go.Proofs.YtjeohndfgamiaaaGreatDoor.Door
open Go.RowKit Go.Proofs.YtjeohndfgamiaaaGreatDoor.St Go.Proofs.YtjeohndfgamiaaaGreatDoor.AddrM Go.Proofs.YtjeohndfgamiaaaGreatDoor.ReadM Go.Proofs.YtjeohndfgamiaaaGreatDoor.EscL Go.Proofs.YtjeohndfgamiaaaGreatDoor.Ad1 Go.Proofs.YtjeohndfgamiaaaGreatDoor.Dr Go.Proofs.YtjeohndfgamiaaaGreatDoor.Tw Go.Proofs.YtjeohndfgamiaaaGreatDoor.RB Go.Proofs.YtjeohndfgamiaaaGreatDoor.Im Go.Proofs.YtjeohndfgamiaaaGreatDoor.Rd1 Go.Proofs.YtjeohndfgamiaaaGreatDoor.JnM
theorem ansJ_bulk {P : Ad} {l : List UInt8} {A : Ad} {p : Bool} (h : (p = true ∧ joinF P l = some A) ∨ (p = false ∧ joinF P l = none ∧ A = zeroAd)) : A.parts.length ≤ 4194304 ∧ bulkA A ≤ 4194304 := by
  rcases h with ⟨_, h⟩ | ⟨_, _, rfl⟩
  · have := ok_sum (join_ok h)
    omega
  · exact ⟨by decide, by decide⟩
end Go.Proofs.YtjeohndfgamiaaaGreatDoor.Door
