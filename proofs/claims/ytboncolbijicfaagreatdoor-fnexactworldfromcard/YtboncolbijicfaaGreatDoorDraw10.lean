/- An address, and what is written there, are drawn. -/
import Derived.Test.YtboncolbijicfaaGreatDoorDoor
import Derived.Test.YtboncolbijicfaaGreatDoorJoin2
namespace Go.Proofs.YtboncolbijicfaaGreatDoor.Dr
open Go.RowKit Go.Proofs.YtboncolbijicfaaGreatDoor.St Go.Proofs.YtboncolbijicfaaGreatDoor.AddrM Go.Proofs.YtboncolbijicfaaGreatDoor.EscL Go.Proofs.YtboncolbijicfaaGreatDoor.Ad1 Go.Proofs.YtboncolbijicfaaGreatDoor.ReadM Go.Proofs.YtboncolbijicfaaGreatDoor.Rd1

end Go.Proofs.YtboncolbijicfaaGreatDoor.Dr
namespace Go.Proofs.YtboncolbijicfaaGreatDoor.Door
open Go.RowKit Go.Proofs.YtboncolbijicfaaGreatDoor.St Go.Proofs.YtboncolbijicfaaGreatDoor.AddrM Go.Proofs.YtboncolbijicfaaGreatDoor.ReadM Go.Proofs.YtboncolbijicfaaGreatDoor.EscL Go.Proofs.YtboncolbijicfaaGreatDoor.Ad1 Go.Proofs.YtboncolbijicfaaGreatDoor.Dr Go.Proofs.YtboncolbijicfaaGreatDoor.Tw Go.Proofs.YtboncolbijicfaaGreatDoor.RB Go.Proofs.YtboncolbijicfaaGreatDoor.Im Go.Proofs.YtboncolbijicfaaGreatDoor.Rd1 Go.Proofs.YtboncolbijicfaaGreatDoor.JnM
theorem ansJ_bulk {P : Ad} {l : List UInt8} {A : Ad} {p : Bool} (h : (p = true ∧ joinF P l = some A) ∨ (p = false ∧ joinF P l = none ∧ A = zeroAd)) : A.parts.length ≤ 4194304 ∧ bulkA A ≤ 4194304 := by
  rcases h with ⟨_, h⟩ | ⟨_, _, rfl⟩
  · have := ok_sum (join_ok h)
    omega
  · exact ⟨by decide, by decide⟩
end Go.Proofs.YtboncolbijicfaaGreatDoor.Door
