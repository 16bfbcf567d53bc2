/- An address, and what is written there, are drawn. -/
import Derived.Test.YtjgaddchkoonpaaGreatDoorDoor
import Derived.Test.YtjgaddchkoonpaaGreatDoorJoin2
namespace Go.Proofs.YtjgaddchkoonpaaGreatDoor.Dr
open Go.RowKit Go.Proofs.YtjgaddchkoonpaaGreatDoor.St Go.Proofs.YtjgaddchkoonpaaGreatDoor.AddrM Go.Proofs.YtjgaddchkoonpaaGreatDoor.EscL Go.Proofs.YtjgaddchkoonpaaGreatDoor.Ad1 Go.Proofs.YtjgaddchkoonpaaGreatDoor.ReadM Go.Proofs.YtjgaddchkoonpaaGreatDoor.Rd1

end Go.Proofs.YtjgaddchkoonpaaGreatDoor.Dr
namespace Go.Proofs.YtjgaddchkoonpaaGreatDoor.Door
open Go.RowKit Go.Proofs.YtjgaddchkoonpaaGreatDoor.St Go.Proofs.YtjgaddchkoonpaaGreatDoor.AddrM Go.Proofs.YtjgaddchkoonpaaGreatDoor.ReadM Go.Proofs.YtjgaddchkoonpaaGreatDoor.EscL Go.Proofs.YtjgaddchkoonpaaGreatDoor.Ad1 Go.Proofs.YtjgaddchkoonpaaGreatDoor.Dr Go.Proofs.YtjgaddchkoonpaaGreatDoor.Tw Go.Proofs.YtjgaddchkoonpaaGreatDoor.RB Go.Proofs.YtjgaddchkoonpaaGreatDoor.Im Go.Proofs.YtjgaddchkoonpaaGreatDoor.Rd1 Go.Proofs.YtjgaddchkoonpaaGreatDoor.JnM
theorem ansJ_bulk {P : Ad} {l : List UInt8} {A : Ad} {p : Bool} (h : (p = true ∧ joinF P l = some A) ∨ (p = false ∧ joinF P l = none ∧ A = zeroAd)) : A.parts.length ≤ 4194304 ∧ bulkA A ≤ 4194304 := by
  rcases h with ⟨_, h⟩ | ⟨_, _, rfl⟩
  · have := ok_sum (join_ok h)
    omega
  · exact ⟨by decide, by decide⟩
end Go.Proofs.YtjgaddchkoonpaaGreatDoor.Door
