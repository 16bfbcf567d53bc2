/- An address, and what is written there, are drawn. -/
import Derived.Test.YtmgcdfmgmpnonaaGreatDoorDraw5Pk
import Derived.Test.YtmgcdfmgmpnonaaGreatDoorJoin1Pk
namespace Go.Proofs.YtmgcdfmgmpnonaaGreatDoor.Dr
open Go.RowKit Go.Proofs.YtmgcdfmgmpnonaaGreatDoor.St Go.Proofs.YtmgcdfmgmpnonaaGreatDoor.AddrM Go.Proofs.YtmgcdfmgmpnonaaGreatDoor.EscL Go.Proofs.YtmgcdfmgmpnonaaGreatDoor.Ad1 Go.Proofs.YtmgcdfmgmpnonaaGreatDoor.ReadM Go.Proofs.YtmgcdfmgmpnonaaGreatDoor.Rd1

end Go.Proofs.YtmgcdfmgmpnonaaGreatDoor.Dr
namespace Go.Proofs.YtmgcdfmgmpnonaaGreatDoor.Door
open Go.RowKit Go.Proofs.YtmgcdfmgmpnonaaGreatDoor.St Go.Proofs.YtmgcdfmgmpnonaaGreatDoor.AddrM Go.Proofs.YtmgcdfmgmpnonaaGreatDoor.ReadM Go.Proofs.YtmgcdfmgmpnonaaGreatDoor.EscL Go.Proofs.YtmgcdfmgmpnonaaGreatDoor.Ad1 Go.Proofs.YtmgcdfmgmpnonaaGreatDoor.Dr Go.Proofs.YtmgcdfmgmpnonaaGreatDoor.Tw Go.Proofs.YtmgcdfmgmpnonaaGreatDoor.RB Go.Proofs.YtmgcdfmgmpnonaaGreatDoor.Im Go.Proofs.YtmgcdfmgmpnonaaGreatDoor.Rd1 Go.Proofs.YtmgcdfmgmpnonaaGreatDoor.JnM
theorem ansJ_bulk {P : Ad} {l : List UInt8} {A : Ad} {p : Bool} (h : (p = true ∧ joinF P l = some A) ∨ (p = false ∧ joinF P l = none ∧ A = zeroAd)) : A.parts.length ≤ 4194304 ∧ bulkA A ≤ 4194304 := by
  rcases h with ⟨_, h⟩ | ⟨_, _, rfl⟩
  · have := ok_sum (join_ok h)
    omega
  · exact ⟨by decide, by decide⟩
end Go.Proofs.YtmgcdfmgmpnonaaGreatDoor.Door
