/- An address, and what is written there, are drawn. -/
import Derived.Test.YtcohaalgefcjnaaGreatDoorDraw5Pk
import Derived.Test.YtcohaalgefcjnaaGreatDoorJoin2
namespace Go.Proofs.YtcohaalgefcjnaaGreatDoor.Dr
open Go.RowKit Go.Proofs.YtcohaalgefcjnaaGreatDoor.St Go.Proofs.YtcohaalgefcjnaaGreatDoor.AddrM Go.Proofs.YtcohaalgefcjnaaGreatDoor.EscL Go.Proofs.YtcohaalgefcjnaaGreatDoor.Ad1 Go.Proofs.YtcohaalgefcjnaaGreatDoor.ReadM Go.Proofs.YtcohaalgefcjnaaGreatDoor.Rd1

end Go.Proofs.YtcohaalgefcjnaaGreatDoor.Dr
namespace Go.Proofs.YtcohaalgefcjnaaGreatDoor.Door
open Go.RowKit Go.Proofs.YtcohaalgefcjnaaGreatDoor.St Go.Proofs.YtcohaalgefcjnaaGreatDoor.AddrM Go.Proofs.YtcohaalgefcjnaaGreatDoor.ReadM Go.Proofs.YtcohaalgefcjnaaGreatDoor.EscL Go.Proofs.YtcohaalgefcjnaaGreatDoor.Ad1 Go.Proofs.YtcohaalgefcjnaaGreatDoor.Dr Go.Proofs.YtcohaalgefcjnaaGreatDoor.Tw Go.Proofs.YtcohaalgefcjnaaGreatDoor.RB Go.Proofs.YtcohaalgefcjnaaGreatDoor.Im Go.Proofs.YtcohaalgefcjnaaGreatDoor.Rd1 Go.Proofs.YtcohaalgefcjnaaGreatDoor.JnM
theorem ansJ_bulk {P : Ad} {l : List UInt8} {A : Ad} {p : Bool} (h : (p = true ∧ joinF P l = some A) ∨ (p = false ∧ joinF P l = none ∧ A = zeroAd)) : A.parts.length ≤ 4194304 ∧ bulkA A ≤ 4194304 := by
  rcases h with ⟨_, h⟩ | ⟨_, _, rfl⟩
  · have := ok_sum (join_ok h)
    omega
  · exact ⟨by decide, by decide⟩
end Go.Proofs.YtcohaalgefcjnaaGreatDoor.Door
