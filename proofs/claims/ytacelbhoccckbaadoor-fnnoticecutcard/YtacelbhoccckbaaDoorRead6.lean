/- The model's AddrRead. -/
import Derived.Test.YtacelbhoccckbaaDoorRead5
namespace Go.Proofs.YtacelbhoccckbaaDoor.Rd1
open Go.RowKit Go.Proofs.YtacelbhoccckbaaDoor.EscM Go.Proofs.YtacelbhoccckbaaDoor.AddrM Go.Proofs.YtacelbhoccckbaaDoor.ReadM Go.Proofs.YtacelbhoccckbaaDoor.St Go.Proofs.YtacelbhoccckbaaDoor.EscL Go.Proofs.YtacelbhoccckbaaDoor.PathM Go.Proofs.YtacelbhoccckbaaDoor.Ad1

/-- AddrRead, as a function on lists -/
def readF (l : List UInt8) : Option Ad :=
  if 60 < l.length then none else if (cutL 35 l).1.take 2 = [47, 47] then wholeF ((cutL 35 l).1.drop 2) else none
theorem read_long {l : List UInt8} (h : 60 < l.length) : readF l = none := by unfold readF; rw [if_pos h]
theorem read_not {l : List UInt8} (h : ¬ (cutL 35 l).1.take 2 = [47, 47]) : readF l = none := by unfold readF; rw [if_neg h]; split <;> rfl
theorem read_is {l : List UInt8} (h0 : ¬ 60 < l.length) (h : (cutL 35 l).1.take 2 = [47, 47]) : readF l = wholeF ((cutL 35 l).1.drop 2) := by unfold readF; rw [if_neg h0, if_pos h]

/-- what comes back of a reading -/
def Reads (R : Option Ad) (w : World) (e : Ending) (w' : World) : Prop :=
  ∃ (A : Ad) (ok : Bool) (a1 : Option Addr) (c1 : Nat), e = .returned (.tuple #[.agg #[.string A.house, .slice a1 A.parts.length c1, .bool A.asks, .string A.ask], .bool ok]) ∧
      ((ok = true ∧ R = some A) ∨ (ok = false ∧ R = none ∧ A = zeroAd)) ∧ Owns w' w.heap.size (.slice a1 A.parts.length c1) A.parts ∧ Below w.heap.size w w'

end Go.Proofs.YtacelbhoccckbaaDoor.Rd1
