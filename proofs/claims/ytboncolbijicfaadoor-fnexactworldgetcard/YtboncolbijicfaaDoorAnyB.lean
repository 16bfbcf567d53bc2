/- Of which texts the program's AddrRead is walked: of all. -/
import Derived.Test.YtboncolbijicfaaDoorDecAny2
import Derived.Test.YtboncolbijicfaaDoorImpl1Pk
namespace Go.Proofs.YtboncolbijicfaaDoor.Im
open Go.RowKit Go.Proofs.YtboncolbijicfaaDoor.EscM Go.Proofs.YtboncolbijicfaaDoor.AddrM Go.Proofs.YtboncolbijicfaaDoor.ReadM Go.Proofs.YtboncolbijicfaaDoor.St Go.Proofs.YtboncolbijicfaaDoor.EscL Go.Proofs.YtboncolbijicfaaDoor.PathM Go.Proofs.YtboncolbijicfaaDoor.Ad1 Go.Proofs.YtboncolbijicfaaDoor.Rd1 Go.Proofs.YtboncolbijicfaaDoor.LibM

def ascii (_ : ByteArray) : Prop := True
theorem ascii_drop {s : ByteArray} (n : Nat) (_ : ascii s) : ascii (bs (s.data.toList.drop n)) := trivial
theorem cut_ascii {s : ByteArray} (c : Int) (_ : ascii s) : ascii (bs (cutL c s.data.toList).1) := trivial
theorem any_any (s : ByteArray) (w : World) (hs : s.size ≤ 1000000) (_ : ascii s) :
    Calls Tryd.prog 53 #[.string s, .string ⟨#[47, 63]⟩] w fun e w' => e = .returned (.int .i64 (Lib.indexAny s.data.toList [47, 63])) ∧ Below w.heap.size w w' := DecM.any_all s w hs
end Go.Proofs.YtboncolbijicfaaDoor.Im
