/- The model's reading of an address: cut, split, small letters. -/
import Derived.Test.YtlgmamiialfaeaaReadMath
import Derived.Test.YtlgmamiialfaeaaEscSpec
import Derived.Test.YtlgmamiialfaeaaStrs
namespace Go.Proofs.Ytlgmamiialfaeaa.Rd1
open Go.RowKit Go.Proofs.Ytlgmamiialfaeaa.EscM Go.Proofs.Ytlgmamiialfaeaa.AddrM Go.Proofs.Ytlgmamiialfaeaa.ReadM Go.Proofs.Ytlgmamiialfaeaa.St Go.Proofs.Ytlgmamiialfaeaa.EscL

theorem bs_data (s : ByteArray) : bs s.data.toList = s := by unfold bs; cases s; simp
theorem ext_take (s : ByteArray) (k : Nat) : s.extract 0 k = bs (s.data.toList.take k) := by
  unfold bs; apply ByteArray.ext; apply Array.toList_inj.1; simp [ByteArray.data_extract]
theorem ext_drop (s : ByteArray) (k : Nat) : s.extract k s.size = bs (s.data.toList.drop k) := by
  unfold bs; apply ByteArray.ext; apply Array.toList_inj.1; simp [ByteArray.data_extract]
  rw [List.take_of_length_le (by simp)]

theorem ret3 {a b c d : ByteArray} {x y : Bool} (h : a = b) (h' : c = d) (h'' : x = y) : Ending.returned (.tuple #[.string a, .string c, .bool x]) = .returned (.tuple #[.string b, .string d, .bool y]) := by rw [h, h', h'']

def splitM (r m : Value) : Nat := match r, m with | .string s, .bool true => s.size + 1 | _, _ => 0
theorem bs_size (l : List UInt8) : (bs l).size = l.length := by unfold bs; show l.toArray.size = _; simp

end Go.Proofs.Ytlgmamiialfaeaa.Rd1
