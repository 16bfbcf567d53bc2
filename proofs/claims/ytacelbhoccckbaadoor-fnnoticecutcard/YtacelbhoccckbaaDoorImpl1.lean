/- The program's reading of an address: the leaves. -/
import Derived.Test.YtacelbhoccckbaaDoorLibMath
namespace Go.Proofs.YtacelbhoccckbaaDoor.Im
open Go.RowKit Go.Proofs.YtacelbhoccckbaaDoor.EscM Go.Proofs.YtacelbhoccckbaaDoor.AddrM Go.Proofs.YtacelbhoccckbaaDoor.ReadM Go.Proofs.YtacelbhoccckbaaDoor.St Go.Proofs.YtacelbhoccckbaaDoor.EscL Go.Proofs.YtacelbhoccckbaaDoor.PathM Go.Proofs.YtacelbhoccckbaaDoor.Ad1 Go.Proofs.YtacelbhoccckbaaDoor.Rd1 Go.Proofs.YtacelbhoccckbaaDoor.LibM

/-- internal/bytealg.MaxLen (the program's variable 0) holds some number -/
def Mx (w : World) : Prop := ∃ m : Int, w.cell? ⟨0, 0, none⟩ = some (.int .i64 m)
theorem Mx.keep {w w' : World} (h : Mx w) (hb : ∀ k, k < w.heap.size → w'.heap[k]? = w.heap[k]?) : Mx w' := by
  obtain ⟨m, hm⟩ := h
  exact ⟨m, by rw [World.cell?_of_block (w := w) (hb _ (cell_block hm))]; exact hm⟩
theorem Mx.below {w w' : World} (h : Mx w) (hb : Below w.heap.size w w') : Mx w' := h.keep fun k hk => hb.block k hk
theorem Mx.alloc {w : World} (h : Mx w) (o : Obj) : Mx (w.alloc o) := h.keep (alloc_keep w o)
theorem Mx.drewN {w : World} (h : Mx w) (n : Nat) : Mx (w.drewN n) := h.keep fun _ _ => rfl

theorem cut_any (s : ByteArray) (d : UInt8) (w : World) (h : Mx w) (hs : s.size ≤ 1000000) :
    Calls Tryd.prog 45 #[.string s, .string ⟨#[d]⟩] w fun e w' => e = .returned (.tuple #[.string (bs (cutL d.toNat s.data.toList).1), .string (bs (cutL d.toNat s.data.toList).2.1), .bool (cutL d.toNat s.data.toList).2.2]) ∧ ∃ n, w' = w.drewN n := by
  obtain ⟨m, hm⟩ := h
  refine (Tryd.strings_Cut s ⟨#[d]⟩ m w (by omega) hm).mono ?_
  rintro e w' ⟨rfl, hw⟩
  refine ⟨?_, hw⟩
  have e : Lib.cut s.data.toList (⟨#[d]⟩ : ByteArray).data.toList = cutL d.toNat s.data.toList := cut_lib d _
  rw [e]; rfl
theorem pre_ext (s : ByteArray) : (s.extract 0 2).toList = s.data.toList.take 2 := by rw [ByteArray.toList_eq, ext_take, bs_list]
theorem ret2 {a b : ByteArray} {x : Bool} (h : a = b) : Ending.returned (.tuple #[.string a, .bool x]) = .returned (.tuple #[.string b, .bool x]) := by rw [h]
end Go.Proofs.YtacelbhoccckbaaDoor.Im
