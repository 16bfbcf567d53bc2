/- The model's reading of an address: the whole, walked. -/
import Derived.Test.YtacelbhoccckbaaDoorRead4
namespace Go.Proofs.YtacelbhoccckbaaDoor.Rd1
open Go.RowKit Go.Proofs.YtacelbhoccckbaaDoor.EscM Go.Proofs.YtacelbhoccckbaaDoor.AddrM Go.Proofs.YtacelbhoccckbaaDoor.ReadM Go.Proofs.YtacelbhoccckbaaDoor.St Go.Proofs.YtacelbhoccckbaaDoor.EscL Go.Proofs.YtacelbhoccckbaaDoor.PathM Go.Proofs.YtacelbhoccckbaaDoor.Ad1

theorem small_size {s : ByteArray} (h : s.size ≤ 60) : (bs (smallL s.data.toList)).size ≤ 1000 := by
  rw [bs_size, small_len]
  have : s.data.toList.length = s.size := by simp
  omega
end Go.Proofs.YtacelbhoccckbaaDoor.Rd1
