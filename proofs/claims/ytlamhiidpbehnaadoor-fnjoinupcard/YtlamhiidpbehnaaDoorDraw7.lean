/- The drawn addresses of the laws. -/
import Derived.Test.YtlamhiidpbehnaaDoorDraw6
namespace Go.Proofs.YtlamhiidpbehnaaDoor.Dr
open Go.RowKit Go.Proofs.YtlamhiidpbehnaaDoor.St Go.Proofs.YtlamhiidpbehnaaDoor.AddrM Go.Proofs.YtlamhiidpbehnaaDoor.EscL Go.Proofs.YtlamhiidpbehnaaDoor.Ad1 Go.Proofs.YtlamhiidpbehnaaDoor.ReadM Go.Proofs.YtlamhiidpbehnaaDoor.Rd1

/-- an address that is drawn of a code -/
def DrawnA (w : World) (e : Ending) (w' : World) : Prop :=
  ∃ (A : Ad) (a1 : Option Addr) (c1 : Nat), e = .returned (.agg #[.string A.house, .slice a1 A.parts.length c1, .bool A.asks, .string A.ask]) ∧ Owns w' w.heap.size (.slice a1 A.parts.length c1) A.parts ∧ bulkA A ≤ 1000 ∧ Below w.heap.size w w'

set_option maxRecDepth 100000 in
set_option maxHeartbeats 800000 in
theorem drawDrawAddrText_any (a0 : Option Addr) (len cap : Nat) (zs : List Int) (w : World) (h : IsRow .u8 w a0 len cap zs) :
    Calls Tryd.prog 6 #[.slice a0 len cap] w fun e w' => DrawnA w e w' := by
  have hb0 : Below w.heap.size w (w.alloc (.cells #[.string ⟨#[]⟩, .slice none 0 0, .bool false, .string ⟨#[]⟩] 25)) := (Below.refl _ _).alloc (Nat.le_refl _) _
  have HI : Hid (IsRow .u8 (w.alloc (.cells #[.string ⟨#[]⟩, .slice none 0 0, .bool false, .string ⟨#[]⟩] 25)) a0 len cap zs) := h.below hb0
  clear h
  go_enter Tryd.func6, Tryd.ntmps6
  go_wp2_with fail
  refine (open_any a0 len cap zs _ HI.out).mono ?_
  rintro e w1 ⟨rfl, hr1, hb1⟩
  have hn : (w.alloc (.cells #[.string ⟨#[]⟩, .slice none 0 0, .bool false, .string ⟨#[]⟩] 25)).heap.size = w.heap.size + 1 := by simp
  rw [hn] at hr1 hb1
  have HB1 : Hid (Below (w.heap.size + 1) (w.alloc (.cells #[.string ⟨#[]⟩, .slice none 0 0, .bool false, .string ⟨#[]⟩] 25)) w1) := hb1
  have HR1 : Hid (IsRd (w.heap.size + 1) w1 (w.heap.size + 1) 0) := hr1
  have hz1 : w.heap.size + 1 < w1.heap.size := hr1.le.2
  clear hr1 hb1 hn hb0
  go_wp2_with fail
  refine (struct_any (w.heap.size + 1) (w.heap.size + 1) 0 _ HR1.out (by omega)).mono ?_
  rintro e w2 ⟨A, a1, c1, rfl, hO, hk, hr2, hg2⟩
  have HO2 : Hid (Owns w2 w1.heap.size (.slice a1 A.parts.length c1) A.parts) := hO
  have HK : Hid (bulkA A ≤ 1000) := hk
  have HB2 : Hid (Below (w.heap.size + 1) (w.alloc (.cells #[.string ⟨#[]⟩, .slice none 0 0, .bool false, .string ⟨#[]⟩] 25)) w2) := HB1.out.trans (grown_below hg2 (by omega) (Nat.le_refl _))
  clear hO hk hr2 hg2
  have hb2' := HB2.out
  obtain ⟨⟨d0, d1, d2, d3⟩, dz⟩ := one_cells hb2'
  clear hb2'
  go_wp2
  refine bodyPost_ret (v := .agg #[.string A.house, .slice a1 A.parts.length c1, .bool A.asks, .string A.ask]) (by simp [results, Tryd.results6, go_sem, d0, d1, d2, d3]) rfl ?_
  refine ⟨A, a1, c1, rfl, ?_, HK.out, ?_⟩
  · refine Owns.mono (?_ : Owns _ w1.heap.size _ _) (by omega)
    have hO := HO2.out
    iterate 4 refine ownsRow_setCell_below ?_ (by dsimp only; omega) _
    exact hO
  · have hbw : Below w.heap.size w w2 := ((Below.refl _ w).alloc (Nat.le_refl _) _).trans (HB2.out.mono (by omega))
    iterate 4 refine Below.setCell ?_ (by dsimp only; omega) _
    exact hbw
end Go.Proofs.YtlamhiidpbehnaaDoor.Dr
