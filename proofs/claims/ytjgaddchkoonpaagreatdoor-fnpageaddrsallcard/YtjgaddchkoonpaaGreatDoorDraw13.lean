/- An address, and a page's text, are drawn. -/
import Derived.Test.YtjgaddchkoonpaaGreatDoorDraw10
import Derived.Test.YtjgaddchkoonpaaGreatDoorPage5
namespace Go.Proofs.YtjgaddchkoonpaaGreatDoor.Dr
open Go.RowKit Go.Proofs.YtjgaddchkoonpaaGreatDoor.St Go.Proofs.YtjgaddchkoonpaaGreatDoor.AddrM Go.Proofs.YtjgaddchkoonpaaGreatDoor.EscL Go.Proofs.YtjgaddchkoonpaaGreatDoor.Ad1 Go.Proofs.YtjgaddchkoonpaaGreatDoor.ReadM Go.Proofs.YtjgaddchkoonpaaGreatDoor.Rd1

set_option maxRecDepth 100000 in
set_option maxHeartbeats 1600000 in
theorem drawPage_any (a0 : Option Addr) (len cap : Nat) (zs : List Int) (w : World) (h : IsRow .u8 w a0 len cap zs) :
    Calls Tryz.prog 4 #[.slice a0 len cap] w fun e w' => ∃ (A : Ad) (a1 : Option Addr) (c1 : Nat) (t : ByteArray), e = .returned (.tuple #[.agg #[.string A.house, .slice a1 A.parts.length c1, .bool A.asks, .string A.ask], .string t]) ∧ Owns w' w.heap.size (.slice a1 A.parts.length c1) A.parts ∧ bulkA A ≤ 1000 ∧ t.size ≤ 600 ∧ asciiB t = true ∧ Below w.heap.size w w' := by
  have hb0 : Below w.heap.size w (w.alloc (.cells #[.string ⟨#[]⟩, .slice none 0 0, .bool false, .string ⟨#[]⟩] 25)) := (Below.refl _ _).alloc (Nat.le_refl _) _
  have HI : Hid (IsRow .u8 (w.alloc (.cells #[.string ⟨#[]⟩, .slice none 0 0, .bool false, .string ⟨#[]⟩] 25)) a0 len cap zs) := h.below hb0
  clear h
  go_enter Tryz.func4, Tryz.ntmps4
  go_wp2_with fail
  refine (open_any a0 len cap zs _ HI.out).mono ?_
  rintro e w1 ⟨rfl, hr1, hb1⟩
  have hn : (w.alloc (.cells #[.string ⟨#[]⟩, .slice none 0 0, .bool false, .string ⟨#[]⟩] 25)).heap.size = w.heap.size + 1 := by simp
  rw [hn] at hr1 hb1
  have HB1 : Hid (Below (w.heap.size + 1) (w.alloc (.cells #[.string ⟨#[]⟩, .slice none 0 0, .bool false, .string ⟨#[]⟩] 25)) w1) := hb1
  have HR1 : Hid (IsRd (w.heap.size + 1) w1 (w.heap.size + 1) 0) := hr1
  have hz1 : w.heap.size + 1 < w1.heap.size := hr1.le.2
  clear hr1 hb1 hn hb0
  go_wp2_with fail
  refine (struct_any (w.heap.size + 1) (w.heap.size + 1) 0 _ HR1.out (by omega)).mono ?_
  rintro e w2 ⟨A, a1, c1, rfl, hO, hk, hr2, hg2⟩
  have HO2 : Hid (Owns w2 w1.heap.size (.slice a1 A.parts.length c1) A.parts) := hO
  have HK : Hid (bulkA A ≤ 1000) := hk
  have HR2 : Hid (IsRd (w.heap.size + 1) w2 (w.heap.size + 1) (0 + 8)) := hr2
  have HB2 : Hid (Below (w.heap.size + 1) (w.alloc (.cells #[.string ⟨#[]⟩, .slice none 0 0, .bool false, .string ⟨#[]⟩] 25)) w2) := HB1.out.trans (grown_below hg2 (by omega) (Nat.le_refl _))
  have hz2 : w1.heap.size ≤ w2.heap.size := hg2.size
  clear hO hk hr2 hg2
  go_wp2_with fail
  refine (page_any _ _ _ _ HR2.out (by omega)).mono ?_
  rintro e w3 ⟨s, rfl, hs, hsa, hr3, hg3⟩
  have HSA : Hid _ := hsa
  have HO3 : Hid (Owns w3 w1.heap.size (.slice a1 A.parts.length c1) A.parts) := Owns.kept HO2.out hg3 (by omega)
  have HB3 : Hid (Below (w.heap.size + 1) (w.alloc (.cells #[.string ⟨#[]⟩, .slice none 0 0, .bool false, .string ⟨#[]⟩] 25)) w3) := HB2.out.trans (grown_below hg3 (by omega) (Nat.le_refl _))
  clear hsa hr3 hg3
  have hb3' := HB3.out
  obtain ⟨⟨d0, d1, d2, d3⟩, dz⟩ := one_cells hb3'
  clear hb3'
  go_wp2
  refine bodyPost_ret (v := .tuple #[.agg #[.string A.house, .slice a1 A.parts.length c1, .bool A.asks, .string A.ask], .string s]) (by simp [results, Tryz.results4, go_sem, d0, d1, d2, d3]) rfl ?_
  refine ⟨A, a1, c1, s, rfl, ?_, HK.out, hs, HSA.out, ?_⟩
  · refine Owns.mono (?_ : Owns _ w1.heap.size _ _) (by omega)
    have hO := HO3.out
    iterate 4 refine ownsRow_setCell_below ?_ (by dsimp only; omega) _
    exact hO
  · have hbw : Below w.heap.size w w3 := ((Below.refl _ w).alloc (Nat.le_refl _) _).trans (HB3.out.mono (by omega))
    iterate 4 refine Below.setCell ?_ (by dsimp only; omega) _
    exact hbw
end Go.Proofs.YtjgaddchkoonpaaGreatDoor.Dr
