/- What FnWorldFrom draws. -/
import Derived.Test.YtcohaalgefcjnaaGreatDoorDrawW3
namespace Go.Proofs.YtcohaalgefcjnaaGreatDoor.Dr
open Go.RowKit Go.Proofs.YtcohaalgefcjnaaGreatDoor.EscM Go.Proofs.YtcohaalgefcjnaaGreatDoor.St Go.Proofs.YtcohaalgefcjnaaGreatDoor.AddrM Go.Proofs.YtcohaalgefcjnaaGreatDoor.EscL Go.Proofs.YtcohaalgefcjnaaGreatDoor.Ad1 Go.Proofs.YtcohaalgefcjnaaGreatDoor.RR Go.Proofs.YtcohaalgefcjnaaGreatDoor.RoPg Go.Proofs.YtcohaalgefcjnaaGreatDoor.WdM

set_option maxRecDepth 100000 in
set_option maxHeartbeats 4000000 in
theorem drawFrom_any (a0 : Option Addr) (len cap : Nat) (zs : List Int) (w : World) (h : IsRow .u8 w a0 len cap zs) :
    Calls Tryz.prog 17 #[.slice a0 len cap] w fun e w' => ∃ (L : List Pg) (a1 : Option Addr) (c1 : Nat) (s : ByteArray), e = .returned (.tuple #[.slice a1 L.length c1, .string s]) ∧ IsRows FPg w' a1 c1 L ∧ L.length ≤ 24 ∧ PgsBd L ∧ s.size ≤ 100 ∧ Below w.heap.size w w' := by
  go_enter Tryz.func17, Tryz.ntmps17
  go_wp2_with fail
  refine (open_any a0 len cap zs w h).mono ?_
  rintro e w1 ⟨rfl, hr1, hb1⟩
  clear h
  have HR1 : Hid (IsRd w.heap.size w1 w.heap.size 0) := hr1
  have HB1 : Hid (Below w.heap.size w w1) := hb1
  clear hr1 hb1
  go_wp2_with fail
  refine (off_any _ _ _ _ HR1.out (by omega)).mono ?_
  rintro e w2 ⟨L, a1, c1, rfl, hI, hl, _, hL⟩
  have HI2 : Hid (WI w.heap.size w.heap.size 910 w1 w2 (.slice a1 L.length c1) L) := hI.mono (by omega)
  have HL : Hid (PgsBd L) := hL
  clear hI hL
  go_wp2_with fail
  refine (where_any _ _ _ L a1 c1 w1 _ HI2.out HL.out (by omega) (by omega)).mono ?_
  rintro e w3 ⟨s, rfl, hs, hI3, _⟩
  have HI3 : Hid (WI w.heap.size w.heap.size 918 w1 w3 (.slice a1 L.length c1) L) := hI3.mono (by omega)
  clear hI3 HI2
  have HF : Hid (Below w.heap.size w w3) := HB1.out.trans (grown_below HI3.out.2.2.1 HB1.out.size (Nat.le_refl _))
  have HR3 : Hid (IsRows FPg w3 a1 c1 L) := OwnsR.rowsOf HI3.out.1
  clear HI3
  go_wp2
  refine bodyPost_ret (v := .tuple #[.slice a1 L.length c1, .string s]) (by simp [results, Tryz.results17, go_sem]) rfl ?_
  exact ⟨L, a1, c1, s, rfl, HR3.out, hl, HL.out, hs, HF.out⟩
end Go.Proofs.YtcohaalgefcjnaaGreatDoor.Dr
