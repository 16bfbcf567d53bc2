/- What FnWorldNotice and FnWorldLets draw. -/
import Derived.Test.YtmgcdfmgmpnonaaGreatDoorDrawW3
import Derived.Test.YtmgcdfmgmpnonaaGreatDoorDraw14Pk
namespace Go.Proofs.YtmgcdfmgmpnonaaGreatDoor.Dr
open Go.RowKit Go.Proofs.YtmgcdfmgmpnonaaGreatDoor.EscM Go.Proofs.YtmgcdfmgmpnonaaGreatDoor.St Go.Proofs.YtmgcdfmgmpnonaaGreatDoor.AddrM Go.Proofs.YtmgcdfmgmpnonaaGreatDoor.EscL Go.Proofs.YtmgcdfmgmpnonaaGreatDoor.Ad1 Go.Proofs.YtmgcdfmgmpnonaaGreatDoor.RR Go.Proofs.YtmgcdfmgmpnonaaGreatDoor.LetM Go.Proofs.YtmgcdfmgmpnonaaGreatDoor.Nm Go.Proofs.YtmgcdfmgmpnonaaGreatDoor.GrM Go.Proofs.YtmgcdfmgmpnonaaGreatDoor.RoPg Go.Proofs.YtmgcdfmgmpnonaaGreatDoor.WdM

set_option maxRecDepth 100000 in
set_option maxHeartbeats 4000000 in
theorem drawWNotice_any (a0 : Option Addr) (len cap : Nat) (zs : List Int) (w : World) (h : IsRow .u8 w a0 len cap zs) :
    Calls Tryz.prog 11 #[.slice a0 len cap] w fun e w' => ∃ (L : List Pg) (a1 : Option Addr) (c1 : Nat) (s t : ByteArray), e = .returned (.tuple #[.slice a1 L.length c1, .string s, .string t]) ∧ IsRows FPg w' a1 c1 L ∧ L.length ≤ 24 ∧ PgsBd L ∧ s.size ≤ 3 ∧ nameB t = true ∧ Below w.heap.size w w' := by
  go_enter Tryz.func11, Tryz.ntmps11
  go_wp2_with fail
  refine (open_any a0 len cap zs w h).mono ?_
  rintro e w1 ⟨rfl, hr1, hb1⟩
  clear h
  have HR1 : Hid (IsRd w.heap.size w1 w.heap.size 0) := hr1
  have HB1 : Hid (Below w.heap.size w w1) := hb1
  clear hr1 hb1
  go_wp2_with fail
  refine (off_any _ _ _ _ HR1.out (by omega)).mono ?_
  rintro e w2 ⟨L, a1, c1, rfl, hI, hl, _, hL⟩
  have HI2 : Hid (WI w.heap.size w.heap.size 910 w1 w2 (.slice a1 L.length c1) L) := hI.mono (by omega)
  have HL : Hid (PgsBd L) := hL
  have hle := HI2.out.rd.le
  clear hI hL
  go_wp2_with fail
  refine (of_lit _ _ _ w2.heap.size 6 _ _ (fun s => decide (s.size ≤ 3)) _ (HI2.out.rd.alloc _) (by omega) (by omega) (heap_new _ _) rfl (by decide) (by decide) (by decide +kernel)).mono ?_
  rintro e w3 ⟨s, rfl, hs, hr3, hg3⟩
  have hs3 : s.size ≤ 3 := of_decide_eq_true hs
  have HI3 : Hid (WI w.heap.size w.heap.size 911 w1 w3 (.slice a1 L.length c1) L) := (HI2.out.step (grown_trans (grown_alloc _ _ _) hg3) hr3).mono (by omega)
  clear hr3 hg3 hs HI2 hle
  go_wp2_with fail
  refine (name_any _ _ _ _ HI3.out.rd (by omega)).mono ?_
  rintro e w4 ⟨t, rfl, ht, _, hr4, hg4⟩
  have HI4 : Hid (WI w.heap.size w.heap.size 912 w1 w4 (.slice a1 L.length c1) L) := HI3.out.step hg4 hr4
  have HT : Hid (nameB t = true) := ht
  clear hr4 hg4 HI3 ht
  have HF : Hid (Below w.heap.size w w4) := HB1.out.trans (grown_below HI4.out.2.2.1 HB1.out.size (Nat.le_refl _))
  have HR5 : Hid (IsRows FPg w4 a1 c1 L) := OwnsR.rowsOf HI4.out.1
  clear HI4
  go_wp2
  refine bodyPost_ret (v := .tuple #[.slice a1 L.length c1, .string s, .string t]) (by simp [results, Tryz.results11, go_sem]) rfl ?_
  exact ⟨L, a1, c1, s, t, rfl, HR5.out, hl, HL.out, hs3, HT.out, HF.out⟩
set_option maxRecDepth 100000 in
set_option maxHeartbeats 4000000 in
theorem drawWLets_any (a0 : Option Addr) (len cap : Nat) (zs : List Int) (w : World) (h : IsRow .u8 w a0 len cap zs) :
    Calls Tryz.prog 19 #[.slice a0 len cap] w fun e w' => ∃ (L : List Pg) (a1 : Option Addr) (c1 : Nat) (s t : ByteArray), e = .returned (.tuple #[.slice a1 L.length c1, .string s, .string t]) ∧ IsRows FPg w' a1 c1 L ∧ L.length ≤ 24 ∧ PgsBd L ∧ nameB s = true ∧ t.size ≤ 100 ∧ Below w.heap.size w w' := by
  go_enter Tryz.func19, Tryz.ntmps19
  go_wp2_with fail
  refine (open_any a0 len cap zs w h).mono ?_
  rintro e w1 ⟨rfl, hr1, hb1⟩
  clear h
  have HR1 : Hid (IsRd w.heap.size w1 w.heap.size 0) := hr1
  have HB1 : Hid (Below w.heap.size w w1) := hb1
  clear hr1 hb1
  go_wp2_with fail
  refine (off_any _ _ _ _ HR1.out (by omega)).mono ?_
  rintro e w2 ⟨L, a1, c1, rfl, hI, hl, _, hL⟩
  have HI2 : Hid (WI w.heap.size w.heap.size 910 w1 w2 (.slice a1 L.length c1) L) := hI.mono (by omega)
  have HL : Hid (PgsBd L) := hL
  clear hI hL
  go_wp2_with fail
  refine (name_any _ _ _ _ HI2.out.rd (by omega)).mono ?_
  rintro e w3 ⟨s, rfl, hs, _, hr3, hg3⟩
  have HI3 : Hid (WI w.heap.size w.heap.size 911 w1 w3 (.slice a1 L.length c1) L) := HI2.out.step hg3 hr3
  have HS : Hid (nameB s = true) := hs
  clear hr3 hg3 hs HI2
  go_wp2_with fail
  refine (where_any _ _ _ L a1 c1 w1 _ HI3.out HL.out (by omega) (by omega)).mono ?_
  rintro e w4 ⟨t, rfl, ht, hI4, _⟩
  have HI4 : Hid (WI w.heap.size w.heap.size 919 w1 w4 (.slice a1 L.length c1) L) := hI4.mono (by omega)
  clear hI4 HI3
  have HF : Hid (Below w.heap.size w w4) := HB1.out.trans (grown_below HI4.out.2.2.1 HB1.out.size (Nat.le_refl _))
  have HR5 : Hid (IsRows FPg w4 a1 c1 L) := OwnsR.rowsOf HI4.out.1
  clear HI4
  go_wp2
  refine bodyPost_ret (v := .tuple #[.slice a1 L.length c1, .string s, .string t]) (by simp [results, Tryz.results19, go_sem]) rfl ?_
  exact ⟨L, a1, c1, s, t, rfl, HR5.out, hl, HL.out, HS.out, ht, HF.out⟩
end Go.Proofs.YtmgcdfmgmpnonaaGreatDoor.Dr
