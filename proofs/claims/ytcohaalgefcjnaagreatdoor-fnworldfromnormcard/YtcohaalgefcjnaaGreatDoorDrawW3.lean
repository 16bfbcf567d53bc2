/- Where one looks in a drawn world; what FnWorldGet draws. -/
import Derived.Test.YtcohaalgefcjnaaGreatDoorDrawW2
namespace Go.Proofs.YtcohaalgefcjnaaGreatDoor.Dr
open Go.RowKit Go.Proofs.YtcohaalgefcjnaaGreatDoor.EscM Go.Proofs.YtcohaalgefcjnaaGreatDoor.St Go.Proofs.YtcohaalgefcjnaaGreatDoor.AddrM Go.Proofs.YtcohaalgefcjnaaGreatDoor.EscL Go.Proofs.YtcohaalgefcjnaaGreatDoor.Ad1 Go.Proofs.YtcohaalgefcjnaaGreatDoor.RR Go.Proofs.YtcohaalgefcjnaaGreatDoor.RoPg Go.Proofs.YtcohaalgefcjnaaGreatDoor.WdM

set_option maxRecDepth 100000 in
set_option maxHeartbeats 4000000 in
theorem where_any (B r q : Nat) (L : List Pg) (a1 : Option Addr) (c1 : Nat) (w0 w : World) (h : WI B r q w0 w (.slice a1 L.length c1) L) (hL : PgsBd L) (hl : L.length ≤ 100) (hq : q ≤ 9000) :
    Calls Tryz.prog 40 #[.pointer (some ⟨r, 0, none⟩), .slice a1 L.length c1] w fun e w' => ∃ s, e = .returned (.string s) ∧ s.size ≤ 100 ∧ WI B r (q + 8) w0 w' (.slice a1 L.length c1) L ∧ w.grownBy w' (some r) := by
  have HI : Hid (WI B r q w0 w (.slice a1 L.length c1) L) := h
  have HL : Hid (PgsBd L) := hL
  clear h hL
  by_cases h0 : L.length = 0
  · have hd : decide ((0 : Int) < (L.length : Int)) = false := decide_eq_false (by omega)
    go_enter Tryz.func40, Tryz.ntmps40
    go_wp2_with fail
    refine (addr_small B r q _ HI.out.rd (by omega)).mono ?_
    rintro e w1 ⟨s, rfl, _, hr1, hg1, _, hs⟩
    have HI1 : Hid (WI B r (q + 6) w0 w1 (.slice a1 L.length c1) L) := HI.out.step hg1 hr1
    have HG1 : Hid (w.grownBy w1 (some r)) := hg1
    clear hr1 hg1
    go_wp2
    go_ret
    exact ⟨s, rfl, by omega, HI1.out.mono (by omega), HG1.out⟩
  · have hd : decide ((0 : Int) < (L.length : Int)) = true := decide_eq_true (by omega)
    go_enter Tryz.func40, Tryz.ntmps40
    go_wp2_with fail
    refine (pick_any B r q 3 _ HI.out.rd (by omega) (by omega) (by omega)).mono ?_
    rintro e w1 ⟨x, rfl, hx, hr1, hg1⟩
    have HI1 : Hid (WI B r (q + 1) w0 w1 (.slice a1 L.length c1) L) := HI.out.step hg1 hr1
    have HG1 : Hid (w.grownBy w1 (some r)) := hg1
    clear hr1 hg1
    by_cases hx0 : 0 < x
    · have hxd : decide ((0 : Int) < (x : Int)) = true := decide_eq_true (by omega)
      go_wp2_with fail
      refine (pick_any B r _ (L.length : Int) _ HI1.out.rd (by omega) (by omega) (by omega)).mono ?_
      rintro e w2 ⟨y, rfl, hy, hr2, hg2⟩
      have HI2 : Hid (WI B r (q + 1 + 1) w0 w2 (.slice a1 L.length c1) L) := HI1.out.step hg2 hr2
      have HG2 : Hid (w.grownBy w2 (some r)) := grown_trans HG1.out hg2
      clear hr2 hg2
      have hyl : y < L.length := by omega
      have hsz := HL.out L[y] (List.getElem_mem _)
      obtain ⟨b, off, e1, k0, _, _, _⟩ := pg_at (OwnsR.rowsOf HI2.out.1) hyl
      have hs := hsz.1
      generalize L[y].addr = s at *
      subst e1
      clear hsz
      go_wp2
      go_ret
      exact ⟨s, rfl, hs, HI2.out.mono (by omega), HG2.out⟩
    · have hxd : decide ((0 : Int) < (x : Int)) = false := decide_eq_false (by omega)
      go_wp2_with fail
      refine (addr_small B r _ _ HI1.out.rd (by omega)).mono ?_
      rintro e w2 ⟨s, rfl, _, hr2, hg2, _, hs⟩
      have HI2 : Hid (WI B r (q + 1 + 6) w0 w2 (.slice a1 L.length c1) L) := HI1.out.step hg2 hr2
      have HG2 : Hid (w.grownBy w2 (some r)) := grown_trans HG1.out hg2
      clear hr2 hg2
      go_wp2
      go_ret
      exact ⟨s, rfl, by omega, HI2.out.mono (by omega), HG2.out⟩
set_option maxRecDepth 100000 in
set_option maxHeartbeats 4000000 in
theorem drawGet_any (a0 : Option Addr) (len cap : Nat) (zs : List Int) (w : World) (h : IsRow .u8 w a0 len cap zs) :
    Calls Tryz.prog 14 #[.slice a0 len cap] w fun e w' => ∃ (L : List Pg) (a1 : Option Addr) (c1 : Nat) (s : ByteArray) (t : Int), e = .returned (.tuple #[.slice a1 L.length c1, .string s, .int .i64 t]) ∧ IsRows FPg w' a1 c1 L ∧ L.length ≤ 24 ∧ PgsBd L ∧ s.size ≤ 100 ∧ -1 ≤ t ∧ t ≤ 4 ∧ Below w.heap.size w w' := by
  go_enter Tryz.func14, Tryz.ntmps14
  go_wp2_with fail
  refine (open_any a0 len cap zs w h).mono ?_
  rintro e w1 ⟨rfl, hr1, hb1⟩
  clear h
  have HR1 : Hid (IsRd w.heap.size w1 w.heap.size 0) := hr1
  have HB1 : Hid (Below w.heap.size w w1) := hb1
  clear hr1 hb1
  go_wp2_with fail
  refine (off_any _ _ _ _ HR1.out (by omega)).mono ?_
  rintro e w2 ⟨L, a1, c1, rfl, hI, hl, _, hL⟩
  have HI2 : Hid (WI w.heap.size w.heap.size 910 w1 w2 (.slice a1 L.length c1) L) := hI.mono (by omega)
  have HL : Hid (PgsBd L) := hL
  clear hI hL
  go_wp2_with fail
  refine (where_any _ _ _ L a1 c1 w1 _ HI2.out HL.out (by omega) (by omega)).mono ?_
  rintro e w3 ⟨s, rfl, hs, hI3, _⟩
  have HI3 : Hid (WI w.heap.size w.heap.size 918 w1 w3 (.slice a1 L.length c1) L) := hI3.mono (by omega)
  clear hI3 HI2
  go_wp2_with fail
  refine (pick_any _ _ _ 5 _ HI3.out.rd (by omega) (by omega) (by omega)).mono ?_
  rintro e w4 ⟨x, rfl, hx, hr4, hg4⟩
  have HI4 : Hid (WI w.heap.size w.heap.size 919 w1 w4 (.slice a1 L.length c1) L) := HI3.out.step hg4 hr4
  clear hr4 hg4 HI3
  go_wp2_with fail
  refine (pick_any _ _ _ 12 _ HI4.out.rd (by omega) (by omega) (by omega)).mono ?_
  rintro e w5 ⟨y, rfl, hy, hr5, hg5⟩
  have HI5 : Hid (WI w.heap.size w.heap.size 920 w1 w5 (.slice a1 L.length c1) L) := HI4.out.step hg5 hr5
  clear hr5 hg5 HI4
  obtain ⟨d, hd, hd1⟩ : ∃ d : Nat, (y : Int).tdiv 11 = (d : Int) ∧ d ≤ 1 := ⟨y / 11, by rw [Int.tdiv_eq_ediv_of_nonneg (by omega)]; omega, by omega⟩
  have hdw : IntKind.i64.wrap (d : Int) = (d : Int) := IntWalk.i64_in _ (by omega)
  have hsw : IntKind.i64.wrap ((x : Int) - (d : Int)) = (x : Int) - (d : Int) := IntWalk.i64_in _ (by omega)
  have HF : Hid (Below w.heap.size w w5) := HB1.out.trans (grown_below HI5.out.2.2.1 HB1.out.size (Nat.le_refl _))
  have HR5 : Hid (IsRows FPg w5 a1 c1 L) := OwnsR.rowsOf HI5.out.1
  clear HI5
  go_wp2
  refine bodyPost_ret (v := .tuple #[.slice a1 L.length c1, .string s, .int .i64 ((x : Int) - (d : Int))]) (by simp [results, Tryz.results14, go_sem]) rfl ?_
  exact ⟨L, a1, c1, s, _, rfl, HR5.out, hl, HL.out, hs, by omega, by omega, HF.out⟩
end Go.Proofs.YtcohaalgefcjnaaGreatDoor.Dr
