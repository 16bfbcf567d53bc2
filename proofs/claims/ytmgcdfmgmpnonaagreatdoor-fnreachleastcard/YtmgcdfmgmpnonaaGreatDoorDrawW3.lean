/- Where one looks in a drawn world; what FnWorldGet draws. -/
import Derived.Test.YtmgcdfmgmpnonaaGreatDoorDrawW2
namespace Go.Proofs.YtmgcdfmgmpnonaaGreatDoor.Dr
open Go.RowKit Go.Proofs.YtmgcdfmgmpnonaaGreatDoor.EscM Go.Proofs.YtmgcdfmgmpnonaaGreatDoor.St Go.Proofs.YtmgcdfmgmpnonaaGreatDoor.AddrM Go.Proofs.YtmgcdfmgmpnonaaGreatDoor.EscL Go.Proofs.YtmgcdfmgmpnonaaGreatDoor.Ad1 Go.Proofs.YtmgcdfmgmpnonaaGreatDoor.RR Go.Proofs.YtmgcdfmgmpnonaaGreatDoor.RoPg Go.Proofs.YtmgcdfmgmpnonaaGreatDoor.WdM

set_option maxRecDepth 100000 in
set_option maxHeartbeats 4000000 in
theorem where_any (B r q : Nat) (L : List Pg) (a1 : Option Addr) (c1 : Nat) (w0 w : World) (h : WI B r q w0 w (.slice a1 L.length c1) L) (hL : PgsBd L) (hl : L.length ≤ 100) (hq : q ≤ 9000) :
    Calls Tryz.prog 54 #[.pointer (some ⟨r, 0, none⟩), .slice a1 L.length c1] w fun e w' => ∃ s, e = .returned (.string s) ∧ s.size ≤ 100 ∧ WI B r (q + 8) w0 w' (.slice a1 L.length c1) L ∧ w.grownBy w' (some r) := by
  have HI : Hid (WI B r q w0 w (.slice a1 L.length c1) L) := h
  have HL : Hid (PgsBd L) := hL
  clear h hL
  by_cases h0 : L.length = 0
  · have hd : decide ((0 : Int) < (L.length : Int)) = false := decide_eq_false (by omega)
    go_enter Tryz.func54, Tryz.ntmps54
    go_wp2_with fail
    refine (addr_small B r q _ HI.out.rd (by omega)).mono ?_
    rintro e w1 ⟨s, rfl, _, hr1, hg1, _, hs⟩
    have HI1 : Hid (WI B r (q + 6) w0 w1 (.slice a1 L.length c1) L) := HI.out.step hg1 hr1
    have HG1 : Hid (w.grownBy w1 (some r)) := hg1
    clear hr1 hg1
    go_wp2
    go_ret
    exact ⟨s, rfl, by omega, HI1.out.mono (by omega), HG1.out⟩
  · have hd : decide ((0 : Int) < (L.length : Int)) = true := decide_eq_true (by omega)
    go_enter Tryz.func54, Tryz.ntmps54
    go_wp2_with fail
    refine (pick_any B r q 3 _ HI.out.rd (by omega) (by omega) (by omega)).mono ?_
    rintro e w1 ⟨x, rfl, hx, hr1, hg1⟩
    have HI1 : Hid (WI B r (q + 1) w0 w1 (.slice a1 L.length c1) L) := HI.out.step hg1 hr1
    have HG1 : Hid (w.grownBy w1 (some r)) := hg1
    clear hr1 hg1
    by_cases hx0 : 0 < x
    · have hxd : decide ((0 : Int) < (x : Int)) = true := decide_eq_true (by omega)
      go_wp2_with fail
      refine (pick_any B r _ (L.length : Int) _ HI1.out.rd (by omega) (by omega) (by omega)).mono ?_
      rintro e w2 ⟨y, rfl, hy, hr2, hg2⟩
      have HI2 : Hid (WI B r (q + 1 + 1) w0 w2 (.slice a1 L.length c1) L) := HI1.out.step hg2 hr2
      have HG2 : Hid (w.grownBy w2 (some r)) := grown_trans HG1.out hg2
      clear hr2 hg2
      have hyl : y < L.length := by omega
      have hsz := HL.out L[y] (List.getElem_mem _)
      obtain ⟨b, off, e1, k0, _, _, _⟩ := pg_at (OwnsR.rowsOf HI2.out.1) hyl
      have hs := hsz.1
      generalize L[y].addr = s at *
      subst e1
      clear hsz
      go_wp2
      go_ret
      exact ⟨s, rfl, hs, HI2.out.mono (by omega), HG2.out⟩
    · have hxd : decide ((0 : Int) < (x : Int)) = false := decide_eq_false (by omega)
      go_wp2_with fail
      refine (addr_small B r _ _ HI1.out.rd (by omega)).mono ?_
      rintro e w2 ⟨s, rfl, _, hr2, hg2, _, hs⟩
      have HI2 : Hid (WI B r (q + 1 + 6) w0 w2 (.slice a1 L.length c1) L) := HI1.out.step hg2 hr2
      have HG2 : Hid (w.grownBy w2 (some r)) := grown_trans HG1.out hg2
      clear hr2 hg2
      go_wp2
      go_ret
      exact ⟨s, rfl, by omega, HI2.out.mono (by omega), HG2.out⟩
end Go.Proofs.YtmgcdfmgmpnonaaGreatDoor.Dr
