/- Worlds are drawn, some spoilt, and where one looks in them. -/
import Derived.Test.YtmgcdfmgmpnonaaGreatDoorDrawW
namespace Go.Proofs.YtmgcdfmgmpnonaaGreatDoor.Dr
open Go.RowKit Go.Proofs.YtmgcdfmgmpnonaaGreatDoor.EscM Go.Proofs.YtmgcdfmgmpnonaaGreatDoor.St Go.Proofs.YtmgcdfmgmpnonaaGreatDoor.AddrM Go.Proofs.YtmgcdfmgmpnonaaGreatDoor.EscL Go.Proofs.YtmgcdfmgmpnonaaGreatDoor.Ad1 Go.Proofs.YtmgcdfmgmpnonaaGreatDoor.RR Go.Proofs.YtmgcdfmgmpnonaaGreatDoor.LetM Go.Proofs.YtmgcdfmgmpnonaaGreatDoor.Nm Go.Proofs.YtmgcdfmgmpnonaaGreatDoor.GrM Go.Proofs.YtmgcdfmgmpnonaaGreatDoor.NtM Go.Proofs.YtmgcdfmgmpnonaaGreatDoor.Nt Go.Proofs.YtmgcdfmgmpnonaaGreatDoor.RoPg Go.Proofs.YtmgcdfmgmpnonaaGreatDoor.WdM

theorem own_setP {w : World} {base k n g cap j : Nat} {t : TypeId} {y : Value} {xs : List Value} (h : w.ownsRow base t k (.slice (some ⟨g, 0, none⟩) n cap) n xs) : (w.setCell ⟨g, j, none⟩ y).ownsRow base t k (.slice (some ⟨g, 0, none⟩) n cap) n (xs.set j y) := by
  obtain ⟨h1, ⟨hv, _⟩ | ⟨g', cap', cur, hv, hb, hh, h3, h4, h5, h6⟩⟩ := h
  · injection hv with e; cases e
  · injection hv with e1 _ e3
    injection e1 with e1
    injection e1 with e1
    subst e1; subst e3
    refine ⟨by simp [h1], Or.inr ⟨g, cap, cur.setIfInBounds j y, rfl, hb, Bx.set (t := t) hh j y, h3, h4, by simp [h5], ?_⟩⟩
    rw [Array.toList_setIfInBounds, List.take_set, h6]
theorem own_atP {w : World} {base k n : Nat} {t : TypeId} {v : Value} {xs : List Value} (h : w.ownsRow base t k v n xs) (hn : 0 < n) : ∃ g cap, v = .slice (some ⟨g, 0, none⟩) n cap ∧ base ≤ g ∧ n ≤ cap ∧ cap ≤ maxLen ∧ ∃ C, Bx t w g C := by
  obtain ⟨_, ⟨_, h0⟩ | ⟨g, cap, cur, hv, hb, hh, h3, h4, _⟩⟩ := h
  · omega
  · exact ⟨g, cap, hv, hb, h3, h4, cur, hh⟩
/-- a field of the first page is set -/
theorem WI.put {B r q : Nat} {w w1 : World} {g n cap : Nat} {p p' : Pg} {R : List Pg} (h : WI B r q w w1 (.slice (some ⟨g, 0, none⟩) n cap) (p :: R)) (hn : n = R.length + 1) (j : Nat) (y : Value) (he : (FPg.cells (p :: R)).set j y = FPg.cells (p' :: R)) : WI B r q w (w1.setCell ⟨g, j, none⟩ y) (.slice (some ⟨g, 0, none⟩) n cap) (p' :: R) := by
  obtain ⟨h1, h3, h4, h5, h6⟩ := h
  subst hn
  have hb : w.heap.size ≤ g := OwnsR.block h1 g rfl
  have hg : w1.grownBy (w1.setCell ⟨g, j, none⟩ y) (some g) := grown_set j y
  have h1' : (w1.setCell ⟨g, j, none⟩ y).ownsRow w.heap.size 55 FPg.k (.slice (some ⟨g, 0, none⟩) (R.length + 1) cap) (R.length + 1) ((FPg.cells (p :: R)).set j y) := own_setP h1
  rw [he] at h1'
  exact ⟨h1', h3.grownRow (base := w.heap.size) hg h6 (fun k hk => by have := Option.some.inj hk; omega), grown_past h4 hg (fun k hk => by have := Option.some.inj hk; omega), by have := hg.size; omega, h6⟩
theorem PgsBd.head {p p' : Pg} {R : List Pg} (h : PgsBd (p :: R)) (hp : PgBd p → PgBd p') : PgsBd (p' :: R) := by
  intro x hx
  rcases List.mem_cons.1 hx with rfl | hx
  · exact hp (h p (List.mem_cons_self ..))
  · exact h x (List.mem_cons_of_mem _ hx)

set_option maxRecDepth 100000 in
set_option maxHeartbeats 8000000 in
theorem off_any (B r q : Nat) (w : World) (h : IsRd B w r q) (hq : q ≤ 6000) :
    Calls Tryz.prog 35 #[.pointer (some ⟨r, 0, none⟩)] w fun e w' => ∃ (L : List Pg) (a1 : Option Addr) (c1 : Nat), e = .returned (.slice a1 L.length c1) ∧ WI B r (q + 910) w w' (.slice a1 L.length c1) L ∧ L.length ≤ 24 ∧ 1 ≤ L.length ∧ PgsBd L := by
  obtain ⟨i0, hi, hz0, hz1, hz2⟩ := info_page
  have hle := h.le
  have HR0 : Hid (IsRd B w r q) := h
  clear h
  go_enter Tryz.func35, Tryz.ntmps35
  go_wp2_with fail
  refine (world_any B r q _ HR0.out hq).mono ?_
  rintro e w1 ⟨L, a1, c1, rfl, hI, hl, hl1, hL⟩
  have HI1 : Hid (WI B r (q + 900) w w1 (.slice a1 L.length c1) L) := hI
  have HL : Hid (PgsBd L) := hL
  clear hI hL
  go_wp2_with fail
  refine (pick_any B r _ 16 _ HI1.out.rd (by omega) (by omega) (by omega)).mono ?_
  rintro e w2 ⟨x, rfl, hx, hr2, hg2⟩
  have HI2 : Hid (WI B r (q + 901) w w2 (.slice a1 L.length c1) L) := HI1.out.step hg2 hr2
  clear hr2 hg2 HI1
  by_cases hx0 : 0 < x
  · have hxd : decide ((0 : Int) < (x : Int)) = true := decide_eq_true (by omega)
    go_wp2
    go_ret
    exact ⟨L, a1, c1, rfl, HI2.out.mono (by omega), by omega, hl1, HL.out⟩
  have hxd : decide ((0 : Int) < (x : Int)) = false := decide_eq_false (by omega)
  have hx00 : x = 0 := by omega
  subst hx00
  go_wp2_with fail
  refine (pick_any B r _ 5 _ HI2.out.rd (by omega) (by omega) (by omega)).mono ?_
  rintro e w3 ⟨y, rfl, hy, hr3, hg3⟩
  have HI3 : Hid (WI B r (q + 902) w w3 (.slice a1 L.length c1) L) := HI2.out.step hg3 hr3
  clear hr3 hg3 HI2 hxd hx
  have hneZ : ∀ G, w.heap.size < G → some r ≠ some G := fun G hG e => by have := Option.some.inj e; omega
  obtain ⟨p, R, hpR⟩ : ∃ p R, L = p :: R := by
    cases L with
    | nil => simp at hl1
    | cons p R => exact ⟨p, R, rfl⟩
  obtain ⟨g, cap, hv, hgb, hnc, hcm, C, hC⟩ := own_atP HI3.out.1 (by omega)
  injection hv with e1 _ e3
  have e3' := e3.symm
  subst e1; subst e3'
  have hfz : ∀ j, w3.frozen? ⟨g, j, none⟩ = false := hC.free
  have hrows := OwnsR.rowsOf HI3.out.1
  obtain ⟨b', off', ea, k0, k1, k2, k3⟩ := pg_at hrows (i := 0) (by omega)
  injection ea with ea
  injection ea with ea1 ea2
  subst ea1; subst ea2
  have hL0 : L[0] = p := by subst hpR; rfl
  rw [hL0] at k0 k1 k2 k3
  have c0 : w3.cell? ⟨g, 0, none⟩ = some (.string p.addr) := by simpa using k0
  have c1 : w3.cell? ⟨g, 1, none⟩ = some (.string p.text) := by simpa using k1
  have c2 : w3.cell? ⟨g, 2, none⟩ = some (.string p.lead) := by simpa using k2
  have c3 : w3.cell? ⟨g, 3, none⟩ = some (.int .i64 p.fails) := by simpa using k3
  have hln : (0 : Int) < (L.length : Int) := by omega
  have HLR : Hid (L = p :: R) := hpR
  have HLN : Hid (L.length = R.length + 1) := by show _ = _; rw [hpR]; rfl
  have HBp : Hid (PgBd p) := HL.out p (by rw [hpR]; exact List.mem_cons_self ..)
  clear k0 k1 k2 k3 hrows hL0 hC hpR
  by_cases h0 : y = 0
  · subst h0
    obtain ⟨p9, hp9⟩ : ∃ p9 : Pg, p9 = p := ⟨_, rfl⟩
    have HE9 : Hid (FPg.enc p9 = [.string p.addr, .string p.text, .string p.lead, .int .i64 p.fails]) := by rw [hp9]; rfl
    have HB9 : Hid (PgBd p9) := by rw [hp9]; exact HBp.out
    clear hp9
    go_wp2_with (at_builtin; go_must (refine wpList_append_own _ rfl _ _ 23 rfl w.heap.size 55 i0 (.agg #[.string ⟨#[]⟩, .string ⟨#[]⟩, .string ⟨#[]⟩, .int .i64 0]) 4 56 Tryz.underlying23 hi hz0 hz1 hz2 rfl (by decide) _ _ _ rfl (HI3.out.alloc _).1 ⟨w3.heap.size, 0, none⟩ 1 1 (FPg.enc p9) rfl rfl (HE9.out ▸ cell_four_new _ _ _ _ _ _) (FPg.one p9) ?c3 ?c4 ?c5 ?_))
    case c3 => unfold maxLen; omega
    case c4 => omega
    case c5 => have := HI3.out.2.2.2.1; simp at this ⊢; omega
    intro v8 w8 hown8 hgrow8 _
    have HI8 : Hid (WI B r (q + 902) w w8 v8 (L ++ [p9])) := (HI3.out.alloc _).more hown8 hgrow8
    have HL8 : Hid (PgsBd (L ++ [p9])) := PgsBd.snoc HL.out HB9.out
    clear hown8 hgrow8
    obtain ⟨a8, c8, hv8, _⟩ := OwnsR.rows HI8.out.1
    subst hv8
    go_wp2
    go_ret
    exact ⟨L ++ [p9], a8, c8, rfl, HI8.out.mono (by omega), by simp; omega, by simp, HL8.out⟩
  have n0 : ((y : Int) == 0) = false := by simp; omega
  by_cases h1 : y = 1
  · subst h1
    have HI4 : Hid (WI B r (q + 902) w (w3.setCell ⟨g, 3, none⟩ (.int .i64 10)) (.slice (some ⟨g, 0, none⟩) L.length cap) (⟨p.addr, p.text, p.lead, 10⟩ :: R)) := WI.put (p := p) (by rw [← HLR.out]; exact HI3.out) HLN.out 3 _ rfl
    have HL4 : Hid (PgsBd (⟨p.addr, p.text, p.lead, 10⟩ :: R)) := PgsBd.head (p := p) (by rw [← HLR.out]; exact HL.out) (fun hb => ⟨hb.1, hb.2.1, hb.2.2.1, by show (0 : Int) ≤ 10; omega, by show (10 : Int) ≤ 10; omega, hb.2.2.2.2.2⟩)
    go_wp2
    go_ret
    exact ⟨⟨p.addr, p.text, p.lead, 10⟩ :: R, some ⟨g, 0, none⟩, cap, by rw [HLN.out]; rfl, by have h4 := HI4.out.mono (show q + 902 ≤ q + 910 by omega); rw [HLN.out] at h4; exact h4, by simp; have := HLN.out; omega, by simp, HL4.out⟩
  have n1 : ((y : Int) == 1) = false := by simp; omega
  by_cases h2 : y = 2
  · subst h2
    go_wp2_with fail
    refine (of_new B r (q + 902) 3 _ (fun s => decide (s.size ≤ 6)) w3 HI3.out.rd (by omega) (by decide) (by decide) (by decide) (by decide)).mono ?_
    rintro e w4 ⟨s, rfl, hs, hr4, hg4⟩
    have hs6 : s.size ≤ 6 := of_decide_eq_true hs
    have HI3b : Hid (WI B r (q + 902 + 1) w w4 (.slice (some ⟨g, 0, none⟩) L.length cap) L) := HI3.out.step hg4 hr4
    have hgw : g < w3.heap.size := cell_block c0
    have hgr : r ≠ g := by omega
    have hsm : ∀ (j : Nat) (v : Value), w3.cell? ⟨g, j, none⟩ = some v → w4.cell? ⟨g, j, none⟩ = some v := fun j v hc => (World.cell?_of_block (hg4.block g hgw (fun e => hgr (Option.some.inj e).symm))).trans hc
    have e0 := hsm 0 _ c0
    have e1 := hsm 1 _ c1
    have e2 := hsm 2 _ c2
    have e3 := hsm 3 _ c3
    obtain ⟨g', cap', hv', _, _, _, C', hC'⟩ := own_atP HI3b.out.1 (by omega)
    injection hv' with hv1 _ hv3
    injection hv1 with hv1
    injection hv1 with hv1

    subst hv1; subst hv3
    have hfz4 : ∀ j, w4.frozen? ⟨g, j, none⟩ = false := hC'.free
    clear hsm hs hr4 hg4 hC' hfz c0 c1 c2 c3
    have HI4 : Hid (WI B r (q + 902 + 1) w (w4.setCell ⟨g, 0, none⟩ (.string s)) (.slice (some ⟨g, 0, none⟩) L.length cap) (⟨s, p.text, p.lead, p.fails⟩ :: R)) := WI.put (p := p) (by rw [← HLR.out]; exact HI3b.out) HLN.out 0 _ rfl
    have HL4 : Hid (PgsBd (⟨s, p.text, p.lead, p.fails⟩ :: R)) := PgsBd.head (p := p) (by rw [← HLR.out]; exact HL.out) (fun hb => ⟨by show s.size ≤ 100; omega, hb.2.1, hb.2.2.1, hb.2.2.2⟩)
    go_wp2
    go_ret
    exact ⟨⟨s, p.text, p.lead, p.fails⟩ :: R, some ⟨g, 0, none⟩, cap, by rw [HLN.out]; rfl, by have h4 := HI4.out.mono (show q + 902 + 1 ≤ q + 910 by omega); rw [HLN.out] at h4; exact h4, by simp; have := HLN.out; omega, by simp, HL4.out⟩
  have n2 : ((y : Int) == 2) = false := by simp; omega
  by_cases h3 : y = 3
  · subst h3
    have HI4 : Hid (WI B r (q + 902) w (w3.setCell ⟨g, 2, none⟩ (.string ⟨#[120]⟩)) (.slice (some ⟨g, 0, none⟩) L.length cap) (⟨p.addr, p.text, ⟨#[120]⟩, p.fails⟩ :: R)) := WI.put (p := p) (by rw [← HLR.out]; exact HI3.out) HLN.out 2 _ rfl
    have HL4 : Hid (PgsBd (⟨p.addr, p.text, ⟨#[120]⟩, p.fails⟩ :: R)) := PgsBd.head (p := p) (by rw [← HLR.out]; exact HL.out) (fun hb => ⟨hb.1, hb.2.1, by show (1 : Nat) ≤ 100; omega, hb.2.2.2⟩)
    go_wp2
    go_ret
    exact ⟨⟨p.addr, p.text, ⟨#[120]⟩, p.fails⟩ :: R, some ⟨g, 0, none⟩, cap, by rw [HLN.out]; rfl, by have h4 := HI4.out.mono (show q + 902 ≤ q + 910 by omega); rw [HLN.out] at h4; exact h4, by simp; have := HLN.out; omega, by simp, HL4.out⟩
  · have n3 : ((y : Int) == 3) = false := by simp; omega
    clear c0 c1 c2 c3 hfz HLR HLN HBp
    go_wp2
    go_loopg [3, 4] 12 (fun m v i wr => ∃ (L : List Pg) (k : Nat), k + m = 12 ∧ i = .int .i64 (k : Int) ∧ L.length ≤ 12 + k ∧ 1 ≤ L.length ∧ Hid (PgsBd L) ∧ Hid (WI B r (q + 902) w wr v L))
    case atStart => exact ⟨L, 0, rfl, rfl, by omega, hl1, HL, HI3⟩
    case round =>
      clear HL HI3
      obtain ⟨L, k, hkm, rfl, hlk, hl1, HL, HI⟩ := hrel
      rcases gk with _ | m
      · obtain ⟨a8, c8, hv8, _⟩ := OwnsR.rows HI.out.1
        subst hv8
        have ek : k = 12 := by omega
        subst ek
        go_wp2
        go_ret
        exact ⟨L, a8, c8, rfl, HI.out.mono (by omega), by omega, hl1, HL.out⟩
      · have hk12 : k < 12 := by omega
        go_wp2_with fail
        refine (specDec_any k _ (by omega)).mono ?_
        rintro e w4 ⟨rfl, hb4⟩
        have HI4 : Hid (WI B r (q + 902) w w4 u3 L) := HI.out.below hb4
        have hdl := dec_len k
        obtain ⟨ds, hds⟩ : ∃ ds : ByteArray, ds = ⟨(decL k).toArray⟩ := ⟨_, rfl⟩
        have hdz : ds.size ≤ 2 := by rw [hds]; show (decL k).toArray.size ≤ 2; simp; omega
        rw [← hds]
        clear hds hb4 HI
        obtain ⟨p9, hp9⟩ : ∃ p9 : Pg, p9 = ⟨(⟨#[47, 47, 97, 98, 47, 122]⟩ : ByteArray) ++ ds, ⟨#[]⟩, ⟨#[]⟩, 0⟩ := ⟨_, rfl⟩
        have HE9 : Hid (FPg.enc p9 = [.string ((⟨#[47, 47, 97, 98, 47, 122]⟩ : ByteArray) ++ ds), .string ⟨#[]⟩, .string ⟨#[]⟩, .int .i64 0]) := by rw [hp9]; rfl
        have HB9 : Hid (PgBd p9) := by
          rw [hp9]
          refine ⟨?_, by show (0 : Nat) ≤ 300; omega, by show (0 : Nat) ≤ 100; omega, by show (0 : Int) ≤ 0; omega, by show (0 : Int) ≤ 10; omega, NrT.nw_empty⟩
          show ((⟨#[47, 47, 97, 98, 47, 122]⟩ : ByteArray) ++ ds).size ≤ 100
          rw [ByteArray.size_append]
          have : (⟨#[47, 47, 97, 98, 47, 122]⟩ : ByteArray).size = 6 := rfl
          omega
        clear hp9
        go_wp2_with (at_builtin; go_must (refine wpList_append_own _ rfl _ _ 23 rfl w.heap.size 55 i0 (.agg #[.string ⟨#[]⟩, .string ⟨#[]⟩, .string ⟨#[]⟩, .int .i64 0]) 4 56 Tryz.underlying23 hi hz0 hz1 hz2 rfl (by decide) _ _ _ rfl (HI4.out.alloc _).1 ⟨w4.heap.size, 0, none⟩ 1 1 (FPg.enc p9) rfl rfl (HE9.out ▸ cell_four_new _ _ _ _ _ _) (FPg.one p9) ?c3 ?c4 ?c5 ?_))
        case c3 => unfold maxLen; omega
        case c4 => omega
        case c5 => have := HI4.out.2.2.2.1; simp at this ⊢; omega
        intro v8 w8 hown8 hgrow8 _
        have HI8 : Hid (WI B r (q + 902) w w8 v8 (L ++ [p9])) := (HI4.out.alloc _).more hown8 hgrow8
        have HL8 : Hid (PgsBd (L ++ [p9])) := PgsBd.snoc HL.out HB9.out
        clear hown8 hgrow8
        go_wp2
        go_roundg m
        case measure => omega
        case rel => exact ⟨L ++ [p9], k + 1, by omega, by go_num, by simp; omega, by simp, HL8, HI8⟩
end Go.Proofs.YtmgcdfmgmpnonaaGreatDoor.Dr
