/- From where one begins is drawn; what FnReach.. draw. -/
import Derived.Test.YtiennniclkbjlaaGreatDoorDrawWPk
namespace Go.Proofs.YtiennniclkbjlaaGreatDoor.Dr
open Go.RowKit Go.Proofs.YtiennniclkbjlaaGreatDoor.EscM Go.Proofs.YtiennniclkbjlaaGreatDoor.St Go.Proofs.YtiennniclkbjlaaGreatDoor.AddrM Go.Proofs.YtiennniclkbjlaaGreatDoor.EscL Go.Proofs.YtiennniclkbjlaaGreatDoor.Ad1 Go.Proofs.YtiennniclkbjlaaGreatDoor.RR Go.Proofs.YtiennniclkbjlaaGreatDoor.LetM Go.Proofs.YtiennniclkbjlaaGreatDoor.Nm Go.Proofs.YtiennniclkbjlaaGreatDoor.GrM Go.Proofs.YtiennniclkbjlaaGreatDoor.RoPg Go.Proofs.YtiennniclkbjlaaGreatDoor.WdM

set_option maxRecDepth 100000 in
set_option maxHeartbeats 4000000 in
theorem seeds_any (B r q : Nat) (L : List Pg) (a1 : Option Addr) (c1 : Nat) (w0 w : World) (h : WI B r q w0 w (.slice a1 L.length c1) L) (hL : PgsBd L) (hl : L.length ≤ 100) (hq : q ≤ 8000) :
    Calls Tryz.prog 27 #[.pointer (some ⟨r, 0, none⟩), .slice a1 L.length c1] w fun e w' => ∃ S v, e = .returned v ∧ Owns w' w.heap.size v S ∧ S.length ≤ 4 ∧ (∀ s ∈ S, s.size ≤ 100) ∧ WI B r (q + 30) w0 w' (.slice a1 L.length c1) L ∧ w.grownBy w' (some r) := by
  obtain ⟨i0, hi, hz0, hz1, hz2⟩ := info_parts Tryz.infoS
  have hle := h.rd.le
  have HI : Hid (WI B r q w0 w (.slice a1 L.length c1) L) := h
  have HL : Hid (PgsBd L) := hL
  clear h hL
  go_enter Tryz.func27, Tryz.ntmps27
  go_wp2_with fail
  refine (pick_any B r q 3 _ (HI.out.rd.alloc _) (by omega) (by omega) (by omega)).mono ?_
  rintro e wA ⟨n0, rfl, hn0, hr1, hg1⟩
  have HO1 : Hid (Owns wA w.heap.size (.slice (some ⟨w.heap.size, 0, none⟩) 0 0) []) := Owns.kept (Owns.empty w w.heap.size (Nat.le_refl _)) hg1 hle.2
  have HR1 : Hid (IsRd B wA r (q + 1)) := hr1
  have HG1 : Hid (w.grownBy wA (some r)) := grown_trans (grown_alloc _ _ _) hg1
  clear hr1 hg1
  go_wp2
  go_loopw [5, 6] (fun v i wr => ∃ (k : Nat) (S : List ByteArray), k ≤ 3 ∧ i = .int .i64 (k : Int) ∧ S.length + k ≤ 3 ∧ Hid (∀ s ∈ S, s.size ≤ 100) ∧ Hid (Owns wr w.heap.size v S) ∧ Hid (IsRd B wr r (q + 25 - 8 * k)) ∧ Hid (w.grownBy wr (some r))) (fun _ i _ => (intOf i).toNat)
  case atStart => exact ⟨1 + n0, [], by omega, by go_num, by simp; omega, (fun x hx => by cases hx), HO1, HR1.out.mono (by omega), HG1⟩
  case round =>
    obtain ⟨k, S, hk, rfl, hSk, HS, HO, HR, HG⟩ := hrel
    by_cases hlt : 0 < k
    · go_wp2_with fail
      refine (where_any B r (q + 25 - 8 * k) L a1 c1 w0 _ (HI.out.step HG.out HR.out) HL.out hl (by omega)).mono ?_
      rintro e w3 ⟨s, rfl, hs, hI3, hg3⟩
      have HO3 : Hid (Owns w3 w.heap.size u5 S) := Owns.kept HO.out hg3 hle.2
      have HR3 : Hid (IsRd B w3 r (q + 25 - 8 * k + 8)) := hI3.rd
      have HG3 : Hid (w.grownBy w3 (some r)) := grown_trans HG.out hg3
      have hw3 : w.heap.size ≤ w3.heap.size := HG3.out.size
      clear hI3 hg3
      go_wp2_with (at_builtin; refine wpList_append_own _ rfl _ _ 23 rfl w.heap.size 9 i0 (.string ⟨#[]⟩) 1 16 Tryz.underlying23 hi hz0 hz1 hz2 rfl (by decide) _ _ _ rfl (World.ownsRow.alloc HO3.out _) ⟨w3.heap.size, 0, none⟩ 1 1 [.string s] rfl rfl (cell_one_new _ _ _) ?c2 ?c3 ?c4 ?c5 ?_)
      case c2 => intro u hu; simp at hu; subst hu; rfl
      case c3 => unfold maxLen; omega
      case c4 => omega
      case c5 => simp; omega
      intro v' w4 hown' hgrow _
      have HO' : Hid (Owns w4 w.heap.size v' (S ++ [s])) := Owns.append hown'
      have hgA : w3.grownBy w4 u5.ownBlock := grown_trans (grown_alloc w3 _ _) hgrow
      have HR4 : Hid (IsRd B w4 r (q + 25 - 8 * k + 8)) := HR3.out.grownRow (base := w.heap.size) hgA (by omega) (Owns.block HO3.out)
      have HG4 : Hid (w.grownBy w4 (some r)) := grown_past HG3.out hgA (fun k hk => Owns.block HO3.out k hk)
      have HS4 : Hid (∀ y ∈ S ++ [s], y.size ≤ 100) := by
        intro y hy
        rcases List.mem_append.1 hy with hy | hy
        · exact HS.out y hy
        · simp at hy; subst hy; exact hs
      clear hown' hgrow hgA
      go_wp2
      go_roundw
      case rel => exact ⟨k - 1, S ++ [s], by omega, by go_num, by simp; omega, HS4, HO', HR4.out.mono (by omega), HG4⟩
      case measure => simp [intOf]; omega
    · have hk0 : k = 0 := by omega
      subst hk0
      go_wp2_with fail
      refine (pick_any B r _ 12 _ HR.out (by omega) (by omega) (by omega)).mono ?_
      rintro e w5 ⟨y, rfl, hy, hr5, hg5⟩
      have HO5 : Hid (Owns w5 w.heap.size u5 S) := Owns.kept HO.out hg5 hle.2
      have HR5 : Hid (IsRd B w5 r (q + 26)) := hr5.mono (by omega)
      have HG5 : Hid (w.grownBy w5 (some r)) := grown_trans HG.out hg5
      have hw5 : w.heap.size ≤ w5.heap.size := HG5.out.size
      clear hr5 hg5
      by_cases hy0 : y = 0
      · subst hy0
        go_wp2_with (at_builtin; refine wpList_append_own _ rfl _ _ 23 rfl w.heap.size 9 i0 (.string ⟨#[]⟩) 1 16 Tryz.underlying23 hi hz0 hz1 hz2 rfl (by decide) _ _ _ rfl (World.ownsRow.alloc HO5.out _) ⟨w5.heap.size, 0, none⟩ 1 1 [.string ⟨#[120]⟩] rfl rfl (cell_one_new _ _ _) ?c2 ?c3 ?c4 ?c5 ?_)
        case c2 => intro u hu; simp at hu; subst hu; rfl
        case c3 => unfold maxLen; omega
        case c4 => omega
        case c5 => simp; omega
        intro v' w6 hown' hgrow _
        have HO' : Hid (Owns w6 w.heap.size v' (S ++ [⟨#[120]⟩])) := Owns.append hown'
        have hgA : w5.grownBy w6 u5.ownBlock := grown_trans (grown_alloc w5 _ _) hgrow
        have HR6 : Hid (IsRd B w6 r (q + 26)) := HR5.out.grownRow (base := w.heap.size) hgA (by omega) (Owns.block HO5.out)
        have HG6 : Hid (w.grownBy w6 (some r)) := grown_past HG5.out hgA (fun k hk => Owns.block HO5.out k hk)
        clear hown' hgrow hgA
        go_wp2
        go_ret
        refine ⟨S ++ [⟨#[120]⟩], v', rfl, HO'.out, by simp; omega, fun y hy => ?_, (HI.out.step HG6.out HR6.out).mono (by omega), HG6.out⟩
        rcases List.mem_append.1 hy with hy | hy
        · exact HS.out y hy
        · simp at hy; subst hy; decide
      · have hyb : ((y : Int) == 0) = false := by rw [beq_eq_false_iff_ne]; omega
        go_wp2
        go_ret
        exact ⟨S, _, rfl, HO5.out, by omega, HS.out, (HI.out.step HG5.out HR5.out).mono (by omega), HG5.out⟩
set_option maxRecDepth 100000 in
set_option maxHeartbeats 4000000 in
theorem drawReach_any (a0 : Option Addr) (len cap : Nat) (zs : List Int) (w : World) (h : IsRow .u8 w a0 len cap zs) :
    Calls Tryz.prog 16 #[.slice a0 len cap] w fun e w' => ∃ (L : List Pg) (a1 : Option Addr) (c1 : Nat) (s : ByteArray) (S : List ByteArray) (a2 : Option Addr) (c2 : Nat), e = .returned (.tuple #[.slice a1 L.length c1, .string s, .slice a2 S.length c2]) ∧ IsRows FPg w' a1 c1 L ∧ L.length ≤ 24 ∧ PgsBd L ∧ nameB s = true ∧ IsStrs w' a2 c2 S ∧ S.length ≤ 4 ∧ (∀ x ∈ S, x.size ≤ 100) ∧ Below w.heap.size w w' := by
  go_enter Tryz.func16, Tryz.ntmps16
  go_wp2_with fail
  refine (open_any a0 len cap zs w h).mono ?_
  rintro e w1 ⟨rfl, hr1, hb1⟩
  clear h
  have HR1 : Hid (IsRd w.heap.size w1 w.heap.size 0) := hr1
  have HB1 : Hid (Below w.heap.size w w1) := hb1
  clear hr1 hb1
  go_wp2_with fail
  refine (off_any _ _ _ _ HR1.out (by omega)).mono ?_
  rintro e w2 ⟨L, a1, c1, rfl, hI, hl, _, hL⟩
  have HI2 : Hid (WI w.heap.size w.heap.size 910 w1 w2 (.slice a1 L.length c1) L) := hI.mono (by omega)
  have HL : Hid (PgsBd L) := hL
  clear hI hL
  go_wp2_with fail
  refine (name_any _ _ _ _ HI2.out.rd (by omega)).mono ?_
  rintro e w3 ⟨s, rfl, hs, _, hr3, hg3⟩
  have HI3 : Hid (WI w.heap.size w.heap.size 911 w1 w3 (.slice a1 L.length c1) L) := HI2.out.step hg3 hr3
  have HS : Hid (nameB s = true) := hs
  clear hr3 hg3 hs HI2
  go_wp2_with fail
  refine (seeds_any _ _ _ L a1 c1 w1 _ HI3.out HL.out (by omega) (by omega)).mono ?_
  rintro e w4 ⟨S, v, rfl, hO, hSl, hSz, hI4, _⟩
  have HI4 : Hid (WI w.heap.size w.heap.size 941 w1 w4 (.slice a1 L.length c1) L) := hI4.mono (by omega)
  obtain ⟨a2, c2, hv, hS4⟩ := hO.strs
  subst hv
  have HS4 : Hid (IsStrs w4 a2 c2 S) := hS4
  have HSZ : Hid (∀ x ∈ S, x.size ≤ 100) := hSz
  clear hI4 HI3 hO hS4 hSz
  have HF : Hid (Below w.heap.size w w4) := HB1.out.trans (grown_below HI4.out.2.2.1 HB1.out.size (Nat.le_refl _))
  have HR5 : Hid (IsRows FPg w4 a1 c1 L) := OwnsR.rowsOf HI4.out.1
  clear HI4
  go_wp2
  refine bodyPost_ret (v := .tuple #[.slice a1 L.length c1, .string s, .slice a2 S.length c2]) (by simp [results, Tryz.results16, go_sem]) rfl ?_
  exact ⟨L, a1, c1, s, S, a2, c2, rfl, HR5.out, hl, HL.out, HS.out, HS4.out, hSl, HSZ.out, HF.out⟩
end Go.Proofs.YtiennniclkbjlaaGreatDoor.Dr
