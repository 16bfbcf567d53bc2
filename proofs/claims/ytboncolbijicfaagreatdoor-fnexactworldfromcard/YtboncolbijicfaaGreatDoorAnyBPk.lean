/- Several texts in one: AnyB, Impl3, Impl4. -/
import Derived.Test.YtboncolbijicfaaGreatDoorDecAnyPk
import Derived.Test.YtboncolbijicfaaGreatDoorLibMathPk
import Derived.Deep.AppendLies
/- Of which texts the program's AddrRead is walked: of all. -/
namespace Go.Proofs.YtboncolbijicfaaGreatDoor.Im
open Go.RowKit Go.Proofs.YtboncolbijicfaaGreatDoor.EscM Go.Proofs.YtboncolbijicfaaGreatDoor.AddrM Go.Proofs.YtboncolbijicfaaGreatDoor.ReadM Go.Proofs.YtboncolbijicfaaGreatDoor.St Go.Proofs.YtboncolbijicfaaGreatDoor.EscL Go.Proofs.YtboncolbijicfaaGreatDoor.PathM Go.Proofs.YtboncolbijicfaaGreatDoor.Ad1 Go.Proofs.YtboncolbijicfaaGreatDoor.Rd1 Go.Proofs.YtboncolbijicfaaGreatDoor.LibM

def ascii (_ : ByteArray) : Prop := True
theorem ascii_drop {s : ByteArray} (n : Nat) (_ : ascii s) : ascii (bs (s.data.toList.drop n)) := trivial
theorem cut_ascii {s : ByteArray} (c : Int) (_ : ascii s) : ascii (bs (cutL c s.data.toList).1) := trivial
theorem any_any (s : ByteArray) (w : World) (hs : s.size ≤ 1000000) (_ : ascii s) :
    Calls Tryz.prog 151 #[.string s, .string ⟨#[47, 63]⟩] w fun e w' => e = .returned (.int .i64 (Lib.indexAny s.data.toList [47, 63])) ∧ Below w.heap.size w w' := DecM.any_all s w hs
end Go.Proofs.YtboncolbijicfaaGreatDoor.Im
/- The program's AddrRead, of a text of ASCII bytes. -/
namespace Go.Proofs.YtboncolbijicfaaGreatDoor.Im
open Go.RowKit Go.Proofs.YtboncolbijicfaaGreatDoor.EscM Go.Proofs.YtboncolbijicfaaGreatDoor.AddrM Go.Proofs.YtboncolbijicfaaGreatDoor.ReadM Go.Proofs.YtboncolbijicfaaGreatDoor.St Go.Proofs.YtboncolbijicfaaGreatDoor.EscL Go.Proofs.YtboncolbijicfaaGreatDoor.PathM Go.Proofs.YtboncolbijicfaaGreatDoor.Ad1 Go.Proofs.YtboncolbijicfaaGreatDoor.Rd1 Go.Proofs.YtboncolbijicfaaGreatDoor.LibM

/-- readWhole, as a function on lists -/
def wholeR (l : List UInt8) : Option Ad := if l.take 2 = [47, 47] then wholeF (l.drop 2) else none

set_option maxRecDepth 100000 in
set_option maxHeartbeats 4000000 in
theorem implWhole_ascii (text : ByteArray) (w : World) (hM : Mx w) (ht : text.size ≤ 60) (ha : ascii text) :
    Calls Tryz.prog 122 #[.string text] w fun e w' => Reads (wholeR text.data.toList) w e w' := by
  have hl : text.data.toList.length = text.size := by simp
  have HM : Hid (Mx w) := hM
  clear hM
  have hb0 : Below (w.heap.size + 1) (w.alloc (.cells #[.string ⟨#[]⟩, .slice none 0 0, .bool false, .string ⟨#[]⟩] 73)) (w.alloc (.cells #[.string ⟨#[]⟩, .slice none 0 0, .bool false, .string ⟨#[]⟩] 73)) := Below.refl _ _
  by_cases hp : text.data.toList.take 2 = [47, 47]
  · have HY : Hid (wholeR text.data.toList = wholeF (text.data.toList.drop 2)) := by show _ = _; unfold wholeR; rw [if_pos hp]
    have HP : Hid (text.data.toList.take 2 = [47, 47]) := hp
    have har : ascii (bs (text.data.toList.drop 2)) := ascii_drop 2 ha
    have hrs : (bs (text.data.toList.drop 2)).size ≤ 60 := by rw [bs_size]; simp; omega
    have HAR : Hid _ := har
    clear hp har
    have hrl : (bs (text.data.toList.drop 2)).data.toList = text.data.toList.drop 2 := bs_list _
    have HRL : Hid _ := hrl
    clear hrl
    go_enter Tryz.func122, Tryz.ntmps122
    go_wp2_with fail
    refine (prefix_yes text _ (by omega) HP.out).mono ?_
    rintro e w1 ⟨rfl, rfl⟩
    generalize bs (text.data.toList.drop 2) = rest at *
    go_wp2_with fail
    refine (any_any rest _ (by omega) HAR.out).mono ?_
    rintro e w2 ⟨rfl, hb2⟩
    have HB2 : Hid (Below (w.heap.size + 1) (w.alloc (.cells #[.string ⟨#[]⟩, .slice none 0 0, .bool false, .string ⟨#[]⟩] 73)) w2) := below_one hb2
    have HM2 : Hid (Mx w2) := (HM.out.alloc _).below hb2
    clear hb2
    rcases any_lib rest.data.toList with ⟨i1, i2, i3⟩ | ⟨i, i0, i1, i2, i3⟩
    · have HWH : Hid (wholeR text.data.toList = wayF (bs (smallL rest.data.toList)) [] ByteArray.empty) := by
        show _ = _
        rw [HY.out, ← HRL.out]; unfold wholeF; rw [i2, i3]; rfl
      rw [i1]
      have hz2 : w.heap.size + 1 ≤ w2.heap.size := by have := HB2.out.size; simp at this; omega
      have hq1 : (0 : Int) ≤ (rest.size : Int) := by omega
      clear i1 i2 i3 hb0
      go_wp2_with fail
      go_region_with (first
        | (go_at_call 153
           refine (lower_any _ w2.drew (by first | omega | (simp; omega))).mono ?_
           rintro e w3 ⟨rfl, hb3⟩
           have HM3 : Hid (Mx w3) := (Mx.keep HM2.out (fun _ _ => rfl) : Mx w2.drew).below hb3
           have HB3 : Hid (Below (w.heap.size + 1) (w.alloc (.cells #[.string ⟨#[]⟩, .slice none 0 0, .bool false, .string ⟨#[]⟩] 73)) w3) := HB2.out.drew.trans (hb3.mono hz2)
           have hz3 : w.heap.size + 1 ≤ w3.heap.size := Nat.le_trans hz2 hb3.size
           clear hb3)
        | (go_at_call 152
           refine (implWay_nil _ _ w3 HM3.out (by rw [bs_size, small_len]; simp; omega) (by first | decide | (simp; omega))).mono ?_
           rintro e w4 ⟨A, ok, a1, c1, rfl, hans, hO, hb4⟩
           have HANS : Hid _ := hans
           have HO4 : Hid _ := hO
           have HB4 : Hid (Below (w.heap.size + 1) (w.alloc (.cells #[.string ⟨#[]⟩, .slice none 0 0, .bool false, .string ⟨#[]⟩] 73)) w4) := HB3.out.trans (hb4.mono hz3)
           clear hans hO hb4
           have hb4' := HB4.out
           obtain ⟨⟨d0, d1, d2, d3⟩, dz⟩ := one_cells hb4'
           clear hb4')
        | fail)
      all_goals
        go_wp2
        refine bodyPost_ret (v := .tuple #[.agg #[.string A.house, .slice a1 A.parts.length c1, .bool A.asks, .string A.ask], .bool ok]) (by simp [results, Tryz.results122, go_sem, d0, d1, d2, d3]) rfl ?_
        refine ⟨A, ok, a1, c1, rfl, ?_, ?_, ?_⟩
        · rw [HWH.out]; exact HANS.out
        · refine Owns.mono (?_ : Owns _ w3.heap.size _ _) (by omega)
          have hO := HO4.out
          iterate 4 refine ownsRow_setCell_below ?_ (by dsimp only; omega) _
          exact hO
        · have hbw : Below w.heap.size w w4 := ((Below.refl _ w).alloc (Nat.le_refl _) _).trans (HB4.out.mono (by omega))
          iterate 4 refine Below.setCell ?_ (by dsimp only; omega) _
          exact hbw
    · have HWH : Hid (wholeR text.data.toList = wayF (bs (smallL (List.take i rest.data.toList))) [] (rest.extract i rest.size)) := by
        show _ = _
        rw [HY.out, ← HRL.out]; unfold wholeF; rw [i2, i3, ext_drop]
      rw [i1]
      have hz2 : w.heap.size + 1 ≤ w2.heap.size := by have := HB2.out.size; simp at this; omega
      have hin : (0 : Int) ≤ (i : Int) := by omega
      have hi1 : (i : Int) ≤ (rest.size : Int) := by
        have : rest.data.toList.length = rest.size := by simp
        omega
      clear i1 i2 i3 hb0
      go_wp2_with fail
      go_region_with (first
        | (go_at_call 153
           refine (lower_any _ w2.drew (by first | omega | (simp; omega))).mono ?_
           rintro e w3 ⟨rfl, hb3⟩
           have HM3 : Hid (Mx w3) := (Mx.keep HM2.out (fun _ _ => rfl) : Mx w2.drew).below hb3
           have HB3 : Hid (Below (w.heap.size + 1) (w.alloc (.cells #[.string ⟨#[]⟩, .slice none 0 0, .bool false, .string ⟨#[]⟩] 73)) w3) := HB2.out.drew.trans (hb3.mono hz2)
           have hz3 : w.heap.size + 1 ≤ w3.heap.size := Nat.le_trans hz2 hb3.size
           clear hb3)
        | (go_at_call 152
           refine (implWay_nil _ _ w3 HM3.out (by rw [bs_size, small_len]; simp; omega) (by first | decide | (simp; omega))).mono ?_
           rintro e w4 ⟨A, ok, a1, c1, rfl, hans, hO, hb4⟩
           have HANS : Hid _ := hans
           have HO4 : Hid _ := hO
           have HB4 : Hid (Below (w.heap.size + 1) (w.alloc (.cells #[.string ⟨#[]⟩, .slice none 0 0, .bool false, .string ⟨#[]⟩] 73)) w4) := HB3.out.trans (hb4.mono hz3)
           clear hans hO hb4
           have hb4' := HB4.out
           obtain ⟨⟨d0, d1, d2, d3⟩, dz⟩ := one_cells hb4'
           clear hb4')
        | fail)
      all_goals
        go_wp2
        refine bodyPost_ret (v := .tuple #[.agg #[.string A.house, .slice a1 A.parts.length c1, .bool A.asks, .string A.ask], .bool ok]) (by simp [results, Tryz.results122, go_sem, d0, d1, d2, d3]) rfl ?_
        refine ⟨A, ok, a1, c1, rfl, ?_, ?_, ?_⟩
        · rw [HWH.out]; exact HANS.out
        · refine Owns.mono (?_ : Owns _ w3.heap.size _ _) (by omega)
          have hO := HO4.out
          iterate 4 refine ownsRow_setCell_below ?_ (by dsimp only; omega) _
          exact hO
        · have hbw : Below w.heap.size w w4 := ((Below.refl _ w).alloc (Nat.le_refl _) _).trans (HB4.out.mono (by omega))
          iterate 4 refine Below.setCell ?_ (by dsimp only; omega) _
          exact hbw
  · have HNo : Hid (wholeR text.data.toList = none) := by show _ = _; unfold wholeR; rw [if_neg hp]
    have HP : Hid _ := hp
    clear hp
    obtain ⟨⟨d0, d1, d2, d3⟩, dz⟩ := one_cells hb0
    clear hb0
    go_enter Tryz.func122, Tryz.ntmps122
    go_wp2_with fail
    refine (prefix_no text _ (by omega) HP.out).mono ?_
    rintro e w1 ⟨rfl, rfl⟩
    go_wp2
    refine bodyPost_ret (v := .tuple #[.agg #[.string ⟨#[]⟩, .slice none 0 0, .bool false, .string ⟨#[]⟩], .bool false]) (by simp [results, Tryz.results122, go_sem, d0, d1, d2, d3]) rfl ?_
    refine ⟨zeroAd, false, none, 0, rfl, Or.inr ⟨rfl, HNo.out, rfl⟩, Owns.nil _ _, ?_⟩
    have hbw : Below w.heap.size w (w.alloc (.cells #[.string ⟨#[]⟩, .slice none 0 0, .bool false, .string ⟨#[]⟩] 73)) := (Below.refl _ w).alloc (Nat.le_refl _) _
    exact hbw

theorem read_whole {l : List UInt8} (h : ¬ 60 < l.length) : readF l = wholeR (cutL 35 l).1 := by
  unfold readF wholeR; rw [if_neg h]

set_option maxRecDepth 100000 in
set_option maxHeartbeats 4000000 in
/-- AddrRead OF THE PROGRAM, OF ASCII BYTES: as the model's -/
theorem implRead_ascii (raw : ByteArray) (w : World) (hM : Mx w) (hr : raw.size ≤ 60) (ha : ascii raw) :
    Calls Tryz.prog 85 #[.string raw] w fun e w' => Reads (readF raw.data.toList) w e w' := by
  have hl : raw.data.toList.length = raw.size := by simp
  have HR : Hid (readF raw.data.toList = wholeR (bs (cutL 35 raw.data.toList).1).data.toList) := by show _ = _; rw [bs_list]; exact read_whole (by omega)
  have hcl := (cut_len 35 raw.data.toList).1
  have hcs : (bs (cutL 35 raw.data.toList).1).size ≤ 60 := by rw [bs_size]; omega
  have HA : Hid _ := cut_ascii 35 ha
  have HM : Hid (Mx w) := hM
  have HCR := fun W hW => cross_any raw W hW (by omega)
  have HC : Hid _ := HCR
  clear HCR hcl hM
  generalize bs (cutL 35 raw.data.toList).1 = t at *
  go_enter Tryz.func85, Tryz.ntmps85
  go_wp2_with fail
  refine (HC.out _ (HM.out.alloc _)).mono ?_
  rintro e w1 ⟨rfl, nq, hw1⟩
  have HB1 : Hid (Below (w.heap.size + 1) (w.alloc (.cells #[.string ⟨#[]⟩, .slice none 0 0, .bool false, .string ⟨#[]⟩] 73)) w1) := by
    subst hw1
    exact ⟨rfl, rfl, rfl, Nat.le_refl _, fun _ _ => rfl⟩
  have HM1 : Hid (Mx w1) := by subst hw1; exact (HM.out.alloc _).drewN _
  clear hw1
  have hz1 : w.heap.size + 1 ≤ w1.heap.size := by have := HB1.out.size; simp at this; omega
  go_wp2_with fail
  refine (implWhole_ascii t _ HM1.out hcs HA.out).mono ?_
  rintro e w4 ⟨A, ok, a1, c1, rfl, hans, hO, hb4⟩
  have HANS : Hid _ := hans
  have HO4 : Hid _ := hO
  have HB4 : Hid (Below (w.heap.size + 1) (w.alloc (.cells #[.string ⟨#[]⟩, .slice none 0 0, .bool false, .string ⟨#[]⟩] 73)) w4) := HB1.out.trans (hb4.mono hz1)
  clear hans hO hb4
  have hb4' := HB4.out
  obtain ⟨⟨d0, d1, d2, d3⟩, dz⟩ := one_cells hb4'
  clear hb4'
  go_wp2
  refine bodyPost_ret (v := .tuple #[.agg #[.string A.house, .slice a1 A.parts.length c1, .bool A.asks, .string A.ask], .bool ok]) (by simp [results, Tryz.results85, go_sem, d0, d1, d2, d3]) rfl ?_
  refine ⟨A, ok, a1, c1, rfl, ?_, ?_, ?_⟩
  · rw [HR.out]; exact HANS.out
  · refine Owns.mono (?_ : Owns _ w1.heap.size _ _) (by omega)
    have hO := HO4.out
    iterate 4 refine ownsRow_setCell_below ?_ (by dsimp only; omega) _
    exact hO
  · have hbw : Below w.heap.size w w4 := ((Below.refl _ w).alloc (Nat.le_refl _) _).trans (HB4.out.mono (by omega))
    iterate 4 refine Below.setCell ?_ (by dsimp only; omega) _
    exact hbw
end Go.Proofs.YtboncolbijicfaaGreatDoor.Im
/- The program's reading of a way, from whatever parts. -/
namespace Go.Proofs.YtboncolbijicfaaGreatDoor.Im
open Go.RowKit Go.Proofs.YtboncolbijicfaaGreatDoor.EscM Go.Proofs.YtboncolbijicfaaGreatDoor.AddrM Go.Proofs.YtboncolbijicfaaGreatDoor.ReadM Go.Proofs.YtboncolbijicfaaGreatDoor.St Go.Proofs.YtboncolbijicfaaGreatDoor.EscL Go.Proofs.YtboncolbijicfaaGreatDoor.PathM Go.Proofs.YtboncolbijicfaaGreatDoor.Ad1 Go.Proofs.YtboncolbijicfaaGreatDoor.Rd1 Go.Proofs.YtboncolbijicfaaGreatDoor.LibM

theorem clone_any (a0 : Option Addr) (cap : Nat) (L : List ByteArray) (w : World) (h : IsStrs w a0 cap L) (hL : L.length ≤ 1000) :
    Calls Tryz.prog 179 #[.slice a0 L.length cap] w fun e w' => ∃ v, e = .returned v ∧ Owns w' w.heap.size v L ∧ Below w.heap.size w w' := by
  cases a0 with
  | none =>
    have h0 := (h.none rfl).1
    have : L = [] := List.eq_nil_of_length_eq_zero h0
    subst this
    refine (clone_nil _ _ _).mono ?_
    rintro e w' ⟨rfl, rfl⟩
    exact ⟨_, rfl, Owns.nil _ _, Below.refl _ _⟩
  | some ad =>
    by_cases h0 : L.length = 0
    · have : L = [] := List.eq_nil_of_length_eq_zero h0
      subst this
      refine (Tryz.slices_Clone_string_zero ad cap w).mono ?_
      rintro e w' ⟨v, rfl, hO, _, hb⟩
      exact ⟨v, rfl, Owns.of_row hO rfl rfl, hb⟩
    · obtain ⟨b, off, e, hc⟩ := h.2.2.2 (by intro e; rw [e] at h0; simp at h0)
      injection e with e
      subst e
      refine (Tryz.slices_Clone_string b off L.length cap L w (Nat.le_refl _) (by omega) (fun j hj => by rw [hc j hj, List.getD_eq_getElem?_getD, List.getElem?_eq_getElem hj]; rfl)).mono ?_
      rintro e w' ⟨v, rfl, hO, _, hb⟩
      exact ⟨v, rfl, Owns.of_row hO rfl (by rw [List.take_of_length_le (Nat.le_refl _)]; rfl), hb⟩
theorem strs_past {w w' : World} {S c : Nat} {P : List ByteArray} {row : Option Nat} (h : IsStrs w (some ⟨S, 0, none⟩) c P) (hg : w.grownBy w' row) (hS : S < w.heap.size) (hr : row ≠ some S) : IsStrs w' (some ⟨S, 0, none⟩) c P := by
  obtain ⟨j1, j2, j3, j4⟩ := h
  refine ⟨j1, j2, j3, fun hne => ?_⟩
  obtain ⟨bb, off, e, hc⟩ := j4 hne
  refine ⟨bb, off, e, fun i hi => ?_⟩
  injection e with e
  injection e with e1 e2 _
  subst e1
  rw [World.cell?_of_block (w := w) (hg.block S hS (fun e => hr e.symm))]; exact hc i hi

set_option maxRecDepth 100000 in
set_option maxHeartbeats 4000000 in
theorem implWay_any (house way : ByteArray) (frm : List ByteArray) (a0 : Option Addr) (cap : Nat) (w : World) (hM : Mx w) (hS : IsStrs w a0 cap frm) (hf : frm.length ≤ 1000) (hfs : sumS frm ≤ 100000) (hh : house.size ≤ 1000) (hw : way.size ≤ 60) :
    Calls Tryz.prog 152 #[.string house, .slice a0 frm.length cap, .string way] w fun e w' => Reads (wayF house frm way) w e w' := by
  obtain ⟨i0, hi, hz0, hz1, hz2⟩ := info_parts Tryz.infoS
  have hcl := cut_len 63 way.data.toList
  have hwl : way.data.toList.length = way.size := by simp
  obtain ⟨x, y, f, hcut⟩ : ∃ x y f, cutL 63 way.data.toList = (x, y, f) := ⟨_, _, _, rfl⟩
  have HW : Hid _ := way_cut (house := house) (frm := frm) hcut
  rw [bs_data] at HW
  rw [hcut] at hcl
  have hxl : x.length ≤ 60 := by have := hcl.1; simp at this; omega
  have hyl : y.length ≤ 60 := by have := hcl.1; simp at this; omega
  have HCUT := fun W hW => cut_any way 63 W hW (by omega)
  have e63 : ((63 : UInt8).toNat : Int) = 63 := rfl
  rw [e63, hcut] at HCUT
  have HCU : Hid _ := HCUT
  have HM : Hid (Mx w) := hM
  have HS : Hid (IsStrs w a0 cap frm) := hS
  have hby : (bs y).size ≤ maxLen := by rw [bs_size]; unfold maxLen; omega
  clear hcl hcut hwl HCUT hM hS
  go_enter Tryz.func152, Tryz.ntmps152
  go_wp2_with fail
  refine (HCU.out _ (HM.out.alloc _)).mono ?_
  rintro e w1 ⟨rfl, nq, hw1⟩
  have HB1 : Hid (Below (w.heap.size + 1) (w.alloc (.cells #[.string ⟨#[]⟩, .slice none 0 0, .bool false, .string ⟨#[]⟩] 73)) w1) := by
    subst hw1
    exact ⟨rfl, rfl, rfl, Nat.le_refl _, fun _ _ => rfl⟩
  have HM1 : Hid (Mx w1) := by subst hw1; exact (HM.out.alloc _).drewN _
  have HS1 : Hid (IsStrs w1 a0 cap frm) := by subst hw1; exact (HS.out.keep (alloc_keep w _)).drewN _
  clear hw1
  dsimp only
  go_wp2_with fail
  refine (implEsc_any (bs y) _ hby).mono ?_
  rintro e w2 ⟨rfl, hb2⟩
  have hz1' : w.heap.size + 1 ≤ w1.heap.size := by have := HB1.out.size; simp at this; omega
  have HB2 : Hid (Below (w.heap.size + 1) (w.alloc (.cells #[.string ⟨#[]⟩, .slice none 0 0, .bool false, .string ⟨#[]⟩] 73)) w2) := HB1.out.trans (hb2.mono hz1')
  have HM2 : Hid (Mx w2) := HM1.out.below hb2
  have HS2 : Hid (IsStrs w2 a0 cap frm) := HS1.out.below hb2
  clear hb2 HB1 HM1 HS1
  have hb2' := HB2.out
  obtain ⟨⟨d0, d1, d2, d3⟩, dz⟩ := one_cells hb2'
  clear hb2'
  cases hq : escB (bs y) with
  | false =>
    have HNo : Hid (wayF house frm way = none) := by
      show _ = _
      rw [HW.out]
      split
      · rfl
      · rw [hq]; rfl
    clear hq
    go_wp2
    refine bodyPost_ret (v := .tuple #[.agg #[.string ⟨#[]⟩, .slice none 0 0, .bool false, .string ⟨#[]⟩], .bool false]) (by simp [results, Tryz.results152, go_sem, d0, d1, d2, d3]) rfl ?_
    refine ⟨zeroAd, false, none, 0, rfl, Or.inr ⟨rfl, HNo.out, rfl⟩, Owns.nil _ _, ?_⟩
    have hbw : Below w.heap.size w w2 := ((Below.refl _ w).alloc (Nat.le_refl _) _).trans (HB2.out.mono (by omega))
    iterate 4 refine Below.setCell ?_ (by dsimp only; omega) _
    exact hbw
  | true =>
    have HQ : Hid _ := hq
    clear hq
    go_wp2_with fail
    refine (clone_any a0 cap frm _ HS2.out hf).mono ?_
    rintro e w3 ⟨v3, rfl, hO3, hb3⟩
    have hzB : w.heap.size + 1 ≤ w2.heap.size := by have := HB2.out.size; simp at this; omega
    have HB3 : Hid (Below (w.heap.size + 1) (w.alloc (.cells #[.string ⟨#[]⟩, .slice none 0 0, .bool false, .string ⟨#[]⟩] 73)) w3) := HB2.out.trans (hb3.mono hzB)
    have HM3 : Hid (Mx w3) := HM2.out.below hb3
    have HO3 : Hid (Owns w3 w2.heap.size v3 frm) := hO3
    have HV3 : Hid (∀ g, v3.ownBlock = some g → g < w3.heap.size) := fun g hg => (World.ownsRow.lt hO3 g hg).2
    have hz23 := hb3.size
    clear hO3 hb3 HB2 HM2 HS2
    go_wp2_with fail
    refine (split_any (bs x) _ HM3.out (by rw [bs_size]; omega)).mono ?_
    rintro e w4 ⟨rfl, hw4⟩
    obtain ⟨S, hS⟩ : ∃ S, w3.heap.size = S := ⟨_, rfl⟩
    have hz3 : w.heap.size + 1 ≤ S := by omega
    rw [hS] at HV3
    have hSz : w4.heap.size = S + 1 := by rw [hw4]; simp; exact hS
    have hsl : (splitS 47 (bs x)).length ≤ 61 := by
      unfold splitS
      rw [List.length_map]
      have h1 := split_len 47 (bs x).data.toList
      rw [bs_list] at h1 ⊢; omega
    have hpm : ∀ z ∈ splitS 47 (bs x), z.size ≤ 60 := fun z hz => by have := splitS_mem 47 _ z hz; rw [bs_size] at this; omega
    have hIs : IsStrs w4 (some ⟨S, 0, none⟩) (splitS 47 (bs x)).length (splitS 47 (bs x)) := by
      refine ⟨Nat.le_refl _, by unfold maxLen; omega, (fun e => by cases e), fun _ => ⟨S, 0, rfl, fun i hi => ?_⟩⟩
      have hb : w4.heap[S]? = some (.cells ((splitS 47 (bs x)).map Value.string).toArray 9) := by rw [hw4, ← hS]; show (w3.heap.push _)[w3.heap.size]? = _; simp
      unfold World.cell?
      dsimp only
      rw [hb]; simp [List.getElem?_eq_getElem hi]
    have HB4 : Hid (Below (w.heap.size + 1) (w.alloc (.cells #[.string ⟨#[]⟩, .slice none 0 0, .bool false, .string ⟨#[]⟩] 73)) w4) := by rw [hw4]; exact HB3.out.alloc (by rw [hS]; exact hz3) _
    have HO4 : Hid (Owns w4 w2.heap.size v3 frm) := by rw [hw4]; exact Owns.keep HO3.out (alloc_keep w3 _)
    have hBS : w2.heap.size ≤ S := by omega
    have HPM : Hid _ := hpm
    have HIS : Hid (IsStrs w4 (some ⟨S, 0, none⟩) (splitS 47 (bs x)).length (splitS 47 (bs x))) := hIs
    clear hpm hIs hw4 d0 d1 d2 d3 dz HB3 HM3 HO3 hz23
    obtain ⟨B, hB⟩ : ∃ B, w2.heap.size = B := ⟨_, rfl⟩
    rw [hB] at HO4 hBS hzB
    clear hB
    generalize hP : splitS 47 (bs x) = P at *
    have HP : Hid _ := hP
    clear hP
    have hzs : S + 1 ≤ w4.heap.size := by omega
    clear hSz
    go_wp2
    go_loopw [13, 38] (fun v i wr => ∃ k : Nat, k ≤ P.length ∧ i = .int .i64 (k : Int) ∧ Hid (Owns wr B v (frm ++ (P.take k).map escS)) ∧ Hid (∀ g, v.ownBlock = some g → g < S ∨ S + 1 ≤ g) ∧ Hid (∀ z ∈ P.take k, escB z = true) ∧ Hid (IsStrs wr (some ⟨S, 0, none⟩) P.length P) ∧
        Hid (Below (w.heap.size + 1) (w.alloc (.cells #[.string ⟨#[]⟩, .slice none 0 0, .bool false, .string ⟨#[]⟩] 73)) wr) ∧ S + 1 ≤ wr.heap.size) (fun _ i _ => P.length - (intOf i).toNat)
    case atStart => exact ⟨0, Nat.zero_le _, rfl, (by show Owns _ _ _ _; simpa using HO4.out), (fun g hg => Or.inl (HV3.out g hg)), (by intro z hz; simp at hz), HIS, HB4, hzs⟩
    case round =>
      obtain ⟨k, hk, rfl, HO, HV, HE, HI, HB, hzr⟩ := hrel
      have hb := HB.out
      obtain ⟨⟨d0, d1, d2, d3⟩, dz⟩ := one_cells hb
      clear hb
      by_cases hlt : k < P.length
      · obtain ⟨b, o, e, c⟩ := HI.out.at hlt
        injection e with e
        injection e with e1 e2 _
        subst e1; subst e2
        rw [Nat.zero_add] at c
        have hpz := HPM.out _ (List.getElem_mem hlt)
        have hpz' : P[k].size ≤ maxLen := by unfold maxLen; omega
        cases hq : escB P[k] with
        | false =>
          have HNo : Hid (wayF house frm way = none) := by show _ = _; rw [HW.out, normS_no hlt hq]
          have HF : Hid _ := hq
          clear hq
          go_wp2_with fail
          refine (implEsc_any P[k] _ hpz').mono ?_
          rintro e w6 ⟨rfl, hb6⟩
          rw [HF.out]
          have HB6 : Hid (Below (w.heap.size + 1) (w.alloc (.cells #[.string ⟨#[]⟩, .slice none 0 0, .bool false, .string ⟨#[]⟩] 73)) w6) := HB.out.trans (hb6.mono (by omega))
          clear hb6 d0 d1 d2 d3 dz
          have hb6' := HB6.out
          obtain ⟨⟨d0, d1, d2, d3⟩, dz⟩ := one_cells hb6'
          clear hb6'
          go_wp2
          refine bodyPost_ret (v := .tuple #[.agg #[.string ⟨#[]⟩, .slice none 0 0, .bool false, .string ⟨#[]⟩], .bool false]) (by simp [results, Tryz.results152, go_sem, d0, d1, d2, d3]) rfl ?_
          refine ⟨zeroAd, false, none, 0, rfl, Or.inr ⟨rfl, HNo.out, rfl⟩, Owns.nil _ _, ?_⟩
          have hbw : Below w.heap.size w w6 := ((Below.refl _ w).alloc (Nat.le_refl _) _).trans (HB6.out.mono (by omega))
          iterate 4 refine Below.setCell ?_ (by dsimp only; omega) _
          exact hbw
        | true =>
          have HT : Hid (frm ++ (P.take (k + 1)).map escS = (frm ++ (P.take k).map escS) ++ [escS P[k]]) := by
            show _ = _
            rw [List.take_succ_eq_append_getElem hlt, List.map_append, List.append_assoc]; rfl
          have HE2 : Hid (∀ z ∈ P.take (k + 1), escB z = true) := by
            intro z hz
            rw [List.take_succ_eq_append_getElem hlt] at hz
            rcases List.mem_append.1 hz with hz | hz
            · exact HE.out z hz
            · simp at hz; subst hz; exact hq
          have HF : Hid _ := hq
          clear hq
          have hlen : (frm ++ (P.take k).map escS).length ≤ 1061 := by simp; omega
          go_wp2_with fail
          refine (implEsc_any P[k] _ hpz').mono ?_
          rintro e w6 ⟨rfl, hb6⟩
          rw [HF.out]
          have HB6 : Hid (Below (w.heap.size + 1) (w.alloc (.cells #[.string ⟨#[]⟩, .slice none 0 0, .bool false, .string ⟨#[]⟩] 73)) w6) := HB.out.trans (hb6.mono (by omega))
          have HO6 : Hid (Owns w6 B u13 (frm ++ (P.take k).map escS)) := Owns.below HO.out hb6
          have HI6 : Hid (IsStrs w6 (some ⟨S, 0, none⟩) P.length P) := HI.out.below hb6
          have hz6 : S + 1 ≤ w6.heap.size := Nat.le_trans hzr hb6.size
          clear hb6 d0 d1 d2 d3 dz c
          generalize escS P[k] = p at *
          generalize hX : frm ++ (P.take k).map escS = X at *
          go_wp2_with (at_builtin; refine wpList_append_lies _ rfl _ _ 24 rfl B 9 i0 (.string ⟨#[]⟩) 1 16 Tryz.underlying24 hi hz0 hz1 hz2 rfl (by decide) u13 _ _ rfl (World.ownsRow.alloc HO6.out _) ⟨w6.heap.size, 0, none⟩ 1 1 [.string p] rfl rfl (cell_one_new _ _ _) ?c2 (by omega) ?c3 ?c4 ?c5 _ rfl ?_)
          case c2 => intro u hu; simp at hu; subst hu; rfl
          case c3 => unfold maxLen; omega
          case c4 => omega
          case c5 => simp; omega
          intro g7 cap7 w7 hown' hgrow hat7 hlt7
          have HO' : Hid (Owns w7 B (.slice (some ⟨g7, 0, none⟩) (X.length + 1) cap7) (X ++ [p])) := Owns.append hown'
          have hne : u13.ownBlock ≠ some S := fun e => by rcases HV.out S e with h | h <;> omega
          have HV7 : Hid (∀ g, (Value.slice (some ⟨g7, 0, none⟩) (X.length + 1) cap7).ownBlock = some g → g < S ∨ S + 1 ≤ g) := by
            intro g hg
            have hg' : g7 = g := by simpa [Value.ownBlock] using hg
            subst hg'
            rcases hat7 with h | h
            · exact HV.out _ h
            · right; omega
          have HB7 : Hid (Below (w.heap.size + 1) (w.alloc (.cells #[.string ⟨#[]⟩, .slice none 0 0, .bool false, .string ⟨#[]⟩] 73)) w7) :=
            Below.grown (HB6.out.alloc (by omega) _) hgrow (by simp; omega) (by intro g hg; have := Owns.block HO6.out g hg; omega)
          have HI7 : Hid (IsStrs w7 (some ⟨S, 0, none⟩) P.length P) := strs_past (HI6.out.keep (alloc_keep w6 _)) hgrow (by simp; omega) hne
          have hz7 : S + 1 ≤ w7.heap.size := by have := hgrow.size; simp at this; omega
          clear hown' hgrow hat7 hne
          go_wp2
          go_roundw
          case rel => exact ⟨k + 1, by omega, by go_num, by rw [HT.out]; exact HO'.out, HV7, HE2, HI7, HB7, hz7⟩
          case measure => simp [intOf]; omega
      · have hall : P.take k = P := List.take_of_length_le (by omega)
        rw [hall] at HO HE
        clear hall
        have HN : Hid (wayF house frm way = if okB ⟨house, cleanL (frm ++ P.map escS), f, escS (bs y)⟩ = true then some ⟨house, cleanL (frm ++ P.map escS), f, escS (bs y)⟩ else none) := by
          show _ = _
          rw [HW.out, normS_all HE.out, HQ.out]
          simp only [if_true]
        have hXl : (frm ++ P.map escS).length ≤ 1061 := by simp; omega
        have hXs : sumS (cleanL (frm ++ P.map escS)) ≤ 120000 := by
          refine Nat.le_trans (sum_clean _) ?_
          rw [sumS_append]
          have h1 := sum_le (L := P.map escS) (m := 180) (by intro z hz; obtain ⟨q, _, rfl⟩ := List.mem_map.1 hz; exact escS_size q)
          rw [List.length_map] at h1
          omega
        have hcl := clean_len (frm ++ P.map escS)
        have hys := escS_size (bs y)
        have HBK : Hid (bulkA ⟨house, cleanL (frm ++ P.map escS), f, escS (bs y)⟩ ≤ 4194304) := by
          show house.size + sumS (cleanL (frm ++ P.map escS)) + (cleanL (frm ++ P.map escS)).length + (escS (bs y)).size ≤ _
          omega
        generalize hX : frm ++ P.map escS = X at *
        generalize hA : escS (bs y) = ask at *
        clear hX hA hXs hcl hys d0 d1 d2 d3 dz HE HW HI HV
        obtain ⟨a5, c5, hv5, hS5⟩ := HO.out.strs
        subst hv5
        go_wp2_with fail
        refine (implPath_any a5 c5 X _ hS5 (by omega)).mono ?_
        rintro e w8 ⟨v8, rfl, hO8, hb8⟩
        obtain ⟨a8, c8, hv8, hS8⟩ := hO8.strs
        subst hv8
        have HB8 : Hid (Below (w.heap.size + 1) (w.alloc (.cells #[.string ⟨#[]⟩, .slice none 0 0, .bool false, .string ⟨#[]⟩] 73)) w8) := HB.out.trans (hb8.mono (by omega))
        have HO8 : Hid (Owns w8 (w.heap.size + 1) (.slice a8 (cleanL X).length c8) (cleanL X)) := Owns.mono hO8 (by omega)
        have hz8 : S + 1 ≤ w8.heap.size := Nat.le_trans hzr hb8.size
        clear hO8 hb8 hS8 hS5
        have HX8 : Hid ((w8.alloc (.cells #[.string house, .slice a8 (cleanL X).length c8, .bool f, .string ask] 73)).heap[w8.heap.size]? = some (.cells #[.string house, .slice a8 (cleanL X).length c8, .bool f, .string ask] 73)) := by
          show (w8.heap.push _)[w8.heap.size]? = _
          simp
        have HB8a : Hid (Below (w.heap.size + 1) (w.alloc (.cells #[.string ⟨#[]⟩, .slice none 0 0, .bool false, .string ⟨#[]⟩] 73)) (w8.alloc (.cells #[.string house, .slice a8 (cleanL X).length c8, .bool f, .string ask] 73))) := HB8.out.alloc (by omega) _
        have HO8a : Hid (Owns (w8.alloc (.cells #[.string house, .slice a8 (cleanL X).length c8, .bool f, .string ask] 73)) (w.heap.size + 1) (.slice a8 (cleanL X).length c8) (cleanL X)) := Owns.keep HO8.out (alloc_keep w8 _)
        obtain ⟨G, hG⟩ : ∃ G, w8.heap.size = G := ⟨_, rfl⟩
        have hGw : w.heap.size + 1 ≤ G := by omega
        rw [hG] at HX8
        go_wp2_with fail
        refine (implOk_any ⟨house, cleanL X, f, ask⟩ a8 c8 _ (Owns.strsOf HO8a.out) HBK.out).mono ?_
        rintro e w9 ⟨rfl, hb9⟩
        have hz9 : (w8.alloc (.cells #[.string house, .slice a8 (cleanL X).length c8, .bool f, .string ask] 73)).heap.size = G + 1 := by simp; exact hG
        have HB9 : Hid (Below (w.heap.size + 1) (w.alloc (.cells #[.string ⟨#[]⟩, .slice none 0 0, .bool false, .string ⟨#[]⟩] 73)) w9) := HB8a.out.trans (hb9.mono (by omega))
        have HO9 : Hid (Owns w9 (w.heap.size + 1) (.slice a8 (cleanL X).length c8) (cleanL X)) := Owns.below HO8a.out hb9
        have hx9 : w9.heap[G]? = some (.cells #[.string house, .slice a8 (cleanL X).length c8, .bool f, .string ask] 73) := by rw [hb9.block G (by omega)]; exact HX8.out
        have k0 : w9.cell? ⟨G, 0, none⟩ = some (.string house) := by simp [World.cell?, hx9]
        have k1 : w9.cell? ⟨G, 1, none⟩ = some (.slice a8 (cleanL X).length c8) := by simp [World.cell?, hx9]
        have k2 : w9.cell? ⟨G, 2, none⟩ = some (.bool f) := by simp [World.cell?, hx9]
        have k3 : w9.cell? ⟨G, 3, none⟩ = some (.string ask) := by simp [World.cell?, hx9]
        clear hb9 hz9 hx9 HX8 HB8a HO8a HO8 HB8 hG
        have hb9' := HB9.out
        obtain ⟨⟨d0, d1, d2, d3⟩, dz⟩ := one_cells hb9'
        clear hb9'
        have hbw : Below w.heap.size w w9 := ((Below.refl _ w).alloc (Nat.le_refl _) _).trans (HB9.out.mono (by omega))
        have HBW : Hid _ := hbw
        clear hbw
        cases hk2 : okB ⟨house, cleanL X, f, ask⟩ with
        | false =>
          have HNo : Hid (wayF house frm way = none) := by show _ = _; rw [HN.out, hk2]; rfl
          clear hk2
          go_wp2
          refine bodyPost_ret (v := .tuple #[.agg #[.string ⟨#[]⟩, .slice none 0 0, .bool false, .string ⟨#[]⟩], .bool false]) (by simp [results, Tryz.results152, go_sem, d0, d1, d2, d3]) rfl ?_
          refine ⟨zeroAd, false, none, 0, rfl, Or.inr ⟨rfl, HNo.out, rfl⟩, Owns.nil _ _, ?_⟩
          have hbw := HBW.out
          iterate 4 refine Below.setCell ?_ (by dsimp only; omega) _
          exact hbw
        | true =>
          have HYes : Hid (wayF house frm way = some ⟨house, cleanL X, f, ask⟩) := by show _ = _; rw [HN.out, hk2]; rfl
          clear hk2
          go_wp2
          refine bodyPost_ret (v := .tuple #[.agg #[.string house, .slice a8 (cleanL X).length c8, .bool f, .string ask], .bool true]) (by simp [results, Tryz.results152, go_sem, d0, d1, d2, d3]) rfl ?_
          refine ⟨⟨house, cleanL X, f, ask⟩, true, a8, c8, rfl, Or.inl ⟨rfl, HYes.out⟩, ?_, ?_⟩
          · refine Owns.mono (?_ : Owns _ (w.heap.size + 1) _ _) (by omega)
            have hO := HO9.out
            iterate 4 refine ownsRow_setCell_below ?_ (by dsimp only; omega) _
            exact hO
          · have hbw := HBW.out
            iterate 4 refine Below.setCell ?_ (by dsimp only; omega) _
            exact hbw
end Go.Proofs.YtboncolbijicfaaGreatDoor.Im
