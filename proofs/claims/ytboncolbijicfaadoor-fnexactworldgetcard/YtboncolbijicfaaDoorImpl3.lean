/- The program's AddrRead, of a text of ASCII bytes. -/
import Derived.Test.YtboncolbijicfaaDoorAnyB
namespace Go.Proofs.YtboncolbijicfaaDoor.Im
open Go.RowKit Go.Proofs.YtboncolbijicfaaDoor.EscM Go.Proofs.YtboncolbijicfaaDoor.AddrM Go.Proofs.YtboncolbijicfaaDoor.ReadM Go.Proofs.YtboncolbijicfaaDoor.St Go.Proofs.YtboncolbijicfaaDoor.EscL Go.Proofs.YtboncolbijicfaaDoor.PathM Go.Proofs.YtboncolbijicfaaDoor.Ad1 Go.Proofs.YtboncolbijicfaaDoor.Rd1 Go.Proofs.YtboncolbijicfaaDoor.LibM

/-- readWhole, as a function on lists -/
def wholeR (l : List UInt8) : Option Ad := if l.take 2 = [47, 47] then wholeF (l.drop 2) else none

set_option maxRecDepth 100000 in
set_option maxHeartbeats 4000000 in
theorem implWhole_ascii (text : ByteArray) (w : World) (hM : Mx w) (ht : text.size ≤ 60) (ha : ascii text) :
    Calls Tryd.prog 33 #[.string text] w fun e w' => Reads (wholeR text.data.toList) w e w' := by
  have hl : text.data.toList.length = text.size := by simp
  have HM : Hid (Mx w) := hM
  clear hM
  have hb0 : Below (w.heap.size + 1) (w.alloc (.cells #[.string ⟨#[]⟩, .slice none 0 0, .bool false, .string ⟨#[]⟩] 34)) (w.alloc (.cells #[.string ⟨#[]⟩, .slice none 0 0, .bool false, .string ⟨#[]⟩] 34)) := Below.refl _ _
  by_cases hp : text.data.toList.take 2 = [47, 47]
  · have HY : Hid (wholeR text.data.toList = wholeF (text.data.toList.drop 2)) := by show _ = _; unfold wholeR; rw [if_pos hp]
    have HP : Hid (text.data.toList.take 2 = [47, 47]) := hp
    have har : ascii (bs (text.data.toList.drop 2)) := ascii_drop 2 ha
    have hrs : (bs (text.data.toList.drop 2)).size ≤ 60 := by rw [bs_size]; simp; omega
    have HAR : Hid _ := har
    clear hp har
    have hrl : (bs (text.data.toList.drop 2)).data.toList = text.data.toList.drop 2 := bs_list _
    have HRL : Hid _ := hrl
    clear hrl
    go_enter Tryd.func33, Tryd.ntmps33
    go_wp2_with fail
    refine (prefix_yes text _ (by omega) HP.out).mono ?_
    rintro e w1 ⟨rfl, rfl⟩
    generalize bs (text.data.toList.drop 2) = rest at *
    go_wp2_with fail
    refine (any_any rest _ (by omega) HAR.out).mono ?_
    rintro e w2 ⟨rfl, hb2⟩
    have HB2 : Hid (Below (w.heap.size + 1) (w.alloc (.cells #[.string ⟨#[]⟩, .slice none 0 0, .bool false, .string ⟨#[]⟩] 34)) w2) := below_one hb2
    have HM2 : Hid (Mx w2) := (HM.out.alloc _).below hb2
    clear hb2
    rcases any_lib rest.data.toList with ⟨i1, i2, i3⟩ | ⟨i, i0, i1, i2, i3⟩
    · have HWH : Hid (wholeR text.data.toList = wayF (bs (smallL rest.data.toList)) [] ByteArray.empty) := by
        show _ = _
        rw [HY.out, ← HRL.out]; unfold wholeF; rw [i2, i3]; rfl
      rw [i1]
      have hz2 : w.heap.size + 1 ≤ w2.heap.size := by have := HB2.out.size; simp at this; omega
      have hq1 : (0 : Int) ≤ (rest.size : Int) := by omega
      clear i1 i2 i3 hb0
      go_wp2_with fail
      go_region_with (first
        | (go_at_call 54
           refine (lower_any _ w2.drew (by first | omega | (simp; omega))).mono ?_
           rintro e w3 ⟨rfl, hb3⟩
           have HM3 : Hid (Mx w3) := (Mx.keep HM2.out (fun _ _ => rfl) : Mx w2.drew).below hb3
           have HB3 : Hid (Below (w.heap.size + 1) (w.alloc (.cells #[.string ⟨#[]⟩, .slice none 0 0, .bool false, .string ⟨#[]⟩] 34)) w3) := HB2.out.drew.trans (hb3.mono hz2)
           have hz3 : w.heap.size + 1 ≤ w3.heap.size := Nat.le_trans hz2 hb3.size
           clear hb3)
        | (go_at_call 46
           refine (implWay_nil _ _ w3 HM3.out (by rw [bs_size, small_len]; simp; omega) (by first | decide | (simp; omega))).mono ?_
           rintro e w4 ⟨A, ok, a1, c1, rfl, hans, hO, hb4⟩
           have HANS : Hid _ := hans
           have HO4 : Hid _ := hO
           have HB4 : Hid (Below (w.heap.size + 1) (w.alloc (.cells #[.string ⟨#[]⟩, .slice none 0 0, .bool false, .string ⟨#[]⟩] 34)) w4) := HB3.out.trans (hb4.mono hz3)
           clear hans hO hb4
           have hb4' := HB4.out
           obtain ⟨⟨d0, d1, d2, d3⟩, dz⟩ := one_cells hb4'
           clear hb4')
        | fail)
      all_goals
        go_wp2
        refine bodyPost_ret (v := .tuple #[.agg #[.string A.house, .slice a1 A.parts.length c1, .bool A.asks, .string A.ask], .bool ok]) (by simp [results, Tryd.results33, go_sem, d0, d1, d2, d3]) rfl ?_
        refine ⟨A, ok, a1, c1, rfl, ?_, ?_, ?_⟩
        · rw [HWH.out]; exact HANS.out
        · refine Owns.mono (?_ : Owns _ w3.heap.size _ _) (by omega)
          have hO := HO4.out
          iterate 4 refine ownsRow_setCell_below ?_ (by dsimp only; omega) _
          exact hO
        · have hbw : Below w.heap.size w w4 := ((Below.refl _ w).alloc (Nat.le_refl _) _).trans (HB4.out.mono (by omega))
          iterate 4 refine Below.setCell ?_ (by dsimp only; omega) _
          exact hbw
    · have HWH : Hid (wholeR text.data.toList = wayF (bs (smallL (List.take i rest.data.toList))) [] (rest.extract i rest.size)) := by
        show _ = _
        rw [HY.out, ← HRL.out]; unfold wholeF; rw [i2, i3, ext_drop]
      rw [i1]
      have hz2 : w.heap.size + 1 ≤ w2.heap.size := by have := HB2.out.size; simp at this; omega
      have hin : (0 : Int) ≤ (i : Int) := by omega
      have hi1 : (i : Int) ≤ (rest.size : Int) := by
        have : rest.data.toList.length = rest.size := by simp
        omega
      clear i1 i2 i3 hb0
      go_wp2_with fail
      go_region_with (first
        | (go_at_call 54
           refine (lower_any _ w2.drew (by first | omega | (simp; omega))).mono ?_
           rintro e w3 ⟨rfl, hb3⟩
           have HM3 : Hid (Mx w3) := (Mx.keep HM2.out (fun _ _ => rfl) : Mx w2.drew).below hb3
           have HB3 : Hid (Below (w.heap.size + 1) (w.alloc (.cells #[.string ⟨#[]⟩, .slice none 0 0, .bool false, .string ⟨#[]⟩] 34)) w3) := HB2.out.drew.trans (hb3.mono hz2)
           have hz3 : w.heap.size + 1 ≤ w3.heap.size := Nat.le_trans hz2 hb3.size
           clear hb3)
        | (go_at_call 46
           refine (implWay_nil _ _ w3 HM3.out (by rw [bs_size, small_len]; simp; omega) (by first | decide | (simp; omega))).mono ?_
           rintro e w4 ⟨A, ok, a1, c1, rfl, hans, hO, hb4⟩
           have HANS : Hid _ := hans
           have HO4 : Hid _ := hO
           have HB4 : Hid (Below (w.heap.size + 1) (w.alloc (.cells #[.string ⟨#[]⟩, .slice none 0 0, .bool false, .string ⟨#[]⟩] 34)) w4) := HB3.out.trans (hb4.mono hz3)
           clear hans hO hb4
           have hb4' := HB4.out
           obtain ⟨⟨d0, d1, d2, d3⟩, dz⟩ := one_cells hb4'
           clear hb4')
        | fail)
      all_goals
        go_wp2
        refine bodyPost_ret (v := .tuple #[.agg #[.string A.house, .slice a1 A.parts.length c1, .bool A.asks, .string A.ask], .bool ok]) (by simp [results, Tryd.results33, go_sem, d0, d1, d2, d3]) rfl ?_
        refine ⟨A, ok, a1, c1, rfl, ?_, ?_, ?_⟩
        · rw [HWH.out]; exact HANS.out
        · refine Owns.mono (?_ : Owns _ w3.heap.size _ _) (by omega)
          have hO := HO4.out
          iterate 4 refine ownsRow_setCell_below ?_ (by dsimp only; omega) _
          exact hO
        · have hbw : Below w.heap.size w w4 := ((Below.refl _ w).alloc (Nat.le_refl _) _).trans (HB4.out.mono (by omega))
          iterate 4 refine Below.setCell ?_ (by dsimp only; omega) _
          exact hbw
  · have HNo : Hid (wholeR text.data.toList = none) := by show _ = _; unfold wholeR; rw [if_neg hp]
    have HP : Hid _ := hp
    clear hp
    obtain ⟨⟨d0, d1, d2, d3⟩, dz⟩ := one_cells hb0
    clear hb0
    go_enter Tryd.func33, Tryd.ntmps33
    go_wp2_with fail
    refine (prefix_no text _ (by omega) HP.out).mono ?_
    rintro e w1 ⟨rfl, rfl⟩
    go_wp2
    refine bodyPost_ret (v := .tuple #[.agg #[.string ⟨#[]⟩, .slice none 0 0, .bool false, .string ⟨#[]⟩], .bool false]) (by simp [results, Tryd.results33, go_sem, d0, d1, d2, d3]) rfl ?_
    refine ⟨zeroAd, false, none, 0, rfl, Or.inr ⟨rfl, HNo.out, rfl⟩, Owns.nil _ _, ?_⟩
    have hbw : Below w.heap.size w (w.alloc (.cells #[.string ⟨#[]⟩, .slice none 0 0, .bool false, .string ⟨#[]⟩] 34)) := (Below.refl _ w).alloc (Nat.le_refl _) _
    exact hbw

theorem read_whole {l : List UInt8} (h : ¬ 60 < l.length) : readF l = wholeR (cutL 35 l).1 := by
  unfold readF wholeR; rw [if_neg h]

set_option maxRecDepth 100000 in
set_option maxHeartbeats 4000000 in
/-- AddrRead OF THE PROGRAM, OF ASCII BYTES: as the model's -/
theorem implRead_ascii (raw : ByteArray) (w : World) (hM : Mx w) (hr : raw.size ≤ 60) (ha : ascii raw) :
    Calls Tryd.prog 15 #[.string raw] w fun e w' => Reads (readF raw.data.toList) w e w' := by
  have hl : raw.data.toList.length = raw.size := by simp
  have HR : Hid (readF raw.data.toList = wholeR (bs (cutL 35 raw.data.toList).1).data.toList) := by show _ = _; rw [bs_list]; exact read_whole (by omega)
  have hcl := (cut_len 35 raw.data.toList).1
  have hcs : (bs (cutL 35 raw.data.toList).1).size ≤ 60 := by rw [bs_size]; omega
  have HA : Hid _ := cut_ascii 35 ha
  have HM : Hid (Mx w) := hM
  have HCR := fun W hW => cross_any raw W hW (by omega)
  have HC : Hid _ := HCR
  clear HCR hcl hM
  generalize bs (cutL 35 raw.data.toList).1 = t at *
  go_enter Tryd.func15, Tryd.ntmps15
  go_wp2_with fail
  refine (HC.out _ (HM.out.alloc _)).mono ?_
  rintro e w1 ⟨rfl, nq, hw1⟩
  have HB1 : Hid (Below (w.heap.size + 1) (w.alloc (.cells #[.string ⟨#[]⟩, .slice none 0 0, .bool false, .string ⟨#[]⟩] 34)) w1) := by
    subst hw1
    exact ⟨rfl, rfl, rfl, Nat.le_refl _, fun _ _ => rfl⟩
  have HM1 : Hid (Mx w1) := by subst hw1; exact (HM.out.alloc _).drewN _
  clear hw1
  have hz1 : w.heap.size + 1 ≤ w1.heap.size := by have := HB1.out.size; simp at this; omega
  go_wp2_with fail
  refine (implWhole_ascii t _ HM1.out hcs HA.out).mono ?_
  rintro e w4 ⟨A, ok, a1, c1, rfl, hans, hO, hb4⟩
  have HANS : Hid _ := hans
  have HO4 : Hid _ := hO
  have HB4 : Hid (Below (w.heap.size + 1) (w.alloc (.cells #[.string ⟨#[]⟩, .slice none 0 0, .bool false, .string ⟨#[]⟩] 34)) w4) := HB1.out.trans (hb4.mono hz1)
  clear hans hO hb4
  have hb4' := HB4.out
  obtain ⟨⟨d0, d1, d2, d3⟩, dz⟩ := one_cells hb4'
  clear hb4'
  go_wp2
  refine bodyPost_ret (v := .tuple #[.agg #[.string A.house, .slice a1 A.parts.length c1, .bool A.asks, .string A.ask], .bool ok]) (by simp [results, Tryd.results15, go_sem, d0, d1, d2, d3]) rfl ?_
  refine ⟨A, ok, a1, c1, rfl, ?_, ?_, ?_⟩
  · rw [HR.out]; exact HANS.out
  · refine Owns.mono (?_ : Owns _ w1.heap.size _ _) (by omega)
    have hO := HO4.out
    iterate 4 refine ownsRow_setCell_below ?_ (by dsimp only; omega) _
    exact hO
  · have hbw : Below w.heap.size w w4 := ((Below.refl _ w).alloc (Nat.le_refl _) _).trans (HB4.out.mono (by omega))
    iterate 4 refine Below.setCell ?_ (by dsimp only; omega) _
    exact hbw
end Go.Proofs.YtboncolbijicfaaDoor.Im
