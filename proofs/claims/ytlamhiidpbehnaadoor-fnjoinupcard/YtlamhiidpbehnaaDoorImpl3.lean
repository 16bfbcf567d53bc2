/- The program's AddrRead, of a text of ASCII bytes. -/
import Derived.Test.YtlamhiidpbehnaaDoorImpl2
namespace Go.Proofs.YtlamhiidpbehnaaDoor.Im
open Go.RowKit Go.Proofs.YtlamhiidpbehnaaDoor.EscM Go.Proofs.YtlamhiidpbehnaaDoor.AddrM Go.Proofs.YtlamhiidpbehnaaDoor.ReadM Go.Proofs.YtlamhiidpbehnaaDoor.St Go.Proofs.YtlamhiidpbehnaaDoor.EscL Go.Proofs.YtlamhiidpbehnaaDoor.PathM Go.Proofs.YtlamhiidpbehnaaDoor.Ad1 Go.Proofs.YtlamhiidpbehnaaDoor.Rd1 Go.Proofs.YtlamhiidpbehnaaDoor.LibM

def ascii (s : ByteArray) : Prop := ∀ (j : Nat) b, s.data.toList[j]? = some b → b.toNat < 128
theorem ascii_mem {s : ByteArray} : ascii s ↔ ∀ b ∈ s.data.toList, b.toNat < 128 := by
  constructor
  · intro h b hb
    obtain ⟨i, hi, rfl⟩ := List.getElem_of_mem hb
    exact h i _ (List.getElem?_eq_getElem hi)
  · intro h j b hb; exact h b (List.mem_of_getElem? hb)
/-- readWhole, as a function on lists -/
def wholeR (l : List UInt8) : Option Ad := if l.take 2 = [47, 47] then wholeF (l.drop 2) else none

theorem any_any (s : ByteArray) (w : World) (hs : s.size ≤ 1000000) (ha : ascii s) :
    Calls Tryd.prog 45 #[.string s, .string ⟨#[47, 63]⟩] w fun e w' => e = .returned (.int .i64 (Lib.indexAny s.data.toList [47, 63])) ∧ Below w.heap.size w w' :=
  Tryd.strings_IndexAny_laid s ⟨#[47, 63]⟩ w (by omega) (by decide) ha (ascii_mem.2 (by decide))

set_option maxRecDepth 100000 in
set_option maxHeartbeats 4000000 in
theorem implWhole_ascii (text : ByteArray) (w : World) (hM : Mx w) (ht : text.size ≤ 60) (ha : ascii text) :
    Calls Tryd.prog 22 #[.string text] w fun e w' => Reads (wholeR text.data.toList) w e w' := by
  have hl : text.data.toList.length = text.size := by simp
  have HM : Hid (Mx w) := hM
  clear hM
  have hb0 : Below (w.heap.size + 1) (w.alloc (.cells #[.string ⟨#[]⟩, .slice none 0 0, .bool false, .string ⟨#[]⟩] 25)) (w.alloc (.cells #[.string ⟨#[]⟩, .slice none 0 0, .bool false, .string ⟨#[]⟩] 25)) := Below.refl _ _
  by_cases hp : text.data.toList.take 2 = [47, 47]
  · have HY : Hid (wholeR text.data.toList = wholeF (text.data.toList.drop 2)) := by show _ = _; unfold wholeR; rw [if_pos hp]
    have HP : Hid (text.data.toList.take 2 = [47, 47]) := hp
    have har : ascii (bs (text.data.toList.drop 2)) := by
      rw [ascii_mem, bs_list]
      intro b hb
      exact ascii_mem.1 ha b (List.mem_of_mem_drop hb)
    have hrs : (bs (text.data.toList.drop 2)).size ≤ 60 := by rw [bs_size]; simp; omega
    have HAR : Hid _ := har
    clear hp har
    have hrl : (bs (text.data.toList.drop 2)).data.toList = text.data.toList.drop 2 := bs_list _
    have HRL : Hid _ := hrl
    clear hrl
    go_enter Tryd.func22, Tryd.ntmps22
    go_wp2_with fail
    refine (prefix_yes text _ (by omega) HP.out).mono ?_
    rintro e w1 ⟨rfl, rfl⟩
    generalize bs (text.data.toList.drop 2) = rest at *
    go_wp2_with fail
    refine (any_any rest _ (by omega) HAR.out).mono ?_
    rintro e w2 ⟨rfl, hb2⟩
    have HB2 : Hid (Below (w.heap.size + 1) (w.alloc (.cells #[.string ⟨#[]⟩, .slice none 0 0, .bool false, .string ⟨#[]⟩] 25)) w2) := below_one hb2
    have HM2 : Hid (Mx w2) := (HM.out.alloc _).below hb2
    clear hb2
    rcases any_lib rest.data.toList with ⟨i1, i2, i3⟩ | ⟨i, i0, i1, i2, i3⟩
    · have HWH : Hid (wholeR text.data.toList = wayF (bs (smallL rest.data.toList)) [] ByteArray.empty) := by
        show _ = _
        rw [HY.out, ← HRL.out]; unfold wholeF; rw [i2, i3]; rfl
      rw [i1]
      have hz2 : w.heap.size + 1 ≤ w2.heap.size := by have := HB2.out.size; simp at this; omega
      have hq1 : (0 : Int) ≤ (rest.size : Int) := by omega
      clear i1 i2 i3 hb0
      go_wp2_with fail
      go_region_with (first
        | (go_at_call 46
           refine (lower_any _ w2.drew (by first | omega | (simp; omega))).mono ?_
           rintro e w3 ⟨rfl, hb3⟩
           have HM3 : Hid (Mx w3) := (Mx.keep HM2.out (fun _ _ => rfl) : Mx w2.drew).below hb3
           have HB3 : Hid (Below (w.heap.size + 1) (w.alloc (.cells #[.string ⟨#[]⟩, .slice none 0 0, .bool false, .string ⟨#[]⟩] 25)) w3) := HB2.out.drew.trans (hb3.mono hz2)
           have hz3 : w.heap.size + 1 ≤ w3.heap.size := Nat.le_trans hz2 hb3.size
           clear hb3)
        | (go_at_call 24
           refine (implWay_nil _ _ w3 HM3.out (by rw [bs_size, small_len]; simp; omega) (by first | decide | (simp; omega))).mono ?_
           rintro e w4 ⟨A, ok, a1, c1, rfl, hans, hO, hb4⟩
           have HANS : Hid _ := hans
           have HO4 : Hid _ := hO
           have HB4 : Hid (Below (w.heap.size + 1) (w.alloc (.cells #[.string ⟨#[]⟩, .slice none 0 0, .bool false, .string ⟨#[]⟩] 25)) w4) := HB3.out.trans (hb4.mono hz3)
           clear hans hO hb4
           have hb4' := HB4.out
           obtain ⟨⟨d0, d1, d2, d3⟩, dz⟩ := one_cells hb4'
           clear hb4')
        | fail)
      all_goals
        go_wp2
        refine bodyPost_ret (v := .tuple #[.agg #[.string A.house, .slice a1 A.parts.length c1, .bool A.asks, .string A.ask], .bool ok]) (by simp [results, Tryd.results22, go_sem, d0, d1, d2, d3]) rfl ?_
        refine ⟨A, ok, a1, c1, rfl, ?_, ?_, ?_⟩
        · rw [HWH.out]; exact HANS.out
        · refine Owns.mono (?_ : Owns _ w3.heap.size _ _) (by omega)
          have hO := HO4.out
          iterate 4 refine ownsRow_setCell_below ?_ (by dsimp only; omega) _
          exact hO
        · have hbw : Below w.heap.size w w4 := ((Below.refl _ w).alloc (Nat.le_refl _) _).trans (HB4.out.mono (by omega))
          iterate 4 refine Below.setCell ?_ (by dsimp only; omega) _
          exact hbw
    · have HWH : Hid (wholeR text.data.toList = wayF (bs (smallL (List.take i rest.data.toList))) [] (rest.extract i rest.size)) := by
        show _ = _
        rw [HY.out, ← HRL.out]; unfold wholeF; rw [i2, i3, ext_drop]
      rw [i1]
      have hz2 : w.heap.size + 1 ≤ w2.heap.size := by have := HB2.out.size; simp at this; omega
      have hin : (0 : Int) ≤ (i : Int) := by omega
      have hi1 : (i : Int) ≤ (rest.size : Int) := by
        have : rest.data.toList.length = rest.size := by simp
        omega
      clear i1 i2 i3 hb0
      go_wp2_with fail
      go_region_with (first
        | (go_at_call 46
           refine (lower_any _ w2.drew (by first | omega | (simp; omega))).mono ?_
           rintro e w3 ⟨rfl, hb3⟩
           have HM3 : Hid (Mx w3) := (Mx.keep HM2.out (fun _ _ => rfl) : Mx w2.drew).below hb3
           have HB3 : Hid (Below (w.heap.size + 1) (w.alloc (.cells #[.string ⟨#[]⟩, .slice none 0 0, .bool false, .string ⟨#[]⟩] 25)) w3) := HB2.out.drew.trans (hb3.mono hz2)
           have hz3 : w.heap.size + 1 ≤ w3.heap.size := Nat.le_trans hz2 hb3.size
           clear hb3)
        | (go_at_call 24
           refine (implWay_nil _ _ w3 HM3.out (by rw [bs_size, small_len]; simp; omega) (by first | decide | (simp; omega))).mono ?_
           rintro e w4 ⟨A, ok, a1, c1, rfl, hans, hO, hb4⟩
           have HANS : Hid _ := hans
           have HO4 : Hid _ := hO
           have HB4 : Hid (Below (w.heap.size + 1) (w.alloc (.cells #[.string ⟨#[]⟩, .slice none 0 0, .bool false, .string ⟨#[]⟩] 25)) w4) := HB3.out.trans (hb4.mono hz3)
           clear hans hO hb4
           have hb4' := HB4.out
           obtain ⟨⟨d0, d1, d2, d3⟩, dz⟩ := one_cells hb4'
           clear hb4')
        | fail)
      all_goals
        go_wp2
        refine bodyPost_ret (v := .tuple #[.agg #[.string A.house, .slice a1 A.parts.length c1, .bool A.asks, .string A.ask], .bool ok]) (by simp [results, Tryd.results22, go_sem, d0, d1, d2, d3]) rfl ?_
        refine ⟨A, ok, a1, c1, rfl, ?_, ?_, ?_⟩
        · rw [HWH.out]; exact HANS.out
        · refine Owns.mono (?_ : Owns _ w3.heap.size _ _) (by omega)
          have hO := HO4.out
          iterate 4 refine ownsRow_setCell_below ?_ (by dsimp only; omega) _
          exact hO
        · have hbw : Below w.heap.size w w4 := ((Below.refl _ w).alloc (Nat.le_refl _) _).trans (HB4.out.mono (by omega))
          iterate 4 refine Below.setCell ?_ (by dsimp only; omega) _
          exact hbw
  · have HNo : Hid (wholeR text.data.toList = none) := by show _ = _; unfold wholeR; rw [if_neg hp]
    have HP : Hid _ := hp
    clear hp
    obtain ⟨⟨d0, d1, d2, d3⟩, dz⟩ := one_cells hb0
    clear hb0
    go_enter Tryd.func22, Tryd.ntmps22
    go_wp2_with fail
    refine (prefix_no text _ (by omega) HP.out).mono ?_
    rintro e w1 ⟨rfl, rfl⟩
    go_wp2
    refine bodyPost_ret (v := .tuple #[.agg #[.string ⟨#[]⟩, .slice none 0 0, .bool false, .string ⟨#[]⟩], .bool false]) (by simp [results, Tryd.results22, go_sem, d0, d1, d2, d3]) rfl ?_
    refine ⟨zeroAd, false, none, 0, rfl, Or.inr ⟨rfl, HNo.out, rfl⟩, Owns.nil _ _, ?_⟩
    have hbw : Below w.heap.size w (w.alloc (.cells #[.string ⟨#[]⟩, .slice none 0 0, .bool false, .string ⟨#[]⟩] 25)) := (Below.refl _ w).alloc (Nat.le_refl _) _
    exact hbw

theorem cut_ascii {s : ByteArray} (c : Int) (h : ascii s) : ascii (bs (cutL c s.data.toList).1) := by
  rw [ascii_mem, bs_list]
  intro b hb
  refine ascii_mem.1 h b ?_
  have : ∀ l : List UInt8, ∀ b ∈ (cutL c l).1, b ∈ l := by
    intro l
    induction l with
    | nil => intro b hb; cases hb
    | cons a r ih =>
      intro b hb
      rw [cut_cons] at hb
      split at hb
      · cases hb
      · rcases List.mem_cons.1 hb with rfl | hb
        · simp
        · exact List.mem_cons_of_mem _ (ih b hb)
  exact this _ b hb
theorem read_whole {l : List UInt8} (h : ¬ 60 < l.length) : readF l = wholeR (cutL 35 l).1 := by
  unfold readF wholeR; rw [if_neg h]

end Go.Proofs.YtlamhiidpbehnaaDoor.Im
