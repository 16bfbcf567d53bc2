/- A pattern, and a way, are drawn: bounds of their sizes alone. -/
import Derived.Test.YtemobclefdodjaaDoorDraw4
import Derived.Test.YtemobclefdodjaaDoorDraw6
namespace Go.Proofs.YtemobclefdodjaaDoor.Dr
open Go.RowKit Go.Proofs.YtemobclefdodjaaDoor.St Go.Proofs.YtemobclefdodjaaDoor.AddrM Go.Proofs.YtemobclefdodjaaDoor.EscL Go.Proofs.YtemobclefdodjaaDoor.Ad1 Go.Proofs.YtemobclefdodjaaDoor.ReadM Go.Proofs.YtemobclefdodjaaDoor.Rd1

theorem min_pos {n : Nat} (h : 0 < n) : (1 : Int) ≤ min (n : Int) 14 := by omega
theorem min_le (n : Nat) : min (n : Int) 14 ≤ 1000000 := by omega
theorem heap_keep {w w' : World} {g r : Nat} {o : Obj} (h : w.heap[g]? = some o) (hg : w.grownBy w' (some r)) (hne : g ≠ r) : w'.heap[g]? = some o := by
  have hlt : g < w.heap.size := by
    rcases Nat.lt_or_ge g w.heap.size with h' | h'
    · exact h'
    · rw [Array.getElem?_eq_none h'] at h; cases h
  rw [hg.block g hlt (by intro e; have := Option.some.inj e; omega)]; exact h

set_option maxRecDepth 100000 in
set_option maxHeartbeats 6400000 in
theorem drawHas_any (a0 : Option Addr) (len cap : Nat) (zs : List Int) (w : World) (h : IsRow .u8 w a0 len cap zs) :
    Calls Tryd.prog 12 #[.slice a0 len cap] w fun e w' => ∃ p path, e = .returned (.tuple #[.string p, .string path]) ∧ p.size ≤ 100 ∧ path.size ≤ 60 ∧ (∃ A, path = pathF A) ∧ Below w.heap.size w w' := by
  go_enter Tryd.func12, Tryd.ntmps12
  go_wp2_with fail
  refine (open_any a0 len cap zs w h).mono ?_
  rintro e w1 ⟨rfl, hr1, hb1⟩
  clear h
  go_wp2_with fail
  refine (rule_any _ _ _ _ hr1 (by omega)).mono ?_
  rintro e w2 ⟨p, rfl, hp, hr2, hg2⟩
  have hb2 := hb1.trans (grown_below hg2 hb1.size (Nat.le_refl _))
  clear hr1 hg2 hb1
  go_wp2_with fail
  refine (pick_any _ _ _ 12 _ hr2 (by omega) (by omega) (by omega)).mono ?_
  rintro e w3 ⟨x, rfl, hx, hr3, hg3⟩
  have hb3 := hb2.trans (grown_below hg3 hb2.size (Nat.le_refl _))
  have HR3 : Hid (IsRd w.heap.size w3 w.heap.size (0 + 1 + 1)) := hr3
  have HB3 : Hid (Below w.heap.size w w3) := hb3
  have hwl : w.heap.size < w3.heap.size := hr3.le.2
  clear hr2 hg3 hb2 hr3 hb3
  have hx' : x = 0 ∨ ((x : Int) == 0) = false := by
    by_cases h : x = 0
    · exact Or.inl h
    · exact Or.inr (by simp; omega)
  rcases hx' with hx0 | hx0
  all_goals (
    first | subst hx0 | skip
    go_wp2_with fail
    refine (addr_any _ _ _ _ HR3.out (by omega)).mono ?_
    rintro e w4 ⟨s, rfl, hs, hr4, hg4, _⟩
    have HR4 : Hid (IsRd w.heap.size w4 w.heap.size (0 + 1 + 1 + 6)) := hr4
    have HB4 : Hid (Below w.heap.size w w4) := HB3.out.trans (grown_below hg4 HB3.out.size (Nat.le_refl _))
    clear hr4 hg4
    go_wp2_with fail
    refine (specRead_any s _ (by omega)).mono ?_
    rintro e w5 ⟨A, ok, a1, c1, rfl, hans, hO, hb5⟩
    have HBK : Hid (bulkA A ≤ 70) := reads_bulk hans
    have HO : Hid (IsStrs (w5.alloc (.cells #[.string A.house, .slice a1 A.parts.length c1, .bool A.asks, .string A.ask] 41)) a1 c1 A.parts) := (Owns.strsOf hO).keep (alloc_keep _ _)
    have HR5 : Hid (IsRd w.heap.size (w5.alloc (.cells #[.string A.house, .slice a1 A.parts.length c1, .bool A.asks, .string A.ask] 41)) w.heap.size (0 + 1 + 1 + 6)) := (HR4.out.below hb5).alloc _
    have HB5 : Hid (Below w.heap.size w (w5.alloc (.cells #[.string A.house, .slice a1 A.parts.length c1, .bool A.asks, .string A.ask] 41))) := (HB4.out.trans (hb5.mono HB4.out.size)).alloc (HB4.out.trans (hb5.mono HB4.out.size)).size _
    clear hans hO hb5
    go_wp2_with fail
    refine (specAddrPath_any A a1 c1 _ HO.out (Nat.le_trans HBK.out (by decide))).mono ?_
    rintro e w6 ⟨rfl, hb6⟩
    have hps := pathF_size A
    have HR6 : Hid (IsRd w.heap.size w6 w.heap.size (0 + 1 + 1 + 6)) := HR5.out.below hb6
    have HB6 : Hid (Below w.heap.size w w6) := HB5.out.trans (hb6.mono HB5.out.size)
    clear hb6
    obtain ⟨path, hpath⟩ : ∃ path, path = pathF A := ⟨_, rfl⟩
    rw [← hpath] at hps ⊢
    have HPA : Hid (∃ A, path = pathF A) := ⟨A, hpath⟩
    clear hpath
    go_wp2_with fail
    refine (pick_any _ _ _ 2 _ HR6.out (by omega) (by omega) (by omega)).mono ?_
    rintro e w7 ⟨y, rfl, hy, hr7, hg7⟩
    have HR7 : Hid (IsRd w.heap.size w7 w.heap.size (0 + 1 + 1 + 6 + 1)) := hr7
    have HB7 : Hid (Below w.heap.size w w7) := HB6.out.trans (grown_below hg7 HB6.out.size (Nat.le_refl _))
    clear hr7 hg7
    by_cases hy0 : y = 0
    · subst hy0
      by_cases hp0 : path.size = 0
      · have hpe : path.toList.isEmpty = true := by
          rw [ByteArray.toList_eq, List.isEmpty_iff]
          exact List.eq_nil_of_length_eq_zero (by simpa using hp0)
        go_wp2
        go_ret2
        exact ⟨_, _, rfl, by first | (show 1 ≤ 100; omega) | omega, hps, HPA.out, HB7.out⟩
      · have hpe : path.toList.isEmpty = false := by
          rw [ByteArray.toList_eq]
          cases hl : path.data.toList with
          | nil => exact absurd (by simpa using congrArg List.length hl) hp0
          | cons a t => rfl
        have hmp := min_pos (n := path.size) (by omega)
        have hml := min_le path.size
        go_wp2
        have hwl7 : w.heap.size < w7.heap.size := HR7.out.le.2
        go_region_with (first
          | (go_at_call 24
             first
             | (refine (pick_any w.heap.size w.heap.size (0 + 1 + 1 + 6 + 1) (min (path.size : Int) 14) w7.drew (HR7.out.below ((Below.refl _ w7).drew)) (by omega) hmp hml).mono ?_
                rintro e w8 ⟨x8, rfl, hx8, hr8, hg8⟩
                have hx14 : (x8 : Int) < 14 := by omega
                have hxp : (x8 : Int) < (path.size : Int) := by omega
                have hw8 : IntKind.i64.wrap (1 + (x8 : Int)) = 1 + (x8 : Int) := IntWalk.i64_in _ (by omega)
                have hx0 : (0 : Int) ≤ 1 + (x8 : Int) := by omega
                have hx1 : 1 + (x8 : Int) ≤ (path.size : Int) := by omega
                have hx2 : (1 + (x8 : Int)).toNat = 1 + x8 := by omega
                have HR8 : Hid (IsRd w.heap.size w8 w.heap.size (0 + 1 + 1 + 6 + 1 + 1)) := hr8
                have hb8 : Below w.heap.size w7 w8 := Below.trans (((Below.refl _ w7).drew).mono HB7.out.size) (grown_below hg8 (by exact HB7.out.size) (Nat.le_refl _))
                have HB8 : Hid (Below w.heap.size w w8) := HB7.out.trans hb8
                have hz8 : w.heap.size < w8.heap.size := hr8.le.2

                clear hr8 hg8 hx8 hb8)
             | (refine (pick_any w.heap.size w.heap.size (0 + 1 + 1 + 6 + 1) (min (path.size : Int) 14) (w7.alloc (.cells #[.string ⟨#[]⟩, .string ⟨#[]⟩, .string ⟨#[42]⟩, .string ⟨#[36]⟩] 9)).drew (HR7.out.below (((Below.refl _ w7).alloc (Nat.le_refl _) _).drew)) (by omega) hmp hml).mono ?_
                rintro e w8 ⟨x8, rfl, hx8, hr8, hg8⟩
                have hx14 : (x8 : Int) < 14 := by omega
                have hxp : (x8 : Int) < (path.size : Int) := by omega
                have hw8 : IntKind.i64.wrap (1 + (x8 : Int)) = 1 + (x8 : Int) := IntWalk.i64_in _ (by omega)
                have hx0 : (0 : Int) ≤ 1 + (x8 : Int) := by omega
                have hx1 : 1 + (x8 : Int) ≤ (path.size : Int) := by omega
                have hx2 : (1 + (x8 : Int)).toNat = 1 + x8 := by omega
                have HR8 : Hid (IsRd w.heap.size w8 w.heap.size (0 + 1 + 1 + 6 + 1 + 1)) := hr8
                have hb8 : Below w.heap.size w7 w8 := Below.trans ((((Below.refl _ w7).alloc (Nat.le_refl _) _).drew).mono HB7.out.size) (grown_below hg8 (by have := HB7.out.size; simp; omega) (Nat.le_refl _))
                have HB8 : Hid (Below w.heap.size w w8) := HB7.out.trans hb8
                have hz8 : w.heap.size < w8.heap.size := hr8.le.2
                have HH8 : Hid (w8.heap[w7.heap.size]? = some (.cells #[.string ⟨#[]⟩, .string ⟨#[]⟩, .string ⟨#[42]⟩, .string ⟨#[36]⟩] 9)) := heap_keep (g := w7.heap.size) (heap_new w7 _) hg8 (by omega)
                clear hr8 hg8 hx8 hb8)
             | (refine (pick_any w.heap.size w.heap.size (0 + 1 + 1 + 6 + 1) (min (path.size : Int) 14) (w7.drew.alloc (.cells #[.string ⟨#[]⟩, .string ⟨#[]⟩, .string ⟨#[42]⟩, .string ⟨#[36]⟩] 9)) (HR7.out.below (((Below.refl _ w7).drew).alloc (Nat.le_refl _) _)) (by omega) hmp hml).mono ?_
                rintro e w8 ⟨x8, rfl, hx8, hr8, hg8⟩
                have hx14 : (x8 : Int) < 14 := by omega
                have hxp : (x8 : Int) < (path.size : Int) := by omega
                have hw8 : IntKind.i64.wrap (1 + (x8 : Int)) = 1 + (x8 : Int) := IntWalk.i64_in _ (by omega)
                have hx0 : (0 : Int) ≤ 1 + (x8 : Int) := by omega
                have hx1 : 1 + (x8 : Int) ≤ (path.size : Int) := by omega
                have hx2 : (1 + (x8 : Int)).toNat = 1 + x8 := by omega
                have HR8 : Hid (IsRd w.heap.size w8 w.heap.size (0 + 1 + 1 + 6 + 1 + 1)) := hr8
                have hb8 : Below w.heap.size w7 w8 := Below.trans ((((Below.refl _ w7).drew).alloc (Nat.le_refl _) _).mono HB7.out.size) (grown_below hg8 (by have := HB7.out.size; simp; omega) (Nat.le_refl _))
                have HB8 : Hid (Below w.heap.size w w8) := HB7.out.trans hb8
                have hz8 : w.heap.size < w8.heap.size := hr8.le.2
                have HH8 : Hid (w8.heap[w7.heap.size]? = some (.cells #[.string ⟨#[]⟩, .string ⟨#[]⟩, .string ⟨#[42]⟩, .string ⟨#[36]⟩] 9)) := heap_keep (g := w7.heap.size) (heap_new w7.drew _) hg8 (by omega)
                clear hr8 hg8 hx8 hb8)
             | fail)
          | (go_at_call 28
             first
             | (refine (of_lit w.heap.size w.heap.size (0 + 1 + 1 + 6 + 1 + 1) w7.heap.size 4 _ _ (fun s => decide (s.size ≤ 1)) w8 HR8.out (by omega) (by omega) HH8.out rfl (by decide) (by decide) (by decide)).mono ?_
                rintro e w9 ⟨t, rfl, ht, hr9, hg9⟩
                have ht' : t.size ≤ 1 := of_decide_eq_true ht
                have hcat : ¬ 9223372036854775807 < (path.extract 0 (1 + x8)).size + t.size := by simp; omega
                have hsz : (path.extract 0 (1 + x8) ++ t).size ≤ 100 := by rw [ByteArray.size_append]; simp; omega
                have HB9 : Hid (Below w.heap.size w w9) := HB8.out.trans (grown_below hg9 HB8.out.size (Nat.le_refl _))
                clear ht hr9 hg9)
             | (refine (of_lit w.heap.size w.heap.size (0 + 1 + 1 + 6 + 1 + 1) w8.heap.size 4 _ _ (fun s => decide (s.size ≤ 1)) (w8.alloc (.cells #[.string ⟨#[]⟩, .string ⟨#[]⟩, .string ⟨#[42]⟩, .string ⟨#[36]⟩] 9)) (HR8.out.alloc _) (by omega) (by omega) (heap_new w8 _) rfl (by decide) (by decide) (by decide)).mono ?_
                rintro e w9 ⟨t, rfl, ht, hr9, hg9⟩
                have ht' : t.size ≤ 1 := of_decide_eq_true ht
                have hcat : ¬ 9223372036854775807 < (path.extract 0 (1 + x8)).size + t.size := by simp; omega
                have hsz : (path.extract 0 (1 + x8) ++ t).size ≤ 100 := by rw [ByteArray.size_append]; simp; omega
                have HB9 : Hid (Below w.heap.size w w9) := HB8.out.trans (((Below.refl _ w8).alloc (Nat.le_refl _) _).mono HB8.out.size |>.trans (grown_below hg9 (by have := HB8.out.size; simp; omega) (Nat.le_refl _)))
                clear ht hr9 hg9)
             | fail)
          | fail)
        all_goals
          go_wp2
          go_ret2
          exact ⟨_, _, rfl, hsz, hps, HPA.out, HB9.out⟩
    · have hy1 : ((y : Int) == 0) = false := by simp; omega
      go_wp2
      go_ret2
      exact ⟨_, _, rfl, by first | (show 1 ≤ 100; omega) | omega, hps, HPA.out, HB7.out⟩)
end Go.Proofs.YtemobclefdodjaaDoor.Dr
