/- The model's l1Up. -/
import Derived.Test.YtcohaalgefcjnaaGreatDoorRead3Pk
import Derived.Test.YtcohaalgefcjnaaGreatDoorDraw5Pk
import Derived.Deep.RegionHeldLaw
namespace Go.Proofs.YtcohaalgefcjnaaGreatDoor.Jn
open Go.RowKit Go.Proofs.YtcohaalgefcjnaaGreatDoor.EscM Go.Proofs.YtcohaalgefcjnaaGreatDoor.AddrM Go.Proofs.YtcohaalgefcjnaaGreatDoor.ReadM Go.Proofs.YtcohaalgefcjnaaGreatDoor.St Go.Proofs.YtcohaalgefcjnaaGreatDoor.EscL Go.Proofs.YtcohaalgefcjnaaGreatDoor.PathM Go.Proofs.YtcohaalgefcjnaaGreatDoor.Ad1 Go.Proofs.YtcohaalgefcjnaaGreatDoor.Rd1 Go.Proofs.YtcohaalgefcjnaaGreatDoor.JnM

theorem own_third (w : World) (o o' : Obj) : (((w.alloc o).alloc o').alloc (.cells #[] 9)).drew.ownsRow w.heap.size 9 1 (.slice (some ⟨w.heap.size + 1 + 1, 0, none⟩) 0 0) 0 [] := by
  have h := Owns.empty ((w.alloc o).alloc o') w.heap.size (by simp; omega)
  have e : ((w.alloc o).alloc o').heap.size = w.heap.size + 1 + 1 := by simp
  rw [e] at h
  exact h
theorem keep_third (w : World) (o o' o'' : Obj) : ∀ k, k < w.heap.size → (((w.alloc o).alloc o').alloc o'').drew.heap[k]? = w.heap[k]? := fun k hk => by
  show (((w.alloc o).alloc o').alloc o'').heap[k]? = _
  rw [alloc_keep _ _ k (by simp; omega), alloc_keep _ _ k (by simp; omega), alloc_keep _ _ k hk]

theorem up_past {w w1 : World} {x0 x1 x2 x3 y0 y1 y2 y3 : Value} (hg : (((w.alloc (.cells #[x0, x1, x2, x3] 28)).alloc (.cells #[y0, y1, y2, y3] 28)).alloc (.cells #[] 9)).drew.grownBy w1 (Value.slice (some ⟨w.heap.size + 1 + 1, 0, none⟩) 0 0).ownBlock) :
    Dr.Box w1 w.heap.size x0 x1 x2 x3 ∧ Dr.Box w1 (w.heap.size + 1) y0 y1 y2 y3 ∧ Below w.heap.size w w1 ∧ w.heap.size + 1 < w1.heap.size := by
  have b0 : Dr.Box (w.alloc (.cells #[x0, x1, x2, x3] 28)) w.heap.size x0 x1 x2 x3 := Dr.heap_new w _
  have b1 : Dr.Box ((w.alloc (.cells #[x0, x1, x2, x3] 28)).alloc (.cells #[y0, y1, y2, y3] 28)) (w.heap.size + 1) y0 y1 y2 y3 := by
    have := Dr.heap_new (w.alloc (.cells #[x0, x1, x2, x3] 28)) (.cells #[y0, y1, y2, y3] 28)
    have e : (w.alloc (.cells #[x0, x1, x2, x3] 28)).heap.size = w.heap.size + 1 := by simp
    rwa [e] at this
  have b0' : Dr.Box (((w.alloc (.cells #[x0, x1, x2, x3] 28)).alloc (.cells #[y0, y1, y2, y3] 28)).alloc (.cells #[] 9)).drew w.heap.size x0 x1 x2 x3 :=
    ((b0.grown (Dr.grown_alloc _ _ none) (by simp)).grown (Dr.grown_alloc _ _ none) (by simp)).heapEq rfl
  have b1' : Dr.Box (((w.alloc (.cells #[x0, x1, x2, x3] 28)).alloc (.cells #[y0, y1, y2, y3] 28)).alloc (.cells #[] 9)).drew (w.heap.size + 1) y0 y1 y2 y3 := (b1.grown (Dr.grown_alloc _ _ none) (by simp)).heapEq rfl
  have hr : ∀ g, (Value.slice (some ⟨w.heap.size + 1 + 1, 0, none⟩) 0 0).ownBlock = some g → g = w.heap.size + 1 + 1 := fun g e => by simpa [Value.ownBlock] using e.symm
  refine ⟨b0'.grown hg (by intro e; have := hr _ e; omega), b1'.grown hg (by intro e; have := hr _ e; omega), ?_, ?_⟩
  · exact Below.grown ((((Below.refl _ w).alloc (Nat.le_refl _) _).alloc (by simp) _).alloc (by simp; omega) _).drew hg (by simp; omega) (fun g e => by have := hr g e; omega)
  · have := hg.size; simp at this; omega

set_option maxRecDepth 100000 in
set_option maxHeartbeats 6400000 in
theorem up_some (house : ByteArray) (q : Bool) (k : ByteArray) (L : List ByteArray) (b off cap : Nat) (w : World) (hS : IsStrs w (some ⟨b, off, none⟩) cap L) (hL : L.length ≤ 1000) (h0 : 0 < L.length) :
    Calls Tryz.prog 153 #[.agg #[.string house, .slice (some ⟨b, off, none⟩) L.length cap, .bool q, .string k]] w fun e w' => ∃ a1 c1, e = .returned (.agg #[.string house, .slice a1 L.dropLast.length c1, .bool false, .string ⟨#[]⟩]) ∧ Owns w' w.heap.size (.slice a1 L.dropLast.length c1) L.dropLast ∧ Below w.heap.size w w' := by
  obtain ⟨i0, hi, hz0, hz1, hz2⟩ := info_parts Tryz.infoS
  have hc := hS.1
  have hm := hS.2.1
  unfold maxLen at hm
  have HD : Hid (IsStrs w (some ⟨b, off, none⟩) cap L.dropLast) := by
    have h2 := hS.cut (L.length - 1)
    rwa [← List.dropLast_eq_take] at h2
  have hd : L.dropLast.length = L.length - 1 := by simp
  have hw1 : IntKind.i64.wrap ((L.length : Int) - 1) = (L.length : Int) - 1 := IntWalk.i64_in _ (by omega)
  obtain ⟨n, hn⟩ : ∃ n, L.length = n + 1 := ⟨L.length - 1, by omega⟩
  have hdn : L.dropLast.length = n := by omega
  have HDN : Hid _ := hdn
  generalize hDL : L.dropLast = D at *
  rw [hn] at hw1 hc ⊢
  have hw2 : IntKind.i64.wrap (((n + 1 : Nat) : Int) - 1) = (n : Int) := by rw [hw1]; omega
  have hw3 : IntKind.i64.wrap (n : Int) = (n : Int) := IntWalk.i64_in _ (by omega)
  have hmx : max (n : Int) 0 = (n : Int) := Int.max_eq_left (by omega)
  have hn0 : (0 : Int) ≤ (n : Int) := by omega
  have hn1 : (n : Int) ≤ (cap : Int) := by omega
  clear hS hd hDL hw1 hdn
  go_enter Tryz.func153, Tryz.ntmps153
  go_wp2
  have HW : Hid (IsStrs w (some ⟨b, off, none⟩) cap D) := HD.out
  go_region_held_law (fun w' => w'.cell? ⟨w.heap.size, 0, none⟩ = some (.string house) ∧ w'.cell? ⟨w.heap.size, 1, none⟩ = some (.slice (some ⟨b, off, none⟩) (n + 1) cap)) (first | go_keep | exact ⟨p0, p1⟩)
    ((first
    | (refine step_app rfl (.tmp 5) (.tmp 13) 26 rfl w.heap.size 9 i0 (.string ⟨#[]⟩) 1 16 Tryz.underlying26 hi hz0 hz1 hz2 rfl (by decide) (.slice (some ⟨w.heap.size + 1 + 1, 0, none⟩) 0 0) 0 [] rfl (own_third w _ _) (some ⟨b, off, none⟩) n cap (cellsS D) rfl (by intro e; cases e) (by rw [cellsS_len, HDN.out]; omega) (HW.out.newsAny (keep_third w _ _ _)) (cellsS_one D) (by unfold maxLen; omega) (by omega) (by simp; omega) ?_
       intro v4 w4 hO4 hg4
       have hO4' : Owns w4 w.heap.size v4 D := Owns.of_row hO4 (by rw [HDN.out]; omega) (by simp)
       obtain ⟨a4, c4, hv4, _⟩ := hO4'.strs
       subst hv4
       have HO4 : Hid (Owns w4 w.heap.size (.slice a4 D.length c4) D) := hO4'
       obtain ⟨hx0, hx1, hbl, hsz⟩ := up_past hg4
       have HX1 : Hid (Dr.Box w4 (w.heap.size + 1) (.string ⟨#[]⟩) (.slice none 0 0) (.bool false) (.string ⟨#[]⟩)) := hx1
       have HBL : Hid (Below w.heap.size w w4) := hbl
       obtain ⟨⟨p0, p1, p2, p3⟩, pf⟩ := hx0.cells
       obtain ⟨⟨q0, q1, q2, q3⟩, qf⟩ := hx1.cells
       clear hO4 hg4 hO4' hx0 hx1 hbl)
    | fail))
  all_goals
    go_wp2
    refine bodyPost_ret (v := .agg #[.string house, .slice a4 D.length c4, .bool false, .string ⟨#[]⟩]) (by simp [results, Tryz.results153, go_sem, q0, q1, q2, q3]) rfl ?_
    refine ⟨a4, c4, rfl, ?_, ?_⟩
    · have b1 := HX1.out
      exact Dr.Owns.setBox (Dr.Owns.setBox (Dr.Owns.setBox (Dr.Owns.setBox HO4.out b1) (Dr.Box.set0 b1 _)) (Dr.Box.set1 (Dr.Box.set0 b1 _) _)) (Dr.Box.set2 (Dr.Box.set1 (Dr.Box.set0 b1 _) _) _)
    · have hbl := HBL.out
      iterate 4 refine Below.setCell ?_ (by dsimp only; omega) _
      exact hbl

set_option maxRecDepth 100000 in
set_option maxHeartbeats 6400000 in
theorem up_none (house : ByteArray) (q : Bool) (k : ByteArray) (a0 : Option Addr) (cap : Nat) (w : World) (hS : IsStrs w a0 cap []) :
    Calls Tryz.prog 153 #[.agg #[.string house, .slice a0 0 cap, .bool q, .string k]] w fun e w' => ∃ a1 c1, e = .returned (.agg #[.string house, .slice a1 0 c1, .bool false, .string ⟨#[]⟩]) ∧ Owns w' w.heap.size (.slice a1 0 c1) [] ∧ Below w.heap.size w w' := by
  obtain ⟨i0, hi, hz0, hz1, hz2⟩ := info_parts Tryz.infoS
  have hm := hS.2.1
  unfold maxLen at hm
  have HW : Hid (IsStrs w a0 cap []) := hS
  have hw3 : IntKind.i64.wrap (0 - 1) = (-1 : Int) := IntWalk.i64_in _ (by omega)
  have hmx : max (-1 : Int) 0 = 0 := by decide
  cases a0 with
  | none =>
    obtain rfl : cap = 0 := (hS.none rfl).2
    clear hS
    go_enter Tryz.func153, Tryz.ntmps153
    go_wp2
    go_region_held_law (fun w' => w'.cell? ⟨w.heap.size, 0, none⟩ = some (.string house) ∧ w'.cell? ⟨w.heap.size, 1, none⟩ = some (.slice none 0 0)) (first | go_keep | exact ⟨p0, p1⟩)
      ((first
      | (refine step_app rfl (.tmp 5) (.tmp 13) 26 rfl w.heap.size 9 i0 (.string ⟨#[]⟩) 1 16 Tryz.underlying26 hi hz0 hz1 hz2 rfl (by decide) (.slice (some ⟨w.heap.size + 1 + 1, 0, none⟩) 0 0) 0 [] rfl (own_third w _ _) none 0 0 [] rfl (by intro e; exact ⟨rfl, rfl⟩) rfl (by intro ad e; cases e) (by intro u hu; cases hu) (by decide) (by decide) (by simp; omega) ?_
         intro v4 w4 hO4 hg4
         have hO4' : Owns w4 w.heap.size v4 [] := Owns.of_row hO4 rfl rfl
         obtain ⟨a4, c4, hv4, _⟩ := hO4'.strs
         subst hv4
         have HO4 : Hid (Owns w4 w.heap.size (.slice a4 0 c4) []) := hO4'
         obtain ⟨hx0, hx1, hbl, hsz⟩ := up_past hg4
         have HX1 : Hid (Dr.Box w4 (w.heap.size + 1) (.string ⟨#[]⟩) (.slice none 0 0) (.bool false) (.string ⟨#[]⟩)) := hx1
         have HBL : Hid (Below w.heap.size w w4) := hbl
         obtain ⟨⟨p0, p1, p2, p3⟩, pf⟩ := hx0.cells
         obtain ⟨⟨q0, q1, q2, q3⟩, qf⟩ := hx1.cells
         clear hO4 hg4 hO4' hx0 hx1 hbl)
      | fail))
    all_goals
      go_wp2
      refine bodyPost_ret (v := .agg #[.string house, .slice a4 0 c4, .bool false, .string ⟨#[]⟩]) (by simp [results, Tryz.results153, go_sem, q0, q1, q2, q3]) rfl ?_
      refine ⟨a4, c4, rfl, ?_, ?_⟩
      · have b1 := HX1.out
        exact Dr.Owns.setBox (Dr.Owns.setBox (Dr.Owns.setBox (Dr.Owns.setBox HO4.out b1) (Dr.Box.set0 b1 _)) (Dr.Box.set1 (Dr.Box.set0 b1 _) _)) (Dr.Box.set2 (Dr.Box.set1 (Dr.Box.set0 b1 _) _) _)
      · have hbl := HBL.out
        iterate 4 refine Below.setCell ?_ (by dsimp only; omega) _
        exact hbl
  | some ad =>
    have hc0 : (0 : Int) ≤ (cap : Int) := by omega
    have hwx : IntKind.i64.wrap (-1) = (-1 : Int) := IntWalk.i64_in _ (by omega)
    clear hS
    go_enter Tryz.func153, Tryz.ntmps153
    go_wp2
    go_region_held_law (fun w' => w'.cell? ⟨w.heap.size, 0, none⟩ = some (.string house) ∧ w'.cell? ⟨w.heap.size, 1, none⟩ = some (.slice (some ad) 0 cap)) (first | go_keep | exact ⟨p0, p1⟩)
      ((first
      | (refine step_app rfl (.tmp 5) (.tmp 13) 26 rfl w.heap.size 9 i0 (.string ⟨#[]⟩) 1 16 Tryz.underlying26 hi hz0 hz1 hz2 rfl (by decide) (.slice (some ⟨w.heap.size + 1 + 1, 0, none⟩) 0 0) 0 [] rfl (own_third w _ _) (some ad) 0 cap [] rfl (by intro e; cases e) rfl (by intro ad e j u hu; simp at hu) (by intro u hu; cases hu) (by decide) (by decide) (by simp; omega) ?_
         intro v4 w4 hO4 hg4
         have hO4' : Owns w4 w.heap.size v4 [] := Owns.of_row hO4 rfl rfl
         obtain ⟨a4, c4, hv4, _⟩ := hO4'.strs
         subst hv4
         have HO4 : Hid (Owns w4 w.heap.size (.slice a4 0 c4) []) := hO4'
         obtain ⟨hx0, hx1, hbl, hsz⟩ := up_past hg4
         have HX1 : Hid (Dr.Box w4 (w.heap.size + 1) (.string ⟨#[]⟩) (.slice none 0 0) (.bool false) (.string ⟨#[]⟩)) := hx1
         have HBL : Hid (Below w.heap.size w w4) := hbl
         obtain ⟨⟨p0, p1, p2, p3⟩, pf⟩ := hx0.cells
         obtain ⟨⟨q0, q1, q2, q3⟩, qf⟩ := hx1.cells
         clear hO4 hg4 hO4' hx0 hx1 hbl)
      | fail))
    all_goals
      go_wp2
      refine bodyPost_ret (v := .agg #[.string house, .slice a4 0 c4, .bool false, .string ⟨#[]⟩]) (by simp [results, Tryz.results153, go_sem, q0, q1, q2, q3]) rfl ?_
      refine ⟨a4, c4, rfl, ?_, ?_⟩
      · have b1 := HX1.out
        exact Dr.Owns.setBox (Dr.Owns.setBox (Dr.Owns.setBox (Dr.Owns.setBox HO4.out b1) (Dr.Box.set0 b1 _)) (Dr.Box.set1 (Dr.Box.set0 b1 _) _)) (Dr.Box.set2 (Dr.Box.set1 (Dr.Box.set0 b1 _) _) _)
      · have hbl := HBL.out
        iterate 4 refine Below.setCell ?_ (by dsimp only; omega) _
        exact hbl

theorem up_any (house : ByteArray) (q : Bool) (k : ByteArray) (L : List ByteArray) (a0 : Option Addr) (cap : Nat) (w : World) (hS : IsStrs w a0 cap L) (hL : L.length ≤ 1000) :
    Calls Tryz.prog 153 #[.agg #[.string house, .slice a0 L.length cap, .bool q, .string k]] w fun e w' => ∃ a1 c1, e = .returned (.agg #[.string house, .slice a1 L.dropLast.length c1, .bool false, .string ⟨#[]⟩]) ∧ Owns w' w.heap.size (.slice a1 L.dropLast.length c1) L.dropLast ∧ Below w.heap.size w w' := by
  by_cases h0 : L.length = 0
  · have : L = [] := List.eq_nil_of_length_eq_zero h0
    subst this
    exact up_none house q k a0 cap w hS
  · obtain ⟨b, off, e, _⟩ := hS.2.2.2 (by intro e; rw [e] at h0; simp at h0)
    subst e
    exact up_some house q k L b off cap w hS hL (by omega)
end Go.Proofs.YtcohaalgefcjnaaGreatDoor.Jn
