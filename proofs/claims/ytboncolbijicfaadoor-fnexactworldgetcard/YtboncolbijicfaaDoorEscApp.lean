import Derived.Test.YtboncolbijicfaaDoorEscMeant
namespace Go.Proofs.YtboncolbijicfaaDoor.EscL
open Go.RowKit Go.Proofs.YtboncolbijicfaaDoor.EscM

theorem ownsRow_drew {w : World} {base : Nat} {e : TypeId} {size : Nat} {v : Value} {n : Nat} {xs : List Value} (h : w.ownsRow base e size v n xs) : w.drew.ownsRow base e size v n xs := h

theorem hex_idx (q : Int) (h0 : 0 ≤ q) (h1 : q < 16) (wx : World) :
    (Instr.index 9 (.string ⟨#[48, 49, 50, 51, 52, 53, 54, 55, 56, 57, 65, 66, 67, 68, 69, 70]⟩) (.int .u8 q)).run Tryd.prog wx = .ok (.int .u8 (figZ q)) wx := by
  have hh : ∀ q : Int, 0 ≤ q → q < 16 → ∀ h : 0 ≤ q ∧ q < ((⟨#[48, 49, 50, 51, 52, 53, 54, 55, 56, 57, 65, 66, 67, 68, 69, 70]⟩ : ByteArray).size : Int), (((⟨#[48, 49, 50, 51, 52, 53, 54, 55, 56, 57, 65, 66, 67, 68, 69, 70]⟩ : ByteArray)[q.toNat]'(by omega)).toNat : Int) = figZ q := by
    intro q g0 g1 h
    have := fig_hex q g0 g1
    rw [← this]
    have e : hexSigns.getD q.toNat 0 = hexSigns[q.toNat]'(by simp [hexSigns]; omega) := by
      rw [List.getD_eq_getElem?_getD, List.getElem?_eq_getElem (by simp [hexSigns]; omega)]; rfl
    rw [e]; rfl
  have hcond : 0 ≤ q ∧ q < ((⟨#[48, 49, 50, 51, 52, 53, 54, 55, 56, 57, 65, 66, 67, 68, 69, 70]⟩ : ByteArray).size : Int) := ⟨h0, h1⟩
  rw [run_index_string _ _ _ _ _ Tryd.underlying9, dif_pos hcond, hh q h0 h1 hcond]

set_option maxRecDepth 100000 in
set_option maxHeartbeats 800000 in
theorem appendMeant_sign (base : Nat) (v : Value) (l : List UInt8) (n : Int) (w : World) (h0 : 0 ≤ n) (h1 : n ≤ 255) (hl : l.length ≤ 1000) (hown : w.ownsRow base 5 1 v l.length (cellsB l)) (hbase : base ≤ w.heap.size) (hp : plainZ n = false) :
    Calls Tryd.prog 84 #[v, .int .u8 n] w fun e w' => ∃ v', e = .returned v' ∧ w'.ownsRow base 5 1 v' (l ++ [37, toB (figZ (n / 16)), toB (figZ (n % 16))]).length (cellsB (l ++ [37, toB (figZ (n / 16)), toB (figZ (n % 16))])) ∧ Below base w w' := by
  have hpp := place_plain n h0 h1
  rw [hp] at hpp
  have hpq : ¬ 0 ≤ placeFrom plainSigns n 0 := by simpa using hpp
  unfold plainSigns at hpq
  clear hpp
  obtain ⟨i0, hi, hz0, hz1, hz2⟩ := info_parts Tryd.info8
  go_enter Tryd.func84, Tryd.ntmps84
  go_wp2_with (go_at_call 94; refine (signPlace_any _ _ _ (by omega) (by omega) (by decide) (by decide)).mono ?_; rintro e w' ⟨rfl, o, rfl⟩)
  have hq1 : IntKind.u8.wrap (n.tdiv 16) = n / 16 := by rw [IntKind.wrap_u8, Int.tdiv_eq_ediv_of_nonneg h0]; omega
  have hq2 : n.tmod 16 = n % 16 := Int.tmod_eq_emod_of_nonneg h0
  have hq3 : n / 16 < 16 := by omega
  have hq4 : n % 16 < 16 := by omega
  have hx1 : ∀ wx, (Instr.index 9 (.string ⟨#[48, 49, 50, 51, 52, 53, 54, 55, 56, 57, 65, 66, 67, 68, 69, 70]⟩) (.int .u8 (n / 16))).run Tryd.prog wx = .ok (.int .u8 (figZ (n / 16))) wx := fun wx => hex_idx _ (by omega) (by omega) wx
  have hx2 : ∀ wx, (Instr.index 9 (.string ⟨#[48, 49, 50, 51, 52, 53, 54, 55, 56, 57, 65, 66, 67, 68, 69, 70]⟩) (.int .u8 (n % 16))).run Tryd.prog wx = .ok (.int .u8 (figZ (n % 16))) wx := fun wx => hex_idx _ (by omega) (by omega) wx
  have hc1 : ∀ (W : World) (x y : Int) (wx : World), wx.heap = (W.alloc (.cells #[.int .u8 37, .int .u8 x, .int .u8 y] 5)).heap → ∀ j u, [Value.int .u8 37, .int .u8 x, .int .u8 y][j]? = some u → wx.cell? ((⟨W.heap.size, 0, none⟩ : Addr).add j) = some u := by
    intro W x y wx hwx j u hj
    have e : ∀ p, wx.cell? p = (W.alloc (.cells #[.int .u8 37, .int .u8 x, .int .u8 y] 5)).cell? p := fun p => by unfold World.cell?; rw [hwx]
    rw [e]
    match j, hj with
    | 0, hj => simp at hj; subst hj; simp [Addr.add]
    | 1, hj => simp at hj; subst hj; simp [Addr.add]
    | 2, hj => simp at hj; subst hj; simp [Addr.add]
  have hc2 : ∀ x y : Int, ∀ u ∈ [Value.int .u8 37, .int .u8 x, .int .u8 y], u.oneCell' = true := by
    intro x y u hu; simp at hu; rcases hu with rfl | rfl | rfl <;> rfl
  have HO : Hid (w.ownsRow base 5 1 v l.length (cellsB l)) := hown
  go_region_law (refine step_append_own rfl (.tmp 12) (.tmp 19) 79 rfl base 5 i0 (.int .u8 0) 1 1 Tryd.underlying79 hi hz0 hz1 hz2 rfl (by decide) v l.length (cellsB l) (by simp [Act.eval]) (by exact ownsRow_drew ((HO.out.alloc _).alloc _)) ⟨(w.alloc o).heap.size, 0, none⟩ 3 3 [.int .u8 37, .int .u8 (figZ (n / 16)), .int .u8 (figZ (n % 16))] (by simp [Act.eval]) rfl (by exact hc1 (w.alloc o) _ _ _ rfl) (hc2 _ _) (by unfold maxLen; omega) (by omega) (by simp; omega) ?_; intro v' w1 hown' hgrow)
  all_goals
    have HO' : Hid _ := hown'
    have HG : Hid _ := hgrow
    clear hown' hgrow
    go_wp2
    go_ret
    refine ⟨v', rfl, ?_, ?_⟩
    · have e1 : (l ++ [37, toB (figZ (n / 16)), toB (figZ (n % 16))]).length = l.length + 3 := by simp
      have e2 : cellsB (l ++ [37, toB (figZ (n / 16)), toB (figZ (n % 16))]) = cellsB l ++ [.int .u8 37, .int .u8 (figZ (n / 16)), .int .u8 (figZ (n % 16))] := by
        have b1 := figZ_bd (n / 16) (by omega) (by omega)
        have b2 := figZ_bd (n % 16) (by omega) (by omega)
        rw [cellsB_append]; simp [cellsB, toB_toNat _ (show 0 ≤ figZ (n / 16) by omega) (by omega), toB_toNat _ (show 0 ≤ figZ (n % 16) by omega) (by omega)]
      rw [e1, e2]; exact HO'.out
    · exact Below.grown (((Below.refl base w).alloc hbase _).drew.alloc (by simp; omega) _) HG.out (by simp; omega) (own_of_block hown)

theorem appendMeant_any (base : Nat) (v : Value) (l : List UInt8) (n : Int) (w : World) (h0 : 0 ≤ n) (h1 : n ≤ 255) (hl : l.length ≤ 1000) (hown : w.ownsRow base 5 1 v l.length (cellsB l)) (hbase : base ≤ w.heap.size) :
    Calls Tryd.prog 84 #[v, .int .u8 n] w fun e w' => ∃ v', e = .returned v' ∧ w'.ownsRow base 5 1 v' (l ++ signL n).length (cellsB (l ++ signL n)) ∧ Below base w w' := by
  unfold signL
  cases hp : plainZ n with
  | true => exact appendMeant_plain base v l n w h0 h1 hl hown hbase hp
  | false => exact appendMeant_sign base v l n w h0 h1 hl hown hbase hp
end Go.Proofs.YtboncolbijicfaaDoor.EscL
