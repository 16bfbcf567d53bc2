/- FnLetsOrder: for every code, in which order, and how often, the rules drawn of it stand does not matter; none let all. The card ties two tables of unicode/utf8 to the program's text; no other condition. -/
import Derived.Test.YtemobclefdodjaaDoorRows
import Derived.WalkKit
import Derived.ProofKit
import Derived.OpenShut
import Derived.ShutString
import Derived.ChangeOld
import Derived.Below
import Derived.Test.YtemobclefdodjaaDoorCards
import Derived.Test.YtemobclefdodjaaDoorTie
import Derived.Test.YtemobclefdodjaaDoorHasDoor
import Derived.Test.YtemobclefdodjaaDoorLets1
import Derived.Test.YtemobclefdodjaaDoorLets2
import Derived.Test.YtemobclefdodjaaDoorLetsLaws
import Derived.Test.YtemobclefdodjaaDoorDraw12
import Derived.Lay
import Derived.LaidOnce
import Derived.SevenTiedAt
import Derived.Test.YtemobclefdodjaaDoorStep2
namespace Go.Proofs.YtemobclefdodjaaDoor.fnLetsOrder
open Go.ChangeShapes Go.WideShapes Go.ChangeAt Go.RowKit
open Go.ChangeMaps (open_string shut_string)
set_option linter.unusedVariables false
open Go.Proofs.YtemobclefdodjaaDoor.EscL Go.Proofs.YtemobclefdodjaaDoor.EscM Go.Proofs.YtemobclefdodjaaDoor.RR Go.Proofs.YtemobclefdodjaaDoor.LetM

theorem drop_back {L : List Ru} {k : Nat} (h : k < L.length) : (L.drop k).reverse = (L.drop (k + 1)).reverse ++ [L[k]] := by
  rw [List.drop_eq_getElem_cons h, List.reverse_cons]

theorem lets_n (a0 : Option Addr) (cap n : Nat) (L : List Ru) (s : ByteArray) (w : World) (hn : L.length = n) (hM : Ha.Mx w) (hI : IsRows FRu w a0 cap L) (hl : L.length ≤ 4194304) (hL : ∀ r ∈ L, r.path.size ≤ maxLen) (hs : s.size ≤ maxLen) :
    Calls Tryd.prog 19 #[.slice a0 n cap, .string s] w fun e w' => e = .returned (.bool (letsL L s.data.toList)) ∧ Below w.heap.size w w' := by
  subst hn; exact Le.implLets_any a0 cap L s w hM hI hl hL hs

set_option maxRecDepth 100000 in
set_option maxHeartbeats 6400000 in
theorem walk (a0 : Option Addr) (len0 cap0 : Nat) (z0 : List Int) (w : World) (w0 : Dr.IsRow .u8 w a0 len0 cap0 z0) (hL : laidMetH Tryd.prog Rows.fnLetsOrderRow.laid w) (hsh : w.ShapedOpen Tryd.prog) :
    Calls Tryd.prog 9 #[.slice a0 len0 cap0] w fun e w' => e = .returned (.bool true) ∧ Below w.heap.size w w' := by
  have HM : Hid (Ha.Mx w) := Ha.mx_of hsh
  clear hsh hL
  by_cases hlong : (1048576 : Int) < len0
  · go_enter Tryd.func9, Tryd.ntmps9
    go_wp2
    go_ret
    exact ⟨rfl, Below.refl _ _⟩
  · go_enter Tryd.func9, Tryd.ntmps9
    go_wp2_with fail
    refine (Dr.drawLets_any a0 len0 cap0 z0 w w0).mono ?_
    rintro e w1 ⟨L, a1, c1, path, rfl, hO, hl, hLs, hps, hb1⟩
    have hsm : path.size ≤ maxLen := by unfold maxLen; omega
    have hl4 : L.length ≤ 4194304 := by omega
    have HLm : Hid (∀ r ∈ L, r.path.size ≤ maxLen) := fun r hr => Nat.le_trans (hLs r hr) (by decide)
    have HL16 : Hid (∀ r ∈ L, r.path.size ≤ 16) := hLs
    have HB1 : Hid (Below w.heap.size w w1) := hb1
    have HI1 : Hid (IsRows FRu w1 a1 c1 L) := hO.rowsOf
    have hc1 := hO.rowsOf.1
    clear hb1 hLs hO
    go_wp2_with fail
    refine (Le.implLets_any a1 c1 L path _ (HM.out.below HB1.out) HI1.out hl4 HLm.out hsm).mono ?_
    rintro e w2 ⟨rfl, hb2⟩
    have HB2 : Hid (Below w.heap.size w w2) := HB1.out.trans (hb2.mono HB1.out.size)
    have HI2 : Hid (IsRows FRu w2 a1 c1 L) := IsRows.below HI1.out hb2
    clear hb2 HB1 HI1
    go_wp2_with fail
    refine (LeS.specLets_any a1 c1 L path _ HI2.out hl4 HLm.out hsm).mono ?_
    rintro e w3 ⟨rfl, hb3⟩
    have HB3 : Hid (Below w.heap.size w w3) := HB2.out.trans (hb3.mono HB2.out.size)
    have HI3 : Hid (IsRows FRu w3 a1 c1 L) := IsRows.below HI2.out hb3
    clear hb3 HB2 HI2
    obtain ⟨i0, hi, hz0, hz1, hz2⟩ := Dr.info_rule
    have HRev : Hid (letsL L.reverse path.data.toList = letsL L path.data.toList) := lets_mem _ fun r => List.mem_reverse
    have HTwo : Hid (letsL (L.reverse ++ L) path.data.toList = letsL L path.data.toList) := lets_mem _ fun r => by rw [List.mem_append, List.mem_reverse]; exact or_self_iff
    have HNil : Hid (letsL [] path.data.toList = true) := rfl
    go_wp2
    go_loopw [6, 7] (fun v i wr => ∃ k : Nat, k ≤ L.length ∧ i = .int .i64 ((k : Int) - 1) ∧ Hid (OwnsR FRu 33 wr w3.heap.size v (L.drop k).reverse) ∧ Hid (Below w3.heap.size w3 wr)) (fun _ i _ => (intOf i + 1).toNat)
    case atStart => exact ⟨L.length, Nat.le_refl _, by go_num, by rw [List.drop_length]; exact OwnsR.empty FRu 33 w3 w3.heap.size (Nat.le_refl _), (Below.refl _ _).alloc (Nat.le_refl _) _⟩
    case round =>
      obtain ⟨k, hk, rfl, HO, HB⟩ := hrel
      by_cases hlt : 0 < k
      · obtain ⟨q, rfl⟩ : ∃ q, k = q + 1 := ⟨k - 1, by omega⟩
        obtain ⟨B, off, e1, c0, c1⟩ := ru_at (IsRows.below HI3.out HB.out) (show q < L.length by omega)
        subst e1
        have HDB : Hid _ := drop_back (show q < L.length by omega)
        have hlen : (L.drop (q + 1)).reverse.length ≤ 4 := by simp; omega
        rw [show ((q + 1 : Nat) : Int) - 1 = (q : Int) from by omega]
        generalize hR : (L.drop (q + 1)).reverse = R at *
        go_wp2_with (at_builtin; refine wpList_append_own _ rfl _ _ 28 rfl w3.heap.size 33 i0 (.agg #[.bool false, .string ⟨#[]⟩]) 2 24 Tryd.underlying28 hi hz0 hz1 hz2 rfl (by decide) _ _ _ rfl (World.ownsRow.alloc HO.out _) ⟨wr.heap.size, 0, none⟩ 1 1 [.bool L[q].lt, .string L[q].path] rfl rfl (cell_two_new _ _ _ _) ?c2 ?c3 ?c4 ?c5 ?_)
        case c2 => exact FRu.one L[q]
        case c3 => unfold maxLen; omega
        case c4 => omega
        case c5 => have := HB.out.size; simp; omega
        intro v' w4 hown' hgrow _
        have HO' : Hid (OwnsR FRu 33 w4 w3.heap.size v' (L.drop q).reverse) := by
          show OwnsR _ _ _ _ _ _
          rw [HDB.out]
          exact OwnsR.append (F := FRu) (x := L[q]) hown'
        have HB4 : Hid (Below w3.heap.size w3 w4) := Below.grown (HB.out.alloc HB.out.size _) hgrow (by have := HB.out.size; simp; omega) (OwnsR.block HO.out)
        clear hown' hgrow c0 c1
        go_wp2
        go_roundw
        case rel => exact ⟨q, by omega, by go_num, HO', HB4⟩
        case measure => simp [intOf]
      · have hk0 : k = 0 := by omega
        subst hk0
        rw [List.drop_zero] at HO
        obtain ⟨a5, c5, hv, hI⟩ := HO.out.rows
        subst hv
        have hlr : L.reverse.length = L.length := by simp
        have HIb : Hid (IsRows FRu wr a5 c5 L.reverse) := hI
        have HLr : Hid (∀ r ∈ L.reverse, r.path.size ≤ maxLen) := fun r hr => HLm.out r (List.mem_reverse.1 hr)
        have HLt : Hid (∀ r ∈ L.reverse ++ L, r.path.size ≤ maxLen) := fun r hr => by
          rcases List.mem_append.1 hr with hr | hr
          · exact HLr.out r hr
          · exact HLm.out r hr
        have hlr4 : L.reverse.length ≤ 4194304 := by omega
        have hlt4 : (L.reverse ++ L).length ≤ 4194304 := by rw [List.length_append]; omega
        have HLR : Hid _ := hlr
        clear hI hlr
        generalize hR : L.reverse = R at *
        go_wp2_with fail
        refine (Le.implLets_any a5 c5 R path _ ((HM.out.below HB3.out).below HB.out) HIb.out hlr4 HLr.out hsm).mono ?_
        rintro e w5 ⟨rfl, hb5⟩
        rw [HRev.out]
        have HB5 : Hid (Below w3.heap.size w3 w5) := HB.out.trans (hb5.mono HB.out.size)
        have HO5 : Hid (OwnsR FRu 33 w5 w3.heap.size (.slice a5 R.length c5) R) := HO.out.below hb5
        have HI5 : Hid (IsRows FRu w5 a1 c1 L) := IsRows.below HI3.out HB5.out
        clear hb5
        go_wp2_with (first
          | (at_builtin
             refine (St.wpList_appG (by rfl) (.tmp 45) (.tmp 46) 28 rfl w3.heap.size 33 i0 (.agg #[.bool false, .string ⟨#[]⟩]) 2 24 Tryd.underlying28 hi hz0 hz1 hz2 rfl (by decide) (.slice a5 R.length c5) R.length (FRu.cells R) rfl HO5.out a1 L.length c1 (FRu.cells L) rfl HI5.out.none (FRu.cells_len L) (HI5.out.newsAny fun _ _ => rfl) (FRu.cells_one L) (by unfold maxLen; omega) (by omega) HB5.out.size ?_)
             intro v6 w6 ho6 hg6
             have hO6 : OwnsR FRu 33 w6 w3.heap.size v6 (R ++ L) := OwnsR.of_row ho6 (by rw [List.length_append]) (by rw [FRu.cells_append])
             have hbw6 : Below w3.heap.size w3 w6 := Below.grown HB5.out hg6 HB5.out.size (OwnsR.block HO5.out)
             obtain ⟨a6, c6, hv6, hI6⟩ := hO6.rows
             subst hv6
             have HI6 : Hid (IsRows FRu w6 a6 c6 (R ++ L)) := hI6
             have HB6 : Hid (Below w3.heap.size w3 w6) := hbw6
             clear hO6 hbw6 ho6 hg6 hI6)
          | fail)
        refine (lets_n a6 c6 _ (R ++ L) path _ List.length_append ((HM.out.below HB3.out).below HB6.out) HI6.out hlt4 HLt.out hsm).mono ?_
        rintro e w7 ⟨rfl, hb7⟩
        rw [HTwo.out]
        have HB7 : Hid (Below w3.heap.size w3 w7) := HB6.out.trans (hb7.mono HB6.out.size)
        clear hb7
        go_wp2_with fail
        refine (lets_n none 0 0 [] path _ rfl ((HM.out.below HB3.out).below HB7.out) (IsRows.nil _ _) (by simp) (by simp) hsm).mono ?_
        rintro e w8 ⟨rfl, hb8⟩
        rw [HNil.out]
        have HB8 : Hid (Below w3.heap.size w3 w8) := HB7.out.trans (hb8.mono HB7.out.size)
        clear hb8
        go_wp2
        go_ret
        exact ⟨rfl, HB3.out.trans (HB8.out.mono HB3.out.size)⟩

theorem own : ownKnob Tryd.prog.godebug = none := by kernel_rfl
theorem laidOut : laidOutB Tryd.prog = true := by kernel_rfl

/-! ### THE ROW's STEP -/
set_option maxRecDepth 100000 in
theorem lifted (os : Os) (started : os.Started) (H : Type) (enc : TypeId × Value → H) :
    ReturnsInHanded {} Tryd.checked os 9 .any (fun w args => (Rows.fnLetsOrderSpec.pre enc Tryd.prog Tryd.f9 [] false w args ∧ laidMetH Tryd.prog Rows.fnLetsOrderRow.laid w) ∧ sizedMet enc Tryd.prog Tryd.f9 (OpenSpec.ofChange Rows.fnLetsOrderSpec) false w args)
      (Rows.fnLetsOrderSpec.post enc Tryd.prog Tryd.f9 false true false false) := by
  refine returnsInHanded_of_calls own started (by kernel_rfl)
    (ChangeSpec.witness_shaped (enc := enc) (C := Tryd.checked) (os := os) (X := fun w _ => laidMetH Tryd.prog Rows.fnLetsOrderRow.laid w) false (World.laidAll Tryd.prog os Rows.fnLetsOrderRow.laid) #[.slice none 0 0] 8 (World.laidAll_os _ _ _)
      (World.shaped_of_ZipB (by kernel_rfl) (by kernel_rfl)) (by kernel_rfl) (by kernel_rfl) (by kernel_rfl)
      (by rw [MakeChecks.laidMetH_plain _ _ _ (by kernel_rfl)]; exact laidMet_laidAll _ (by kernel_rfl) (by kernel_rfl))) ?_
  intro w tape i _ hsh _ hok hpre _
  obtain ⟨_, _, _, fn', hfn', _, _, _, _, hval1⟩ := hok
  obtain rfl : fn' = Tryd.f9 := Option.some.inj (hfn'.symm.trans Tryd.func9)
  obtain ⟨⟨⟨ds, gs, before, hw, _⟩, hL0⟩, _⟩ := hpre
  have hW := DataW.Whole.of_heap (w' := w.forCall tape i) (by rfl) hw
  have hL : laidMetH Tryd.prog Rows.fnLetsOrderRow.laid (w.forCall tape i) := hL0.of_heap (by rfl)
  have hb : ∃ base, ∀ (j : Nat) t v, Tryd.f9.params[j]? = some t → i.args[j]? = some v → Value.okWide Tryd.prog (w.forCall tape i) .any base t v := ⟨_, hval1⟩
  clear hval1 hfn' hL0 hw
  suffices h : Calls Tryd.checked.prog 9 i.args (w.forCall tape i) fun e W' => ∃ v, e = .returned v ∧ Rows.fnLetsOrderSpec.post enc Tryd.checked.prog Tryd.f9 false true false false (w.forCall tape i) i.args v W' from
    h.mono fun e W' ⟨v, he, hp⟩ => by subst he; exact ChangeSpec.post_blind hp
  generalize hWe : w.forCall tape i = W at *
  generalize i.args = args at *
  clear hWe
  obtain ⟨base, hval⟩ := hb
  have hW' := hW
  obtain ⟨p, q, hA0, hV, rfl, hfz, hnd⟩ := hW
  have hA : DataW.TrodAll enc Tryd.prog W 0 (fun _ => true) true Tryd.f9.params.toList args.toList ds p := hA0
  rw [Tryd.params9] at hA hval
  obtain ⟨v0, vs0, d0, ds0, p0, q0, hargs, rfl, rfl, h0, r0⟩ := trodAll_cons hA
  obtain ⟨rfl, rfl, rfl⟩ := trodAll_nil r0
  obtain rfl : args = #[v0] := by cases args; simp_all
  obtain ⟨rfl, rfl⟩ := trodVars_none hV
  obtain ⟨a0, len0, cap0, rfl⟩ := okWide_slice Tryd.underlying22 (hval 0 22 v0 rfl rfl)
  have k0 := h0
  have lt0 : ∀ x ∈ p0, x.block < W.heap.size := by obtain ⟨m, hm⟩ := k0; exact DataW.trod_lt m _ _ _ hm
  obtain ⟨z0, w0⟩ : ∃ zs, Dr.IsRow .u8 W a0 len0 cap0 zs := by
    obtain ⟨fuel, hf⟩ := h0
    rcases open_ints Tryd.underlying22 Tryd.underlying5 (by kernel_rfl) hf with ⟨hcs, _⟩ | ⟨x, l, c, zs, hcs, _, hl, hm, hz, _, hcell, hwz⟩
    · simp [Value.cells] at hcs
      obtain ⟨rfl, rfl, rfl⟩ := hcs
      exact ⟨[], .inl ⟨rfl, rfl, rfl, rfl⟩⟩
    · simp [Value.cells] at hcs
      obtain ⟨rfl, rfl, rfl⟩ := hcs
      exact ⟨zs, .inr ⟨_, rfl, hl, hm, by simpa using hz, hcell, hwz⟩⟩
  clear hA0
  refine (walk a0 len0 cap0 z0 W w0 hL hsh).mono fun e W' ⟨he, bel⟩ => ?_
  subst he
  exact ⟨_, rfl, _, _, _, [], _, [], hW', trodAll_mk1 (shut_bool Tryd.underlying4 _), (trodAll_cons_mk (Below.trod laidOut (by kernel_rfl) (of_decide_eq_true (by kernel_rfl)) k0 bel lt0) trodAll_mk0), rfl, bel.frame _, fun h => by cases h⟩

theorem over : Rows.fnLetsOrderRow.holds Tryd.pinned (OpenSpec.ofChange Rows.fnLetsOrderSpec) :=
  OpenClaim.holds_of_wide 9 Tryd.f9 rfl rfl rfl rfl rfl rfl rfl ⟨rfl, rfl, rfl, rfl, rfl⟩ rfl rfl rfl rfl rfl (by kernel_rfl) Tryd.func9 (by kernel_rfl)
    (of_decide_eq_true (by kernel_rfl)) (by unfold Func.isWrapper; first | (rw [if_pos (by decide +kernel)]; kernel_rfl) | (rw [if_neg (by decide +kernel)]; exact ⟨rfl, rfl⟩))
    (fun os started H enc _ => lifted os started H enc)

theorem proved : Rows.FnLetsOrderCardSaid :=
  Claim7.holds_tied_plain_at .later [] [.data, .pinned] true _ false over (fun _ h => by cases h) (by kernel_rfl) (fun _ h => by cases h) fnLetsOrder_row_tie rfl ⟨rfl, rfl⟩ (by kernel_rfl) rfl
    (fun f fn hf hfn => by
      obtain rfl : f = 9 := Option.some.inj ((show Tryd.prog.funcNamed "loop.example/pedlar/laws.FnLetsOrder" = some 9 by kernel_rfl).symm.trans hf) |>.symm
      obtain rfl : fn = Tryd.f9 := (Option.some.inj (Tryd.func9.symm.trans hfn)).symm
      exact ⟨by kernel_rfl, fun j t ht => by
        rw [Tryd.params9] at ht
        have hm : t ∈ [22] := by simpa using Array.mem_of_getElem? ht
        have hall : ([22].all fun u => !Tryd.prog.wantsStandIn u) = true := by kernel_rfl
        exact (show Tryd.prog.wantsStandIn t = false by simpa using List.all_eq_true.1 hall t hm)⟩)
    (by kernel_rfl)
end Go.Proofs.YtemobclefdodjaaDoor.fnLetsOrder
