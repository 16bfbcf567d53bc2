/- FnLetsMore: for every two codes, a rule more that lets bars nothing behind the rules drawn of the first, and one that bars lets nothing. The card ties two tables of unicode/utf8 to the program's text; no other condition. -/
import Derived.Test.YtemobclefdodjaaDoorRows
import Derived.WalkKit
import Derived.ProofKit
import Derived.OpenShut
import Derived.ShutString
import Derived.ChangeOld
import Derived.Below
import Derived.Test.YtemobclefdodjaaDoorCards
import Derived.Test.YtemobclefdodjaaDoorTie
import Derived.Test.YtemobclefdodjaaDoorHasDoor
import Derived.Test.YtemobclefdodjaaDoorLets1
import Derived.Test.YtemobclefdodjaaDoorLets2
import Derived.Test.YtemobclefdodjaaDoorLetsLaws
import Derived.Test.YtemobclefdodjaaDoorDraw12
import Derived.Lay
import Derived.LaidOnce
import Derived.SevenTiedAt
import Derived.Test.YtemobclefdodjaaDoorStep2
import Derived.Test.YtemobclefdodjaaDoorDraw11
namespace Go.Proofs.YtemobclefdodjaaDoor.fnLetsMore
open Go.ChangeShapes Go.WideShapes Go.ChangeAt Go.RowKit
open Go.ChangeMaps (open_string shut_string)
set_option linter.unusedVariables false
open Go.Proofs.YtemobclefdodjaaDoor.EscL Go.Proofs.YtemobclefdodjaaDoor.EscM Go.Proofs.YtemobclefdodjaaDoor.RR Go.Proofs.YtemobclefdodjaaDoor.LetM

theorem lets_n (a0 : Option Addr) (cap n : Nat) (L : List Ru) (s : ByteArray) (w : World) (hn : L.length = n) (hM : Ha.Mx w) (hI : IsRows FRu w a0 cap L) (hl : L.length ≤ 4194304) (hL : ∀ r ∈ L, r.path.size ≤ maxLen) (hs : s.size ≤ maxLen) :
    Calls Tryd.prog 19 #[.slice a0 n cap, .string s] w fun e w' => e = .returned (.bool (letsL L s.data.toList)) ∧ Below w.heap.size w w' := by
  subst hn; exact Le.implLets_any a0 cap L s w hM hI hl hL hs

set_option maxRecDepth 100000 in
set_option maxHeartbeats 6400000 in
theorem walk (a0 : Option Addr) (len0 cap0 : Nat) (z0 : List Int) (a1 : Option Addr) (len1 cap1 : Nat) (z1 : List Int) (w : World) (w0 : Dr.IsRow .u8 w a0 len0 cap0 z0) (w1 : Dr.IsRow .u8 w a1 len1 cap1 z1) (hL : laidMetH Tryd.prog Rows.fnLetsMoreRow.laid w) (hsh : w.ShapedOpen Tryd.prog) :
    Calls Tryd.prog 10 #[.slice a0 len0 cap0, .slice a1 len1 cap1] w fun e w' => e = .returned (.bool true) ∧ Below w.heap.size w w' := by
  have HM : Hid (Ha.Mx w) := Ha.mx_of hsh
  have HR1 : Hid (Dr.IsRow .u8 w a1 len1 cap1 z1) := w1
  obtain ⟨i0, hi, hz0, hz1, hz2⟩ := Dr.info_rule
  clear hsh hL w1
  by_cases hlong : (1048576 : Int) < len0
  · go_enter Tryd.func10, Tryd.ntmps10
    go_wp2
    go_ret
    exact ⟨rfl, Below.refl _ _⟩
  by_cases hlong1 : (1048576 : Int) < len1
  · go_enter Tryd.func10, Tryd.ntmps10
    go_wp2
    go_ret
    exact ⟨rfl, Below.refl _ _⟩
  go_enter Tryd.func10, Tryd.ntmps10
  go_wp2_with fail
  refine (Dr.drawLets_any a0 len0 cap0 z0 w w0).mono ?_
  rintro e w1 ⟨L, b1, c1, path, rfl, hO, hl, hLs, hps, hb1⟩
  have hsm : path.size ≤ maxLen := by unfold maxLen; omega
  have hl4 : L.length ≤ 4194304 := by omega
  have HLm : Hid (∀ r ∈ L, r.path.size ≤ maxLen) := fun r hr => Nat.le_trans (hLs r hr) (by decide)
  have HB1 : Hid (Below w.heap.size w w1) := hb1
  have HI1 : Hid (IsRows FRu w1 b1 c1 L) := hO.rowsOf
  clear hb1 hLs hO
  go_wp2_with fail
  refine (Dr.drawHas_any a1 len1 cap1 z1 _ (HR1.out.below HB1.out)).mono ?_
  rintro e w2 ⟨p, path2, rfl, hp, _, _, hb2⟩
  have hpm : p.size ≤ maxLen := by unfold maxLen; omega
  have HB2 : Hid (Below w.heap.size w w2) := HB1.out.trans (hb2.mono HB1.out.size)
  have HI2 : Hid (IsRows FRu w2 b1 c1 L) := IsRows.below HI1.out hb2
  clear hb2 HB1 HI1
  go_wp2_with fail
  refine (Le.implLets_any b1 c1 L path _ (HM.out.below HB2.out) HI2.out hl4 HLm.out hsm).mono ?_
  rintro e w3 ⟨rfl, hb3⟩
  have HB3 : Hid (Below w.heap.size w w3) := HB2.out.trans (hb3.mono HB2.out.size)
  have HI3 : Hid (IsRows FRu w3 b1 c1 L) := IsRows.below HI2.out hb3
  clear hb3 HB2 HI2
  go_wp2_with fail
  refine (LeS.specLets_any b1 c1 L path _ HI3.out hl4 HLm.out hsm).mono ?_
  rintro e w4 ⟨rfl, hb4⟩
  have HB4 : Hid (Below w.heap.size w w4) := HB3.out.trans (hb4.mono HB3.out.size)
  have HI4 : Hid (IsRows FRu w4 b1 c1 L) := IsRows.below HI3.out hb4
  clear hb4 HB3 HI3
  have HLtrue : Hid (∀ r ∈ L ++ [(⟨true, p⟩ : Ru)], r.path.size ≤ maxLen) := fun r hr => by
    rcases List.mem_append.1 hr with hr | hr
    · exact HLm.out r hr
    · simp at hr; subst hr; exact hpm
  have HLfalse : Hid (∀ r ∈ L ++ [(⟨false, p⟩ : Ru)], r.path.size ≤ maxLen) := fun r hr => by
    rcases List.mem_append.1 hr with hr | hr
    · exact HLm.out r hr
    · simp at hr; subst hr; exact hpm
  go_wp2_with (first
    | (at_builtin
       refine St.wpList_app rfl (.tmp 38) (.tmp 39) 28 rfl w4.heap.size 33 i0 (.agg #[.bool false, .string ⟨#[]⟩]) 2 24 Tryd.underlying28 hi hz0 hz1 hz2 rfl (by decide) (.slice (some ⟨w4.heap.size, 0, none⟩) 0 0) 0 [] rfl (OwnsR.empty FRu 33 w4 w4.heap.size (Nat.le_refl _)) b1 L.length c1 (FRu.cells L) rfl HI4.out.none (FRu.cells_len L) (HI4.out.newsAny (St.alloc_keep _ _)) (FRu.cells_one L) (by unfold maxLen; omega) (by omega) (by simp) ?_
       intro v5 w5 ho hg
       have HO5 : Hid (OwnsR FRu 33 w5 w4.heap.size v5 L) := OwnsR.of_row (F := FRu) ho (by simp) (by simp)
       have HB5 : Hid (Below w4.heap.size w4 w5) := Below.grown ((Below.refl _ _).alloc (Nat.le_refl _) _) hg (by simp) (by intro k hk; simp [Value.ownBlock] at hk; omega)
       clear ho hg)
    | (at_builtin
       refine St.wpList_app rfl (.tmp 40) (.tmp 43) 28 rfl w4.heap.size 33 i0 (.agg #[.bool false, .string ⟨#[]⟩]) 2 24 Tryd.underlying28 hi hz0 hz1 hz2 rfl (by decide) v5 L.length (FRu.cells L) rfl (World.ownsRow.alloc HO5.out _) (some ⟨w5.heap.size, 0, none⟩) 1 1 [.bool true, .string p] rfl (by intro e; cases e) rfl (by intro ad e; cases e; exact cell_two_new _ _ _ _) (FRu.one ⟨true, p⟩) (by unfold maxLen; omega) (by omega) (by have := HB5.out.size; simp; omega) ?_
       intro v6 w6 ho hg
       have hO6 : OwnsR FRu 33 w6 w4.heap.size v6 (L ++ [(⟨true, p⟩ : Ru)]) := OwnsR.append (F := FRu) (x := (⟨true, p⟩ : Ru)) ho
       have hbw : Below w4.heap.size w4 w6 := Below.grown (HB5.out.alloc HB5.out.size _) hg (by have := HB5.out.size; simp; omega) (OwnsR.block HO5.out)
       obtain ⟨a6, c6, hv, hI⟩ := hO6.rows
       subst hv
       have HI6 : Hid (IsRows FRu w6 a6 c6 (L ++ [(⟨true, p⟩ : Ru)])) := hI
       have HB6 : Hid (Below w.heap.size w w6) := HB4.out.trans (hbw.mono HB4.out.size)
       have HR6 : Hid (IsRows FRu w6 b1 c1 L) := IsRows.below HI4.out hbw
       clear hO6 hbw hI ho hg)
    | fail)
  refine (lets_n a6 c6 _ (L ++ [(⟨true, p⟩ : Ru)]) path _ List.length_append (HM.out.below HB6.out) HI6.out (by rw [List.length_append]; show _ + 1 ≤ _; omega) HLtrue.out hsm).mono ?_
  rintro e w7 ⟨rfl, hb⟩
  have HB7 : Hid (Below w.heap.size w w7) := HB6.out.trans (hb.mono HB6.out.size)
  have HI7 : Hid (IsRows FRu w7 b1 c1 L) := IsRows.below HR6.out hb
  clear hb
  go_wp2_with (first
    | (at_builtin
       refine St.wpList_app rfl (.tmp 47) (.tmp 48) 28 rfl w7.heap.size 33 i0 (.agg #[.bool false, .string ⟨#[]⟩]) 2 24 Tryd.underlying28 hi hz0 hz1 hz2 rfl (by decide) (.slice (some ⟨w7.heap.size, 0, none⟩) 0 0) 0 [] rfl (OwnsR.empty FRu 33 w7 w7.heap.size (Nat.le_refl _)) b1 L.length c1 (FRu.cells L) rfl HI7.out.none (FRu.cells_len L) (HI7.out.newsAny (St.alloc_keep _ _)) (FRu.cells_one L) (by unfold maxLen; omega) (by omega) (by simp) ?_
       intro v8 w8 ho hg
       have HO8 : Hid (OwnsR FRu 33 w8 w7.heap.size v8 L) := OwnsR.of_row (F := FRu) ho (by simp) (by simp)
       have HB8 : Hid (Below w7.heap.size w7 w8) := Below.grown ((Below.refl _ _).alloc (Nat.le_refl _) _) hg (by simp) (by intro k hk; simp [Value.ownBlock] at hk; omega)
       clear ho hg)
    | (at_builtin
       refine St.wpList_app rfl (.tmp 49) (.tmp 52) 28 rfl w7.heap.size 33 i0 (.agg #[.bool false, .string ⟨#[]⟩]) 2 24 Tryd.underlying28 hi hz0 hz1 hz2 rfl (by decide) v8 L.length (FRu.cells L) rfl (World.ownsRow.alloc HO8.out _) (some ⟨w8.heap.size, 0, none⟩) 1 1 [.bool false, .string p] rfl (by intro e; cases e) rfl (by intro ad e; cases e; exact cell_two_new _ _ _ _) (FRu.one ⟨false, p⟩) (by unfold maxLen; omega) (by omega) (by have := HB8.out.size; simp; omega) ?_
       intro v9 w9 ho hg
       have hO9 : OwnsR FRu 33 w9 w7.heap.size v9 (L ++ [(⟨false, p⟩ : Ru)]) := OwnsR.append (F := FRu) (x := (⟨false, p⟩ : Ru)) ho
       have hbw : Below w7.heap.size w7 w9 := Below.grown (HB8.out.alloc HB8.out.size _) hg (by have := HB8.out.size; simp; omega) (OwnsR.block HO8.out)
       obtain ⟨a9, c9, hv, hI⟩ := hO9.rows
       subst hv
       have HI9 : Hid (IsRows FRu w9 a9 c9 (L ++ [(⟨false, p⟩ : Ru)])) := hI
       have HB9 : Hid (Below w.heap.size w w9) := HB7.out.trans (hbw.mono HB7.out.size)
       have HR9 : Hid (IsRows FRu w9 b1 c1 L) := IsRows.below HI7.out hbw
       clear hO9 hbw hI ho hg)
    | fail)
  refine (lets_n a9 c9 _ (L ++ [(⟨false, p⟩ : Ru)]) path _ List.length_append (HM.out.below HB9.out) HI9.out (by rw [List.length_append]; show _ + 1 ≤ _; omega) HLfalse.out hsm).mono ?_
  rintro e w10 ⟨rfl, hb⟩
  have HB10 : Hid (Below w.heap.size w w10) := HB9.out.trans (hb.mono HB9.out.size)
  have HI10 : Hid (IsRows FRu w10 b1 c1 L) := IsRows.below HR9.out hb
  clear hb
  cases hlet : letsL L path.data.toList with
  | true =>
    have HA : Hid _ := more_let p hlet
    rw [HA.out]
    clear hlet
    go_wp2
    go_ret
    exact ⟨rfl, HB10.out⟩
  | false =>
    have HA : Hid _ := more_bar p hlet
    rw [HA.out]
    clear hlet
    go_wp2
    go_ret
    exact ⟨rfl, HB10.out⟩

theorem own : ownKnob Tryd.prog.godebug = none := by kernel_rfl
theorem laidOut : laidOutB Tryd.prog = true := by kernel_rfl

/-! ### THE ROW's STEP -/
set_option maxRecDepth 100000 in
theorem lifted (os : Os) (started : os.Started) (H : Type) (enc : TypeId × Value → H) :
    ReturnsInHanded {} Tryd.checked os 10 .any (fun w args => (Rows.fnLetsMoreSpec.pre enc Tryd.prog Tryd.f10 [] false w args ∧ laidMetH Tryd.prog Rows.fnLetsMoreRow.laid w) ∧ sizedMet enc Tryd.prog Tryd.f10 (OpenSpec.ofChange Rows.fnLetsMoreSpec) false w args)
      (Rows.fnLetsMoreSpec.post enc Tryd.prog Tryd.f10 false true false false) := by
  refine returnsInHanded_of_calls own started (by kernel_rfl)
    (ChangeSpec.witness_shaped (enc := enc) (C := Tryd.checked) (os := os) (X := fun w _ => laidMetH Tryd.prog Rows.fnLetsMoreRow.laid w) false (World.laidAll Tryd.prog os Rows.fnLetsMoreRow.laid) #[.slice none 0 0, .slice none 0 0] 8 (World.laidAll_os _ _ _)
      (World.shaped_of_ZipB (by kernel_rfl) (by kernel_rfl)) (by kernel_rfl) (by kernel_rfl) (by kernel_rfl)
      (by rw [MakeChecks.laidMetH_plain _ _ _ (by kernel_rfl)]; exact laidMet_laidAll _ (by kernel_rfl) (by kernel_rfl))) ?_
  intro w tape i _ hsh _ hok hpre _
  obtain ⟨_, _, _, fn', hfn', _, _, _, _, hval1⟩ := hok
  obtain rfl : fn' = Tryd.f10 := Option.some.inj (hfn'.symm.trans Tryd.func10)
  obtain ⟨⟨⟨ds, gs, before, hw, _⟩, hL0⟩, _⟩ := hpre
  have hW := DataW.Whole.of_heap (w' := w.forCall tape i) (by rfl) hw
  have hL : laidMetH Tryd.prog Rows.fnLetsMoreRow.laid (w.forCall tape i) := hL0.of_heap (by rfl)
  have hb : ∃ base, ∀ (j : Nat) t v, Tryd.f10.params[j]? = some t → i.args[j]? = some v → Value.okWide Tryd.prog (w.forCall tape i) .any base t v := ⟨_, hval1⟩
  clear hval1 hfn' hL0 hw
  suffices h : Calls Tryd.checked.prog 10 i.args (w.forCall tape i) fun e W' => ∃ v, e = .returned v ∧ Rows.fnLetsMoreSpec.post enc Tryd.checked.prog Tryd.f10 false true false false (w.forCall tape i) i.args v W' from
    h.mono fun e W' ⟨v, he, hp⟩ => by subst he; exact ChangeSpec.post_blind hp
  generalize hWe : w.forCall tape i = W at *
  generalize i.args = args at *
  clear hWe
  obtain ⟨base, hval⟩ := hb
  have hW' := hW
  obtain ⟨p, q, hA0, hV, rfl, hfz, hnd⟩ := hW
  have hA : DataW.TrodAll enc Tryd.prog W 0 (fun _ => true) true Tryd.f10.params.toList args.toList ds p := hA0
  rw [Tryd.params10] at hA hval
  obtain ⟨v0, vs0, d0, ds0, p0, q0, hargs, rfl, rfl, h0, r0⟩ := trodAll_cons hA
  obtain ⟨v1, vs1, d1, ds1, p1, q1, rfl, rfl, rfl, h1, r1⟩ := trodAll_cons r0
  obtain ⟨rfl, rfl, rfl⟩ := trodAll_nil r1
  obtain rfl : args = #[v0, v1] := by cases args; simp_all
  obtain ⟨rfl, rfl⟩ := trodVars_none hV
  obtain ⟨a0, len0, cap0, rfl⟩ := okWide_slice Tryd.underlying22 (hval 0 22 v0 rfl rfl)
  have k0 := h0
  have lt0 : ∀ x ∈ p0, x.block < W.heap.size := by obtain ⟨m, hm⟩ := k0; exact DataW.trod_lt m _ _ _ hm
  obtain ⟨z0, w0⟩ : ∃ zs, Dr.IsRow .u8 W a0 len0 cap0 zs := by
    obtain ⟨fuel, hf⟩ := h0
    rcases open_ints Tryd.underlying22 Tryd.underlying5 (by kernel_rfl) hf with ⟨hcs, _⟩ | ⟨x, l, c, zs, hcs, _, hl, hm, hz, _, hcell, hwz⟩
    · simp [Value.cells] at hcs
      obtain ⟨rfl, rfl, rfl⟩ := hcs
      exact ⟨[], .inl ⟨rfl, rfl, rfl, rfl⟩⟩
    · simp [Value.cells] at hcs
      obtain ⟨rfl, rfl, rfl⟩ := hcs
      exact ⟨zs, .inr ⟨_, rfl, hl, hm, by simpa using hz, hcell, hwz⟩⟩
  obtain ⟨a1, len1, cap1, rfl⟩ := okWide_slice Tryd.underlying22 (hval 1 22 v1 rfl rfl)
  have k1 := h1
  have lt1 : ∀ x ∈ p1, x.block < W.heap.size := by obtain ⟨m, hm⟩ := k1; exact DataW.trod_lt m _ _ _ hm
  obtain ⟨z1, w1⟩ : ∃ zs, Dr.IsRow .u8 W a1 len1 cap1 zs := by
    obtain ⟨fuel, hf⟩ := h1
    rcases open_ints Tryd.underlying22 Tryd.underlying5 (by kernel_rfl) hf with ⟨hcs, _⟩ | ⟨x, l, c, zs, hcs, _, hl, hm, hz, _, hcell, hwz⟩
    · simp [Value.cells] at hcs
      obtain ⟨rfl, rfl, rfl⟩ := hcs
      exact ⟨[], .inl ⟨rfl, rfl, rfl, rfl⟩⟩
    · simp [Value.cells] at hcs
      obtain ⟨rfl, rfl, rfl⟩ := hcs
      exact ⟨zs, .inr ⟨_, rfl, hl, hm, by simpa using hz, hcell, hwz⟩⟩
  clear hA0
  refine (walk a0 len0 cap0 z0 a1 len1 cap1 z1 W w0 w1 hL hsh).mono fun e W' ⟨he, bel⟩ => ?_
  subst he
  exact ⟨_, rfl, _, _, _, [], _, [], hW', trodAll_mk1 (shut_bool Tryd.underlying4 _), (trodAll_cons_mk (Below.trod laidOut (by kernel_rfl) (of_decide_eq_true (by kernel_rfl)) k0 bel lt0) (trodAll_cons_mk (Below.trod laidOut (by kernel_rfl) (of_decide_eq_true (by kernel_rfl)) k1 bel lt1) trodAll_mk0)), rfl, bel.frame _, fun h => by cases h⟩

theorem over : Rows.fnLetsMoreRow.holds Tryd.pinned (OpenSpec.ofChange Rows.fnLetsMoreSpec) :=
  OpenClaim.holds_of_wide 10 Tryd.f10 rfl rfl rfl rfl rfl rfl rfl ⟨rfl, rfl, rfl, rfl, rfl⟩ rfl rfl rfl rfl rfl (by kernel_rfl) Tryd.func10 (by kernel_rfl)
    (of_decide_eq_true (by kernel_rfl)) (by unfold Func.isWrapper; first | (rw [if_pos (by decide +kernel)]; kernel_rfl) | (rw [if_neg (by decide +kernel)]; exact ⟨rfl, rfl⟩))
    (fun os started H enc _ => lifted os started H enc)

theorem proved : Rows.FnLetsMoreCardSaid :=
  Claim7.holds_tied_plain_at .later [] [.data, .pinned] true _ false over (fun _ h => by cases h) (by kernel_rfl) (fun _ h => by cases h) fnLetsMore_row_tie rfl ⟨rfl, rfl⟩ (by kernel_rfl) rfl
    (fun f fn hf hfn => by
      obtain rfl : f = 10 := Option.some.inj ((show Tryd.prog.funcNamed "loop.example/pedlar/laws.FnLetsMore" = some 10 by kernel_rfl).symm.trans hf) |>.symm
      obtain rfl : fn = Tryd.f10 := (Option.some.inj (Tryd.func10.symm.trans hfn)).symm
      exact ⟨by kernel_rfl, fun j t ht => by
        rw [Tryd.params10] at ht
        have hm : t ∈ [22, 22] := by simpa using Array.mem_of_getElem? ht
        have hall : ([22, 22].all fun u => !Tryd.prog.wantsStandIn u) = true := by kernel_rfl
        exact (show Tryd.prog.wantsStandIn t = false by simpa using List.all_eq_true.1 hall t hm)⟩)
    (by kernel_rfl)
end Go.Proofs.YtemobclefdodjaaDoor.fnLetsMore
