/- FnAddrBack: for every code, the address drawn of it, if it is ok, is read back from its text. The card ties two tables of unicode/utf8 to the program's text; no other condition. -/
import Derived.Test.YtfobhgmkecghdaaDoorRows
import Derived.WalkKit
import Derived.ProofKit
import Derived.OpenShut
import Derived.ShutString
import Derived.ChangeOld
import Derived.Below
import Derived.Test.YtfobhgmkecghdaaDoorCards
import Derived.Test.YtfobhgmkecghdaaDoorTie
import Derived.Test.YtfobhgmkecghdaaDoorTwo
import Derived.Test.YtfobhgmkecghdaaDoorImpl3
import Derived.Shelf.Vars
import Derived.Lay
import Derived.LaidOnce
import Derived.SevenTiedAt
namespace Go.Proofs.YtfobhgmkecghdaaDoor.fnAddrBack
open Go.ChangeShapes Go.WideShapes Go.ChangeAt Go.RowKit
open Go.ChangeMaps (open_string shut_string)
set_option linter.unusedVariables false
open Go.Proofs.YtfobhgmkecghdaaDoor.St Go.Proofs.YtfobhgmkecghdaaDoor.AddrM Go.Proofs.YtfobhgmkecghdaaDoor.EscL Go.Proofs.YtfobhgmkecghdaaDoor.Ad1 Go.Proofs.YtfobhgmkecghdaaDoor.Dr Go.Proofs.YtfobhgmkecghdaaDoor.Tw Go.Proofs.YtfobhgmkecghdaaDoor.RB Go.Proofs.YtfobhgmkecghdaaDoor.Im Go.Proofs.YtfobhgmkecghdaaDoor.Rd1

theorem mx_of {w : World} (h : w.ShapedOpen Tryd.prog) : Mx w :=
  cell_of_shapedOpen_int (g := 0) (t := 3) (zero := #[.int .i64 0]) (k := .i64) h (of_decide_eq_true (by kernel_rfl)) (by kernel_rfl) rfl (by kernel_rfl) (by kernel_rfl) Tryd.underlying3
theorem text_some {A : Ad} (h : okB A = true) : (textF A).toList.isEmpty = false := by
  have e2 : textF A = textS A := by unfold textF; rw [h]; rfl
  rw [e2, ByteArray.toList_eq]
  simp [textS, textL]
theorem text_none {A : Ad} (h : okB A = false) : (textF A).toList.isEmpty = true := by
  have e2 : textF A = ⟨#[]⟩ := by unfold textF; rw [h]; rfl
  rw [e2, ByteArray.toList_eq]; rfl
theorem text_data {A : Ad} (h : okB A = true) : (textF A).data.toList = textL A := by
  have e2 : textF A = textS A := by unfold textF; rw [h]; rfl
  rw [e2]; simp [textS]
theorem same_self (A : Ad) : sameB A A = true := (same_iff A A).2 rfl

set_option maxRecDepth 100000 in
set_option maxHeartbeats 6400000 in
theorem walk (a0 : Option Addr) (len0 cap0 : Nat) (z0 : List Int) (w : World) (w0 : Dr.IsRow .u8 w a0 len0 cap0 z0) (hL : laidMetH Tryd.prog Rows.fnAddrBackRow.laid w) (hsh : w.ShapedOpen Tryd.prog) :
    Calls Tryd.prog 3 #[.slice a0 len0 cap0] w fun e w' => e = .returned (.bool true) ∧ Below w.heap.size w w' := by
  have HM : Hid (Mx w) := mx_of hsh
  clear hsh hL
  by_cases hlong : (1048576 : Int) < len0
  · go_enter Tryd.func3, Tryd.ntmps3
    go_wp2
    go_ret
    exact ⟨rfl, Below.refl _ _⟩
  · go_enter Tryd.func3, Tryd.ntmps3
    go_wp2_with fail
    refine (Dr.drawDrawAddrText_any a0 len0 cap0 z0 w w0).mono ?_
    rintro e w1 ⟨A, a1, c1, rfl, hO, hk, hb1⟩
    have HO1 : Hid (Owns w1 w.heap.size (.slice a1 A.parts.length c1) A.parts) := hO
    have hk4 : bulkA A ≤ 4194304 := by omega
    have hl4 : A.parts.length ≤ 4194304 := by unfold bulkA at hk; omega
    clear hO
    have HX1 : Hid (Dr.Box (w1.alloc (.cells #[.string A.house, .slice a1 A.parts.length c1, .bool A.asks, .string A.ask] 25)) w1.heap.size (.string A.house) (.slice a1 A.parts.length c1) (.bool A.asks) (.string A.ask)) := Dr.heap_new w1 _
    have HB1 : Hid (Below w.heap.size w (w1.alloc (.cells #[.string A.house, .slice a1 A.parts.length c1, .bool A.asks, .string A.ask] 25))) := hb1.alloc hb1.size _
    have HO1a : Hid (Owns (w1.alloc (.cells #[.string A.house, .slice a1 A.parts.length c1, .bool A.asks, .string A.ask] 25)) w.heap.size (.slice a1 A.parts.length c1) A.parts) := Owns.keep HO1.out (alloc_keep w1 _)
    obtain ⟨G, hG⟩ : ∃ G, w1.heap.size = G := ⟨_, rfl⟩
    rw [hG] at HX1
    clear hb1
    go_wp2_with fail
    refine (implAddrText_any A a1 c1 _ (Owns.strsOf HO1a.out) hk4).mono ?_
    rintro e w2 ⟨rfl, hb2⟩
    have HX2 : Hid (Dr.Box w2 G (.string A.house) (.slice a1 A.parts.length c1) (.bool A.asks) (.string A.ask)) := HX1.out.grown (grown_of_below none hb2) (by simp)
    have HO2 : Hid (Owns w2 w.heap.size (.slice a1 A.parts.length c1) A.parts) := Owns.below HO1a.out hb2
    have HB2 : Hid (Below w.heap.size w w2) := HB1.out.trans (hb2.mono HB1.out.size)
    clear hb2 HX1 HO1 HO1a HB1 hG
    have hx2 := HX2.out
    obtain ⟨⟨c0, c1', c2, c3⟩, fz⟩ := hx2.cells
    clear hx2
    have hpz := Dr.textF_size A
    go_wp2_with fail
    refine (specAddrText_any A a1 c1 _ (Owns.strsOf HO2.out) hk4).mono ?_
    rintro e w3 ⟨rfl, hb3⟩
    have HX3 : Hid (Dr.Box w3 G (.string A.house) (.slice a1 A.parts.length c1) (.bool A.asks) (.string A.ask)) := HX2.out.grown (grown_of_below none hb3) (by simp)
    have HO3 : Hid (Owns w3 w.heap.size (.slice a1 A.parts.length c1) A.parts) := Owns.below HO2.out hb3
    have HB3 : Hid (Below w.heap.size w w3) := HB2.out.trans (hb3.mono HB2.out.size)
    clear hb3 HX2 HO2 HB2 c0 c1' c2 c3 fz
    have hx3 := HX3.out
    obtain ⟨⟨c0, c1', c2, c3⟩, fz⟩ := hx3.cells
    clear hx3
    cases hok : okB A with
    | false =>
      have t1 := text_none hok
      go_wp2_with fail
      refine (specAddrText_any A a1 c1 _ (Owns.strsOf HO3.out) hk4).mono ?_
      rintro e w5 ⟨rfl, hb5⟩
      go_wp2
      go_ret
      exact ⟨rfl, HB3.out.trans (hb5.mono HB3.out.size)⟩
    | true =>
      have t1 := text_some hok
      have HRB : Hid (readF (textF A).data.toList = some A) := by show _ = _; rw [text_data hok]; exact read_back hok
      have HAS : Hid (ascii (textF A)) := by
        show ascii _
        rw [ascii_mem, text_data hok]
        exact fun b hb => (text_bytes hok b hb).2
      have HM3 : Hid (Mx w3) := HM.out.keep fun k hk => HB3.out.block k hk
      clear hok
      go_wp2_with fail
      refine (implRead_ascii (textF A) _ HM3.out hpz HAS.out).mono ?_
      rintro e w5 ⟨A', ok, x5, c5, rfl, hans, hO5, hb5⟩
      rw [HRB.out] at hans
      obtain ⟨rfl, hA'⟩ : ok = true ∧ A' = A := by
        rcases hans with ⟨h1, h2⟩ | ⟨_, h2, _⟩
        · exact ⟨h1, (Option.some.inj h2).symm⟩
        · cases h2
      subst hA'
      clear hans
      have hbx : Below w3.heap.size w3 (w5.alloc (.cells #[.string A'.house, .slice x5 A'.parts.length c5, .bool A'.asks, .string A'.ask] 25)) := hb5.alloc hb5.size _
      have HX5 : Hid (Dr.Box (w5.alloc (.cells #[.string A'.house, .slice x5 A'.parts.length c5, .bool A'.asks, .string A'.ask] 25)) G (.string A'.house) (.slice a1 A'.parts.length c1) (.bool A'.asks) (.string A'.ask)) := HX3.out.grown (grown_of_below none hbx) (by simp)
      have HO5 : Hid (IsStrs (w5.alloc (.cells #[.string A'.house, .slice x5 A'.parts.length c5, .bool A'.asks, .string A'.ask] 25)) a1 c1 A'.parts) := (Owns.strsOf HO3.out).below hbx
      have HP5 : Hid (IsStrs (w5.alloc (.cells #[.string A'.house, .slice x5 A'.parts.length c5, .bool A'.asks, .string A'.ask] 25)) x5 c5 A'.parts) := (Owns.strsOf hO5).keep (alloc_keep w5 _)
      have HB5 : Hid (Below w.heap.size w (w5.alloc (.cells #[.string A'.house, .slice x5 A'.parts.length c5, .bool A'.asks, .string A'.ask] 25))) := HB3.out.trans (hbx.mono HB3.out.size)
      clear hb5 hbx hO5 c0 c1' c2 c3 fz
      have hx5 := HX5.out
      obtain ⟨⟨c0, c1', c2, c3⟩, fz⟩ := hx5.cells
      clear hx5
      go_wp2_with fail
      refine (lpAddr_any A' A' x5 c5 a1 c1 _ HP5.out HO5.out hl4 hl4).mono ?_
      rintro e w6 ⟨rfl, hb6⟩
      rw [same_self]
      have HB6 : Hid (Below w.heap.size w w6) := HB5.out.trans (hb6.mono HB5.out.size)
      clear hb6
      go_wp2
      go_ret
      exact ⟨ret_bool (decide_eq_true (by omega)), HB6.out⟩

theorem own : ownKnob Tryd.prog.godebug = none := by kernel_rfl
theorem laidOut : laidOutB Tryd.prog = true := by kernel_rfl

/-! ### THE ROW's STEP -/
set_option maxRecDepth 100000 in
theorem lifted (os : Os) (started : os.Started) (H : Type) (enc : TypeId × Value → H) :
    ReturnsInHanded {} Tryd.checked os 3 .any (fun w args => (Rows.fnAddrBackSpec.pre enc Tryd.prog Tryd.f3 [] false w args ∧ laidMetH Tryd.prog Rows.fnAddrBackRow.laid w) ∧ sizedMet enc Tryd.prog Tryd.f3 (OpenSpec.ofChange Rows.fnAddrBackSpec) false w args)
      (Rows.fnAddrBackSpec.post enc Tryd.prog Tryd.f3 false true false false) := by
  refine returnsInHanded_of_calls own started (by kernel_rfl)
    (ChangeSpec.witness_shaped (enc := enc) (C := Tryd.checked) (os := os) (X := fun w _ => laidMetH Tryd.prog Rows.fnAddrBackRow.laid w) false (World.laidAll Tryd.prog os Rows.fnAddrBackRow.laid) #[.slice none 0 0] 8 (World.laidAll_os _ _ _)
      (World.shaped_of_ZipB (by kernel_rfl) (by kernel_rfl)) (by kernel_rfl) (by kernel_rfl) (by kernel_rfl)
      (by rw [MakeChecks.laidMetH_plain _ _ _ (by kernel_rfl)]; exact laidMet_laidAll _ (by kernel_rfl) (by kernel_rfl))) ?_
  intro w tape i _ hsh _ hok hpre _
  obtain ⟨_, _, _, fn', hfn', _, _, _, _, hval1⟩ := hok
  obtain rfl : fn' = Tryd.f3 := Option.some.inj (hfn'.symm.trans Tryd.func3)
  obtain ⟨⟨⟨ds, gs, before, hw, _⟩, hL0⟩, _⟩ := hpre
  have hW := DataW.Whole.of_heap (w' := w.forCall tape i) (by rfl) hw
  have hL : laidMetH Tryd.prog Rows.fnAddrBackRow.laid (w.forCall tape i) := hL0.of_heap (by rfl)
  have hb : ∃ base, ∀ (j : Nat) t v, Tryd.f3.params[j]? = some t → i.args[j]? = some v → Value.okWide Tryd.prog (w.forCall tape i) .any base t v := ⟨_, hval1⟩
  clear hval1 hfn' hL0 hw
  suffices h : Calls Tryd.checked.prog 3 i.args (w.forCall tape i) fun e W' => ∃ v, e = .returned v ∧ Rows.fnAddrBackSpec.post enc Tryd.checked.prog Tryd.f3 false true false false (w.forCall tape i) i.args v W' from
    h.mono fun e W' ⟨v, he, hp⟩ => by subst he; exact ChangeSpec.post_blind hp
  generalize hWe : w.forCall tape i = W at *
  generalize i.args = args at *
  clear hWe
  obtain ⟨base, hval⟩ := hb
  have hW' := hW
  obtain ⟨p, q, hA0, hV, rfl, hfz, hnd⟩ := hW
  have hA : DataW.TrodAll enc Tryd.prog W 0 (fun _ => true) true Tryd.f3.params.toList args.toList ds p := hA0
  rw [Tryd.params3] at hA hval
  obtain ⟨v0, vs0, d0, ds0, p0, q0, hargs, rfl, rfl, h0, r0⟩ := trodAll_cons hA
  obtain ⟨rfl, rfl, rfl⟩ := trodAll_nil r0
  obtain rfl : args = #[v0] := by cases args; simp_all
  obtain ⟨rfl, rfl⟩ := trodVars_none hV
  obtain ⟨a0, len0, cap0, rfl⟩ := okWide_slice Tryd.underlying22 (hval 0 22 v0 rfl rfl)
  have k0 := h0
  have lt0 : ∀ x ∈ p0, x.block < W.heap.size := by obtain ⟨m, hm⟩ := k0; exact DataW.trod_lt m _ _ _ hm
  obtain ⟨z0, w0⟩ : ∃ zs, Dr.IsRow .u8 W a0 len0 cap0 zs := by
    obtain ⟨fuel, hf⟩ := h0
    rcases open_ints Tryd.underlying22 Tryd.underlying5 (by kernel_rfl) hf with ⟨hcs, _⟩ | ⟨x, l, c, zs, hcs, _, hl, hm, hz, _, hcell, hwz⟩
    · simp [Value.cells] at hcs
      obtain ⟨rfl, rfl, rfl⟩ := hcs
      exact ⟨[], .inl ⟨rfl, rfl, rfl, rfl⟩⟩
    · simp [Value.cells] at hcs
      obtain ⟨rfl, rfl, rfl⟩ := hcs
      exact ⟨zs, .inr ⟨_, rfl, hl, hm, by simpa using hz, hcell, hwz⟩⟩
  clear hA0
  refine (walk a0 len0 cap0 z0 W w0 hL hsh).mono fun e W' ⟨he, bel⟩ => ?_
  subst he
  exact ⟨_, rfl, _, _, _, [], _, [], hW', trodAll_mk1 (shut_bool Tryd.underlying4 _), (trodAll_cons_mk (Below.trod laidOut (by kernel_rfl) (of_decide_eq_true (by kernel_rfl)) k0 bel lt0) trodAll_mk0), rfl, bel.frame _, fun h => by cases h⟩

theorem over : Rows.fnAddrBackRow.holds Tryd.pinned (OpenSpec.ofChange Rows.fnAddrBackSpec) :=
  OpenClaim.holds_of_wide 3 Tryd.f3 rfl rfl rfl rfl rfl rfl rfl ⟨rfl, rfl, rfl, rfl, rfl⟩ rfl rfl rfl rfl rfl (by kernel_rfl) Tryd.func3 (by kernel_rfl)
    (of_decide_eq_true (by kernel_rfl)) (by unfold Func.isWrapper; first | (rw [if_pos (by decide +kernel)]; kernel_rfl) | (rw [if_neg (by decide +kernel)]; exact ⟨rfl, rfl⟩))
    (fun os started H enc _ => lifted os started H enc)

theorem proved : Rows.FnAddrBackCardSaid :=
  Claim7.holds_tied_plain_at .later [] [.data, .pinned] true _ false over (fun _ h => by cases h) (by kernel_rfl) (fun _ h => by cases h) fnAddrBack_row_tie rfl ⟨rfl, rfl⟩ (by kernel_rfl) rfl
    (fun f fn hf hfn => by
      obtain rfl : f = 3 := Option.some.inj ((show Tryd.prog.funcNamed "loop.example/pedlar/laws.FnAddrBack" = some 3 by kernel_rfl).symm.trans hf) |>.symm
      obtain rfl : fn = Tryd.f3 := (Option.some.inj (Tryd.func3.symm.trans hfn)).symm
      exact ⟨by kernel_rfl, fun j t ht => by
        rw [Tryd.params3] at ht
        have hm : t ∈ [22] := by simpa using Array.mem_of_getElem? ht
        have hall : ([22].all fun u => !Tryd.prog.wantsStandIn u) = true := by kernel_rfl
        exact (show Tryd.prog.wantsStandIn t = false by simpa using List.all_eq_true.1 hall t hm)⟩)
    (by kernel_rfl)
end Go.Proofs.YtfobhgmkecghdaaDoor.fnAddrBack
