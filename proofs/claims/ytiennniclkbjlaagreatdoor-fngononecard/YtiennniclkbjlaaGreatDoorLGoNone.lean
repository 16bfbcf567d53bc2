/- FnGoNone: for every code, of the caller and the addresses drawn of it a trip through no pages at all is told if it is one; it is done, looks at nothing but what it begins with, at all that it saw, and once at each and at each door. The card ties two tables of unicode/utf8 and the two errors of trips to the program's text; no other condition. -/
import Derived.Test.YtiennniclkbjlaaGreatDoorRows
import Derived.WalkKit
import Derived.ProofKit
import Derived.OpenShut
import Derived.ShutString
import Derived.ChangeOld
import Derived.Below
import Derived.Test.YtiennniclkbjlaaGreatDoorCards
import Derived.Test.YtiennniclkbjlaaGreatDoorTie
import Derived.Test.YtiennniclkbjlaaGreatDoorWGoNone
import Derived.Shelf.Vars
import Derived.Lay
import Derived.LaidOnce
import Derived.LaidSub
import Derived.Stop.LaidTwo
import Derived.SevenTiedAt
namespace Go.Proofs.YtiennniclkbjlaaGreatDoor.fnGoNone
open Go.ChangeShapes Go.WideShapes Go.ChangeAt Go.RowKit
open Go.ChangeMaps (open_string shut_string)
set_option linter.unusedVariables false
open Go.Proofs.YtiennniclkbjlaaGreatDoor.EscL Go.Proofs.YtiennniclkbjlaaGreatDoor.EscM Go.Proofs.YtiennniclkbjlaaGreatDoor.St Go.Proofs.YtiennniclkbjlaaGreatDoor.RR Go.Proofs.YtiennniclkbjlaaGreatDoor.RoPg Go.Proofs.YtiennniclkbjlaaGreatDoor.WdM Go.Proofs.YtiennniclkbjlaaGreatDoor.Wd Go.Proofs.YtiennniclkbjlaaGreatDoor.Dr

theorem gC : Tryz.prog.globalNamed "loop.example/pedlar/impl.errNoCall" = some 0 := by kernel_rfl
theorem gCT : (Tryz.prog.globals[0]?).map (·.type) = some 76 := by kernel_rfl
theorem gN : Tryz.prog.globalNamed "loop.example/pedlar/impl.errNotOk" = some 1 := by kernel_rfl
theorem gNT : (Tryz.prog.globals[1]?).map (·.type) = some 76 := by kernel_rfl
theorem szE : Tryz.prog.cellsOf 272 = 1 := by kernel_rfl
theorem szS : Tryz.prog.cellsOf 9 = 1 := by kernel_rfl
theorem starE : "*" ++ "errors.errorString" = "*errors.errorString" := by decide
theorem rowE (u : TypeId) (h : Tryz.prog.typeName? 3 u = some "*errors.errorString") : u = 249 :=
  typeName_ptr_named (nm := "errors.errorString") (by rw [starE]; kernel_rfl) (by kernel_rfl) (by decide) u (by rw [starE]; exact h)
theorem var_below {P : Program} {w w' : World} {n : String} {g B : Nat} {cs : Array Value} (h : w.var? P n = some cs) (hg : P.globalNamed n = some g) (hb : Below B w w') (hlt : g < B) : w'.var? P n = some cs := by
  unfold World.var? at h ⊢
  rw [hg] at h ⊢
  simp only [Option.bind_some] at h ⊢
  rw [hb.block g hlt]
  exact h
abbrev two : List (String × DataW Unit) := [("loop.example/pedlar/impl.errNotOk", Rows.laid_loop_example_pedlar_impl_errNotOk), ("loop.example/pedlar/impl.errNoCall", Rows.laid_loop_example_pedlar_impl_errNoCall)]
theorem errs_of {W : World} (hL : laidMetH Tryz.prog Rows.fnGoNoneRow.laid W) :
    ∃ ea eb : Addr, W.var? Tryz.prog "loop.example/pedlar/impl.errNoCall" = some #[.iface 249 (.pointer (some ea))] ∧ W.var? Tryz.prog "loop.example/pedlar/impl.errNotOk" = some #[.iface 249 (.pointer (some eb))] ∧ Tn.Errs W ea eb := by
  have h1 := hL.filter fun x => x.1 == "loop.example/pedlar/impl.errNotOk" || x.1 == "loop.example/pedlar/impl.errNoCall"
  have e : (Rows.fnGoNoneRow.laid.filter fun x => x.1 == "loop.example/pedlar/impl.errNotOk" || x.1 == "loop.example/pedlar/impl.errNoCall") = two := by kernel_rfl
  rw [e, MakeChecks.laidMetH_plain _ _ _ (by kernel_rfl)] at h1
  obtain ⟨a0, a1, s0, s1, c0, c1, t0, t1, hv0, hv1, hc0, hs0, hz0, hc1, hs1, hz1, hne, hb0, hb1⟩ := laid_sentinels2 h1 gN gNT gC gCT Tryz.underlying76 rowE Tryz.underlying249 Tryz.underlying272 rfl rfl Tryz.underlying9 szE szS
  exact ⟨a1, a0, hv1, hv0, by simpa using World.var?_cell gC hv1 0, by simpa using World.var?_cell gN hv0 0, hne, ⟨c1, t1, hb1⟩, ⟨c0, t0, hb0⟩⟩
theorem own : ownKnob Tryz.prog.godebug = none := by kernel_rfl
theorem laidOut : laidOutB Tryz.prog = true := by kernel_rfl

/-! ### THE ROW's STEP -/
set_option maxRecDepth 100000 in
theorem lifted (os : Os) (started : os.Started) (H : Type) (enc : TypeId × Value → H) :
    ReturnsInHanded {} Tryz.checked os 8 .any (fun w args => (Rows.fnGoNoneSpec.pre enc Tryz.prog Tryz.f8 [] false w args ∧ laidMetH Tryz.prog Rows.fnGoNoneRow.laid w) ∧ sizedMet enc Tryz.prog Tryz.f8 (OpenSpec.ofChange Rows.fnGoNoneSpec) false w args)
      (Rows.fnGoNoneSpec.post enc Tryz.prog Tryz.f8 false true false false) := by
  refine returnsInHanded_of_calls own started (by kernel_rfl)
    (ChangeSpec.witness_shaped (enc := enc) (C := Tryz.checked) (os := os) (X := fun w _ => laidMetH Tryz.prog Rows.fnGoNoneRow.laid w) false (World.laidAll Tryz.prog os Rows.fnGoNoneRow.laid) #[.slice none 0 0] 8 (World.laidAll_os _ _ _)
      (World.shaped_of_ZipB (by kernel_rfl) (by kernel_rfl)) (by kernel_rfl) (by kernel_rfl) (by kernel_rfl)
      (by rw [MakeChecks.laidMetH_plain _ _ _ (by kernel_rfl)]; exact laidMet_laidAll _ (by kernel_rfl) (by kernel_rfl))) ?_
  intro w tape i _ hsh _ hok hpre _
  obtain ⟨_, _, _, fn', hfn', _, _, _, _, hval1⟩ := hok
  obtain rfl : fn' = Tryz.f8 := Option.some.inj (hfn'.symm.trans Tryz.func8)
  obtain ⟨⟨⟨ds, gs, before, hw, _⟩, hL0⟩, _⟩ := hpre
  have hW := DataW.Whole.of_heap (w' := w.forCall tape i) (by rfl) hw
  have hL : laidMetH Tryz.prog Rows.fnGoNoneRow.laid (w.forCall tape i) := hL0.of_heap (by rfl)
  have hb : ∃ base, ∀ (j : Nat) t v, Tryz.f8.params[j]? = some t → i.args[j]? = some v → Value.okWide Tryz.prog (w.forCall tape i) .any base t v := ⟨_, hval1⟩
  clear hval1 hfn' hL0 hw
  suffices h : Calls Tryz.checked.prog 8 i.args (w.forCall tape i) fun e W' => ∃ v, e = .returned v ∧ Rows.fnGoNoneSpec.post enc Tryz.checked.prog Tryz.f8 false true false false (w.forCall tape i) i.args v W' from
    h.mono fun e W' ⟨v, he, hp⟩ => by subst he; exact ChangeSpec.post_blind hp
  generalize hWe : w.forCall tape i = W at *
  generalize i.args = args at *
  clear hWe
  obtain ⟨base, hval⟩ := hb
  have hW' := hW
  obtain ⟨p, q, hA0, hV, rfl, hfz, hnd⟩ := hW
  have hA : DataW.TrodAll enc Tryz.prog W 0 (fun _ => true) true Tryz.f8.params.toList args.toList ds p := hA0
  rw [Tryz.params8] at hA hval
  obtain ⟨v0, vs0, d0, ds0, p0, q0, hargs, rfl, rfl, h0, r0⟩ := trodAll_cons hA
  obtain ⟨rfl, rfl, rfl⟩ := trodAll_nil r0
  obtain rfl : args = #[v0] := by cases args; simp_all
  obtain ⟨ea, eb, hvC, hvN, hE⟩ := errs_of hL
  have hMx : Im.Mx W := mx_of hsh
  have vr : ∀ {X : World}, X.var? Tryz.prog "loop.example/pedlar/impl.errNoCall" = some #[.iface 249 (.pointer (some ea))] → X.var? Tryz.prog "loop.example/pedlar/impl.errNotOk" = some #[.iface 249 (.pointer (some eb))] → ∀ sp : Nat → Bool,
      DataW.TrodVars enc Tryz.prog X sp ["loop.example/pedlar/impl.errNoCall", "loop.example/pedlar/impl.errNotOk"] [tok enc (.iface 249 (.pointer (some ea))), tok enc (.iface 249 (.pointer (some eb)))] [.cell 0 0, .cell 1 0] :=
    fun x0 x1 sp => vars_read2 enc gC gCT Tryz.underlying76 x0 trivial gN gNT Tryz.underlying76 x1 trivial sp
  have hV' : DataW.TrodVars enc Tryz.prog W (fun _ => true) ["loop.example/pedlar/impl.errNoCall", "loop.example/pedlar/impl.errNotOk"] gs q := hV
  obtain ⟨rfl, rfl⟩ := hV'.unique (vr hvC hvN _)
  obtain ⟨a0, len0, cap0, rfl⟩ := okWide_slice Tryz.underlying22 (hval 0 22 v0 rfl rfl)
  have k0 := h0
  have lt0 : ∀ x ∈ p0, x.block < W.heap.size := by obtain ⟨m, hm⟩ := k0; exact DataW.trod_lt m _ _ _ hm
  obtain ⟨z0, w0⟩ : ∃ zs, Dr.IsRow .u8 W a0 len0 cap0 zs := by
    obtain ⟨fuel, hf⟩ := h0
    rcases open_ints Tryz.underlying22 Tryz.underlying5 (by kernel_rfl) hf with ⟨hcs, _⟩ | ⟨x, l, c, zs, hcs, _, hl, hm, hz, _, hcell, hwz⟩
    · simp [Value.cells] at hcs
      obtain ⟨rfl, rfl, rfl⟩ := hcs
      exact ⟨[], .inl ⟨rfl, rfl, rfl, rfl⟩⟩
    · simp [Value.cells] at hcs
      obtain ⟨rfl, rfl, rfl⟩ := hcs
      exact ⟨zs, .inr ⟨_, rfl, hl, hm, by simpa using hz, hcell, hwz⟩⟩
  clear hA0
  refine (walk a0 len0 cap0 z0 ea eb W w0 hMx hE).mono fun e W' ⟨he, bel⟩ => ?_
  subst he
  exact ⟨_, rfl, _, _, _, [], _, _, hW', trodAll_mk1 (shut_bool Tryz.underlying4 _), (trodAll_cons_mk (Below.trod laidOut (by kernel_rfl) (of_decide_eq_true (by kernel_rfl)) k0 bel lt0) trodAll_mk0), vr (var_below hvC gC bel (St.cell_block hE.c)) (var_below hvN gN bel (St.cell_block hE.n)) _, bel.frame _, fun h => by cases h⟩

theorem over : Rows.fnGoNoneRow.holds Tryz.pinned (OpenSpec.ofChange Rows.fnGoNoneSpec) :=
  OpenClaim.holds_of_wide 8 Tryz.f8 rfl rfl rfl rfl rfl rfl rfl ⟨rfl, rfl, rfl, rfl, rfl⟩ rfl rfl rfl rfl rfl (by kernel_rfl) Tryz.func8 (by kernel_rfl)
    (of_decide_eq_true (by kernel_rfl)) (by unfold Func.isWrapper; first | (rw [if_pos (by decide +kernel)]; kernel_rfl) | (rw [if_neg (by decide +kernel)]; exact ⟨rfl, rfl⟩))
    (fun os started H enc _ => lifted os started H enc)

theorem proved : Rows.FnGoNoneCardSaid :=
  Claim7.holds_tied_plain_at .later [] [.data, .sentinel, .sentinel, .pinned] true _ true over (fun _ h => by cases h) (by kernel_rfl) (fun _ h => by cases h) fnGoNone_row_tie rfl ⟨rfl, rfl⟩ (by kernel_rfl) rfl
    (fun f fn hf hfn => by
      obtain rfl : f = 8 := Option.some.inj ((show Tryz.prog.funcNamed "loop.example/pedlar/laws.FnGoNone" = some 8 by kernel_rfl).symm.trans hf) |>.symm
      obtain rfl : fn = Tryz.f8 := (Option.some.inj (Tryz.func8.symm.trans hfn)).symm
      exact ⟨by kernel_rfl, fun j t ht => by
        rw [Tryz.params8] at ht
        have hm : t ∈ [22] := by simpa using Array.mem_of_getElem? ht
        have hall : ([22].all fun u => !Tryz.prog.wantsStandIn u) = true := by kernel_rfl
        exact (show Tryz.prog.wantsStandIn t = false by simpa using List.all_eq_true.1 hall t hm)⟩)
    (by kernel_rfl)
end Go.Proofs.YtiennniclkbjlaaGreatDoor.fnGoNone
