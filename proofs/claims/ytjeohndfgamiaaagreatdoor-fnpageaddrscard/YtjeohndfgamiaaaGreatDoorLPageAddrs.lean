/- FnPageAddrs: for every code, PageAddrs of the address and the page drawn of it answers as the model's; all are addresses as they are written, each once. The card ties two tables of unicode/utf8 to the program's text; no other condition. -/
import Derived.Test.YtjeohndfgamiaaaGreatDoorRows
import Derived.WalkKit
import Derived.ProofKit
import Derived.OpenShut
import Derived.ShutString
import Derived.ChangeOld
import Derived.Below
import Derived.Test.YtjeohndfgamiaaaGreatDoorCards
import Derived.Test.YtjeohndfgamiaaaGreatDoorTie
import Derived.Test.YtjeohndfgamiaaaGreatDoorDraw10
import Derived.Lay
import Derived.LaidOnce
import Derived.SevenTiedAt
import Derived.Test.YtjeohndfgamiaaaGreatDoorDraw13
import Derived.Test.YtjeohndfgamiaaaGreatDoorPgA2Pk
import Derived.Test.YtjeohndfgamiaaaGreatDoorPgA5
import Derived.Test.YtjeohndfgamiaaaGreatDoorPgLaws
namespace Go.Proofs.YtjeohndfgamiaaaGreatDoor.fnPageAddrs
open Go.ChangeShapes Go.WideShapes Go.ChangeAt Go.RowKit
open Go.ChangeMaps (open_string shut_string)
set_option linter.unusedVariables false
open Go.Proofs.YtjeohndfgamiaaaGreatDoor.EscM Go.Proofs.YtjeohndfgamiaaaGreatDoor.St Go.Proofs.YtjeohndfgamiaaaGreatDoor.AddrM Go.Proofs.YtjeohndfgamiaaaGreatDoor.ReadM Go.Proofs.YtjeohndfgamiaaaGreatDoor.EscL Go.Proofs.YtjeohndfgamiaaaGreatDoor.Ad1 Go.Proofs.YtjeohndfgamiaaaGreatDoor.Dr Go.Proofs.YtjeohndfgamiaaaGreatDoor.Tw Go.Proofs.YtjeohndfgamiaaaGreatDoor.RB Go.Proofs.YtjeohndfgamiaaaGreatDoor.Im Go.Proofs.YtjeohndfgamiaaaGreatDoor.Rd1 Go.Proofs.YtjeohndfgamiaaaGreatDoor.Door Go.Proofs.YtjeohndfgamiaaaGreatDoor.JnM Go.Proofs.YtjeohndfgamiaaaGreatDoor.Jn
open Go.Proofs.YtjeohndfgamiaaaGreatDoor.PgA Go.Proofs.YtjeohndfgamiaaaGreatDoor.PgM

theorem text_ascii {T : Ad} (ht : okB T = true) : ascii (textF T) := by
  rw [ascii_mem, text_data ht]
  exact fun b hb => (text_bytes ht b hb).2
theorem read_text {C : Ad} (h : okB C = true) : readF (textF C).data.toList = some C := by rw [text_data h]; exact read_back h

set_option maxRecDepth 100000 in
set_option maxHeartbeats 6400000 in
theorem walk (a0 : Option Addr) (len0 cap0 : Nat) (z0 : List Int) (w : World) (w0 : Dr.IsRow .u8 w a0 len0 cap0 z0) (hL : laidMetH Tryz.prog Rows.fnPageAddrsRow.laid w) (hsh : w.ShapedOpen Tryz.prog) :
    Calls Tryz.prog 3 #[.slice a0 len0 cap0] w fun e w' => e = .returned (.bool true) ∧ Below w.heap.size w w' := by
  have HM : Hid (Mx w) := mx_of hsh
  clear hsh hL
  by_cases hlong : (1048576 : Int) < len0
  · go_enter Tryz.func3, Tryz.ntmps3
    go_wp2
    go_ret
    exact ⟨rfl, Below.refl _ _⟩
  go_enter Tryz.func3, Tryz.ntmps3
  go_wp2_with fail
  refine (Dr.drawPage_any a0 len0 cap0 z0 w w0).mono ?_
  rintro e wa ⟨P, p1, q1, t, rfl, hO, hbk, hts, hta, hb⟩
  have HTA : Hid _ := hta
  have hba := hb.alloc hb.size (.cells #[.string P.house, .slice p1 P.parts.length q1, .bool P.asks, .string P.ask] 25)
  have HB1 : Hid (Below w.heap.size w (wa.alloc (.cells #[.string P.house, .slice p1 P.parts.length q1, .bool P.asks, .string P.ask] 25))) := hba
  have HP1 : Hid (At w (wa.alloc (.cells #[.string P.house, .slice p1 P.parts.length q1, .bool P.asks, .string P.ask] 25)) wa.heap.size P p1 q1) := At.new hO (Nat.le_refl _)
  have HM1 : Hid (Mx (wa.alloc (.cells #[.string P.house, .slice p1 P.parts.length q1, .bool P.asks, .string P.ask] 25))) := HM.out.below hba
  obtain ⟨F, hF⟩ : ∃ F, wa.heap.size = F := ⟨_, rfl⟩
  rw [hF] at HP1
  have ht4 : t.size ≤ 4194304 := by omega
  have HNd : Hid _ := page_nodup P t
  have HEa : Hid (∀ y ∈ pageF P t, ∃ C, okB C = true ∧ y = textF C) := fun y hy => page_each hy
  have hpl := page_len P t
  clear hb hba hO hta HM
  go_wp2_with fail
  refine (implPage_any P t p1 q1 _ HM1.out HP1.out.strs hbk ht4 HTA.out).mono ?_
  rintro e w2 ⟨v2, rfl, hO2, hb⟩
  obtain ⟨l1, m1, hv2, hS2⟩ := hO2.strs
  subst hv2
  have HL2 : Hid (IsStrs w2 l1 m1 (pageF P t)) := hS2
  have HP2 : Hid (At w w2 F P p1 q1) := HP1.out.below hb
  have HB2 : Hid (Below w.heap.size w w2) := HB1.out.trans (hb.mono HB1.out.size)
  have HM2 : Hid (Mx w2) := HM1.out.below hb
  clear hb hO2 hS2 HP1 HB1 HM1
  have hpp := HP2.out
  obtain ⟨f0, f1, f2, f3⟩ := hpp.cells
  clear hpp
  have HSP : Hid _ := fun W hW => specPage_any P t p1 q1 W hW hbk ht4
  generalize pageF P t = L at *
  go_wp2_with fail
  refine (HSP.out _ HP2.out.strs).mono ?_
  rintro e w3 ⟨v3, rfl, hO3, hb⟩
  obtain ⟨r1, s1, hv3, hS3⟩ := hO3.strs
  subst hv3
  have HR3 : Hid (IsStrs w3 r1 s1 L) := hS3
  have HL3 : Hid (IsStrs w3 l1 m1 L) := HL2.out.below hb
  have HB3 : Hid (Below w.heap.size w w3) := HB2.out.trans (hb.mono HB2.out.size)
  have HM3 : Hid (Mx w3) := HM2.out.below hb
  clear hb hO3 hS3 HP2 HB2 HM2 HL2 f0 f1 f2 f3
  go_wp2_with fail
  refine (texts_any l1 m1 L r1 s1 L _ HL3.out HR3.out (by omega) (by omega)).mono ?_
  rintro e w4 ⟨rfl, n4, hw4⟩
  rw [decide_eq_true rfl]
  have HL4 : Hid (IsStrs w4 l1 m1 L) := by rw [hw4]; exact IsStrs.drewN HL3.out n4
  have HB4 : Hid (Below w.heap.size w w4) := by rw [hw4]; exact below_drewN HB3.out n4
  have HM4 : Hid (Mx w4) := by rw [hw4]; exact HM3.out.keep fun _ _ => rfl
  clear hw4 HL3 HB3 HM3 HR3
  go_wp2
  go_loopw [6] (fun i wr => ∃ k : Nat, k ≤ L.length ∧ i = .int .i64 (k : Int) ∧ Hid (Below w4.heap.size w4 wr)) (fun i _ => L.length - (intOf i).toNat)
  case atStart => exact ⟨0, Nat.zero_le _, rfl, Below.refl _ _⟩
  case round =>
    obtain ⟨k, hk, rfl, HB⟩ := hrel
    by_cases hlt : k < L.length
    · obtain ⟨lb, lo, e1, cl⟩ := (HL4.out.below HB.out).at hlt
      subst e1
      obtain ⟨C, hC, hLk⟩ := HEa.out L[k] (List.getElem_mem _)
      have HRD : Hid (readF L[k].data.toList = some C) := by show _ = _; rw [hLk]; exact read_text hC
      have HAC : Hid (ascii L[k]) := by show ascii _; rw [hLk]; exact text_ascii hC
      have HTX : Hid (L[k] = textF C) := hLk
      have hLz : L[k].size ≤ 60 := by rw [hLk]; exact textF_size C
      have hCb : bulkA C ≤ 4194304 := Nat.le_trans (ok_sum hC).2 (by decide)
      clear hC hLk
      go_wp2_with fail
      refine (implRead_ascii L[k] _ (HM4.out.below HB.out) hLz HAC.out).mono ?_
      rintro e w5 ⟨D, ok, x1, y1, rfl, hans, hOC, hb⟩
      obtain ⟨hok, hD⟩ := ans_is hans HRD.out
      subst hok hD
      have hba := hb.alloc hb.size (.cells #[.string D.house, .slice x1 D.parts.length y1, .bool D.asks, .string D.ask] 25)
      have HSC : Hid (IsStrs (w5.alloc (.cells #[.string D.house, .slice x1 D.parts.length y1, .bool D.asks, .string D.ask] 25)) x1 y1 D.parts) := (Owns.strsOf hOC).keep (alloc_keep _ _)
      have HL5 : Hid (IsStrs (w5.alloc (.cells #[.string D.house, .slice x1 D.parts.length y1, .bool D.asks, .string D.ask] 25)) (some ⟨lb, lo, none⟩) m1 L) := (HL4.out.below HB.out).below hba
      have HB5 : Hid (Below w4.heap.size w4 (w5.alloc (.cells #[.string D.house, .slice x1 D.parts.length y1, .bool D.asks, .string D.ask] 25))) := HB.out.trans (hba.mono HB.out.size)
      clear hans hOC hb hba cl
      have cl5 : (w5.alloc (.cells #[.string D.house, .slice x1 D.parts.length y1, .bool D.asks, .string D.ask] 25)).cell? ⟨lb, lo + k, none⟩ = some (.string L[k]) := by
        obtain ⟨lb', lo', e2, c⟩ := HL5.out.at hlt
        injection e2 with e2
        injection e2 with e3 e4 _
        subst e3 e4
        exact c
      have HXC : Hid (Dr.Box (w5.alloc (.cells #[.string D.house, .slice x1 D.parts.length y1, .bool D.asks, .string D.ask] 25)) w5.heap.size (.string D.house) (.slice x1 D.parts.length y1) (.bool D.asks) (.string D.ask)) := Dr.heap_new w5 _
      have hx := HXC.out
      obtain ⟨⟨c0, c1, c2, c3⟩, _⟩ := hx.cells
      clear hx HXC
      have hcmp : ((textF D).toList == L[k].toList) = true := by rw [← HTX.out]; simp
      have n0 : (w5.alloc (.cells #[.string D.house, .slice x1 D.parts.length y1, .bool D.asks, .string D.ask] 25)).drew.cell? ⟨w5.heap.size, 0, none⟩ = some (.string D.house) := c0
      have n1 : (w5.alloc (.cells #[.string D.house, .slice x1 D.parts.length y1, .bool D.asks, .string D.ask] 25)).drew.cell? ⟨w5.heap.size, 1, none⟩ = some (.slice x1 D.parts.length y1) := c1
      have n2 : (w5.alloc (.cells #[.string D.house, .slice x1 D.parts.length y1, .bool D.asks, .string D.ask] 25)).drew.cell? ⟨w5.heap.size, 2, none⟩ = some (.bool D.asks) := c2
      have n3 : (w5.alloc (.cells #[.string D.house, .slice x1 D.parts.length y1, .bool D.asks, .string D.ask] 25)).drew.cell? ⟨w5.heap.size, 3, none⟩ = some (.string D.ask) := c3
      have nl : (w5.alloc (.cells #[.string D.house, .slice x1 D.parts.length y1, .bool D.asks, .string D.ask] 25)).drew.cell? ⟨lb, lo + k, none⟩ = some (.string L[k]) := cl5
      go_wp2
      go_region_with (go_at_call 11; refine (implAddrText_any D x1 y1 (w5.alloc (.cells #[.string D.house, .slice x1 D.parts.length y1, .bool D.asks, .string D.ask] 25)).drew (HSC.out.keep fun _ _ => rfl) hCb).mono ?_; rintro e w6 ⟨rfl, hb6⟩; have cl6 : w6.cell? ⟨lb, lo + k, none⟩ = some (.string L[k]) := (hb6.cell (St.cell_block nl)).trans nl)
      all_goals
        have HB6 : Hid (Below w4.heap.size w4 w6) := HB5.out.trans ((((Below.refl _ (w5.alloc (.cells #[.string D.house, .slice x1 D.parts.length y1, .bool D.asks, .string D.ask] 25))).drew).trans hb6).mono HB5.out.size)
        clear hb6
        go_wp2
        go_roundw
        case rel => exact ⟨k + 1, by omega, by go_num, HB6⟩
        case measure => simp [intOf]; omega
    · go_wp2_with fail
      refine (once_any l1 m1 L _ (HL4.out.below HB.out) (by omega) HNd.out).mono ?_
      rintro e w5 ⟨rfl, n5, rfl⟩
      go_wp2
      go_ret
      exact ⟨rfl, below_drewN (HB4.out.trans (HB.out.mono HB4.out.size)) n5⟩

theorem own : ownKnob Tryz.prog.godebug = none := by kernel_rfl
theorem laidOut : laidOutB Tryz.prog = true := by kernel_rfl

/-! ### THE ROW's STEP -/
set_option maxRecDepth 100000 in
theorem lifted (os : Os) (started : os.Started) (H : Type) (enc : TypeId × Value → H) :
    ReturnsInHanded {} Tryz.checked os 3 .any (fun w args => (Rows.fnPageAddrsSpec.pre enc Tryz.prog Tryz.f3 [] false w args ∧ laidMetH Tryz.prog Rows.fnPageAddrsRow.laid w) ∧ sizedMet enc Tryz.prog Tryz.f3 (OpenSpec.ofChange Rows.fnPageAddrsSpec) false w args)
      (Rows.fnPageAddrsSpec.post enc Tryz.prog Tryz.f3 false true false false) := by
  refine returnsInHanded_of_calls own started (by kernel_rfl)
    (ChangeSpec.witness_shaped (enc := enc) (C := Tryz.checked) (os := os) (X := fun w _ => laidMetH Tryz.prog Rows.fnPageAddrsRow.laid w) false (World.laidAll Tryz.prog os Rows.fnPageAddrsRow.laid) #[.slice none 0 0] 8 (World.laidAll_os _ _ _)
      (World.shaped_of_ZipB (by kernel_rfl) (by kernel_rfl)) (by kernel_rfl) (by kernel_rfl) (by kernel_rfl)
      (by rw [MakeChecks.laidMetH_plain _ _ _ (by kernel_rfl)]; exact laidMet_laidAll _ (by kernel_rfl) (by kernel_rfl))) ?_
  intro w tape i _ hsh _ hok hpre _
  obtain ⟨_, _, _, fn', hfn', _, _, _, _, hval1⟩ := hok
  obtain rfl : fn' = Tryz.f3 := Option.some.inj (hfn'.symm.trans Tryz.func3)
  obtain ⟨⟨⟨ds, gs, before, hw, _⟩, hL0⟩, _⟩ := hpre
  have hW := DataW.Whole.of_heap (w' := w.forCall tape i) (by rfl) hw
  have hL : laidMetH Tryz.prog Rows.fnPageAddrsRow.laid (w.forCall tape i) := hL0.of_heap (by rfl)
  have hb : ∃ base, ∀ (j : Nat) t v, Tryz.f3.params[j]? = some t → i.args[j]? = some v → Value.okWide Tryz.prog (w.forCall tape i) .any base t v := ⟨_, hval1⟩
  clear hval1 hfn' hL0 hw
  suffices h : Calls Tryz.checked.prog 3 i.args (w.forCall tape i) fun e W' => ∃ v, e = .returned v ∧ Rows.fnPageAddrsSpec.post enc Tryz.checked.prog Tryz.f3 false true false false (w.forCall tape i) i.args v W' from
    h.mono fun e W' ⟨v, he, hp⟩ => by subst he; exact ChangeSpec.post_blind hp
  generalize hWe : w.forCall tape i = W at *
  generalize i.args = args at *
  clear hWe
  obtain ⟨base, hval⟩ := hb
  have hW' := hW
  obtain ⟨p, q, hA0, hV, rfl, hfz, hnd⟩ := hW
  have hA : DataW.TrodAll enc Tryz.prog W 0 (fun _ => true) true Tryz.f3.params.toList args.toList ds p := hA0
  rw [Tryz.params3] at hA hval
  obtain ⟨v0, vs0, d0, ds0, p0, q0, hargs, rfl, rfl, h0, r0⟩ := trodAll_cons hA
  obtain ⟨rfl, rfl, rfl⟩ := trodAll_nil r0
  obtain rfl : args = #[v0] := by cases args; simp_all
  obtain ⟨rfl, rfl⟩ := trodVars_none hV
  obtain ⟨a0, len0, cap0, rfl⟩ := okWide_slice Tryz.underlying22 (hval 0 22 v0 rfl rfl)
  have k0 := h0
  have lt0 : ∀ x ∈ p0, x.block < W.heap.size := by obtain ⟨m, hm⟩ := k0; exact DataW.trod_lt m _ _ _ hm
  obtain ⟨z0, w0⟩ : ∃ zs, Dr.IsRow .u8 W a0 len0 cap0 zs := by
    obtain ⟨fuel, hf⟩ := h0
    rcases open_ints Tryz.underlying22 Tryz.underlying5 (by kernel_rfl) hf with ⟨hcs, _⟩ | ⟨x, l, c, zs, hcs, _, hl, hm, hz, _, hcell, hwz⟩
    · simp [Value.cells] at hcs
      obtain ⟨rfl, rfl, rfl⟩ := hcs
      exact ⟨[], .inl ⟨rfl, rfl, rfl, rfl⟩⟩
    · simp [Value.cells] at hcs
      obtain ⟨rfl, rfl, rfl⟩ := hcs
      exact ⟨zs, .inr ⟨_, rfl, hl, hm, by simpa using hz, hcell, hwz⟩⟩
  clear hA0
  refine (walk a0 len0 cap0 z0 W w0 hL hsh).mono fun e W' ⟨he, bel⟩ => ?_
  subst he
  exact ⟨_, rfl, _, _, _, [], _, [], hW', trodAll_mk1 (shut_bool Tryz.underlying4 _), (trodAll_cons_mk (Below.trod laidOut (by kernel_rfl) (of_decide_eq_true (by kernel_rfl)) k0 bel lt0) trodAll_mk0), rfl, bel.frame _, fun h => by cases h⟩

theorem over : Rows.fnPageAddrsRow.holds Tryz.pinned (OpenSpec.ofChange Rows.fnPageAddrsSpec) :=
  OpenClaim.holds_of_wide 3 Tryz.f3 rfl rfl rfl rfl rfl rfl rfl ⟨rfl, rfl, rfl, rfl, rfl⟩ rfl rfl rfl rfl rfl (by kernel_rfl) Tryz.func3 (by kernel_rfl)
    (of_decide_eq_true (by kernel_rfl)) (by unfold Func.isWrapper; first | (rw [if_pos (by decide +kernel)]; kernel_rfl) | (rw [if_neg (by decide +kernel)]; exact ⟨rfl, rfl⟩))
    (fun os started H enc _ => lifted os started H enc)

theorem proved : Rows.FnPageAddrsCardSaid :=
  Claim7.holds_tied_plain_at .later [] [.data, .pinned] true _ false over (fun _ h => by cases h) (by kernel_rfl) (fun _ h => by cases h) fnPageAddrs_row_tie rfl ⟨rfl, rfl⟩ (by kernel_rfl) rfl
    (fun f fn hf hfn => by
      obtain rfl : f = 3 := Option.some.inj ((show Tryz.prog.funcNamed "loop.example/pedlar/laws.FnPageAddrs" = some 3 by kernel_rfl).symm.trans hf) |>.symm
      obtain rfl : fn = Tryz.f3 := (Option.some.inj (Tryz.func3.symm.trans hfn)).symm
      exact ⟨by kernel_rfl, fun j t ht => by
        rw [Tryz.params3] at ht
        have hm : t ∈ [22] := by simpa using Array.mem_of_getElem? ht
        have hall : ([22].all fun u => !Tryz.prog.wantsStandIn u) = true := by kernel_rfl
        exact (show Tryz.prog.wantsStandIn t = false by simpa using List.all_eq_true.1 hall t hm)⟩)
    (by kernel_rfl)
end Go.Proofs.YtjeohndfgamiaaaGreatDoor.fnPageAddrs
