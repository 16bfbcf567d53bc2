/- FnExactNoticeText: at every list of groups NoticeText answers as the model's; it writes into no argument. No condition. -/
import Derived.Test.YtjnijejminfjcaaRows
import Derived.WalkKit
import Derived.ProofKit
import Derived.OpenShut
import Derived.ShutString
import Derived.ChangeOld
import Derived.Below
import Derived.Test.YtjnijejminfjcaaOpenGr
import Derived.Test.YtjnijejminfjcaaExGr
import Derived.Test.YtjnijejminfjcaaNt1
import Derived.Test.YtjnijejminfjcaaNt3
namespace Go.Proofs.Ytjnijejminfjcaa.fnExactNoticeText
open Go.ChangeShapes Go.WideShapes Go.ChangeAt Go.RowKit
open Go.ChangeMaps (open_string shut_string)
set_option linter.unusedVariables false
open Go.Proofs.Ytjnijejminfjcaa.St Go.Proofs.Ytjnijejminfjcaa.RR Go.Proofs.Ytjnijejminfjcaa.LetM Go.Proofs.Ytjnijejminfjcaa.Nm Go.Proofs.Ytjnijejminfjcaa.GrM Go.Proofs.Ytjnijejminfjcaa.ExG Go.Proofs.Ytjnijejminfjcaa.Gp Go.Proofs.Ytjnijejminfjcaa.RuleM Go.Proofs.Ytjnijejminfjcaa.NtM Go.Proofs.Ytjnijejminfjcaa.Nt

def tripB (t : List ByteArray × List Ru × Int) : Bool := t.1.all callB && decide (t.2.1.length ≤ 6) && t.2.1.all (fun r => ruleL r.path.data.toList) && decide (0 ≤ t.2.2 ∧ t.2.2 ≤ 20) && (decide (0 < t.2.1.length) || decide (0 < t.2.2)) && decide (0 < t.1.length)
theorem grpB_trip (g : Gr) : grpB g = tripB (grp g) := rfl
theorem notice_grp {A B : List Gr} (h : A.map grp = B.map grp) : noticeB A = noticeB B := by
  have e : ∀ L : List Gr, noticeB L = ((L.map grp).all tripB && decide (((L.map grp).map fun t => t.1.length + t.2.1.length + 1).sum ≤ 40)) := by
    intro L
    unfold noticeB linesN
    rw [List.all_map, List.map_map]
    rfl
  rw [e A, e B, h]
def tripT (t : List ByteArray × List Ru × Int) : List UInt8 := ntNames t.1 ++ ntRules t.2.1 ++ waitLn t.2.2
theorem text_grp {A B : List Gr} (h : A.map grp = B.map grp) : ntS A = ntS B := by
  have e : ∀ L : List Gr, ntText L = ((L.map grp).map tripT).flatten := by
    intro L
    unfold ntText
    rw [List.map_map]
    rfl
  unfold ntS
  rw [notice_grp h, e A, e B, h]
theorem sz_grp {D L : List Gr} (h : D.map grp = L.map grp) (hL : ∀ g ∈ L, GrSz g) : ∀ g ∈ D, GrSz g := by
  intro g hg
  have h1 : grp g ∈ L.map grp := by rw [← h]; exact List.mem_map_of_mem hg
  obtain ⟨x, hx, e⟩ := List.mem_map.1 h1
  have h2 := hL x hx
  unfold grp at e
  simp only [Prod.mk.injEq] at e
  obtain ⟨e1, e2, _⟩ := e
  unfold GrSz at h2 ⊢
  rw [← e1, ← e2]; exact h2
theorem len_grp {D L : List Gr} (h : D.map grp = L.map grp) : D.length = L.length := by have := congrArg List.length h; simpa using this

set_option maxHeartbeats 3200000 in
theorem walk (a0 : Option Addr) (cap : Nat) (L : List Gr) (w : World) (hI : IsRows FGr w a0 cap L) (hG : GrsAt w L) (hs : ∀ g ∈ L, (∀ s ∈ g.nm, s.size ≤ maxLen) ∧ (∀ r ∈ g.ru, r.path.size ≤ maxLen) ∧ (Lit.int .i64 g.wait).wf = true) :
    Calls Try.prog 4 #[.slice a0 L.length cap] w fun e w' => e = .returned (.bool true) ∧ Below w.heap.size w w' := by
  have HI : Hid (IsRows FGr w a0 cap L) := hI
  have HG : Hid (GrsAt w L) := hG
  have HIn : Hid (∀ g ∈ L, GrIn g) := fun g hg => ⟨(hs g hg).1, (hs g hg).2.1⟩
  clear hI hG hs
  go_enter Try.func4, Try.ntmps4
  go_wp2_with fail
  refine (szGrS_any a0 cap L 1048576 _ HI.out HG.out HIn.out (by decide)).mono ?_
  rintro e w1 ⟨⟨x, rfl, hx⟩, hb1⟩
  have HB1 : Hid (Below w.heap.size w w1) := hb1
  clear hb1
  rcases hx with hx | ⟨hx0, hxl, hxs⟩
  · go_wp2
    go_ret
    exact ⟨rfl, HB1.out⟩
  have HSz : Hid (∀ g ∈ L, GrSz g) := fun g hg => ⟨(hxs g hg).1, (hxs g hg).2, (HIn.out g hg).1, (HIn.out g hg).2⟩
  have HS4 : Hid (∀ g ∈ L, g.nm.length ≤ 4194304 ∧ g.ru.length ≤ 4194304) := fun g hg => ⟨Nat.le_trans (hxs g hg).1 (by decide), Nat.le_trans (hxs g hg).2 (by decide)⟩
  clear hxs
  have HI1 : Hid (IsRows FGr w1 a0 cap L) := HI.out.below HB1.out
  have HG1 : Hid (GrsAt w1 L) := HG.out.below HB1.out
  go_wp2_with fail
  refine (toGrS_any a0 cap L _ HI1.out HG1.out hxl HS4.out).mono ?_
  rintro e w2 ⟨D, rfl, hD, hDI, hDG, hb2⟩
  have HD : Hid (D.map grp = L.map grp) := hD
  have HDI : Hid (IsRows FGr w2 (some ⟨w1.heap.size, 0, none⟩) D.length D) := hDI
  have HDG : Hid (GrsAt w2 D) := hDG
  have HB2 : Hid (Below w.heap.size w w2) := HB1.out.trans (hb2.mono HB1.out.size)
  have hDl : D.length ≤ 1048576 := by rw [len_grp hD]; exact hxl
  have HN1 : Hid (ntS D = ntS L) := text_grp hD
  clear hD hDI hDG hb2
  go_wp2_with fail
  refine (specText_any _ _ D _ HDI.out HDG.out (sz_grp HD.out HSz.out) hDl).mono ?_
  rintro e w3 ⟨rfl, hb3⟩
  have HB3 : Hid (Below w.heap.size w w3) := HB2.out.trans (hb3.mono HB2.out.size)
  rw [HN1.out]
  clear hb3
  have HI3 : Hid (IsRows FGr w3 a0 cap L) := HI.out.below HB3.out
  have HG3 : Hid (GrsAt w3 L) := HG.out.below HB3.out
  go_wp2_with fail
  refine (toGrS_any a0 cap L _ HI3.out HG3.out hxl HS4.out).mono ?_
  rintro e w4 ⟨E, rfl, hE, hEI, hEG, hb4⟩
  have HE : Hid (E.map grp = L.map grp) := hE
  have HEI : Hid (IsRows FGr w4 (some ⟨w3.heap.size, 0, none⟩) E.length E) := hEI
  have HEG : Hid (GrsAt w4 E) := hEG
  have HB4 : Hid (Below w.heap.size w w4) := HB3.out.trans (hb4.mono HB3.out.size)
  have hEl : E.length ≤ 1048576 := by rw [len_grp hE]; exact hxl
  have HN2 : Hid (ntS E = ntS L) := text_grp hE
  clear hE hEI hEG hb4
  generalize w3.heap.size = n3 at *
  go_wp2_with fail
  refine (implText_any _ _ E _ HEI.out HEG.out (sz_grp HE.out HSz.out) hEl).mono ?_
  rintro e w5 ⟨rfl, hb5⟩
  have HB5 : Hid (Below w.heap.size w w5) := HB4.out.trans (hb5.mono HB4.out.size)
  have HEI5 : Hid (IsRows FGr w5 (some ⟨n3, 0, none⟩) E.length E) := HEI.out.below hb5
  have HEG5 : Hid (GrsAt w5 E) := HEG.out.below hb5
  rw [HN2.out]
  clear hb5
  have HI5 : Hid (IsRows FGr w5 a0 cap L) := HI.out.below HB5.out
  have HG5 : Hid (GrsAt w5 L) := HG.out.below HB5.out
  generalize ntS L = txt at *
  go_wp2_with fail
  refine (toGrS_any a0 cap L _ HI5.out HG5.out hxl HS4.out).mono ?_
  rintro e w6 ⟨K, rfl, hK, hKI, hKG, hb6⟩
  have HEI6 : Hid (IsRows FGr w6 (some ⟨n3, 0, none⟩) E.length E) := HEI5.out.below hb6
  have HEG6 : Hid (GrsAt w6 E) := HEG5.out.below hb6
  have HEK : Hid (E.map grp = K.map grp) := by show _ = _; rw [HE.out, hK]
  have HKI : Hid (IsRows FGr w6 (some ⟨w5.heap.size, 0, none⟩) K.length K) := hKI
  have HKG : Hid (GrsAt w6 K) := hKG
  have HB6 : Hid (Below w.heap.size w w6) := HB5.out.trans (hb6.mono HB5.out.size)
  have HES : Hid (∀ g ∈ E, g.nm.length ≤ 4194304 ∧ g.ru.length ≤ 4194304) := fun g hg => by
    obtain ⟨h1, h2, _⟩ := sz_grp HE.out HSz.out g hg
    exact ⟨by omega, by omega⟩
  clear hK hKI hKG hb6
  go_wp2_with fail
  refine (eqGrS_any _ _ E _ _ K _ HEI6.out HKI.out HEG6.out HKG.out (by omega) HEK.out HES.out).mono ?_
  rintro e w7 ⟨rfl, hb7⟩
  have HB7 : Hid (Below w.heap.size w w7) := HB6.out.trans (hb7.mono HB6.out.size)
  clear hb7
  go_wp2
  go_ret
  exact ⟨rfl, HB7.out⟩

theorem own : ownKnob Try.prog.godebug = none := by kernel_rfl
theorem laidOut : laidOutB Try.prog = true := by kernel_rfl

/-! ### THE ROW's STEP -/
set_option maxRecDepth 100000 in
theorem lifted (os : Os) (started : os.Started) (H : Type) (enc : TypeId × Value → H) :
    ReturnsInHanded {} Try.checked os 4 .any (Rows.fnExactNoticeTextSpec.pre6 enc Try.prog Try.f4 Rows.fnExactNoticeTextRow.domain false) (Rows.fnExactNoticeTextSpec.post enc Try.prog Try.f4 false true false false) := by
  refine returnsInHanded_of_change (C := Try.checked) own started (by kernel_rfl) Try.func4
    (ChangeSpec.witness6 (enc := enc) (C := Try.checked) false ⟨#[], #[.slice none 0 0], []⟩ 8 (by kernel_rfl) (by kernel_rfl) (by kernel_rfl) (by kernel_rfl)) ?_
  intro W base args ds gs before hval0 hW hcnd _
  have hval : ∀ (j : Nat) t v, Try.f4.params[j]? = some t → args[j]? = some v → Value.okWide Try.prog W .any base t v := hval0
  have hW' := hW
  obtain ⟨p, q, hA0, hV, rfl, hfz, hnd⟩ := hW
  have hA : DataW.TrodAll enc Try.prog W 0 (fun _ => true) true Try.f4.params.toList args.toList ds p := hA0
  rw [Try.params4] at hA hval
  obtain ⟨v0, vs0, d0, ds0, p0, q0, hargs, rfl, rfl, h0, r0⟩ := trodAll_cons hA
  obtain ⟨rfl, rfl, rfl⟩ := trodAll_nil r0
  obtain rfl : args = #[v0] := by cases args; simp_all
  obtain ⟨rfl, rfl⟩ := trodVars_none hV
  obtain ⟨a0, len0, cap0, rfl⟩ := okWide_slice Try.underlying22 (hval 0 22 v0 rfl rfl)
  have k0 := h0
  have lt0 : ∀ x ∈ p0, x.block < W.heap.size := by obtain ⟨m, hm⟩ := k0; exact DataW.trod_lt m _ _ _ hm
  obtain ⟨L0, hL0, w0, g0, s0⟩ : ∃ L : List GrM.Gr, len0 = L.length ∧ RR.IsRows GrM.FGr W a0 cap0 L ∧ GrM.GrsAt W L ∧ ∀ g ∈ L, (∀ s ∈ g.nm, s.size ≤ maxLen) ∧ (∀ r ∈ g.ru, r.path.size ≤ maxLen) ∧ (Lit.int .i64 g.wait).wf = true := by
    obtain ⟨fuel, hf⟩ := h0
    exact OpG.open_groups (fuel := fuel) hf
  subst hL0
  clear hA0 hval0
  refine (walk a0 cap0 L0 W w0 g0 s0).mono fun e W' ⟨he, bel⟩ => ?_
  subst he
  exact ⟨_, rfl, _, _, _, [], _, [], hW', trodAll_mk1 (shut_bool Try.underlying4 _), (trodAll_cons_mk (Below.trod laidOut (by kernel_rfl) (of_decide_eq_true (by kernel_rfl)) k0 bel lt0) trodAll_mk0), rfl, bel.frame _, fun h => by cases h⟩

theorem over : Rows.fnExactNoticeTextRow.holds Try.pinned (OpenSpec.ofChange Rows.fnExactNoticeTextSpec) :=
  OpenClaim.holds_of_wide 4 Try.f4 rfl rfl rfl rfl rfl rfl rfl ⟨rfl, rfl, rfl, rfl, rfl⟩ rfl rfl rfl rfl rfl (by kernel_rfl) Try.func4 (by kernel_rfl)
    (of_decide_eq_true (by kernel_rfl)) (by unfold Func.isWrapper; first | (rw [if_pos (by decide +kernel)]; kernel_rfl) | (rw [if_neg (by decide +kernel)]; exact ⟨rfl, rfl⟩))
    (fun os started H enc _ => lifted os started H enc)

theorem proved : Rows.FnExactNoticeTextSaid := over
end Go.Proofs.Ytjnijejminfjcaa.fnExactNoticeText
