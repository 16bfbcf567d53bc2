/- FnNoticeOk: for every code, of the groups drawn of it NoticeOk answers as the model's, and each group of a notice is one; of none they are. No condition. -/
import Derived.Test.YtbecelblddemkaaRows
import Derived.WalkKit
import Derived.ProofKit
import Derived.OpenShut
import Derived.ShutString
import Derived.ChangeOld
import Derived.Below
import Derived.Test.YtbecelblddemkaaGrp1
import Derived.Test.YtbecelblddemkaaGrpLaws
import Derived.Test.YtbecelblddemkaaDraw15
namespace Go.Proofs.Ytbecelblddemkaa.fnNoticeOk
open Go.ChangeShapes Go.WideShapes Go.ChangeAt Go.RowKit
open Go.ChangeMaps (open_string shut_string)
set_option linter.unusedVariables false
open Go.Proofs.Ytbecelblddemkaa.St Go.Proofs.Ytbecelblddemkaa.RR Go.Proofs.Ytbecelblddemkaa.LetM Go.Proofs.Ytbecelblddemkaa.Nm Go.Proofs.Ytbecelblddemkaa.GrM Go.Proofs.Ytbecelblddemkaa.Gf Go.Proofs.Ytbecelblddemkaa.Gp

theorem lines_mem {L : List Gr} {g : Gr} (h : g ∈ L) : linesN [g] ≤ linesN L := by
  induction L with
  | nil => cases h
  | cons x r ih =>
    have e : linesN (x :: r) = linesN [x] + linesN r := by simp [linesN]
    rcases List.mem_cons.1 h with rfl | h
    · omega
    · have := ih h; omega
theorem notice_one {L : List Gr} {g : Gr} (h : noticeB L = true) (hg : g ∈ L) : noticeB [g] = true := by
  unfold noticeB at h ⊢
  rw [Bool.and_eq_true] at h ⊢
  have h1 := List.all_eq_true.1 h.1 g hg
  have h2 := of_decide_eq_true h.2
  have h3 := lines_mem hg
  exact ⟨by simp [h1], decide_eq_true (by omega)⟩
theorem notice_n (a0 : Option Addr) (cap n : Nat) (L : List Gr) (w : World) (hn : L.length = n) (hI : IsRows FGr w a0 cap L) (hG : GrsAt w L) (hS : ∀ g ∈ L, GrSz g) (hl : L.length ≤ 1048576) :
    Calls Try.prog 9 #[.slice a0 n cap] w fun e w' => e = .returned (.bool (noticeB L)) ∧ Below w.heap.size w w' := by
  subst hn; exact implNotice_any a0 cap L w hI hG hS hl

set_option maxRecDepth 100000 in
set_option maxHeartbeats 3200000 in
theorem walk (a0 : Option Addr) (len0 cap0 : Nat) (z0 : List Int) (w : World) (w0 : Dr.IsRow .u8 w a0 len0 cap0 z0) :
    Calls Try.prog 3 #[.slice a0 len0 cap0] w fun e w' => e = .returned (.bool true) ∧ Below w.heap.size w w' := by
  by_cases hlong : (1048576 : Int) < len0
  · go_enter Try.func3, Try.ntmps3
    go_wp2
    go_ret
    exact ⟨rfl, Below.refl _ _⟩
  go_enter Try.func3, Try.ntmps3
  go_wp2_with fail
  refine (Dr.drawOk_any a0 len0 cap0 z0 w w0).mono ?_
  rintro e w1 ⟨L, a1, c1, rfl, hI, hG, hl, hL, hb1⟩
  have HI1 : Hid (IsRows FGr w1 a1 c1 L) := hI
  have HG1 : Hid (GrsAt w1 L) := hG
  have HS : Hid (∀ g ∈ L, GrSz g) := fun g hg => (hL g hg).sz
  have HB1 : Hid (Below w.heap.size w w1) := hb1
  clear hI hG hL hb1 w0
  go_wp2_with fail
  refine (implNotice_any a1 c1 L _ HI1.out HG1.out HS.out (by omega)).mono ?_
  rintro e w2 ⟨rfl, hb2⟩
  have HB2 : Hid (Below w.heap.size w w2) := HB1.out.trans (hb2.mono HB1.out.size)
  have HI2 : Hid (IsRows FGr w2 a1 c1 L) := HI1.out.below hb2
  have HG2 : Hid (GrsAt w2 L) := HG1.out.below hb2
  clear hb2
  go_wp2_with fail
  refine (specNotice_any a1 c1 L _ HI2.out HG2.out HS.out (by omega)).mono ?_
  rintro e w3 ⟨rfl, hb3⟩
  have HB3 : Hid (Below w.heap.size w w3) := HB2.out.trans (hb3.mono HB2.out.size)
  have HI3 : Hid (IsRows FGr w3 a1 c1 L) := HI2.out.below hb3
  have HG3 : Hid (GrsAt w3 L) := HG2.out.below hb3
  clear hb3
  cases hok : noticeB L with
  | false =>
    go_wp2_with fail
    refine (specNotice_any a1 c1 L _ HI3.out HG3.out HS.out (by omega)).mono ?_
    rintro e w4 ⟨rfl, hb4⟩
    have HB4 : Hid (Below w.heap.size w w4) := HB3.out.trans (hb4.mono HB3.out.size)
    clear hb4
    rw [hok]
    go_wp2
    go_ret
    exact ⟨rfl, HB4.out⟩
  | true =>
    have HK : Hid (noticeB L = true) := hok
    clear hok
    go_wp2
    go_loopw [5] (fun i wr => ∃ k : Nat, k ≤ L.length ∧ i = .int .i64 (k : Int) ∧ Hid (Below w3.heap.size w3 wr)) (fun i _ => L.length - (intOf i).toNat)
    case atStart => exact ⟨0, Nat.zero_le _, rfl, Below.refl _ _⟩
    case round =>
      obtain ⟨k, hk, rfl, HB⟩ := hrel
      by_cases hlt : k < L.length
      · obtain ⟨b, off, e1, _⟩ := gr_at HI3.out hlt
        subst e1
        have hcap : L.length ≤ c1 := HI3.out.1
        have hcm : c1 ≤ maxLen := HI3.out.2.1
        unfold maxLen at hcm
        have hgm : L[k] ∈ L := List.getElem_mem _
        have HIk : Hid (IsRows FGr wr (some ⟨b, off + k * 3, none⟩) (c1 - k) [L[k]]) := by
          have h := (rows_from (HI3.out.below HB.out) k hk).cut 1
          rw [List.drop_eq_getElem_cons hlt] at h; exact h
        have HGk : Hid (GrsAt wr [L[k]]) := fun g hg => by
          simp at hg; subst hg; exact (HG3.out.below HB.out) _ hgm
        have HSk : Hid (∀ g ∈ [L[k]], GrSz g) := fun g hg => by simp at hg; subst hg; exact HS.out _ hgm
        have HNk : Hid (noticeB [L[k]] = true) := notice_one HK.out hgm
        have hckN : ¬ c1 - k = 0 := by omega
        have hckI : ((c1 : Int) - (k : Int) == 0) = false := by rw [beq_eq_false_iff_ne]; omega
        go_wp2_with fail
        refine (notice_n (some ⟨b, off + k * 3, none⟩) (c1 - k) 1 [L[k]] _ rfl HIk.out HGk.out HSk.out (by simp)).mono ?_
        rintro e w5 ⟨rfl, hb5⟩
        have HB5 : Hid (Below w3.heap.size w3 w5) := HB.out.trans (hb5.mono HB.out.size)
        clear hb5
        rw [HNk.out]
        go_wp2
        go_roundw
        case rel => exact ⟨k + 1, by omega, by go_num, HB5⟩
        case measure => simp [intOf]; omega
      · have HNn : Hid (noticeB [] = true) := by show _ = _; rfl
        go_wp2_with fail
        refine (notice_n none 0 0 [] _ rfl (IsRows.nil _ _) (fun g hg => by cases hg) (fun g hg => by cases hg) (by decide)).mono ?_
        rintro e w5 ⟨rfl, hb5⟩
        have HB5 : Hid (Below w.heap.size w w5) := by
          have h1 : Below w.heap.size w wr := HB3.out.trans (HB.out.mono HB3.out.size)
          exact h1.trans (hb5.mono h1.size)
        clear hb5
        rw [HNn.out]
        go_wp2
        go_ret
        exact ⟨rfl, HB5.out⟩

theorem own : ownKnob Try.prog.godebug = none := by kernel_rfl
theorem laidOut : laidOutB Try.prog = true := by kernel_rfl

/-! ### THE ROW's STEP -/
set_option maxRecDepth 100000 in
theorem lifted (os : Os) (started : os.Started) (H : Type) (enc : TypeId × Value → H) :
    ReturnsInHanded {} Try.checked os 3 .any (Rows.fnNoticeOkSpec.pre6 enc Try.prog Try.f3 Rows.fnNoticeOkRow.domain false) (Rows.fnNoticeOkSpec.post enc Try.prog Try.f3 false true false false) := by
  refine returnsInHanded_of_change (C := Try.checked) own started (by kernel_rfl) Try.func3
    (ChangeSpec.witness6 (enc := enc) (C := Try.checked) false ⟨#[], #[.slice none 0 0], []⟩ 8 (by kernel_rfl) (by kernel_rfl) (by kernel_rfl) (by kernel_rfl)) ?_
  intro W base args ds gs before hval0 hW hcnd _
  have hval : ∀ (j : Nat) t v, Try.f3.params[j]? = some t → args[j]? = some v → Value.okWide Try.prog W .any base t v := hval0
  have hW' := hW
  obtain ⟨p, q, hA0, hV, rfl, hfz, hnd⟩ := hW
  have hA : DataW.TrodAll enc Try.prog W 0 (fun _ => true) true Try.f3.params.toList args.toList ds p := hA0
  rw [Try.params3] at hA hval
  obtain ⟨v0, vs0, d0, ds0, p0, q0, hargs, rfl, rfl, h0, r0⟩ := trodAll_cons hA
  obtain ⟨rfl, rfl, rfl⟩ := trodAll_nil r0
  obtain rfl : args = #[v0] := by cases args; simp_all
  obtain ⟨rfl, rfl⟩ := trodVars_none hV
  obtain ⟨a0, len0, cap0, rfl⟩ := okWide_slice Try.underlying22 (hval 0 22 v0 rfl rfl)
  have k0 := h0
  have lt0 : ∀ x ∈ p0, x.block < W.heap.size := by obtain ⟨m, hm⟩ := k0; exact DataW.trod_lt m _ _ _ hm
  obtain ⟨z0, w0⟩ : ∃ zs, Dr.IsRow .u8 W a0 len0 cap0 zs := by
    obtain ⟨fuel, hf⟩ := h0
    rcases open_ints Try.underlying22 Try.underlying5 (by kernel_rfl) hf with ⟨hcs, _⟩ | ⟨x, l, c, zs, hcs, _, hl, hm, hz, _, hcell, hwz⟩
    · simp [Value.cells] at hcs
      obtain ⟨rfl, rfl, rfl⟩ := hcs
      exact ⟨[], .inl ⟨rfl, rfl, rfl, rfl⟩⟩
    · simp [Value.cells] at hcs
      obtain ⟨rfl, rfl, rfl⟩ := hcs
      exact ⟨zs, .inr ⟨_, rfl, hl, hm, by simpa using hz, hcell, hwz⟩⟩
  clear hA0 hval0
  refine (walk a0 len0 cap0 z0 W w0).mono fun e W' ⟨he, bel⟩ => ?_
  subst he
  exact ⟨_, rfl, _, _, _, [], _, [], hW', trodAll_mk1 (shut_bool Try.underlying4 _), (trodAll_cons_mk (Below.trod laidOut (by kernel_rfl) (of_decide_eq_true (by kernel_rfl)) k0 bel lt0) trodAll_mk0), rfl, bel.frame _, fun h => by cases h⟩

theorem over : Rows.fnNoticeOkRow.holds Try.pinned (OpenSpec.ofChange Rows.fnNoticeOkSpec) :=
  OpenClaim.holds_of_wide 3 Try.f3 rfl rfl rfl rfl rfl rfl rfl ⟨rfl, rfl, rfl, rfl, rfl⟩ rfl rfl rfl rfl rfl (by kernel_rfl) Try.func3 (by kernel_rfl)
    (of_decide_eq_true (by kernel_rfl)) (by unfold Func.isWrapper; first | (rw [if_pos (by decide +kernel)]; kernel_rfl) | (rw [if_neg (by decide +kernel)]; exact ⟨rfl, rfl⟩))
    (fun os started H enc _ => lifted os started H enc)

theorem proved : Rows.FnNoticeOkSaid := over
end Go.Proofs.Ytbecelblddemkaa.fnNoticeOk
