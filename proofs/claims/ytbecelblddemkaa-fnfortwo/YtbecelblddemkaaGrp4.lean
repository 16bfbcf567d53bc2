/- The laws' comparisons of groups; groups and a name are drawn. -/
import Derived.Test.YtbecelblddemkaaGrp3b
import Derived.Test.YtbecelblddemkaaDraw14
namespace Go.Proofs.Ytbecelblddemkaa.Gf
open Go.RowKit Go.Proofs.Ytbecelblddemkaa.EscM Go.Proofs.Ytbecelblddemkaa.EscL Go.Proofs.Ytbecelblddemkaa.RuleM Go.Proofs.Ytbecelblddemkaa.St Go.Proofs.Ytbecelblddemkaa.RR Go.Proofs.Ytbecelblddemkaa.LetM Go.Proofs.Ytbecelblddemkaa.Nm Go.Proofs.Ytbecelblddemkaa.GrM Go.Proofs.Ytbecelblddemkaa.Dr

set_option maxRecDepth 100000 in
set_option maxHeartbeats 3200000 in
theorem rules_same (a0 : Option Addr) (cap : Nat) (b0 : Option Addr) (dap n m : Nat) (L : List Ru) (w : World) (hn : L.length = n) (hm : L.length = m) (hA : IsRows FRu w a0 cap L) (hB : IsRows FRu w b0 dap L) (hl : n ≤ 4194304) :
    Calls Try.prog 17 #[.slice a0 n cap, .slice b0 m dap] w fun e w' => e = .returned (.bool true) ∧ Below w.heap.size w w' := by
  subst hn
  subst hm
  have HA : Hid (IsRows FRu w a0 cap L) := hA
  have HB : Hid (IsRows FRu w b0 dap L) := hB
  clear hA hB
  go_enter Try.func17, Try.ntmps17
  go_wp2
  go_loopw [5] (fun i wr => ∃ k : Nat, k ≤ L.length ∧ i = .int .i64 (k : Int) ∧ Hid (Below w.heap.size w wr)) (fun i _ => L.length - (intOf i).toNat)
  case atStart => exact ⟨0, Nat.zero_le _, rfl, Below.refl _ _⟩
  case round =>
    obtain ⟨k, hk, rfl, HW⟩ := hrel
    by_cases hlt : k < L.length
    · obtain ⟨b1, o1, e1, c0, c1⟩ := ru_at (IsRows.below HA.out HW.out) hlt
      obtain ⟨b2, o2, e2, d0, d1⟩ := ru_at (IsRows.below HB.out HW.out) hlt
      subst e1; subst e2
      have hne : (L[k].path.toList == L[k].path.toList) = true := by simp
      go_wp2
      go_quiet (fail)
      go_wp2
      go_roundw
      case rel => exact ⟨k + 1, by omega, by go_num, below_drewN HW.out nq⟩
      case measure => simp [intOf]; omega
    · go_wp2
      go_ret
      exact ⟨rfl, HW.out⟩

set_option maxRecDepth 100000 in
set_option maxHeartbeats 3200000 in
theorem group_same (a b : Gr) (w : World) (hA : GrAt w a) (hB : GrAt w b) (h1 : a.nm = b.nm) (h2 : a.ru = b.ru) (h3 : a.wait = b.wait) (hl : a.nm.length ≤ 4194304) (hl2 : a.ru.length ≤ 4194304) :
    Calls Try.prog 13 #[.agg #[.slice a.na a.nm.length a.nc, .slice a.ra a.ru.length a.rc, .int .i64 a.wait], .agg #[.slice b.na b.nm.length b.nc, .slice b.ra b.ru.length b.rc, .int .i64 b.wait]] w fun e w' => e = .returned (.bool true) ∧ Below w.heap.size w w' := by
  have HA : Hid (GrAt w a) := hA
  have HB : Hid (GrAt w b) := hB
  have H1 : Hid (a.nm = b.nm) := h1
  have H2 : Hid (a.ru = b.ru) := h2
  rw [← h3]
  clear hA hB h1 h2 h3
  go_enter Try.func13, Try.ntmps13
  go_wp2_with fail
  refine (texts_n a.na _ a.nc a.nm b.na _ b.nc b.nm _ rfl rfl ((HA.out.1.keep (alloc_keep _ _)).keep (alloc_keep _ _)) ((HB.out.1.keep (alloc_keep _ _)).keep (alloc_keep _ _)) hl (by rw [← H1.out]; exact hl)).mono ?_
  rintro e w1 ⟨rfl, n, hw1⟩
  rw [decide_eq_true H1.out]
  have HB1 : Hid (Below w.heap.size w w1) := by rw [hw1]; exact below_drewN (((Below.refl _ w).alloc (Nat.le_refl _) _).alloc (by simp) _) n
  have x1 : w1.cell? ⟨w.heap.size, 1, none⟩ = some (.slice a.ra a.ru.length a.rc) := by rw [hw1]; exact (((Bx.new 32 w _).alloc _).heapEq rfl).cell 1 rfl
  have s1 : (w.alloc (.cells #[.slice a.na a.nm.length a.nc, .slice a.ra a.ru.length a.rc, .int .i64 a.wait] 32)).heap.size = w.heap.size + 1 := by simp
  have y1 : w1.cell? ⟨w.heap.size + 1, 1, none⟩ = some (.slice b.ra b.ru.length b.rc) := by
    rw [hw1, ← s1]; exact ((Bx.new 32 (w.alloc (.cells #[.slice a.na a.nm.length a.nc, .slice a.ra a.ru.length a.rc, .int .i64 a.wait] 32)) #[.slice b.na b.nm.length b.nc, .slice b.ra b.ru.length b.rc, .int .i64 a.wait]).heapEq rfl).cell 1 rfl
  clear hw1 s1
  go_wp2_with fail
  refine (rules_same a.ra a.rc b.ra b.rc _ _ a.ru _ rfl (by rw [H2.out]) (HA.out.2.below HB1.out) (by rw [H2.out]; exact HB.out.2.below HB1.out) hl2).mono ?_
  rintro e w2 ⟨rfl, hb2⟩
  have HB2 : Hid (Below w.heap.size w w2) := HB1.out.trans (hb2.mono HB1.out.size)
  clear hb2
  go_wp2
  go_ret
  exact ⟨rfl, HB2.out⟩
end Go.Proofs.Ytbecelblddemkaa.Gf
namespace Go.Proofs.Ytbecelblddemkaa.Dr
open Go.RowKit Go.Proofs.Ytbecelblddemkaa.EscM Go.Proofs.Ytbecelblddemkaa.St Go.Proofs.Ytbecelblddemkaa.RR Go.Proofs.Ytbecelblddemkaa.LetM Go.Proofs.Ytbecelblddemkaa.Nm Go.Proofs.Ytbecelblddemkaa.GrM
theorem name_any (B r q : Nat) (w : World) (h : IsRd B w r q) (hq : q ≤ 10000) :
    Calls Try.prog 25 #[.pointer (some ⟨r, 0, none⟩)] w fun e w' => ∃ s, e = .returned (.string s) ∧ nameB s = true ∧ s ≠ ⟨#[122, 122, 122]⟩ ∧ IsRd B w' r (q + 1) ∧ w.grownBy w' (some r) := by
  have hle := h.le
  go_enter Try.func25, Try.ntmps25
  go_wp2_with fail
  refine (of_lit B r _ w.heap.size 4 _ _ (fun s => decide (nameB s = true ∧ s ≠ ⟨#[122, 122, 122]⟩)) _ (h.alloc _) (by omega) (by omega) (heap_new _ _) rfl (by decide) (by decide) (by decide +kernel)).mono ?_
  rintro e w2 ⟨t, rfl, ht, hr2, hg2⟩
  have ht2 : nameB t = true ∧ t ≠ ⟨#[122, 122, 122]⟩ := of_decide_eq_true ht
  have HT : Hid (nameB t = true ∧ t ≠ ⟨#[122, 122, 122]⟩) := ht2
  clear ht ht2 hle
  go_wp2
  go_ret
  exact ⟨t, rfl, HT.out.1, HT.out.2, hr2, grown_trans (grown_alloc _ _ _) hg2⟩

set_option maxHeartbeats 1600000 in
theorem drawFor_any (a0 : Option Addr) (len cap : Nat) (zs : List Int) (w : World) (h : IsRow .u8 w a0 len cap zs) :
    Calls Try.prog 11 #[.slice a0 len cap] w fun e w' => ∃ (L : List Gr) (a1 : Option Addr) (c1 : Nat) (s : ByteArray), e = .returned (.tuple #[.slice a1 L.length c1, .string s]) ∧ IsRows FGr w' a1 c1 L ∧ GrsAt w' L ∧ L.length ≤ 4 ∧ (∀ g ∈ L, GrBd g) ∧ nameB s = true ∧ s ≠ ⟨#[122, 122, 122]⟩ ∧ Below w.heap.size w w' := by
  go_enter Try.func11, Try.ntmps11
  go_wp2_with fail
  refine (open_any a0 len cap zs w h).mono ?_
  rintro e w1 ⟨rfl, hr1, hb1⟩
  clear h
  have HR1 : Hid (IsRd w.heap.size w1 w.heap.size 0) := hr1
  have HB1 : Hid (Below w.heap.size w w1) := hb1
  have hw1 : w.heap.size < w1.heap.size := hr1.le.2
  clear hr1 hb1
  go_wp2_with fail
  refine (groups_any _ _ _ _ HR1.out (by omega)).mono ?_
  rintro e w2 ⟨L, a1, c1, rfl, hI, _, hl, hL⟩
  have HI2 : Hid (GI w.heap.size w.heap.size (0 + 44) w1 w2 (.slice a1 L.length c1) L) := hI
  have HL : Hid _ := hL
  have HB2 : Hid (Below w.heap.size w w2) := HB1.out.trans (grown_below hI.2.2.2.1 HB1.out.size (Nat.le_refl _))
  clear hI hL
  go_wp2_with fail
  refine (name_any _ _ _ _ HI2.out.rd (by omega)).mono ?_
  rintro e w3 ⟨s, rfl, hs, hs2, hr3, hg3⟩
  have HI3 : Hid (GI w.heap.size w.heap.size (0 + 44 + 1) w1 w3 (.slice a1 L.length c1) L) := HI2.out.step hg3 hr3
  have HB3 : Hid (Below w.heap.size w w3) := HB2.out.trans (grown_below hg3 HB2.out.size (Nat.le_refl _))
  have HS : Hid (nameB s = true ∧ s ≠ ⟨#[122, 122, 122]⟩) := ⟨hs, hs2⟩
  clear hr3 hg3 hs hs2
  go_wp2
  go_ret2
  exact ⟨L, a1, c1, s, rfl, OwnsR.rowsOf HI3.out.1, HI3.out.2.1.at, hl, HL.out, HS.out.1, HS.out.2, HB3.out⟩
end Go.Proofs.Ytbecelblddemkaa.Dr
