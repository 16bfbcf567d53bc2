/- Is a way of a pattern: the program's. -/
import Derived.Test.YtemobclefdodjaaDoorHasMath
import Derived.Test.YtemobclefdodjaaDoorRule1
import Derived.Test.YtemobclefdodjaaDoorShelf
import Derived.Test.YtemobclefdodjaaDoorLibSplit
namespace Go.Proofs.YtemobclefdodjaaDoor.Ha
open Go.RowKit Go.Proofs.YtemobclefdodjaaDoor.EscM Go.Proofs.YtemobclefdodjaaDoor.EscL Go.Proofs.YtemobclefdodjaaDoor.RuleM Go.Proofs.YtemobclefdodjaaDoor.Ru1 Go.Proofs.YtemobclefdodjaaDoor.ReadM Go.Proofs.YtemobclefdodjaaDoor.HasM Go.Proofs.YtemobclefdodjaaDoor.St Go.Proofs.YtemobclefdodjaaDoor.Rd1 Go.Proofs.YtemobclefdodjaaDoor.LibS

/-- internal/bytealg.MaxLen (the program's variable 0) holds some number -/
def Mx (w : World) : Prop := ∃ m : Int, w.cell? ⟨0, 0, none⟩ = some (.int .i64 m)
theorem Mx.keep {w w' : World} (h : Mx w) (hb : ∀ k, k < w.heap.size → w'.heap[k]? = w.heap[k]?) : Mx w' := by
  obtain ⟨m, hm⟩ := h
  exact ⟨m, by rw [World.cell?_of_block (w := w) (hb _ (cell_block hm))]; exact hm⟩
theorem Mx.below {w w' : World} (h : Mx w) (hb : Below w.heap.size w w') : Mx w' := h.keep fun k hk => hb.block k hk
theorem Mx.alloc {w : World} (h : Mx w) (o : Obj) : Mx (w.alloc o) := h.keep (alloc_keep w o)
theorem Mx.drewN {w : World} (h : Mx w) (n : Nat) : Mx (w.drewN n) := h.keep fun _ _ => rfl

theorem split_any (s : ByteArray) (w : World) (h : Mx w) (hs : s.size ≤ 1000000) :
    Calls Tryd.prog 31 #[.string s, .string ⟨#[42]⟩] w fun e w' => e = .returned (.slice (some ⟨w.heap.size, 0, none⟩) (splitS 42 s).length (splitS 42 s).length) ∧ w' = w.alloc (.cells ((splitS 42 s).map Value.string).toArray 9) := by
  obtain ⟨m, hm⟩ := h
  refine (Tryd.strings_Split s ⟨#[42]⟩ m w (by omega) hm (by decide)).mono ?_
  rintro e w' ⟨rfl, rfl⟩
  have e1 : Lib.splitB ⟨#[42]⟩ 0 (Lib.countB s ⟨#[42]⟩) s = splitS 42 s := splitB_lib 42 s
  have e2 : Lib.countB s ⟨#[42]⟩ + 1 = (splitS 42 s).length := by
    rw [← e1]; exact (Lib.splitB_all ⟨#[42]⟩ (by decide) 0 _ s rfl).symm
  rw [e1, e2]
  exact ⟨rfl, rfl⟩
theorem strs_at {w : World} {B cap : Nat} {P : List ByteArray} (h : IsStrs w (some ⟨B, 0, none⟩) cap P) {i : Nat} (hi : i < P.length) : w.cell? ⟨B, i, none⟩ = some (.string P[i]) := by
  obtain ⟨b, o, e, c⟩ := h.2.2.2 (by rintro rfl; simp at hi)
  injection e with e
  injection e with e1 e2 _
  subst e1; subst e2
  have := c i hi
  rwa [Nat.zero_add] at this
def rawL (P : List ByteArray) : List (List UInt8) := P.map fun x => x.data.toList
theorem cut_any (s x : ByteArray) (w : World) (h : Mx w) (hs : s.size ≤ 1000000) :
    Calls Tryd.prog 45 #[.string s, .string x] w fun e w' => e = .returned (.tuple #[.string (bs (Lib.cut s.data.toList x.data.toList).1), .string (bs (Lib.cut s.data.toList x.data.toList).2.1), .bool (Lib.cut s.data.toList x.data.toList).2.2]) ∧ ∃ n, w' = w.drewN n := by
  obtain ⟨m, hm⟩ := h
  exact Tryd.strings_Cut s x m w (by omega) hm
theorem pre_any (s x : ByteArray) (w : World) :
    Calls Tryd.prog 44 #[.string s, .string x] w fun e w' => e = .returned (.tuple #[.string (bs (Lib.trimPrefix s.data.toList x.data.toList)), .bool (x.data.toList.isPrefixOf s.data.toList)]) ∧ w' = w := Tryd.strings_CutPrefix s x w

theorem suf_lib (s x : ByteArray) (w : World) (hs : s.size ≤ 1000000) :
    Calls Tryd.prog 46 #[.string s, .string x] w fun e w' => e = .returned (.bool (decide (x.data.toList <:+ s.data.toList))) ∧ w' = w := by
  refine (Tryd.strings_HasSuffix s x w (by omega)).mono ?_
  rintro e w' ⟨rfl, rfl⟩
  refine ⟨ret_bool ?_, rfl⟩
  unfold Lib.hasSuffix
  rw [Bool.eq_iff_iff, List.isSuffixOf_iff_suffix, decide_eq_true_eq]
theorem raw_drop {P : List ByteArray} {k : Nat} (h : k < P.length) : rawL (P.drop k) = P[k].data.toList :: rawL (P.drop (k + 1)) := by
  unfold rawL; rw [List.drop_eq_getElem_cons h, List.map_cons]
theorem raw_len (P : List ByteArray) : (rawL P).length = P.length := by simp [rawL]
theorem just_pre {P : List ByteArray} (h : 0 < P.length) (s : List UInt8) : justL true (rawL P) s = (P[0].data.toList.isPrefixOf s && restL true (rawL (P.drop 1)) (s.drop P[0].data.toList.length)) := by
  have := raw_drop (P := P) (k := 0) h
  rw [List.drop_zero] at this
  rw [this]; rfl
theorem rest_mid {P : List ByteArray} {k : Nat} (h : k + 1 < P.length) (r : List UInt8) : restL true (rawL (P.drop k)) r = if Lib.index r P[k].data.toList = -1 then false else restL true (rawL (P.drop (k + 1))) (r.drop ((Lib.index r P[k].data.toList).toNat + P[k].data.toList.length)) := by
  rw [raw_drop (by omega)]
  conv => lhs; unfold restL
  rw [if_neg]
  rw [raw_drop h]; simp
theorem rest_last {P : List ByteArray} {k : Nat} (h : k + 1 = P.length) (r : List UInt8) : restL true (rawL (P.drop k)) r = decide ((P[P.length - 1]'(by omega)).data.toList <:+ r) := by
  obtain rfl : k = P.length - 1 := by omega
  rw [raw_drop (by omega), List.drop_eq_nil_of_le (by omega)]
  unfold restL
  rw [if_pos (by rfl)]
theorem cut_yes {s x : List UInt8} (h : ¬ Lib.index s x = -1) : Lib.cut s x = (s.take (Lib.index s x).toNat, s.drop ((Lib.index s x).toNat + x.length), true) := by
  unfold Lib.cut
  rw [if_pos]
  have := Lib.index_ge s x; omega
theorem cut_no {s x : List UInt8} (h : Lib.index s x = -1) : Lib.cut s x = (s, [], false) := by
  unfold Lib.cut
  rw [if_neg (by omega)]

set_option maxRecDepth 100000 in
set_option maxHeartbeats 1600000 in
theorem implJust_any (B : Nat) (P : List ByteArray) (s : ByteArray) (w : World) (hM : Mx w) (hI : IsStrs w (some ⟨B, 0, none⟩) P.length P) (h1 : 1 ≤ P.length) (h2 : P.length ≤ 30) (hs : s.size ≤ 60) :
    Calls Tryd.prog 30 #[.slice (some ⟨B, 0, none⟩) P.length P.length, .string s] w fun e w' => e = .returned (.bool (justL true (rawL P) s.data.toList)) ∧ Below w.heap.size w w' := by
  have c0 := strs_at hI (show 0 < P.length from h1)
  have HJ : Hid _ := just_pre (show 0 < P.length from h1) s.data.toList
  have HI : Hid _ := hI
  have HM : Hid _ := hM
  clear hI hM
  cases hx : P[0].data.toList.isPrefixOf s.data.toList with
  | false =>
    rw [hx, Bool.false_and] at HJ
    have HX : Hid _ := hx
    clear hx
    go_enter Tryd.func30, Tryd.ntmps30
    go_wp2_with fail
    refine (pre_any s P[0] _).mono ?_
    rintro e w1 ⟨rfl, rfl⟩
    rw [HX.out]
    go_wp2
    go_ret
    exact ⟨ret_bool HJ.out.symm, Below.refl _ _⟩
  | true =>
    rw [hx, Bool.true_and] at HJ
    have hr : Lib.trimPrefix s.data.toList P[0].data.toList = s.data.toList.drop P[0].data.toList.length := by unfold Lib.trimPrefix Lib.hasPrefix; rw [hx]; rfl
    obtain ⟨r0, hr0⟩ : ∃ r0, r0 = s.data.toList.drop P[0].data.toList.length := ⟨_, rfl⟩
    have hl0 : r0.length ≤ 60 := by rw [hr0, List.length_drop, len_eq]; omega
    rw [← hr0] at hr HJ
    have HX : Hid _ := hx
    have HR : Hid _ := hr
    clear hx hr hr0
    by_cases h11 : P.length = 1
    · have HE : Hid (r0.isEmpty = justL true (rawL P) s.data.toList) := by
        show _ = _
        rw [HJ.out, List.drop_eq_nil_of_le (by omega)]; rfl
      have h11' : (((P.length : Nat) : Int) == 1) = true := by simp; omega
      go_enter Tryd.func30, Tryd.ntmps30
      go_wp2_with fail
      refine (pre_any s P[0] _).mono ?_
      rintro e w1 ⟨rfl, rfl⟩
      rw [HX.out, HR.out]
      clear c0
      go_wp2
      go_ret
      refine ⟨ret_bool ?_, Below.refl _ _⟩
      rw [← HE.out, ByteArray.toList_eq, show (bs r0).data.toList = r0 from by unfold bs; simp]
    · have h11' : (((P.length : Nat) : Int) == 1) = false := by simp; omega
      have HLL := fun (W : World) (q : Nat) (hq : q < P.length) (h : IsStrs W (some ⟨B, 0, none⟩) P.length P) => strs_at h hq
      go_enter Tryd.func30, Tryd.ntmps30
      go_wp2_with fail
      refine (pre_any s P[0] _).mono ?_
      rintro e w1 ⟨rfl, rfl⟩
      rw [HX.out, HR.out]
      clear c0
      go_wp2
      go_loopw [5, 35] (fun v i wr => ∃ (k : Nat) (r : List UInt8), k + 2 ≤ P.length ∧ i = .int .i64 (k : Int) ∧ v = .string (bs r) ∧ r.length ≤ 60 ∧ Hid (justL true (rawL P) s.data.toList = restL true (rawL (P.drop (k + 1))) r) ∧ Hid (IsStrs wr (some ⟨B, 0, none⟩) P.length P) ∧ Hid (Mx wr) ∧ Hid (Below w1.heap.size w1 wr)) (fun _ i _ => P.length - (intOf i).toNat)
      case atStart => exact ⟨0, r0, by omega, rfl, rfl, hl0, HJ.out, HI, HM, Below.refl _ _⟩
      case round =>
        obtain ⟨k, r, hk, rfl, rfl, hrl, HE, HIn, HMn, HBn⟩ := hrel
        by_cases hlt : k + 2 < P.length
        · have ck : wr.cell? ⟨B, 1 + k, none⟩ = some (.string P[k + 1]) := by rw [Nat.add_comm]; exact strs_at HIn.out (show k + 1 < P.length by omega)
          have HS : Hid _ := rest_mid (show k + 1 + 1 < P.length by omega) r
          by_cases hix : Lib.index r P[k + 1].data.toList = -1
          · have HC : Hid _ := cut_no hix
            have HF : Hid (justL true (rawL P) s.data.toList = false) := by show _ = _; rw [HE.out, HS.out, if_pos hix]
            clear HS hix
            go_wp2_with fail
            refine (cut_any (bs r) P[k + 1] _ HMn.out (by rw [bs_size]; omega)).mono ?_
            rintro e w2 ⟨rfl, m, rfl⟩
            rw [show (bs r).data.toList = r from by unfold bs; simp, HC.out]
            go_wp2
            go_ret
            exact ⟨ret_bool HF.out.symm, below_drewN HBn.out m⟩
          · have HC : Hid _ := cut_yes hix
            have HF : Hid (justL true (rawL P) s.data.toList = restL true (rawL (P.drop (k + 1 + 1))) (r.drop ((Lib.index r P[k + 1].data.toList).toNat + P[k + 1].data.toList.length))) := by show _ = _; rw [HE.out, HS.out, if_neg hix]
            clear HS hix
            go_wp2_with fail
            refine (cut_any (bs r) P[k + 1] _ HMn.out (by rw [bs_size]; omega)).mono ?_
            rintro e w2 ⟨rfl, m, rfl⟩
            rw [show (bs r).data.toList = r from by unfold bs; simp, HC.out]
            go_wp2
            go_roundw
            case rel => exact ⟨k + 1, _, by omega, by go_num, rfl, by rw [List.length_drop]; omega, HF.out, IsStrs.drewN HIn.out m, Mx.drewN HMn.out m, below_drewN HBn.out m⟩
            case measure => simp [intOf]; omega
        · have hk2 : k + 2 = P.length := by omega
          have ck := strs_at HIn.out (show P.length - 1 < P.length by omega)
          have HF : Hid (justL true (rawL P) s.data.toList = decide (P[P.length - 1].data.toList <:+ r)) := by
            show _ = _
            rw [HE.out, rest_last (show k + 1 + 1 = P.length by omega)]
          go_wp2_with fail
          refine (suf_lib (bs r) P[P.length - 1] _ (by rw [bs_size]; omega)).mono ?_
          rintro e w2 ⟨rfl, rfl⟩
          rw [show (bs r).data.toList = r from by unfold bs; simp]
          go_wp2
          go_ret
          exact ⟨ret_bool HF.out.symm, HBn.out⟩
end Go.Proofs.YtemobclefdodjaaDoor.Ha
