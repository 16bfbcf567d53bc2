/- Is a way of a pattern: the program's, whole. -/
import Derived.Test.YtemobclefdodjaaDoorHas1
namespace Go.Proofs.YtemobclefdodjaaDoor.Ha
open Go.RowKit Go.Proofs.YtemobclefdodjaaDoor.EscM Go.Proofs.YtemobclefdodjaaDoor.EscL Go.Proofs.YtemobclefdodjaaDoor.RuleM Go.Proofs.YtemobclefdodjaaDoor.Ru1 Go.Proofs.YtemobclefdodjaaDoor.ReadM Go.Proofs.YtemobclefdodjaaDoor.HasM Go.Proofs.YtemobclefdodjaaDoor.St Go.Proofs.YtemobclefdodjaaDoor.Rd1 Go.Proofs.YtemobclefdodjaaDoor.LibS

theorem bs_list (l : List UInt8) : (bs l).data.toList = l := by unfold bs; simp
theorem raw_split (c : Int) (s : ByteArray) : rawL (splitS c s) = splitL c s.data.toList := by
  unfold rawL splitS
  rw [List.map_map]
  conv => rhs; rw [← List.map_id (splitL c s.data.toList)]
  apply List.map_congr_left
  intro x _
  exact bs_list x
theorem split_snoc : ∀ l : List UInt8, splitL 42 (l ++ [42]) = splitL 42 l ++ [[]] := by
  intro l
  induction l with
  | nil => rfl
  | cons b r ih =>
    rw [List.cons_append, split_cons, split_cons, ih]
    by_cases h : (b.toNat : Int) = 42
    · rw [if_pos h, if_pos h]; rfl
    · rw [if_neg h, if_neg h]
      cases hs : splitL 42 r with
      | nil => exact absurd hs (split_ne _ _)
      | cons y u => rfl
theorem rest_snoc : ∀ (t : List (List UInt8)) (r : List UInt8), restL true (t ++ [[]]) r = restL false t r := by
  intro t
  induction t with
  | nil => intro r; show restL true [[]] r = _; unfold restL; rw [if_pos (by rfl)]; simp
  | cons x t ih =>
    intro r
    rw [List.cons_append]
    conv => lhs; unfold restL
    conv => rhs; unfold restL
    have h1 : (true && (t ++ [[]]).isEmpty) = false := by simp
    have h2 : (false && t.isEmpty) = false := rfl
    rw [h1, h2, if_neg Bool.false_ne_true, if_neg Bool.false_ne_true, ih]
theorem just_snoc (l s : List UInt8) : justL true (splitL 42 (l ++ [42])) s = justL false (splitL 42 l) s := by
  rw [split_snoc]
  cases hs : splitL 42 l with
  | nil => exact absurd hs (split_ne _ _)
  | cons x t => rw [List.cons_append]; unfold justL; dsimp only; rw [rest_snoc]
theorem has_suf (l : List UInt8) : Lib.hasSuffix l [36] = endsB l := by
  unfold Lib.hasSuffix endsB
  rw [Bool.eq_iff_iff, List.isSuffixOf_iff_suffix, decide_eq_true_eq]
  constructor
  · rintro ⟨a, rfl⟩; simp
  · intro h
    have hne : l ≠ [] := by rintro rfl; cases h
    rw [List.getLast?_eq_some_getLast hne] at h
    refine ⟨l.dropLast, ?_⟩
    rw [← Option.some.inj h]; exact List.dropLast_concat_getLast hne
theorem trim_suf (l : List UInt8) : Lib.trimSuffix l [36] = bodyL l := by
  unfold Lib.trimSuffix bodyL
  rw [has_suf]
  cases endsB l with
  | true => rw [if_pos rfl, if_pos rfl, List.dropLast_eq_take]; rfl
  | false => rfl
theorem cutsuf_any (s : ByteArray) (w : World) (hs : s.size ≤ 1000000) :
    Calls Tryd.prog 29 #[.string s, .string ⟨#[36]⟩] w fun e w' => e = .returned (.tuple #[.string (bs (bodyL s.data.toList)), .bool (endsB s.data.toList)]) ∧ w' = w := by
  refine (Tryd.strings_CutSuffix s ⟨#[36]⟩ w (by omega)).mono ?_
  rintro e w' ⟨rfl, rfl⟩
  have e1 : (⟨#[36]⟩ : ByteArray).data.toList = [36] := rfl
  rw [e1, has_suf, trim_suf]
  exact ⟨rfl, rfl⟩
theorem body_len (l : List UInt8) : (bodyL l).length ≤ l.length := by
  unfold bodyL; split
  · simp
  · exact Nat.le_refl _

set_option maxRecDepth 100000 in
set_option maxHeartbeats 1600000 in
theorem implHas_any (p s : ByteArray) (w : World) (hM : Mx w) (hp : p.size ≤ maxLen) (hs : s.size ≤ maxLen) :
    Calls Tryd.prog 13 #[.string p, .string s] w fun e w' => e = .returned (.bool (hasL p.data.toList s.data.toList)) ∧ Below w.heap.size w w' := by
  unfold maxLen at hs
  have HM : Hid (Mx w) := hM
  clear hM
  cases hr : ruleL p.data.toList with
  | false =>
    have HF : Hid (hasL p.data.toList s.data.toList = false) := has_bad hr _
    have HR : Hid _ := hr
    clear hr
    go_enter Tryd.func13, Tryd.ntmps13
    go_wp2_with fail
    refine (implRule_any p _ hp).mono ?_
    rintro e w1 ⟨rfl, hb1⟩
    rw [HR.out]
    go_wp2
    go_ret
    exact ⟨ret_bool HF.out.symm, hb1⟩
  | true =>
    have HR : Hid _ := hr
    obtain ⟨⟨_, hp16⟩, _, _⟩ := ruleL_parts hr
    rw [len_eq] at hp16
    clear hr
    by_cases hl : s.size ≤ 60
    · have HE : Hid (hasL p.data.toList s.data.toList = justL (endsB p.data.toList) (splitL 42 (bodyL p.data.toList)) s.data.toList) := by
        show _ = _
        unfold hasL
        rw [HR.out, decide_eq_true (by rw [len_eq]; exact hl)]; rfl
      obtain ⟨b, hb⟩ : ∃ b, b = bodyL p.data.toList := ⟨_, rfl⟩
      have hbl : b.length ≤ 16 := by rw [hb]; have := body_len p.data.toList; rw [len_eq] at this; omega
      obtain ⟨f, hf⟩ : ∃ f, f = endsB p.data.toList := ⟨_, rfl⟩
      rw [← hb, ← hf] at HE
      have HBF : Hid (b = bodyL p.data.toList ∧ f = endsB p.data.toList) := ⟨hb, hf⟩
      clear hb hf
      have main : ∀ (W : World) (c : List UInt8), Mx W → c.length ≤ 17 → Calls Tryd.prog 30 #[.slice (some ⟨W.heap.size, 0, none⟩) (splitS 42 (bs c)).length (splitS 42 (bs c)).length, .string s] (W.alloc (.cells ((splitS 42 (bs c)).map Value.string).toArray 9)) fun e w' => e = .returned (.bool (justL true (splitL 42 c) s.data.toList)) ∧ Below W.heap.size W w' := by
        intro W c hW hc
        have h1 : 1 ≤ (splitS 42 (bs c)).length := by
          unfold splitS; rw [List.length_map]
          have := split_ne 42 (bs c).data.toList
          cases hq : splitL 42 (bs c).data.toList with
          | nil => exact absurd hq this
          | cons => simp
        have h2 : (splitS 42 (bs c)).length ≤ 18 := by
          unfold splitS; rw [List.length_map]
          have := split_len 42 (bs c).data.toList
          rw [bs_list] at this ⊢; omega
        have hIs : IsStrs (W.alloc (.cells ((splitS 42 (bs c)).map Value.string).toArray 9)) (some ⟨W.heap.size, 0, none⟩) (splitS 42 (bs c)).length (splitS 42 (bs c)) := by
          refine ⟨Nat.le_refl _, by unfold maxLen; omega, (fun e => by cases e), fun _ => ⟨W.heap.size, 0, rfl, fun i hi => ?_⟩⟩
          have hb : (W.alloc (.cells ((splitS 42 (bs c)).map Value.string).toArray 9)).heap[W.heap.size]? = some (.cells ((splitS 42 (bs c)).map Value.string).toArray 9) := by show (W.heap.push _)[W.heap.size]? = _; simp
          unfold World.cell?
          dsimp only
          rw [hb]; simp [List.getElem?_eq_getElem hi]
        refine (implJust_any W.heap.size (splitS 42 (bs c)) s _ (hW.alloc _) hIs h1 (by omega) hl).mono ?_
        rintro e w' ⟨rfl, hb⟩
        refine ⟨ret_bool (by rw [raw_split, bs_list]), ?_⟩
        exact ((Below.refl _ W).alloc (Nat.le_refl _) _).trans (hb.mono (by simp))
      have MAIN : Hid _ := main
      clear main
      cases f with
      | true =>
        go_enter Tryd.func13, Tryd.ntmps13
        go_wp2_with fail
        refine (implRule_any p _ hp).mono ?_
        rintro e w1 ⟨rfl, hb1⟩
        rw [HR.out]
        have HM1 : Hid (Mx w1) := Mx.below HM.out hb1
        have HB1 : Hid _ := hb1
        clear hb1
        go_wp2_with fail
        refine (cutsuf_any p _ (by omega)).mono ?_
        rintro e w2 ⟨rfl, rfl⟩
        rw [← HBF.out.1, ← HBF.out.2]
        go_wp2_with fail
        refine (split_any (bs b) _ HM1.out (by rw [bs_size]; omega)).mono ?_
        rintro e w3 ⟨rfl, rfl⟩
        go_wp2_with fail
        refine (MAIN.out _ b HM1.out (by omega)).mono ?_
        rintro e w4 ⟨rfl, hb4⟩
        go_wp2
        go_ret
        exact ⟨ret_bool HE.out.symm, HB1.out.trans (hb4.mono HB1.out.size)⟩
      | false =>
        have HE2 : Hid (hasL p.data.toList s.data.toList = justL true (splitL 42 (b ++ [42])) s.data.toList) := by show _ = _; rw [HE.out, just_snoc]
        go_enter Tryd.func13, Tryd.ntmps13
        go_wp2_with fail
        refine (implRule_any p _ hp).mono ?_
        rintro e w1 ⟨rfl, hb1⟩
        rw [HR.out]
        have HM1 : Hid (Mx w1) := Mx.below HM.out hb1
        have HB1 : Hid _ := hb1
        clear hb1
        go_wp2_with fail
        refine (cutsuf_any p _ (by omega)).mono ?_
        rintro e w2 ⟨rfl, rfl⟩
        rw [← HBF.out.1, ← HBF.out.2]
        have hb42 : ¬ 9223372036854775807 < (bs b).size + (⟨#[42]⟩ : ByteArray).size := by rw [bs_size]; show ¬ _ < _ + 1; omega
        have HBS : Hid (bs b ++ (⟨#[42]⟩ : ByteArray) = bs (b ++ [42])) := by
          show _ = _
          unfold bs; apply ByteArray.ext; simp
        go_wp2_with fail
        rw [HBS.out]
        refine (split_any (bs (b ++ [42])) _ HM1.out (by rw [bs_size, List.length_append]; simp; omega)).mono ?_
        rintro e w3 ⟨rfl, rfl⟩
        go_wp2_with fail
        refine (MAIN.out _ (b ++ [42]) HM1.out (by simp; omega)).mono ?_
        rintro e w4 ⟨rfl, hb4⟩
        go_wp2
        go_ret
        exact ⟨ret_bool HE2.out.symm, HB1.out.trans (hb4.mono HB1.out.size)⟩
    · have HF : Hid (hasL p.data.toList s.data.toList = false) := has_long _ (by rw [len_eq]; exact hl)
      have hl' : 60 < s.size := by omega
      go_enter Tryd.func13, Tryd.ntmps13
      go_wp2_with fail
      refine (implRule_any p _ hp).mono ?_
      rintro e w1 ⟨rfl, hb1⟩
      rw [HR.out]
      go_wp2
      go_ret
      exact ⟨ret_bool HF.out.symm, hb1⟩
end Go.Proofs.YtemobclefdodjaaDoor.Ha
