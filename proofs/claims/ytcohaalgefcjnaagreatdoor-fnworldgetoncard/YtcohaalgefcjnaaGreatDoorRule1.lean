/- Is a text a pattern: of the program and of the model. -/
import Derived.Test.YtcohaalgefcjnaaGreatDoorRuleMath
import Derived.Test.YtcohaalgefcjnaaGreatDoorEscLeafPk
namespace Go.Proofs.YtcohaalgefcjnaaGreatDoor.Ru1
open Go.RowKit Go.Proofs.YtcohaalgefcjnaaGreatDoor.EscM Go.Proofs.YtcohaalgefcjnaaGreatDoor.EscL Go.Proofs.YtcohaalgefcjnaaGreatDoor.RuleM

theorem ext_take (s : ByteArray) (k : Nat) : (s.extract 0 k).data.toList = s.data.toList.take k := by simp
theorem head_at (s : ByteArray) (h : 0 < s.size) : (s.data.toList.head? = some 47) ↔ (((s[0]'h).toNat : Int) = 47) := by
  rw [List.head?_eq_getElem?, List.getElem?_eq_getElem (by simpa using h)]
  constructor
  · intro e; have := Option.some.inj e; rw [getElem_eq, this]; rfl
  · intro e; congr 1; exact UInt8.toNat.inj (by rw [getElem_eq] at e; show _ = 47; omega)
theorem len_eq (s : ByteArray) : s.data.toList.length = s.size := by simp

theorem ends_ext (s : ByteArray) (h : ¬ s.size < 1) : ((s.extract (s.size - 1) s.size).toList == [36]) = endsB s.data.toList := by
  have hl := len_eq s
  rw [ends_at (by omega), ByteArray.toList_eq]
  have e : (s.extract (s.size - 1) s.size).data.toList = [s.data.toList[s.data.toList.length - 1]'(by omega)] := by
    have e1 : (s.extract (s.size - 1) s.size).data.toList = s.data.toList.drop (s.data.toList.length - 1) := by
      rw [hl]
      simp only [ByteArray.data_extract, Array.toList_extract, List.extract_eq_take_drop]
      rw [List.take_of_length_le]; rw [List.length_drop, hl]; omega
    rw [e1, List.drop_eq_getElem_cons (by omega), List.drop_eq_nil_of_le (by omega)]
  rw [e, Bool.eq_iff_iff]; simp

theorem suf_any (s : ByteArray) (w : World) (hs : s.size ≤ 1000000) :
    Calls Tryz.prog 188 #[.string s, .string ⟨#[36]⟩] w fun e w' => e = .returned (.bool (endsB s.data.toList)) ∧ w' = w := by
  by_cases h0 : s.size < 1
  · have HE : Hid (endsB s.data.toList = false) := by
      have : s.data.toList = [] := List.eq_nil_of_length_eq_zero (by rw [len_eq]; omega)
      show _ = _
      rw [this]; rfl
    go_enter Tryz.func188, Tryz.ntmps188
    go_wp2
    go_ret
    exact ⟨ret_bool HE.out.symm, rfl⟩
  · go_enter Tryz.func188, Tryz.ntmps188
    go_wp2
    go_ret
    exact ⟨ret_bool (ends_ext s h0), rfl⟩

theorem ext_drop (s : ByteArray) : (s.extract 0 (s.size - 1)).data.toList = s.data.toList.dropLast := by
  rw [ext_take, List.dropLast_eq_take, len_eq]
theorem ext_size (s : ByteArray) (k : Nat) (h : k ≤ s.size) : (s.extract 0 k).size = k := by simp; omega

theorem trim_any (s : ByteArray) (w : World) (hs : s.size ≤ 1000000) :
    Calls Tryz.prog 186 #[.string s, .string ⟨#[36]⟩] w fun e w' => ∃ t : ByteArray, e = .returned (.string t) ∧ t.data.toList = bodyL s.data.toList ∧ t.size ≤ s.size ∧ w' = w := by
  go_enter Tryz.func186, Tryz.ntmps186
  go_wp2_with fail
  refine (suf_any s _ hs).mono ?_
  rintro e w1 ⟨rfl, rfl⟩
  cases he : endsB s.data.toList with
  | true =>
    have h0 : ¬ s.size < 1 := by
      intro h
      have : s.data.toList = [] := List.eq_nil_of_length_eq_zero (by rw [len_eq]; omega)
      rw [this] at he; cases he
    go_wp2
    go_ret
    exact ⟨_, rfl, by rw [ext_drop s, body_ends he], by rw [ext_size _ _ (by omega)]; omega, rfl⟩
  | false =>
    go_wp2
    go_ret
    exact ⟨_, rfl, (body_not he).symm, Nat.le_refl _, rfl⟩
theorem trimS_any (s : ByteArray) (w : World) (hs : s.size ≤ 1000000) :
    Calls Tryz.prog 173 #[.string s, .string ⟨#[36]⟩] w fun e w' => ∃ t : ByteArray, e = .returned (.string t) ∧ t.data.toList = bodyL s.data.toList ∧ t.size ≤ s.size ∧ w' = w := by
  go_enter Tryz.func173, Tryz.ntmps173
  go_wp2_with fail
  refine (trim_any s _ hs).mono ?_
  rintro e w1 ⟨t, rfl, ht, hz, rfl⟩
  go_wp2
  go_ret
  exact ⟨_, rfl, ht, hz, rfl⟩

set_option maxRecDepth 100000 in
set_option maxHeartbeats 800000 in
theorem implRule_any (s : ByteArray) (w : World) (hs : s.size ≤ maxLen) :
    Calls Tryz.prog 155 #[.string s] w fun e w' => e = .returned (.bool (ruleL s.data.toList)) ∧ Below w.heap.size w w' := by
  unfold maxLen at hs
  by_cases h1 : s.size < 1
  · have HN : Hid (ruleL s.data.toList = false) := ruleL_len (by rw [len_eq]; omega)
    go_enter Tryz.func155, Tryz.ntmps155
    go_wp2
    go_ret
    exact ⟨ret_bool HN.out.symm, Below.refl _ _⟩
  by_cases h2 : 16 < s.size
  · have HN : Hid (ruleL s.data.toList = false) := ruleL_len (by rw [len_eq]; omega)
    go_enter Tryz.func155, Tryz.ntmps155
    go_wp2
    go_ret
    exact ⟨ret_bool HN.out.symm, Below.refl _ _⟩
  by_cases h3 : (((s[0]'(by omega)).toNat : Int) = 47)
  · have HR : Hid (ruleL s.data.toList = (bodyL s.data.toList).all (fun b => ruleZ (b.toNat : Int))) := ruleL_body (by rw [len_eq]; omega) ((head_at s (by omega)).2 h3)
    have h3' : ((((s[0]'(by omega)).toNat : Int)) != 47) = false := by simpa using h3
    clear h3
    go_enter Tryz.func155, Tryz.ntmps155
    go_wp2_with fail
    refine (trimS_any s _ (by omega)).mono ?_
    rintro e w1 ⟨t, rfl, ht, hz, rfl⟩
    have HT : Hid _ := ht
    clear ht h3'
    have hz16 : t.size ≤ 16 := by omega
    go_wp2
    go_loopw [4] (fun i wr => ∃ k : Nat, k ≤ t.size ∧ i = .int .i64 (k : Int) ∧ Hid ((t.data.toList.take k).all (fun b => ruleZ (b.toNat : Int)) = true) ∧ Below w1.heap.size w1 wr) (fun i _ => t.size - (intOf i).toNat)
    case atStart => exact ⟨0, Nat.zero_le _, rfl, by show _ = _; simp, Below.refl _ _⟩
    case round =>
      obtain ⟨k, hk, rfl, HA, hb⟩ := hrel
      by_cases hlt : k < t.size
      · have hlt' : k < t.data.toList.length := by rw [len_eq]; exact hlt
        have HP : Hid (decide (0 ≤ placeFrom ruleSigns ((t[k]'hlt).toNat : Int) 0) = ruleZ ((t[k]'hlt).toNat : Int)) := place_rule _ (by omega) (byte_le _)
        by_cases hz : 0 ≤ placeFrom ruleSigns ((t[k]'hlt).toNat : Int) 0
        · have HN : Hid ((t.data.toList.take (k + 1)).all (fun b => ruleZ (b.toNat : Int)) = true) := all_take hlt' HA.out (by have := HP.out; rw [decide_eq_true hz] at this; exact this.symm)
          have hz' : 0 ≤ placeFrom (⟨#[97, 98, 99, 100, 101, 102, 103, 104, 105, 106, 107, 108, 109, 110, 111, 112, 113, 114, 115, 116, 117, 118, 119, 120, 121, 122, 48, 49, 50, 51, 52, 53, 54, 55, 56, 57, 46, 45, 47, 42, 63, 37, 65, 66, 67, 68, 69, 70]⟩ : ByteArray).data.toList ((t[k]'hlt).toNat : Int) 0 := hz
          clear hz
          go_wp2_with (go_at_call 164; refine (signPlace_any _ _ _ (by omega) (byte_le _) (by decide) (by decide)).mono ?_; rintro e w2 ⟨rfl, o, rfl⟩)
          go_roundw
          case rel => exact ⟨k + 1, by omega, by go_num, HN.out, hb.alloc hb.size _⟩
          case measure => simp [intOf]; omega
        · have HN : Hid (ruleL s.data.toList = false) := by
            show _ = _
            rw [HR.out, ← HT.out]
            exact all_at hlt' (by have := HP.out; rw [decide_eq_false hz] at this; exact this.symm)
          have hz' : ¬ 0 ≤ placeFrom (⟨#[97, 98, 99, 100, 101, 102, 103, 104, 105, 106, 107, 108, 109, 110, 111, 112, 113, 114, 115, 116, 117, 118, 119, 120, 121, 122, 48, 49, 50, 51, 52, 53, 54, 55, 56, 57, 46, 45, 47, 42, 63, 37, 65, 66, 67, 68, 69, 70]⟩ : ByteArray).data.toList ((t[k]'hlt).toNat : Int) 0 := hz
          clear hz
          go_wp2_with (go_at_call 164; refine (signPlace_any _ _ _ (by omega) (byte_le _) (by decide) (by decide)).mono ?_; rintro e w2 ⟨rfl, o, rfl⟩)
          go_ret
          exact ⟨ret_bool HN.out.symm, hb.alloc hb.size _⟩
      · have HF : Hid (ruleL s.data.toList = true) := by
          show _ = _
          rw [HR.out, ← HT.out]
          have := HA.out
          rwa [List.take_of_length_le (by rw [len_eq]; omega)] at this
        go_wp2
        go_ret
        exact ⟨ret_bool HF.out.symm, hb⟩
  · have HN : Hid (ruleL s.data.toList = false) := ruleL_head (fun e => h3 ((head_at s (by omega)).1 e))
    have h3' : ((((s[0]'(by omega)).toNat : Int)) != 47) = true := by simpa using h3
    clear h3
    go_enter Tryz.func155, Tryz.ntmps155
    go_wp2
    go_ret
    exact ⟨ret_bool HN.out.symm, Below.refl _ _⟩
/-- a byte of a pattern, where it stands -/
def fits (l : List UInt8) (j : Nat) (hj : j < l.length) : Prop := ruleZ (l[j].toNat : Int) = true ∨ (l[j] = 36 ∧ j = l.length - 1) ∧ endsB l = true
theorem fits_step {l : List UInt8} {k : Nat} (hk : k < l.length) (h : ∀ j (hj : j < k), fits l j (by omega)) (h2 : fits l k hk) : ∀ j (hj : j < k + 1), fits l j (by omega) := by
  intro j hj
  by_cases e : j = k
  · subst e; exact h2
  · exact h j (by omega)

set_option maxRecDepth 100000 in
set_option maxHeartbeats 8000000 in
theorem specRule_any (s : ByteArray) (w : World) (hs : s.size ≤ maxLen) :
    Calls Tryz.prog 157 #[.string s] w fun e w' => e = .returned (.bool (ruleL s.data.toList)) ∧ w' = w := by
  unfold maxLen at hs
  by_cases h2 : 16 < s.size
  · have HN : Hid (ruleL s.data.toList = false) := ruleL_len (by rw [len_eq]; omega)
    go_enter Tryz.func157, Tryz.ntmps157
    go_wp2
    go_ret
    exact ⟨ret_bool HN.out.symm, rfl⟩
  by_cases h1 : s.size < 1
  · have HN : Hid (ruleL s.data.toList = false) := ruleL_len (by rw [len_eq]; omega)
    have h1' : s.toList.isEmpty = true := by
      rw [ByteArray.toList_eq]
      have : s.data.toList = [] := List.eq_nil_of_length_eq_zero (by rw [len_eq]; omega)
      rw [this]; rfl
    go_enter Tryz.func157, Tryz.ntmps157
    go_wp2
    go_ret
    exact ⟨ret_bool HN.out.symm, rfl⟩
  have h1' : s.toList.isEmpty = false := by
    rw [ByteArray.toList_eq]
    cases hc : s.data.toList with
    | nil => have := len_eq s; rw [hc] at this; simp at this; omega
    | cons => rfl
  by_cases h3 : (((s[0]'(by omega)).toNat : Int) = 47)
  · have HR : Hid (ruleL s.data.toList = (bodyL s.data.toList).all (fun b => ruleZ (b.toNat : Int))) := ruleL_body (by rw [len_eq]; omega) ((head_at s (by omega)).2 h3)
    have h3' : ((((s[0]'(by omega)).toNat : Int)) != 47) = false := by simpa using h3
    have hsz : 0 < s.size := by omega
    clear h3
    go_enter Tryz.func157, Tryz.ntmps157
    go_wp2
    clear h3' h1'
    go_loop [3, 4] (fun i _ => ∃ k : Nat, k ≤ s.size ∧ i = .int .i64 (k : Int) ∧ Hid (∀ j (hj : j < k) (hj2 : j < s.data.toList.length), fits s.data.toList j hj2)) (fun i _ => s.size - (intOf i).toNat)
    case atStart => exact ⟨0, Nat.zero_le _, rfl, fun j hj => absurd hj (by omega)⟩
    case round =>
      obtain ⟨k, hk, rfl, HA⟩ := hrel
      by_cases hlt : k < s.size
      · have hlt' : k < s.data.toList.length := by rw [len_eq]; exact hlt
        have HG : fits s.data.toList k hlt' → Hid (∀ j (hj : j < k + 1) (hj2 : j < s.data.toList.length), fits s.data.toList j hj2) := by
          intro h j hj hj2
          by_cases e : j = k
          · subst e; exact h
          · exact HA.out j (by omega) hj2
        have HX : ¬ fits s.data.toList k hlt' → Hid (ruleL s.data.toList = false) := by
          intro h
          show _ = _
          rw [HR.out]
          cases ha : (bodyL s.data.toList).all (fun b => ruleZ (b.toNat : Int)) with
          | false => rfl
          | true => exact absurd ((body_all _ _).1 ha k hlt') h
        have hel : s.data.toList[k]'hlt' = s[k]'hlt := rfl
        unfold fits at HG HX
        rw [hel] at HG HX
        have HL : Hid _ := len_eq s
        have HE : Hid ((s[k]'hlt = 36 ∧ k = s.data.toList.length - 1) → endsB s.data.toList = true) := fun h => ends_of hlt' h.1 h.2
        have h36 : (s[k]'hlt = 36) ↔ (((s[k]'hlt).toNat : Int) = 36) := by
          constructor
          · intro e; rw [e]; rfl
          · intro e; exact UInt8.toNat.inj (by show _ = 36; omega)
        rw [h36] at HG HX HE
        have hn0 : (0 : Int) ≤ ((s[k]'hlt).toNat : Int) := by omega
        have hn1 : ((s[k]'hlt).toNat : Int) ≤ 255 := byte_le _
        clear hel h36
        have hnb : ∀ c : Int, (((s[k]'hlt).toNat : Int) = c) ∨ ((((s[k]'hlt).toNat : Int) != c) = true) := fun c => by
          by_cases h : (((s[k]'hlt).toNat : Int) = c)
          · exact Or.inl h
          · exact Or.inr (by simpa using h)
        have hne : ∀ c : Int, (((s[k]'hlt).toNat : Int) = c) → ((((s[k]'hlt).toNat : Int) != c) = false) := fun c h => by simpa using h
        have hrz : ruleZ ((s[k]'hlt).toNat : Int) = (plainZ ((s[k]'hlt).toNat : Int) || decide (((s[k]'hlt).toNat : Int) = 47 ∨ ((s[k]'hlt).toNat : Int) = 42 ∨ ((s[k]'hlt).toNat : Int) = 63 ∨ ((s[k]'hlt).toNat : Int) = 37 ∨ 65 ≤ ((s[k]'hlt).toNat : Int) ∧ ((s[k]'hlt).toNat : Int) ≤ 70)) := rfl
        cases hp : plainZ ((s[k]'hlt).toNat : Int) with
        | true =>
          have HN : Hid _ := HG (Or.inl (by rw [hrz, hp]; rfl))
          clear HG HX hnb hne hrz
          go_wp2_with (go_at_call 174; refine (l1Plain_any _ _ hn0 hn1).mono ?_; rintro e w2 ⟨rfl, rfl⟩)
          go_round
          case rel => exact ⟨k + 1, by omega, by go_num, HN.out⟩
          case measure => simp [intOf]; omega
        | false =>
          rw [hp, Bool.false_or] at hrz
          rcases hnb 47 with g47 | h47
          · have HN : Hid _ := HG (Or.inl (by rw [hrz, g47]; rfl))
            have h47 := hne 47 g47
            clear HG HX hnb hne hrz g47
            go_wp2_with (go_at_call 174; refine (l1Plain_any _ _ hn0 hn1).mono ?_; rintro e w2 ⟨rfl, rfl⟩)
            go_round
            case rel => exact ⟨k + 1, by omega, by go_num, HN.out⟩
            case measure => simp [intOf]; omega
          rcases hnb 42 with g42 | h42
          · have HN : Hid _ := HG (Or.inl (by rw [hrz, g42]; rfl))
            have h42 := hne 42 g42
            clear HG HX hnb hne hrz g42
            go_wp2_with (go_at_call 174; refine (l1Plain_any _ _ hn0 hn1).mono ?_; rintro e w2 ⟨rfl, rfl⟩)
            go_round
            case rel => exact ⟨k + 1, by omega, by go_num, HN.out⟩
            case measure => simp [intOf]; omega
          rcases hnb 63 with g63 | h63
          · have HN : Hid _ := HG (Or.inl (by rw [hrz, g63]; rfl))
            have h63 := hne 63 g63
            clear HG HX hnb hne hrz g63
            go_wp2_with (go_at_call 174; refine (l1Plain_any _ _ hn0 hn1).mono ?_; rintro e w2 ⟨rfl, rfl⟩)
            go_round
            case rel => exact ⟨k + 1, by omega, by go_num, HN.out⟩
            case measure => simp [intOf]; omega
          rcases hnb 37 with g37 | h37
          · have HN : Hid _ := HG (Or.inl (by rw [hrz, g37]; rfl))
            have h37 := hne 37 g37
            clear HG HX hnb hne hrz g37
            go_wp2_with (go_at_call 174; refine (l1Plain_any _ _ hn0 hn1).mono ?_; rintro e w2 ⟨rfl, rfl⟩)
            go_round
            case rel => exact ⟨k + 1, by omega, by go_num, HN.out⟩
            case measure => simp [intOf]; omega
          by_cases hA : (65 : Int) ≤ ((s[k]'hlt).toNat : Int) ∧ ((s[k]'hlt).toNat : Int) ≤ 70
          · have HN : Hid _ := HG (Or.inl (by rw [hrz]; exact decide_eq_true (by omega)))
            obtain ⟨hA1, hA2⟩ := hA
            clear HG HX hnb hne hrz
            go_wp2_with (go_at_call 174; refine (l1Plain_any _ _ hn0 hn1).mono ?_; rintro e w2 ⟨rfl, rfl⟩)
            go_round
            case rel => exact ⟨k + 1, by omega, by go_num, HN.out⟩
            case measure => simp [intOf]; omega
          · have hrf : ruleZ ((s[k]'hlt).toNat : Int) = false := by
              rw [hrz]
              exact decide_eq_false (by simp at h47 h42 h63 h37; omega)
            rw [hrf] at HG HX
            clear hrz hrf
            rcases hnb 36 with g36 | h36
            · have h36 : ((((s[k]'hlt).toNat : Int)) == 36) = true := by simpa using g36
              by_cases hl : k = s.size - 1
              · have HN : Hid _ := HG (Or.inr ⟨⟨g36, by rw [HL.out]; exact hl⟩, HE.out ⟨g36, by rw [HL.out]; exact hl⟩⟩)
                have hl' : (((k : Nat) : Int) == (s.size : Int) - 1) = true := by simp; omega
                clear HG HX hnb hne g36 hl HE HL
                by_cases hB : (65 : Int) ≤ ((s[k]'hlt).toNat : Int)
                · have hB2 : ¬ ((s[k]'hlt).toNat : Int) ≤ 70 := by omega
                  have hB3 : (!decide (((s[k]'hlt).toNat : Int) ≤ 70)) = true := by rw [decide_eq_false hB2]; rfl
                  clear hA
                  go_wp2_with (go_at_call 174; refine (l1Plain_any _ _ hn0 hn1).mono ?_; rintro e w2 ⟨rfl, rfl⟩)
                  go_round
                  case rel => exact ⟨k + 1, by omega, by go_num, HN.out⟩
                  case measure => simp [intOf]; omega
                · go_wp2_with (go_at_call 174; refine (l1Plain_any _ _ hn0 hn1).mono ?_; rintro e w2 ⟨rfl, rfl⟩)
                  go_round
                  case rel => exact ⟨k + 1, by omega, by go_num, HN.out⟩
                  case measure => simp [intOf]; omega
              · have HN : Hid (ruleL s.data.toList = false) := HX (by rintro (h | ⟨⟨_, h⟩, _⟩); · cases h
                                                                      · rw [HL.out] at h; exact hl h)
                have hl' : (((k : Nat) : Int) == (s.size : Int) - 1) = false := by simp; omega
                clear HG HX hnb hne g36 hl HE HL
                by_cases hB : (65 : Int) ≤ ((s[k]'hlt).toNat : Int)
                · have hB2 : ¬ ((s[k]'hlt).toNat : Int) ≤ 70 := by omega
                  have hB3 : (!decide (((s[k]'hlt).toNat : Int) ≤ 70)) = true := by rw [decide_eq_false hB2]; rfl
                  clear hA
                  go_wp2_with (go_at_call 174; refine (l1Plain_any _ _ hn0 hn1).mono ?_; rintro e w2 ⟨rfl, rfl⟩)
                  go_ret
                  exact ⟨ret_bool HN.out.symm, rfl⟩
                · go_wp2_with (go_at_call 174; refine (l1Plain_any _ _ hn0 hn1).mono ?_; rintro e w2 ⟨rfl, rfl⟩)
                  go_ret
                  exact ⟨ret_bool HN.out.symm, rfl⟩
            · have HN : Hid (ruleL s.data.toList = false) := HX (by rintro (h | ⟨⟨h, _⟩, _⟩); · cases h
                                                                    · rw [h] at h36; cases h36)
              have h36' : ((((s[k]'hlt).toNat : Int)) == 36) = false := by simpa using h36
              clear HG HX hnb hne h36 HE HL
              by_cases hB : (65 : Int) ≤ ((s[k]'hlt).toNat : Int)
              · have hB2 : ¬ ((s[k]'hlt).toNat : Int) ≤ 70 := by omega
                have hB3 : (!decide (((s[k]'hlt).toNat : Int) ≤ 70)) = true := by rw [decide_eq_false hB2]; rfl
                clear hA
                go_wp2_with (go_at_call 174; refine (l1Plain_any _ _ hn0 hn1).mono ?_; rintro e w2 ⟨rfl, rfl⟩)
                go_ret
                exact ⟨ret_bool HN.out.symm, rfl⟩
              · go_wp2_with (go_at_call 174; refine (l1Plain_any _ _ hn0 hn1).mono ?_; rintro e w2 ⟨rfl, rfl⟩)
                go_ret
                exact ⟨ret_bool HN.out.symm, rfl⟩
      · have HF : Hid (ruleL s.data.toList = true) := by
          show _ = _
          rw [HR.out, body_all]
          intro j hj
          exact HA.out j (by rw [len_eq] at hj; omega) hj
        go_wp2
        go_ret
        exact ⟨ret_bool HF.out.symm, rfl⟩
  · have HN : Hid (ruleL s.data.toList = false) := ruleL_head (fun e => h3 ((head_at s (by omega)).1 e))
    have h3' : ((((s[0]'(by omega)).toNat : Int)) != 47) = true := by simpa using h3
    clear h3
    go_enter Tryz.func157, Tryz.ntmps157
    go_wp2
    go_ret
    exact ⟨ret_bool HN.out.symm, rfl⟩
end Go.Proofs.YtcohaalgefcjnaaGreatDoor.Ru1
