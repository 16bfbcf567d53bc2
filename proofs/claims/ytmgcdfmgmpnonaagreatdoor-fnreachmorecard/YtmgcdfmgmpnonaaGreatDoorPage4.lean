/- The model's marks, links and base of a page. -/
import Derived.Test.YtmgcdfmgmpnonaaGreatDoorPage3
namespace Go.Proofs.YtmgcdfmgmpnonaaGreatDoor.Pg
open Go.RowKit Go.Proofs.YtmgcdfmgmpnonaaGreatDoor.EscM Go.Proofs.YtmgcdfmgmpnonaaGreatDoor.EscL Go.Proofs.YtmgcdfmgmpnonaaGreatDoor.ReadM Go.Proofs.YtmgcdfmgmpnonaaGreatDoor.St Go.Proofs.YtmgcdfmgmpnonaaGreatDoor.PgM Go.Proofs.YtmgcdfmgmpnonaaGreatDoor.Dr

/-- where the model stands behind k bytes: what it keeps, against where the walk stands -/
def Stands (s : ByteArray) (k p : Nat) (m : List UInt8) (round : Bool) (frm : Int) : Prop :=
  (p = 0 ∧ round = false ∧ frm = -1) ∨ (p = 2 ∧ round = true ∧ frm = -1) ∨ (p = 1 ∧ round = false ∧ ∃ f : Nat, frm = (f : Int) ∧ f ≤ k ∧ m = (s.data.toList.take k).drop f)
theorem ext_mid (s : ByteArray) (f k : Nat) (_h : k ≤ s.size) : s.extract f k = bs ((s.data.toList.take k).drop f) := by
  apply ByteArray.ext
  simp [bs, ByteArray.data_extract]
  apply Array.ext'
  simp [List.drop_take]
theorem take_more {s : ByteArray} {k f : Nat} (h : k < s.size) (hf : f ≤ k) : (s.data.toList.take (k + 1)).drop f = (s.data.toList.take k).drop f ++ [s[k]'h] := by
  have hl : k < s.data.toList.length := by simpa using h
  rw [List.take_succ_eq_append_getElem hl, List.drop_append_of_le_length (by simp; omega)]
  rfl

set_option maxRecDepth 100000 in
set_option maxHeartbeats 3200000 in
theorem specMarks_any (s : ByteArray) (w : World) (hs : s.size ≤ 4194304) :
    Calls Tryz.prog 187 #[.string s] w fun e w' => ∃ v, e = .returned v ∧ Owns w' w.heap.size v (marksF s) ∧ Below w.heap.size w w' := by
  obtain ⟨i0, hi, hz0, hz1, hz2⟩ := info_parts Tryz.infoS
  have HO0 : Hid (Owns (w.alloc (.cells #[] 9)) w.heap.size (.slice (some ⟨w.heap.size, 0, none⟩) 0 0) []) := Owns.empty w w.heap.size (Nat.le_refl _)
  have HB0 : Hid (Below w.heap.size w (w.alloc (.cells #[] 9))) := (Below.refl _ _).alloc (Nat.le_refl _) _
  by_cases hlong : 300 < s.size
  · have HL : Hid (marksF s = []) := by show _ = _; unfold marksF; rw [if_pos hlong]
    go_enter Tryz.func187, Tryz.ntmps187
    go_wp2
    go_loopw [3, 6] (fun v i wr => v = .slice (some ⟨w.heap.size, 0, none⟩) 0 0 ∧ i = .int .i64 0 ∧ wr = w.alloc (.cells #[] 9)) (fun _ _ _ => 0)
    case atStart => exact ⟨rfl, rfl, rfl⟩
    case round =>
      obtain ⟨rfl, rfl, rfl⟩ := hrel
      go_wp2
      go_ret
      exact ⟨_, rfl, by rw [HL.out]; exact HO0.out, HB0.out⟩
  · have HL : Hid (marksF s = mk 0 [] s.data.toList) := by show _ = _; unfold marksF; rw [if_neg hlong]
    go_enter Tryz.func187, Tryz.ntmps187
    go_wp2
    go_loopw [3, 4, 5, 6] (fun v r f i wr => ∃ (k p : Nat) (m : List UInt8) (M : List ByteArray) (round : Bool) (frm : Int), k ≤ s.size ∧ i = .int .i64 (k : Int) ∧ r = .bool round ∧ f = .int .i64 frm ∧ Stands s k p m round frm ∧ M.length ≤ k ∧ Hid (Owns wr w.heap.size v M) ∧ Hid (mk 0 [] s.data.toList = M ++ mk p m (s.data.toList.drop k)) ∧ Hid (Below w.heap.size w wr)) (fun _ _ _ i _ => s.size - (intOf i).toNat)
    case atStart => exact ⟨0, 0, [], [], false, -1, Nat.zero_le _, rfl, rfl, rfl, Or.inl ⟨rfl, rfl, rfl⟩, Nat.le_refl _, HO0, rfl, HB0⟩
    case round =>
      obtain ⟨k, p, m, M, round, frm, hk, rfl, rfl, rfl, hst, hMl, HO, HG, HB⟩ := hrel
      by_cases hlt : k < s.size
      · have HS : Hid _ := mk_step (p := p) (m := m) (M := M) (b := s[k]'hlt) (by simpa using hlt) (by rfl) HG.out
        obtain ⟨ao, co, hv, hso⟩ := HO.out.strs
        subst hv
        clear hso
        rcases hst with ⟨rfl, rfl, rfl⟩ | ⟨rfl, rfl, rfl⟩ | ⟨rfl, rfl, f, rfl, hf, hm⟩
        · rw [nextP_0, nextM_0, out_0, List.append_nil] at HS
          by_cases h40 : ((s[k]'hlt).toNat : Int) = 40
          · rw [if_neg (by omega), if_pos h40, if_neg (by omega)] at HS
            go_wp2
            go_roundw
            case rel => exact ⟨k + 1, 2, m, M, true, -1, by omega, by go_num, rfl, rfl, Or.inr (Or.inl ⟨rfl, rfl, rfl⟩), by omega, HO, HS, HB⟩
            case measure => simp [intOf]; omega
          · by_cases h60 : ((s[k]'hlt).toNat : Int) = 60
            · rw [if_pos h60, if_pos h60] at HS
              have HST : Hid (Stands s (k + 1) 1 [] false ((k : Int) + 1)) := Or.inr (Or.inr ⟨rfl, rfl, k + 1, by omega, Nat.le_refl _, by rw [List.drop_eq_nil_of_le (by simp; omega)]⟩)
              go_wp2
              go_roundw
              case rel => exact ⟨k + 1, 1, [], M, false, (k : Int) + 1, by omega, by go_num, rfl, rfl, HST.out, by omega, HO, HS, HB⟩
              case measure => simp [intOf]; omega
            · rw [if_neg h60, if_neg h40, if_neg h60] at HS
              go_wp2
              go_roundw
              case rel => exact ⟨k + 1, 0, m, M, false, -1, by omega, by go_num, rfl, rfl, Or.inl ⟨rfl, rfl, rfl⟩, by omega, HO, HS, HB⟩
              case measure => simp [intOf]; omega
        · rw [nextP_2, nextM_2, out_2, List.append_nil] at HS
          by_cases h41 : ((s[k]'hlt).toNat : Int) = 41
          · rw [if_pos h41] at HS
            go_wp2
            go_roundw
            case rel => exact ⟨k + 1, 0, m, M, false, -1, by omega, by go_num, rfl, rfl, Or.inl ⟨rfl, rfl, rfl⟩, by omega, HO, HS, HB⟩
            case measure => simp [intOf]; omega
          · rw [if_neg h41] at HS
            have e41 : (((s[k]'hlt).toNat : Int) == 41) = false := by simp; omega
            go_wp2
            go_roundw
            case rel => exact ⟨k + 1, 2, m, M, true, -1, by omega, by go_num, by simpa using h41, rfl, Or.inr (Or.inl ⟨rfl, rfl, rfl⟩), by omega, HO, HS, HB⟩
            case measure => simp [intOf]; omega
        · rw [nextP_1, nextM_1, out_1] at HS
          by_cases h62 : ((s[k]'hlt).toNat : Int) = 62
          · rw [if_pos h62, if_pos h62, if_pos h62] at HS
            have HE : Hid (s.extract f k = bs m) := by show _ = _; rw [hm]; exact ext_mid s f k (by omega)
            have hkk : (f : Int) ≤ (k : Int) := by omega
            clear hm
            go_wp2_with (at_builtin; refine wpList_append_own _ rfl _ _ 26 rfl w.heap.size 9 i0 (.string ⟨#[]⟩) 1 16 Tryz.underlying26 hi hz0 hz1 hz2 rfl (by decide) _ _ _ rfl (World.ownsRow.alloc HO.out _) ⟨wr.heap.size, 0, none⟩ 1 1 [.string (s.extract f k)] rfl rfl (cell_one_new _ _ _) ?c2 ?c3 ?c4 ?c5 ?_)
            case c2 => intro u hu; simp at hu; subst hu; rfl
            case c3 => unfold maxLen; omega
            case c4 => omega
            case c5 => have := HB.out.size; simp; omega
            intro v' w4 hown' hgrow _
            have HO' : Hid (Owns w4 w.heap.size v' (M ++ [bs m])) := by
              have h := Owns.append hown'
              rw [HE.out] at h; exact h
            have HG' : Hid _ := hgrow
            clear hown' hgrow
            go_wp2
            go_roundw
            case rel =>
              refine ⟨k + 1, 0, m, M ++ [bs m], false, -1, by omega, by go_num, rfl, rfl, Or.inl ⟨rfl, rfl, rfl⟩, by simp; omega, HO', HS, ?_⟩
              exact Below.grown (HB.out.alloc HB.out.size _) HG'.out (by have := HB.out.size; simp; omega) (Owns.block HO.out)
            case measure => simp [intOf]; omega
          · rw [if_neg h62, if_neg h62, if_neg h62, List.append_nil] at HS
            have HST : Hid (Stands s (k + 1) 1 (m ++ [s[k]'hlt]) false (f : Int)) := Or.inr (Or.inr ⟨rfl, rfl, f, rfl, by omega, by rw [take_more hlt hf, hm]⟩)
            have e62 : (((s[k]'hlt).toNat : Int) == 62) = false := by simp; omega
            have hf0 : (0 : Int) ≤ (f : Int) := by omega
            clear hm
            go_wp2
            go_roundw
            case rel => exact ⟨k + 1, 1, m ++ [s[k]'hlt], M, false, (f : Int), by omega, by go_num, rfl, rfl, HST.out, by omega, HO, HS, HB⟩
            case measure => simp [intOf]; omega
      · have HE : Hid (marksF s = M) := by
          show _ = _
          have e : s.data.toList.drop k = [] := List.drop_eq_nil_of_le (by simp; omega)
          rw [HL.out, HG.out, e]
          cases p <;> simp [mk]
        go_wp2
        go_ret
        exact ⟨_, rfl, by rw [HE.out]; exact HO.out, HB.out⟩

theorem specHead_any (s : ByteArray) (w : World) (hs : s.size ≤ maxLen) :
    Calls Tryz.prog 188 #[.string s] w fun e w' => ∃ n : Int, e = .returned (.int .u8 n) ∧ (n == 33) = headIs 33 s ∧ (n == 64) = headIs 64 s ∧ w' = w := by
  unfold maxLen at hs
  by_cases h : s.size = 0
  · have := empty_of h
    subst this
    go_enter Tryz.func188, Tryz.ntmps188
    go_wp2
    go_ret
    exact ⟨0, rfl, rfl, rfl, rfl⟩
  · have hp : 0 < s.size := by omega
    have H1 : Hid _ := head_at hp 33
    have H2 : Hid _ := head_at hp 64
    have hne := not_empty hp
    go_enter Tryz.func188, Tryz.ntmps188
    go_wp2
    go_ret
    refine ⟨_, rfl, ?_, ?_, rfl⟩
    · rw [H1.out]
      by_cases e : ((s[0]'hp).toNat : Int) = 33
      · rw [decide_eq_true e]; simp [e]
      · rw [decide_eq_false e]; simpa using e
    · rw [H2.out]
      by_cases e : ((s[0]'hp).toNat : Int) = 64
      · rw [decide_eq_true e]; simp [e]
      · rw [decide_eq_false e]; simpa using e

set_option maxRecDepth 100000 in
set_option maxHeartbeats 3200000 in
theorem specLinks_any (s : ByteArray) (w : World) (hs : s.size ≤ 4194304) :
    Calls Tryz.prog 170 #[.string s] w fun e w' => ∃ v, e = .returned v ∧ Owns w' w.heap.size v (linksF s) ∧ Below w.heap.size w w' := by
  obtain ⟨i0, hi, hz0, hz1, hz2⟩ := info_parts Tryz.infoS
  have HML := marks_len s
  have HMS : Hid _ := marks_size s
  have HF : Hid (linksF s = (marksF s).filter isLink) := rfl
  go_enter Tryz.func170, Tryz.ntmps170
  go_wp2_with fail
  refine (specMarks_any s _ hs).mono ?_
  rintro e w1 ⟨v1, rfl, hO1, hb1⟩
  obtain ⟨a1, c1, rfl, hS1⟩ := hO1.strs
  have HS1 : Hid (IsStrs w1 a1 c1 (marksF s)) := hS1
  have HB1 : Hid (Below w.heap.size w w1) := hb1
  have HO0 : Hid (Owns (w1.alloc (.cells #[] 9)) w1.heap.size (.slice (some ⟨w1.heap.size, 0, none⟩) 0 0) []) := Owns.empty w1 w1.heap.size (Nat.le_refl _)
  have HB0 : Hid (Below w1.heap.size w1 (w1.alloc (.cells #[] 9))) := (Below.refl _ _).alloc (Nat.le_refl _) _
  clear hO1 hS1 hb1
  generalize marksF s = L at *
  go_wp2
  go_loopw [4, 5] (fun v i wr => ∃ k : Nat, k ≤ L.length ∧ i = .int .i64 (k : Int) ∧ Hid (Owns wr w1.heap.size v ((L.take k).filter isLink)) ∧ Hid (Below w1.heap.size w1 wr))
    (fun _ i _ => L.length - (intOf i).toNat)
  case atStart => exact ⟨0, Nat.zero_le _, rfl, HO0, HB0⟩
  case round =>
    obtain ⟨k, hk, rfl, HO, HB⟩ := hrel
    by_cases hlt : k < L.length
    · obtain ⟨_, hcm, _, hcc⟩ := HS1.out.below HB.out
      obtain ⟨b, off, rfl, hcell⟩ := hcc (by intro e; rw [e] at hlt; simp at hlt)
      have hck := hcell k hlt
      have hps : L[k].size ≤ maxLen := by have := HMS.out L[k] (List.getElem_mem hlt); unfold maxLen; omega
      have HT : Hid _ := filter_take L k hlt
      have hlen : ((L.take k).filter isLink).length ≤ 300 := by
        have h1 := List.length_filter_le isLink (L.take k)
        simp at h1; omega
      unfold maxLen at hcm
      clear hcell hcc
      obtain ⟨ao, co, hv, hst⟩ := HO.out.strs
      clear hst
      generalize hX : (L.take k).filter isLink = X at *
      generalize hp : L[k] = p at *
      subst hv
      cases h1 : headIs 33 p with
      | true =>
        have HN : Hid _ := link_no h1
        have H1 : Hid _ := h1
        clear h1
        go_wp2_with fail
        refine (specHead_any p _ hps).mono ?_
        rintro e w2 ⟨n, rfl, hn1, _, rfl⟩
        rw [H1.out] at hn1
        first | (have hq : n = 33 := eq_of_beq hn1; subst hq) | (have hq : ¬ n = 33 := ne_of_beq_false hn1)
        go_wp2
        go_roundw
        case rel => exact ⟨k + 1, by omega, by go_num, by rw [HT.out, HN.out]; simpa using HO, HB⟩
        case measure => simp [intOf]; omega
      | false =>
        cases h2 : headIs 64 p with
        | true =>
          have HN : Hid _ := link_at h2
          have H1 : Hid _ := h1
          have H2 : Hid _ := h2
          clear h1 h2
          go_wp2_with fail
          refine (specHead_any p _ hps).mono ?_
          rintro e w2 ⟨n, rfl, hn1, _, rfl⟩
          rw [H1.out] at hn1
          first | (have hq : n = 33 := eq_of_beq hn1; subst hq) | (have hq : ¬ n = 33 := ne_of_beq_false hn1)
          go_wp2_with fail
          refine (specHead_any p _ hps).mono ?_
          rintro e w3 ⟨n2, rfl, _, hn2, rfl⟩
          rw [H2.out] at hn2
          first | (have hq : n2 = 64 := eq_of_beq hn2; subst hq) | (have hq : ¬ n2 = 64 := ne_of_beq_false hn2)
          go_wp2
          go_roundw
          case rel => exact ⟨k + 1, by omega, by go_num, by rw [HT.out, HN.out]; simpa using HO, HB⟩
          case measure => simp [intOf]; omega
        | false =>
          have HN : Hid _ := link_yes h1 h2
          have H1 : Hid _ := h1
          have H2 : Hid _ := h2
          clear h1 h2
          go_wp2_with fail
          refine (specHead_any p _ hps).mono ?_
          rintro e w2 ⟨n, rfl, hn1, _, rfl⟩
          rw [H1.out] at hn1
          have hq1 : ¬ n = 33 := ne_of_beq_false hn1
          have he1 : (n != 33) = true := by simp [hq1]
          go_wp2_with fail
          refine (specHead_any p _ hps).mono ?_
          rintro e w3 ⟨n2, rfl, _, hn2, rfl⟩
          rw [H2.out] at hn2
          have hq2 : ¬ n2 = 64 := ne_of_beq_false hn2
          have he2 : (n2 != 64) = true := by simp [hq2]
          go_wp2_with (at_builtin; refine wpList_append_own _ rfl _ _ 26 rfl w1.heap.size 9 i0 (.string ⟨#[]⟩) 1 16 Tryz.underlying26 hi hz0 hz1 hz2 rfl (by decide) _ _ _ rfl (World.ownsRow.alloc HO.out _) ⟨w3.heap.size, 0, none⟩ 1 1 [.string p] rfl rfl (cell_one_new _ _ _) ?c2 ?c3 ?c4 ?c5 ?_)
          case c2 => intro u hu; simp at hu; subst hu; rfl
          case c3 => unfold maxLen; omega
          case c4 => omega
          case c5 => have := HB.out.size; simp; omega
          intro v' w4 hown' hgrow _
          have HO' : Hid _ := hown'
          have HG : Hid _ := hgrow
          clear hown' hgrow
          go_wp2
          go_roundw
          case rel =>
            refine ⟨k + 1, by omega, by go_num, ?_, ?_⟩
            · rw [HT.out, HN.out]; exact Owns.append HO'.out
            · exact Below.grown (HB.out.alloc HB.out.size _) HG.out (by have := HB.out.size; simp; omega) (Owns.block HO.out)
          case measure => simp [intOf]; omega
    · have hall : L.take k = L := List.take_of_length_le (by omega)
      rw [hall] at HO
      clear hall
      go_wp2
      go_ret
      exact ⟨_, rfl, by rw [HF.out]; exact Owns.mono HO.out HB1.out.size, HB1.out.trans (HB.out.mono HB1.out.size)⟩

set_option maxRecDepth 100000 in
set_option maxHeartbeats 3200000 in
theorem specBase_any (s : ByteArray) (w : World) (hs : s.size ≤ 4194304) :
    Calls Tryz.prog 168 #[.string s] w fun e w' => e = .returned (.tuple #[.string (baseF s).1, .bool (baseF s).2]) ∧ Below w.heap.size w w' := by
  have HML := marks_len s
  have HMS : Hid _ := marks_size s
  have HF : Hid (baseF s = baseL (marksF s)) := rfl
  go_enter Tryz.func168, Tryz.ntmps168
  go_wp2_with fail
  refine (specMarks_any s _ hs).mono ?_
  rintro e w1 ⟨v1, rfl, hO1, hb1⟩
  obtain ⟨a1, c1, rfl, hS1⟩ := hO1.strs
  have HS1 : Hid (IsStrs w1 a1 c1 (marksF s)) := hS1
  have HB1 : Hid (Below w.heap.size w w1) := hb1
  clear hO1 hS1 hb1
  generalize marksF s = L at *
  go_wp2
  go_loop [5] (fun i => ∃ k : Nat, k ≤ L.length ∧ i = .int .i64 (k : Int) ∧ Hid (∀ x ∈ L.take k, headIs 64 x = false)) (fun i => L.length - (intOf i).toNat)
  case atStart => exact ⟨0, Nat.zero_le _, rfl, (by intro x hx; simp at hx)⟩
  case round =>
    obtain ⟨k, hk, rfl, HN⟩ := hrel
    by_cases hlt : k < L.length
    · obtain ⟨_, hcm, _, hcc⟩ := HS1.out
      obtain ⟨b, off, rfl, hcell⟩ := hcc (by intro e; rw [e] at hlt; simp at hlt)
      have hck := hcell k hlt
      have hp3 := HMS.out L[k] (List.getElem_mem hlt)
      have hps : L[k].size ≤ maxLen := by unfold maxLen; omega
      unfold maxLen at hcm
      clear hcell hcc
      cases h1 : headIs 64 L[k] with
      | true =>
        have HE : Hid _ := base_take hlt HN.out h1
        have hpos : 1 ≤ L[k].size := by
          by_cases hz : L[k].size = 0
          · have := empty_of hz
            rw [this] at h1; cases h1
          · omega
        have H1 : Hid _ := h1
        clear h1
        have HX : Hid _ := tail_ext L[k]
        generalize L[k] = p at *
        go_wp2_with fail
        refine (specHead_any p _ hps).mono ?_
        rintro e w2 ⟨n, rfl, _, hn2, rfl⟩
        rw [H1.out] at hn2
        first | (have hq : n = 64 := eq_of_beq hn2; subst hq) | (have hq : ¬ n = 64 := ne_of_beq_false hn2)
        go_wp2
        go_ret2
        refine ⟨?_, HB1.out⟩
        rw [HF.out, HE.out]
        exact retSB (by first | exact HX.out | (rw [← HX.out]) | rfl) rfl
      | false =>
        have HN2 : Hid _ := take_all hlt HN.out h1
        have H1 : Hid _ := h1
        clear h1
        generalize L[k] = p at *
        go_wp2_with fail
        refine (specHead_any p _ hps).mono ?_
        rintro e w2 ⟨n, rfl, _, hn2, rfl⟩
        rw [H1.out] at hn2
        first | (have hq : n = 64 := eq_of_beq hn2; subst hq) | (have hq : ¬ n = 64 := ne_of_beq_false hn2)
        go_wp2
        go_round
        case rel => exact ⟨k + 1, by omega, by go_num, HN2.out⟩
        case measure => simp [intOf]; omega
    · have HE : Hid (baseL L = (⟨#[]⟩, false)) := by
        have h := HN.out
        rw [List.take_of_length_le (by omega)] at h
        exact base_none h
      go_wp2
      go_ret2
      exact ⟨retSB (by rw [HF.out, HE.out]) (by rw [HF.out, HE.out]), HB1.out⟩
end Go.Proofs.YtmgcdfmgmpnonaaGreatDoor.Pg
