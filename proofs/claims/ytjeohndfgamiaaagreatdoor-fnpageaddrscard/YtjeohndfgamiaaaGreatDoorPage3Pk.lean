/- Several texts in one: Page3, Page4, Page5. -/
import Derived.Test.YtjeohndfgamiaaaGreatDoorPage2
import Derived.Test.YtjeohndfgamiaaaGreatDoorDraw8
/- The program's links and base of a page. -/
namespace Go.Proofs.YtjeohndfgamiaaaGreatDoor.Pg
open Go.RowKit Go.Proofs.YtjeohndfgamiaaaGreatDoor.EscM Go.Proofs.YtjeohndfgamiaaaGreatDoor.EscL Go.Proofs.YtjeohndfgamiaaaGreatDoor.ReadM Go.Proofs.YtjeohndfgamiaaaGreatDoor.St Go.Proofs.YtjeohndfgamiaaaGreatDoor.PgM Go.Proofs.YtjeohndfgamiaaaGreatDoor.Dr

theorem empty_of {s : ByteArray} (h : s.size = 0) : s = ⟨#[]⟩ := by
  cases s with
  | mk d => have : d = #[] := Array.eq_empty_of_size_eq_zero h; rw [this]
theorem head_list : ∀ (l : List UInt8) (hd : 0 < l.length) (c : Int), headL c l = decide (((l[0]'hd).toNat : Int) = c) := by
  intro l hd c
  cases l with
  | nil => simp at hd
  | cons a t => rfl
theorem head_at {s : ByteArray} (h : 0 < s.size) (c : Int) : headIs c s = decide (((s[0]'h).toNat : Int) = c) :=
  head_list s.data.toList (by simpa using h) c
theorem not_empty {s : ByteArray} (h : 0 < s.size) : s.toList.isEmpty = false := by
  rw [ByteArray.toList_eq]
  have hd : 0 < s.data.toList.length := by simpa using h
  cases hl : s.data.toList with
  | nil => rw [hl] at hd; simp at hd
  | cons a t => rfl

theorem begins_any (s : ByteArray) (c : Int) (w : World) (hs : s.size ≤ maxLen) (_h0 : 0 ≤ c) (_h1 : c ≤ 255) :
    Calls Tryz.prog 38 #[.string s, .int .u8 c] w fun e w' => e = .returned (.bool (headIs c s)) ∧ w' = w := by
  unfold maxLen at hs
  by_cases h : s.size = 0
  · have := empty_of h
    subst this
    go_enter Tryz.func38, Tryz.ntmps38
    go_wp2
    go_ret
    exact ⟨rfl, rfl⟩
  · have hp : 0 < s.size := by omega
    have HH : Hid _ := head_at hp c
    have hne := not_empty hp
    by_cases hc : ((s[0]'hp).toNat : Int) = c
    · have HT : Hid (headIs c s = true) := by show _ = _; rw [HH.out]; exact decide_eq_true hc
      go_enter Tryz.func38, Tryz.ntmps38
      go_wp2
      go_ret
      exact ⟨ret_bool (by rw [HT.out]), rfl⟩
    · have HT : Hid (headIs c s = false) := by show _ = _; rw [HH.out]; exact decide_eq_false hc
      go_enter Tryz.func38, Tryz.ntmps38
      go_wp2
      go_ret
      exact ⟨ret_bool (by rw [HT.out]; simp [hc]), rfl⟩

theorem filter_take (L : List ByteArray) (k : Nat) (h : k < L.length) : (L.take (k + 1)).filter isLink = (L.take k).filter isLink ++ if isLink L[k] then [L[k]] else [] := by
  rw [List.take_succ_eq_append_getElem h, List.filter_append]
  congr 1
  cases hl : isLink L[k] <;> simp [hl]
theorem link_yes {s : ByteArray} (h1 : headIs 33 s = false) (h2 : headIs 64 s = false) : isLink s = true := by unfold isLink; rw [h1, h2]; rfl
theorem link_no {s : ByteArray} (h1 : headIs 33 s = true) : isLink s = false := by unfold isLink; rw [h1]; rfl
theorem link_at {s : ByteArray} (h1 : headIs 64 s = true) : isLink s = false := by unfold isLink; rw [h1]; simp

set_option maxRecDepth 100000 in
set_option maxHeartbeats 3200000 in
theorem implLinks_any (s : ByteArray) (w : World) (hs : s.size ≤ maxLen) :
    Calls Tryz.prog 16 #[.string s] w fun e w' => ∃ v, e = .returned v ∧ Owns w' w.heap.size v (linksF s) ∧ Below w.heap.size w w' := by
  obtain ⟨i0, hi, hz0, hz1, hz2⟩ := info_parts Tryz.infoS
  have HML := marks_len s
  have HMS : Hid _ := marks_size s
  have HF : Hid (linksF s = (marksF s).filter isLink) := rfl
  go_enter Tryz.func16, Tryz.ntmps16
  go_wp2_with fail
  refine (implMarks_any s _ hs).mono ?_
  rintro e w1 ⟨v1, rfl, hO1, hb1⟩
  obtain ⟨a1, c1, rfl, hS1⟩ := hO1.strs
  have HS1 : Hid (IsStrs w1 a1 c1 (marksF s)) := hS1
  have HB1 : Hid (Below w.heap.size w w1) := hb1
  clear hO1 hS1 hb1
  generalize marksF s = L at *
  go_wp2
  go_loopw [3, 9] (fun v i wr => ∃ k : Nat, k ≤ L.length ∧ i = .int .i64 (k : Int) ∧ Hid (Owns wr w1.heap.size v ((L.take k).filter isLink)) ∧ Hid (Below w1.heap.size w1 wr))
    (fun _ i _ => L.length - (intOf i).toNat)
  case atStart => exact ⟨0, Nat.zero_le _, rfl, Owns.nil _ _, Below.refl _ _⟩
  case round =>
    obtain ⟨k, hk, rfl, HO, HB⟩ := hrel
    by_cases hlt : k < L.length
    · obtain ⟨_, hcm, _, hcc⟩ := HS1.out.below HB.out
      obtain ⟨b, off, rfl, hcell⟩ := hcc (by intro e; rw [e] at hlt; simp at hlt)
      have hck := hcell k hlt
      have hps : L[k].size ≤ maxLen := by have := HMS.out L[k] (List.getElem_mem hlt); unfold maxLen; omega
      have HT : Hid _ := filter_take L k hlt
      have hlen : ((L.take k).filter isLink).length ≤ 300 := by
        have h1 := List.length_filter_le isLink (L.take k)
        simp at h1; omega
      unfold maxLen at hcm
      clear hcell hcc
      obtain ⟨ao, co, hv, hst⟩ := HO.out.strs
      clear hst
      generalize hX : (L.take k).filter isLink = X at *
      generalize hp : L[k] = p at *
      subst hv
      cases h1 : headIs 33 p with
      | true =>
        have HN : Hid _ := link_no h1
        have H1 : Hid _ := h1
        clear h1
        go_wp2_with fail
        refine (begins_any p 33 _ hps (by omega) (by omega)).mono ?_
        rintro e w2 ⟨rfl, rfl⟩
        rw [H1.out]
        go_wp2
        go_roundw
        case rel => exact ⟨k + 1, by omega, by go_num, by rw [HT.out, HN.out]; simpa using HO, HB⟩
        case measure => simp [intOf]; omega
      | false =>
        cases h2 : headIs 64 p with
        | true =>
          have HN : Hid _ := link_at h2
          have H1 : Hid _ := h1
          have H2 : Hid _ := h2
          clear h1 h2
          go_wp2_with fail
          refine (begins_any p 33 _ hps (by omega) (by omega)).mono ?_
          rintro e w2 ⟨rfl, rfl⟩
          rw [H1.out]
          go_wp2_with fail
          refine (begins_any p 64 _ hps (by omega) (by omega)).mono ?_
          rintro e w3 ⟨rfl, rfl⟩
          rw [H2.out]
          go_wp2
          go_roundw
          case rel => exact ⟨k + 1, by omega, by go_num, by rw [HT.out, HN.out]; simpa using HO, HB⟩
          case measure => simp [intOf]; omega
        | false =>
          have HN : Hid _ := link_yes h1 h2
          have H1 : Hid _ := h1
          have H2 : Hid _ := h2
          clear h1 h2
          go_wp2_with fail
          refine (begins_any p 33 _ hps (by omega) (by omega)).mono ?_
          rintro e w2 ⟨rfl, rfl⟩
          rw [H1.out]
          go_wp2_with fail
          refine (begins_any p 64 _ hps (by omega) (by omega)).mono ?_
          rintro e w3 ⟨rfl, rfl⟩
          rw [H2.out]
          go_wp2_with (at_builtin; refine wpList_append_own _ rfl _ _ 23 rfl w1.heap.size 9 i0 (.string ⟨#[]⟩) 1 16 Tryz.underlying23 hi hz0 hz1 hz2 rfl (by decide) _ _ _ rfl (World.ownsRow.alloc HO.out _) ⟨w3.heap.size, 0, none⟩ 1 1 [.string p] rfl rfl (cell_one_new _ _ _) ?c2 ?c3 ?c4 ?c5 ?_)
          case c2 => intro u hu; simp at hu; subst hu; rfl
          case c3 => unfold maxLen; omega
          case c4 => omega
          case c5 => have := HB.out.size; simp; omega
          intro v' w4 hown' hgrow _
          have HO' : Hid _ := hown'
          have HG : Hid _ := hgrow
          clear hown' hgrow
          go_wp2
          go_roundw
          case rel =>
            refine ⟨k + 1, by omega, by go_num, ?_, ?_⟩
            · rw [HT.out, HN.out]; exact Owns.append HO'.out
            · exact Below.grown (HB.out.alloc HB.out.size _) HG.out (by have := HB.out.size; simp; omega) (Owns.block HO.out)
          case measure => simp [intOf]; omega
    · have hall : L.take k = L := List.take_of_length_le (by omega)
      rw [hall] at HO
      clear hall
      go_wp2
      go_ret
      exact ⟨_, rfl, by rw [HF.out]; exact Owns.mono HO.out HB1.out.size, HB1.out.trans (HB.out.mono HB1.out.size)⟩

/-- none of the first k marks is a base -/
theorem base_take {L : List ByteArray} {k : Nat} (h : k < L.length) (h0 : ∀ x ∈ L.take k, headIs 64 x = false) (h1 : headIs 64 L[k] = true) : baseL L = (tailS L[k], true) := by
  unfold baseL
  have e : L.find? (headIs 64) = some L[k] := by
    have hs : L = L.take k ++ L[k] :: L.drop (k + 1) := by rw [← List.drop_eq_getElem_cons h, List.take_append_drop]
    have hf := congrArg (List.find? (headIs 64)) hs
    rw [hf, List.find?_append]
    have : (L.take k).find? (headIs 64) = none := by rw [List.find?_eq_none]; intro x hx; rw [h0 x hx]; simp
    rw [this, Option.none_or, List.find?_cons_of_pos h1]
  rw [e]
theorem base_none {L : List ByteArray} (h0 : ∀ x ∈ L, headIs 64 x = false) : baseL L = (⟨#[]⟩, false) := by
  unfold baseL
  have : L.find? (headIs 64) = none := by rw [List.find?_eq_none]; intro x hx; rw [h0 x hx]; simp
  rw [this]
theorem take_all {L : List ByteArray} {k : Nat} (h : k < L.length) (h0 : ∀ x ∈ L.take k, headIs 64 x = false) (h1 : headIs 64 L[k] = false) : ∀ x ∈ L.take (k + 1), headIs 64 x = false := by
  intro x hx
  rw [List.take_succ_eq_append_getElem h] at hx
  rcases List.mem_append.1 hx with hx | hx
  · exact h0 x hx
  · simp at hx; subst hx; exact h1
theorem tail_ext (s : ByteArray) : s.extract 1 s.size = tailS s := by
  rw [Rd1.ext_drop]
  unfold tailS
  simp
theorem retSB {a b : ByteArray} {x y : Bool} (h : a = b) (h' : x = y) : Ending.returned (.tuple #[.string a, .bool x]) = .returned (.tuple #[.string b, .bool y]) := by rw [h, h']

set_option maxRecDepth 100000 in
set_option maxHeartbeats 3200000 in
theorem implBase_any (s : ByteArray) (w : World) (hs : s.size ≤ maxLen) :
    Calls Tryz.prog 14 #[.string s] w fun e w' => e = .returned (.tuple #[.string (baseF s).1, .bool (baseF s).2]) ∧ Below w.heap.size w w' := by
  have HML := marks_len s
  have HMS : Hid _ := marks_size s
  have HF : Hid (baseF s = baseL (marksF s)) := rfl
  go_enter Tryz.func14, Tryz.ntmps14
  go_wp2_with fail
  refine (implMarks_any s _ hs).mono ?_
  rintro e w1 ⟨v1, rfl, hO1, hb1⟩
  obtain ⟨a1, c1, rfl, hS1⟩ := hO1.strs
  have HS1 : Hid (IsStrs w1 a1 c1 (marksF s)) := hS1
  have HB1 : Hid (Below w.heap.size w w1) := hb1
  clear hO1 hS1 hb1
  generalize marksF s = L at *
  go_wp2
  go_loop [9] (fun i => ∃ k : Nat, k ≤ L.length ∧ i = .int .i64 (k : Int) ∧ Hid (∀ x ∈ L.take k, headIs 64 x = false)) (fun i => L.length - (intOf i).toNat)
  case atStart => exact ⟨0, Nat.zero_le _, rfl, (by intro x hx; simp at hx)⟩
  case round =>
    obtain ⟨k, hk, rfl, HN⟩ := hrel
    by_cases hlt : k < L.length
    · obtain ⟨_, hcm, _, hcc⟩ := HS1.out
      obtain ⟨b, off, rfl, hcell⟩ := hcc (by intro e; rw [e] at hlt; simp at hlt)
      have hck := hcell k hlt
      have hp3 := HMS.out L[k] (List.getElem_mem hlt)
      have hps : L[k].size ≤ maxLen := by unfold maxLen; omega
      unfold maxLen at hcm
      clear hcell hcc
      cases h1 : headIs 64 L[k] with
      | true =>
        have HE : Hid _ := base_take hlt HN.out h1
        have hpos : 1 ≤ L[k].size := by
          by_cases hz : L[k].size = 0
          · have := empty_of hz
            rw [this] at h1; cases h1
          · omega
        have H1 : Hid _ := h1
        clear h1
        have HX : Hid _ := tail_ext L[k]
        generalize L[k] = p at *
        go_wp2_with fail
        refine (begins_any p 64 _ hps (by omega) (by omega)).mono ?_
        rintro e w2 ⟨rfl, rfl⟩
        rw [H1.out]
        go_wp2
        go_ret2
        refine ⟨?_, HB1.out⟩
        rw [HF.out, HE.out]
        exact retSB (by first | exact HX.out | (rw [← HX.out]) | rfl) rfl
      | false =>
        have HN2 : Hid _ := take_all hlt HN.out h1
        have H1 : Hid _ := h1
        clear h1
        generalize L[k] = p at *
        go_wp2_with fail
        refine (begins_any p 64 _ hps (by omega) (by omega)).mono ?_
        rintro e w2 ⟨rfl, rfl⟩
        rw [H1.out]
        go_wp2
        go_round
        case rel => exact ⟨k + 1, by omega, by go_num, HN2.out⟩
        case measure => simp [intOf]; omega
    · have HE : Hid (baseL L = (⟨#[]⟩, false)) := by
        have h := HN.out
        rw [List.take_of_length_le (by omega)] at h
        exact base_none h
      go_wp2
      go_ret2
      exact ⟨retSB (by rw [HF.out, HE.out]) (by rw [HF.out, HE.out]), HB1.out⟩
end Go.Proofs.YtjeohndfgamiaaaGreatDoor.Pg
/- The model's marks, links and base of a page. -/
namespace Go.Proofs.YtjeohndfgamiaaaGreatDoor.Pg
open Go.RowKit Go.Proofs.YtjeohndfgamiaaaGreatDoor.EscM Go.Proofs.YtjeohndfgamiaaaGreatDoor.EscL Go.Proofs.YtjeohndfgamiaaaGreatDoor.ReadM Go.Proofs.YtjeohndfgamiaaaGreatDoor.St Go.Proofs.YtjeohndfgamiaaaGreatDoor.PgM Go.Proofs.YtjeohndfgamiaaaGreatDoor.Dr

/-- where the model stands behind k bytes: what it keeps, against where the walk stands -/
def Stands (s : ByteArray) (k p : Nat) (m : List UInt8) (round : Bool) (frm : Int) : Prop :=
  (p = 0 ∧ round = false ∧ frm = -1) ∨ (p = 2 ∧ round = true ∧ frm = -1) ∨ (p = 1 ∧ round = false ∧ ∃ f : Nat, frm = (f : Int) ∧ f ≤ k ∧ m = (s.data.toList.take k).drop f)
theorem ext_mid (s : ByteArray) (f k : Nat) (_h : k ≤ s.size) : s.extract f k = bs ((s.data.toList.take k).drop f) := by
  apply ByteArray.ext
  simp [bs, ByteArray.data_extract]
  apply Array.ext'
  simp [List.drop_take]
theorem take_more {s : ByteArray} {k f : Nat} (h : k < s.size) (hf : f ≤ k) : (s.data.toList.take (k + 1)).drop f = (s.data.toList.take k).drop f ++ [s[k]'h] := by
  have hl : k < s.data.toList.length := by simpa using h
  rw [List.take_succ_eq_append_getElem hl, List.drop_append_of_le_length (by simp; omega)]
  rfl

set_option maxRecDepth 100000 in
set_option maxHeartbeats 3200000 in
theorem specMarks_any (s : ByteArray) (w : World) (hs : s.size ≤ 4194304) :
    Calls Tryz.prog 43 #[.string s] w fun e w' => ∃ v, e = .returned v ∧ Owns w' w.heap.size v (marksF s) ∧ Below w.heap.size w w' := by
  obtain ⟨i0, hi, hz0, hz1, hz2⟩ := info_parts Tryz.infoS
  have HO0 : Hid (Owns (w.alloc (.cells #[] 9)) w.heap.size (.slice (some ⟨w.heap.size, 0, none⟩) 0 0) []) := Owns.empty w w.heap.size (Nat.le_refl _)
  have HB0 : Hid (Below w.heap.size w (w.alloc (.cells #[] 9))) := (Below.refl _ _).alloc (Nat.le_refl _) _
  by_cases hlong : 300 < s.size
  · have HL : Hid (marksF s = []) := by show _ = _; unfold marksF; rw [if_pos hlong]
    go_enter Tryz.func43, Tryz.ntmps43
    go_wp2
    go_loopw [3, 6] (fun v i wr => v = .slice (some ⟨w.heap.size, 0, none⟩) 0 0 ∧ i = .int .i64 0 ∧ wr = w.alloc (.cells #[] 9)) (fun _ _ _ => 0)
    case atStart => exact ⟨rfl, rfl, rfl⟩
    case round =>
      obtain ⟨rfl, rfl, rfl⟩ := hrel
      go_wp2
      go_ret
      exact ⟨_, rfl, by rw [HL.out]; exact HO0.out, HB0.out⟩
  · have HL : Hid (marksF s = mk 0 [] s.data.toList) := by show _ = _; unfold marksF; rw [if_neg hlong]
    go_enter Tryz.func43, Tryz.ntmps43
    go_wp2
    go_loopw [3, 4, 5, 6] (fun v r f i wr => ∃ (k p : Nat) (m : List UInt8) (M : List ByteArray) (round : Bool) (frm : Int), k ≤ s.size ∧ i = .int .i64 (k : Int) ∧ r = .bool round ∧ f = .int .i64 frm ∧ Stands s k p m round frm ∧ M.length ≤ k ∧ Hid (Owns wr w.heap.size v M) ∧ Hid (mk 0 [] s.data.toList = M ++ mk p m (s.data.toList.drop k)) ∧ Hid (Below w.heap.size w wr)) (fun _ _ _ i _ => s.size - (intOf i).toNat)
    case atStart => exact ⟨0, 0, [], [], false, -1, Nat.zero_le _, rfl, rfl, rfl, Or.inl ⟨rfl, rfl, rfl⟩, Nat.le_refl _, HO0, rfl, HB0⟩
    case round =>
      obtain ⟨k, p, m, M, round, frm, hk, rfl, rfl, rfl, hst, hMl, HO, HG, HB⟩ := hrel
      by_cases hlt : k < s.size
      · have HS : Hid _ := mk_step (p := p) (m := m) (M := M) (b := s[k]'hlt) (by simpa using hlt) (by rfl) HG.out
        obtain ⟨ao, co, hv, hso⟩ := HO.out.strs
        subst hv
        clear hso
        rcases hst with ⟨rfl, rfl, rfl⟩ | ⟨rfl, rfl, rfl⟩ | ⟨rfl, rfl, f, rfl, hf, hm⟩
        · rw [nextP_0, nextM_0, out_0, List.append_nil] at HS
          by_cases h40 : ((s[k]'hlt).toNat : Int) = 40
          · rw [if_neg (by omega), if_pos h40, if_neg (by omega)] at HS
            go_wp2
            go_roundw
            case rel => exact ⟨k + 1, 2, m, M, true, -1, by omega, by go_num, rfl, rfl, Or.inr (Or.inl ⟨rfl, rfl, rfl⟩), by omega, HO, HS, HB⟩
            case measure => simp [intOf]; omega
          · by_cases h60 : ((s[k]'hlt).toNat : Int) = 60
            · rw [if_pos h60, if_pos h60] at HS
              have HST : Hid (Stands s (k + 1) 1 [] false ((k : Int) + 1)) := Or.inr (Or.inr ⟨rfl, rfl, k + 1, by omega, Nat.le_refl _, by rw [List.drop_eq_nil_of_le (by simp; omega)]⟩)
              go_wp2
              go_roundw
              case rel => exact ⟨k + 1, 1, [], M, false, (k : Int) + 1, by omega, by go_num, rfl, rfl, HST.out, by omega, HO, HS, HB⟩
              case measure => simp [intOf]; omega
            · rw [if_neg h60, if_neg h40, if_neg h60] at HS
              go_wp2
              go_roundw
              case rel => exact ⟨k + 1, 0, m, M, false, -1, by omega, by go_num, rfl, rfl, Or.inl ⟨rfl, rfl, rfl⟩, by omega, HO, HS, HB⟩
              case measure => simp [intOf]; omega
        · rw [nextP_2, nextM_2, out_2, List.append_nil] at HS
          by_cases h41 : ((s[k]'hlt).toNat : Int) = 41
          · rw [if_pos h41] at HS
            go_wp2
            go_roundw
            case rel => exact ⟨k + 1, 0, m, M, false, -1, by omega, by go_num, rfl, rfl, Or.inl ⟨rfl, rfl, rfl⟩, by omega, HO, HS, HB⟩
            case measure => simp [intOf]; omega
          · rw [if_neg h41] at HS
            have e41 : (((s[k]'hlt).toNat : Int) == 41) = false := by simp; omega
            go_wp2
            go_roundw
            case rel => exact ⟨k + 1, 2, m, M, true, -1, by omega, by go_num, by simpa using h41, rfl, Or.inr (Or.inl ⟨rfl, rfl, rfl⟩), by omega, HO, HS, HB⟩
            case measure => simp [intOf]; omega
        · rw [nextP_1, nextM_1, out_1] at HS
          by_cases h62 : ((s[k]'hlt).toNat : Int) = 62
          · rw [if_pos h62, if_pos h62, if_pos h62] at HS
            have HE : Hid (s.extract f k = bs m) := by show _ = _; rw [hm]; exact ext_mid s f k (by omega)
            have hkk : (f : Int) ≤ (k : Int) := by omega
            clear hm
            go_wp2_with (at_builtin; refine wpList_append_own _ rfl _ _ 23 rfl w.heap.size 9 i0 (.string ⟨#[]⟩) 1 16 Tryz.underlying23 hi hz0 hz1 hz2 rfl (by decide) _ _ _ rfl (World.ownsRow.alloc HO.out _) ⟨wr.heap.size, 0, none⟩ 1 1 [.string (s.extract f k)] rfl rfl (cell_one_new _ _ _) ?c2 ?c3 ?c4 ?c5 ?_)
            case c2 => intro u hu; simp at hu; subst hu; rfl
            case c3 => unfold maxLen; omega
            case c4 => omega
            case c5 => have := HB.out.size; simp; omega
            intro v' w4 hown' hgrow _
            have HO' : Hid (Owns w4 w.heap.size v' (M ++ [bs m])) := by
              have h := Owns.append hown'
              rw [HE.out] at h; exact h
            have HG' : Hid _ := hgrow
            clear hown' hgrow
            go_wp2
            go_roundw
            case rel =>
              refine ⟨k + 1, 0, m, M ++ [bs m], false, -1, by omega, by go_num, rfl, rfl, Or.inl ⟨rfl, rfl, rfl⟩, by simp; omega, HO', HS, ?_⟩
              exact Below.grown (HB.out.alloc HB.out.size _) HG'.out (by have := HB.out.size; simp; omega) (Owns.block HO.out)
            case measure => simp [intOf]; omega
          · rw [if_neg h62, if_neg h62, if_neg h62, List.append_nil] at HS
            have HST : Hid (Stands s (k + 1) 1 (m ++ [s[k]'hlt]) false (f : Int)) := Or.inr (Or.inr ⟨rfl, rfl, f, rfl, by omega, by rw [take_more hlt hf, hm]⟩)
            have e62 : (((s[k]'hlt).toNat : Int) == 62) = false := by simp; omega
            have hf0 : (0 : Int) ≤ (f : Int) := by omega
            clear hm
            go_wp2
            go_roundw
            case rel => exact ⟨k + 1, 1, m ++ [s[k]'hlt], M, false, (f : Int), by omega, by go_num, rfl, rfl, HST.out, by omega, HO, HS, HB⟩
            case measure => simp [intOf]; omega
      · have HE : Hid (marksF s = M) := by
          show _ = _
          have e : s.data.toList.drop k = [] := List.drop_eq_nil_of_le (by simp; omega)
          rw [HL.out, HG.out, e]
          cases p <;> simp [mk]
        go_wp2
        go_ret
        exact ⟨_, rfl, by rw [HE.out]; exact HO.out, HB.out⟩

theorem specHead_any (s : ByteArray) (w : World) (hs : s.size ≤ maxLen) :
    Calls Tryz.prog 44 #[.string s] w fun e w' => ∃ n : Int, e = .returned (.int .u8 n) ∧ (n == 33) = headIs 33 s ∧ (n == 64) = headIs 64 s ∧ w' = w := by
  unfold maxLen at hs
  by_cases h : s.size = 0
  · have := empty_of h
    subst this
    go_enter Tryz.func44, Tryz.ntmps44
    go_wp2
    go_ret
    exact ⟨0, rfl, rfl, rfl, rfl⟩
  · have hp : 0 < s.size := by omega
    have H1 : Hid _ := head_at hp 33
    have H2 : Hid _ := head_at hp 64
    have hne := not_empty hp
    go_enter Tryz.func44, Tryz.ntmps44
    go_wp2
    go_ret
    refine ⟨_, rfl, ?_, ?_, rfl⟩
    · rw [H1.out]
      by_cases e : ((s[0]'hp).toNat : Int) = 33
      · rw [decide_eq_true e]; simp [e]
      · rw [decide_eq_false e]; simpa using e
    · rw [H2.out]
      by_cases e : ((s[0]'hp).toNat : Int) = 64
      · rw [decide_eq_true e]; simp [e]
      · rw [decide_eq_false e]; simpa using e

set_option maxRecDepth 100000 in
set_option maxHeartbeats 3200000 in
theorem specLinks_any (s : ByteArray) (w : World) (hs : s.size ≤ 4194304) :
    Calls Tryz.prog 27 #[.string s] w fun e w' => ∃ v, e = .returned v ∧ Owns w' w.heap.size v (linksF s) ∧ Below w.heap.size w w' := by
  obtain ⟨i0, hi, hz0, hz1, hz2⟩ := info_parts Tryz.infoS
  have HML := marks_len s
  have HMS : Hid _ := marks_size s
  have HF : Hid (linksF s = (marksF s).filter isLink) := rfl
  go_enter Tryz.func27, Tryz.ntmps27
  go_wp2_with fail
  refine (specMarks_any s _ hs).mono ?_
  rintro e w1 ⟨v1, rfl, hO1, hb1⟩
  obtain ⟨a1, c1, rfl, hS1⟩ := hO1.strs
  have HS1 : Hid (IsStrs w1 a1 c1 (marksF s)) := hS1
  have HB1 : Hid (Below w.heap.size w w1) := hb1
  have HO0 : Hid (Owns (w1.alloc (.cells #[] 9)) w1.heap.size (.slice (some ⟨w1.heap.size, 0, none⟩) 0 0) []) := Owns.empty w1 w1.heap.size (Nat.le_refl _)
  have HB0 : Hid (Below w1.heap.size w1 (w1.alloc (.cells #[] 9))) := (Below.refl _ _).alloc (Nat.le_refl _) _
  clear hO1 hS1 hb1
  generalize marksF s = L at *
  go_wp2
  go_loopw [4, 5] (fun v i wr => ∃ k : Nat, k ≤ L.length ∧ i = .int .i64 (k : Int) ∧ Hid (Owns wr w1.heap.size v ((L.take k).filter isLink)) ∧ Hid (Below w1.heap.size w1 wr))
    (fun _ i _ => L.length - (intOf i).toNat)
  case atStart => exact ⟨0, Nat.zero_le _, rfl, HO0, HB0⟩
  case round =>
    obtain ⟨k, hk, rfl, HO, HB⟩ := hrel
    by_cases hlt : k < L.length
    · obtain ⟨_, hcm, _, hcc⟩ := HS1.out.below HB.out
      obtain ⟨b, off, rfl, hcell⟩ := hcc (by intro e; rw [e] at hlt; simp at hlt)
      have hck := hcell k hlt
      have hps : L[k].size ≤ maxLen := by have := HMS.out L[k] (List.getElem_mem hlt); unfold maxLen; omega
      have HT : Hid _ := filter_take L k hlt
      have hlen : ((L.take k).filter isLink).length ≤ 300 := by
        have h1 := List.length_filter_le isLink (L.take k)
        simp at h1; omega
      unfold maxLen at hcm
      clear hcell hcc
      obtain ⟨ao, co, hv, hst⟩ := HO.out.strs
      clear hst
      generalize hX : (L.take k).filter isLink = X at *
      generalize hp : L[k] = p at *
      subst hv
      cases h1 : headIs 33 p with
      | true =>
        have HN : Hid _ := link_no h1
        have H1 : Hid _ := h1
        clear h1
        go_wp2_with fail
        refine (specHead_any p _ hps).mono ?_
        rintro e w2 ⟨n, rfl, hn1, _, rfl⟩
        rw [H1.out] at hn1
        first | (have hq : n = 33 := eq_of_beq hn1; subst hq) | (have hq : ¬ n = 33 := ne_of_beq_false hn1)
        go_wp2
        go_roundw
        case rel => exact ⟨k + 1, by omega, by go_num, by rw [HT.out, HN.out]; simpa using HO, HB⟩
        case measure => simp [intOf]; omega
      | false =>
        cases h2 : headIs 64 p with
        | true =>
          have HN : Hid _ := link_at h2
          have H1 : Hid _ := h1
          have H2 : Hid _ := h2
          clear h1 h2
          go_wp2_with fail
          refine (specHead_any p _ hps).mono ?_
          rintro e w2 ⟨n, rfl, hn1, _, rfl⟩
          rw [H1.out] at hn1
          first | (have hq : n = 33 := eq_of_beq hn1; subst hq) | (have hq : ¬ n = 33 := ne_of_beq_false hn1)
          go_wp2_with fail
          refine (specHead_any p _ hps).mono ?_
          rintro e w3 ⟨n2, rfl, _, hn2, rfl⟩
          rw [H2.out] at hn2
          first | (have hq : n2 = 64 := eq_of_beq hn2; subst hq) | (have hq : ¬ n2 = 64 := ne_of_beq_false hn2)
          go_wp2
          go_roundw
          case rel => exact ⟨k + 1, by omega, by go_num, by rw [HT.out, HN.out]; simpa using HO, HB⟩
          case measure => simp [intOf]; omega
        | false =>
          have HN : Hid _ := link_yes h1 h2
          have H1 : Hid _ := h1
          have H2 : Hid _ := h2
          clear h1 h2
          go_wp2_with fail
          refine (specHead_any p _ hps).mono ?_
          rintro e w2 ⟨n, rfl, hn1, _, rfl⟩
          rw [H1.out] at hn1
          have hq1 : ¬ n = 33 := ne_of_beq_false hn1
          have he1 : (n != 33) = true := by simp [hq1]
          go_wp2_with fail
          refine (specHead_any p _ hps).mono ?_
          rintro e w3 ⟨n2, rfl, _, hn2, rfl⟩
          rw [H2.out] at hn2
          have hq2 : ¬ n2 = 64 := ne_of_beq_false hn2
          have he2 : (n2 != 64) = true := by simp [hq2]
          go_wp2_with (at_builtin; refine wpList_append_own _ rfl _ _ 23 rfl w1.heap.size 9 i0 (.string ⟨#[]⟩) 1 16 Tryz.underlying23 hi hz0 hz1 hz2 rfl (by decide) _ _ _ rfl (World.ownsRow.alloc HO.out _) ⟨w3.heap.size, 0, none⟩ 1 1 [.string p] rfl rfl (cell_one_new _ _ _) ?c2 ?c3 ?c4 ?c5 ?_)
          case c2 => intro u hu; simp at hu; subst hu; rfl
          case c3 => unfold maxLen; omega
          case c4 => omega
          case c5 => have := HB.out.size; simp; omega
          intro v' w4 hown' hgrow _
          have HO' : Hid _ := hown'
          have HG : Hid _ := hgrow
          clear hown' hgrow
          go_wp2
          go_roundw
          case rel =>
            refine ⟨k + 1, by omega, by go_num, ?_, ?_⟩
            · rw [HT.out, HN.out]; exact Owns.append HO'.out
            · exact Below.grown (HB.out.alloc HB.out.size _) HG.out (by have := HB.out.size; simp; omega) (Owns.block HO.out)
          case measure => simp [intOf]; omega
    · have hall : L.take k = L := List.take_of_length_le (by omega)
      rw [hall] at HO
      clear hall
      go_wp2
      go_ret
      exact ⟨_, rfl, by rw [HF.out]; exact Owns.mono HO.out HB1.out.size, HB1.out.trans (HB.out.mono HB1.out.size)⟩

set_option maxRecDepth 100000 in
set_option maxHeartbeats 3200000 in
theorem specBase_any (s : ByteArray) (w : World) (hs : s.size ≤ 4194304) :
    Calls Tryz.prog 19 #[.string s] w fun e w' => e = .returned (.tuple #[.string (baseF s).1, .bool (baseF s).2]) ∧ Below w.heap.size w w' := by
  have HML := marks_len s
  have HMS : Hid _ := marks_size s
  have HF : Hid (baseF s = baseL (marksF s)) := rfl
  go_enter Tryz.func19, Tryz.ntmps19
  go_wp2_with fail
  refine (specMarks_any s _ hs).mono ?_
  rintro e w1 ⟨v1, rfl, hO1, hb1⟩
  obtain ⟨a1, c1, rfl, hS1⟩ := hO1.strs
  have HS1 : Hid (IsStrs w1 a1 c1 (marksF s)) := hS1
  have HB1 : Hid (Below w.heap.size w w1) := hb1
  clear hO1 hS1 hb1
  generalize marksF s = L at *
  go_wp2
  go_loop [5] (fun i => ∃ k : Nat, k ≤ L.length ∧ i = .int .i64 (k : Int) ∧ Hid (∀ x ∈ L.take k, headIs 64 x = false)) (fun i => L.length - (intOf i).toNat)
  case atStart => exact ⟨0, Nat.zero_le _, rfl, (by intro x hx; simp at hx)⟩
  case round =>
    obtain ⟨k, hk, rfl, HN⟩ := hrel
    by_cases hlt : k < L.length
    · obtain ⟨_, hcm, _, hcc⟩ := HS1.out
      obtain ⟨b, off, rfl, hcell⟩ := hcc (by intro e; rw [e] at hlt; simp at hlt)
      have hck := hcell k hlt
      have hp3 := HMS.out L[k] (List.getElem_mem hlt)
      have hps : L[k].size ≤ maxLen := by unfold maxLen; omega
      unfold maxLen at hcm
      clear hcell hcc
      cases h1 : headIs 64 L[k] with
      | true =>
        have HE : Hid _ := base_take hlt HN.out h1
        have hpos : 1 ≤ L[k].size := by
          by_cases hz : L[k].size = 0
          · have := empty_of hz
            rw [this] at h1; cases h1
          · omega
        have H1 : Hid _ := h1
        clear h1
        have HX : Hid _ := tail_ext L[k]
        generalize L[k] = p at *
        go_wp2_with fail
        refine (specHead_any p _ hps).mono ?_
        rintro e w2 ⟨n, rfl, _, hn2, rfl⟩
        rw [H1.out] at hn2
        first | (have hq : n = 64 := eq_of_beq hn2; subst hq) | (have hq : ¬ n = 64 := ne_of_beq_false hn2)
        go_wp2
        go_ret2
        refine ⟨?_, HB1.out⟩
        rw [HF.out, HE.out]
        exact retSB (by first | exact HX.out | (rw [← HX.out]) | rfl) rfl
      | false =>
        have HN2 : Hid _ := take_all hlt HN.out h1
        have H1 : Hid _ := h1
        clear h1
        generalize L[k] = p at *
        go_wp2_with fail
        refine (specHead_any p _ hps).mono ?_
        rintro e w2 ⟨n, rfl, _, hn2, rfl⟩
        rw [H1.out] at hn2
        first | (have hq : n = 64 := eq_of_beq hn2; subst hq) | (have hq : ¬ n = 64 := ne_of_beq_false hn2)
        go_wp2
        go_round
        case rel => exact ⟨k + 1, by omega, by go_num, HN2.out⟩
        case measure => simp [intOf]; omega
    · have HE : Hid (baseL L = (⟨#[]⟩, false)) := by
        have h := HN.out
        rw [List.take_of_length_le (by omega)] at h
        exact base_none h
      go_wp2
      go_ret2
      exact ⟨retSB (by rw [HF.out, HE.out]) (by rw [HF.out, HE.out]), HB1.out⟩
end Go.Proofs.YtjeohndfgamiaaaGreatDoor.Pg
/- A page's text is drawn: all ASCII, at most 600 bytes. -/
namespace Go.Proofs.YtjeohndfgamiaaaGreatDoor.Dr
open Go.RowKit Go.Proofs.YtjeohndfgamiaaaGreatDoor.St Go.Proofs.YtjeohndfgamiaaaGreatDoor.AddrM Go.Proofs.YtjeohndfgamiaaaGreatDoor.EscL Go.Proofs.YtjeohndfgamiaaaGreatDoor.Ad1

theorem sz_app (a b : ByteArray) : (a ++ b).size = a.size + b.size := ByteArray.size_append

set_option maxRecDepth 100000 in
set_option maxHeartbeats 6400000 in
theorem page_any (B r q : Nat) (w : World) (h : IsRd B w r q) (hq : q ≤ 8000) :
    Calls Tryz.prog 22 #[.pointer (some ⟨r, 0, none⟩)] w fun e w' => ∃ s, e = .returned (.string s) ∧ s.size ≤ 600 ∧ asciiB s = true ∧ IsRd B w' r (q + 70) ∧ w.grownBy w' (some r) := by
  have HR0 : Hid (IsRd B w r q) := h
  clear h
  go_enter Tryz.func22, Tryz.ntmps22
  go_wp2_with fail
  refine (pick_any B r q 5 _ HR0.out (by omega) (by omega) (by omega)).mono ?_
  rintro e w1 ⟨x, rfl, hx, hr1, hg1⟩
  have HR1 : Hid (IsRd B w1 r (q + 1)) := hr1
  have HG1 : Hid (w.grownBy w1 (some r)) := hg1
  clear hr1 hg1
  go_wp2
  go_loopw [3, 4] (fun v i wr => ∃ (k : Nat) (s : ByteArray), k ≤ 4 ∧ i = .int .i64 k ∧ v = .string s ∧ s.size ≤ (4 - k) * 130 ∧ Hid (asciiB s = true) ∧ Hid (IsRd B wr r (q + 1 + (4 - k) * 16)) ∧ Hid (w.grownBy wr (some r)))
    (fun _ i _ => (intOf i).toNat)
  case atStart => exact ⟨x, ByteArray.empty, by omega, rfl, rfl, by simp, (by show asciiB _ = true; decide), HR1.out.mono (by omega), HG1⟩
  case round =>
    obtain ⟨k, s, hk, rfl, rfl, hs, HA, HR, HG⟩ := hrel
    by_cases hlt : 0 < k
    · go_wp2_with fail
      refine (pick_any B r _ 9 _ HR.out (by omega) (by omega) (by omega)).mono ?_
      rintro e w2 ⟨y, rfl, hy, hr2, hg2⟩
      have HR2 : Hid (IsRd B w2 r (q + 1 + (4 - k) * 16 + 1)) := hr2
      have HG2 : Hid (w.grownBy w2 (some r)) := grown_trans HG.out hg2
      clear hr2 hg2
      by_cases h0 : y = 0
      · subst h0
        go_wp2_with fail
        refine (ref_any B r _ _ HR2.out (by omega)).mono ?_
        rintro e w3 ⟨t, rfl, ht, hta, hr3, hg3⟩
        have HT : Hid (asciiB t = true) := hta
        have HR3 : Hid (IsRd B w3 r (q + 1 + (4 - k) * 16 + 1 + 7)) := hr3
        have HG3 : Hid (w.grownBy w3 (some r)) := grown_trans HG2.out hg3
        clear hta hr3 hg3
        go_wp2_with fail
        refine (ref_any B r _ _ HR3.out (by omega)).mono ?_
        rintro e w4 ⟨t2, rfl, ht2, hta2, hr4, hg4⟩
        have HT2 : Hid (asciiB t2 = true) := hta2
        have HR4 : Hid (IsRd B w4 r (q + 1 + (4 - k) * 16 + 1 + 7 + 7)) := hr4
        have HG4 : Hid (w.grownBy w4 (some r)) := grown_trans HG3.out hg4
        clear hta2 hr4 hg4
        go_wp2
        go_roundw
        case rel =>
          refine ⟨k - 1, _, by omega, by go_num, rfl, ?_, ?_, HR4.out.mono (by omega), HG4⟩
          · simp only [sz_app]
            have e1 : (⟨#[40]⟩ : ByteArray).size = 1 := rfl
            have e2 : (⟨#[60]⟩ : ByteArray).size = 1 := rfl
            have e3 : (⟨#[62, 41]⟩ : ByteArray).size = 2 := rfl
            omega
          · exact asciiB_app (asciiB_app (asciiB_app (asciiB_app (asciiB_app HA.out (by decide)) HT.out) (by decide)) HT2.out) (by decide)
        case measure => simp [intOf]; omega
      have n0 : ((y : Int) == 0) = false := by simp; omega
      by_cases h1 : y = 1
      · subst h1
        go_wp2_with fail
        refine (ref_any B r _ _ HR2.out (by omega)).mono ?_
        rintro e w3 ⟨t, rfl, ht, hta, hr3, hg3⟩
        have HT : Hid (asciiB t = true) := hta
        have HR3 : Hid (IsRd B w3 r (q + 1 + (4 - k) * 16 + 1 + 7)) := hr3
        have HG3 : Hid (w.grownBy w3 (some r)) := grown_trans HG2.out hg3
        clear hta hr3 hg3
        go_wp2
        go_roundw
        case rel =>
          refine ⟨k - 1, _, by omega, by go_num, rfl, ?_, ?_, HR3.out.mono (by omega), HG3⟩
          · simp only [sz_app]
            have e1 : (⟨#[60, 33]⟩ : ByteArray).size = 2 := rfl
            have e2 : (⟨#[62]⟩ : ByteArray).size = 1 := rfl
            omega
          · exact asciiB_app (asciiB_app (asciiB_app HA.out (by decide)) HT.out) (by decide)
        case measure => simp [intOf]; omega
      have n1 : ((y : Int) == 1) = false := by simp; omega
      by_cases h2 : y = 2
      · subst h2
        go_wp2_with fail
        refine (ref_any B r _ _ HR2.out (by omega)).mono ?_
        rintro e w3 ⟨t, rfl, ht, hta, hr3, hg3⟩
        have HT : Hid (asciiB t = true) := hta
        have HR3 : Hid (IsRd B w3 r (q + 1 + (4 - k) * 16 + 1 + 7)) := hr3
        have HG3 : Hid (w.grownBy w3 (some r)) := grown_trans HG2.out hg3
        clear hta hr3 hg3
        go_wp2
        go_roundw
        case rel =>
          refine ⟨k - 1, _, by omega, by go_num, rfl, ?_, ?_, HR3.out.mono (by omega), HG3⟩
          · simp only [sz_app]
            have e1 : (⟨#[60, 64]⟩ : ByteArray).size = 2 := rfl
            have e2 : (⟨#[62]⟩ : ByteArray).size = 1 := rfl
            omega
          · exact asciiB_app (asciiB_app (asciiB_app HA.out (by decide)) HT.out) (by decide)
        case measure => simp [intOf]; omega
      have n2 : ((y : Int) == 2) = false := by simp; omega
      by_cases h3 : y = 3
      · subst h3
        go_wp2_with fail
        refine (of_new B r _ 6 _ fine w2 HR2.out (by omega) (by decide) (by decide) (by decide) (by decide)).mono ?_
        rintro e w3 ⟨t, rfl, ht, hr3, hg3⟩
        have hts := (fine_parts ht).1
        have HT : Hid (asciiB t = true) := (fine_parts ht).2
        have HR3 : Hid (IsRd B w3 r (q + 1 + (4 - k) * 16 + 1 + 1)) := hr3
        have HG3 : Hid (w.grownBy w3 (some r)) := grown_trans HG2.out hg3
        clear ht hr3 hg3
        go_wp2
        go_roundw
        case rel =>
          refine ⟨k - 1, _, by omega, by go_num, rfl, ?_, asciiB_app HA.out HT.out, HR3.out.mono (by omega), HG3⟩
          simp only [sz_app]
          omega
        case measure => simp [intOf]; omega
      · have n3 : ((y : Int) == 3) = false := by simp; omega
        go_wp2_with fail
        refine (ref_any B r _ _ HR2.out (by omega)).mono ?_
        rintro e w3 ⟨t, rfl, ht, hta, hr3, hg3⟩
        have HT : Hid (asciiB t = true) := hta
        have HR3 : Hid (IsRd B w3 r (q + 1 + (4 - k) * 16 + 1 + 7)) := hr3
        have HG3 : Hid (w.grownBy w3 (some r)) := grown_trans HG2.out hg3
        clear hta hr3 hg3
        go_wp2
        go_roundw
        case rel =>
          refine ⟨k - 1, _, by omega, by go_num, rfl, ?_, ?_, HR3.out.mono (by omega), HG3⟩
          · simp only [sz_app]
            have e1 : (⟨#[60]⟩ : ByteArray).size = 1 := rfl
            have e2 : (⟨#[62]⟩ : ByteArray).size = 1 := rfl
            omega
          · exact asciiB_app (asciiB_app (asciiB_app HA.out (by decide)) HT.out) (by decide)
        case measure => simp [intOf]; omega
    · go_wp2
      go_ret
      exact ⟨s, rfl, by omega, HA.out, HR.out.mono (by omega), HG.out⟩

end Go.Proofs.YtjeohndfgamiaaaGreatDoor.Dr
