/- The program's links and base of a page. -/
import Derived.Test.YtiennniclkbjlaaGreatDoorPage2
namespace Go.Proofs.YtiennniclkbjlaaGreatDoor.Pg
open Go.RowKit Go.Proofs.YtiennniclkbjlaaGreatDoor.EscM Go.Proofs.YtiennniclkbjlaaGreatDoor.EscL Go.Proofs.YtiennniclkbjlaaGreatDoor.ReadM Go.Proofs.YtiennniclkbjlaaGreatDoor.St Go.Proofs.YtiennniclkbjlaaGreatDoor.PgM Go.Proofs.YtiennniclkbjlaaGreatDoor.Dr

theorem empty_of {s : ByteArray} (h : s.size = 0) : s = ⟨#[]⟩ := by
  cases s with
  | mk d => have : d = #[] := Array.eq_empty_of_size_eq_zero h; rw [this]
theorem head_list : ∀ (l : List UInt8) (hd : 0 < l.length) (c : Int), headL c l = decide (((l[0]'hd).toNat : Int) = c) := by
  intro l hd c
  cases l with
  | nil => simp at hd
  | cons a t => rfl
theorem head_at {s : ByteArray} (h : 0 < s.size) (c : Int) : headIs c s = decide (((s[0]'h).toNat : Int) = c) :=
  head_list s.data.toList (by simpa using h) c
theorem not_empty {s : ByteArray} (h : 0 < s.size) : s.toList.isEmpty = false := by
  rw [ByteArray.toList_eq]
  have hd : 0 < s.data.toList.length := by simpa using h
  cases hl : s.data.toList with
  | nil => rw [hl] at hd; simp at hd
  | cons a t => rfl

theorem begins_any (s : ByteArray) (c : Int) (w : World) (hs : s.size ≤ maxLen) (_h0 : 0 ≤ c) (_h1 : c ≤ 255) :
    Calls Tryz.prog 195 #[.string s, .int .u8 c] w fun e w' => e = .returned (.bool (headIs c s)) ∧ w' = w := by
  unfold maxLen at hs
  by_cases h : s.size = 0
  · have := empty_of h
    subst this
    go_enter Tryz.func195, Tryz.ntmps195
    go_wp2
    go_ret
    exact ⟨rfl, rfl⟩
  · have hp : 0 < s.size := by omega
    have HH : Hid _ := head_at hp c
    have hne := not_empty hp
    by_cases hc : ((s[0]'hp).toNat : Int) = c
    · have HT : Hid (headIs c s = true) := by show _ = _; rw [HH.out]; exact decide_eq_true hc
      go_enter Tryz.func195, Tryz.ntmps195
      go_wp2
      go_ret
      exact ⟨ret_bool (by rw [HT.out]), rfl⟩
    · have HT : Hid (headIs c s = false) := by show _ = _; rw [HH.out]; exact decide_eq_false hc
      go_enter Tryz.func195, Tryz.ntmps195
      go_wp2
      go_ret
      exact ⟨ret_bool (by rw [HT.out]; simp [hc]), rfl⟩

theorem filter_take (L : List ByteArray) (k : Nat) (h : k < L.length) : (L.take (k + 1)).filter isLink = (L.take k).filter isLink ++ if isLink L[k] then [L[k]] else [] := by
  rw [List.take_succ_eq_append_getElem h, List.filter_append]
  congr 1
  cases hl : isLink L[k] <;> simp [hl]
theorem link_yes {s : ByteArray} (h1 : headIs 33 s = false) (h2 : headIs 64 s = false) : isLink s = true := by unfold isLink; rw [h1, h2]; rfl
theorem link_no {s : ByteArray} (h1 : headIs 33 s = true) : isLink s = false := by unfold isLink; rw [h1]; rfl
theorem link_at {s : ByteArray} (h1 : headIs 64 s = true) : isLink s = false := by unfold isLink; rw [h1]; simp

set_option maxRecDepth 100000 in
set_option maxHeartbeats 3200000 in
theorem implLinks_any (s : ByteArray) (w : World) (hs : s.size ≤ maxLen) :
    Calls Tryz.prog 175 #[.string s] w fun e w' => ∃ v, e = .returned v ∧ Owns w' w.heap.size v (linksF s) ∧ Below w.heap.size w w' := by
  obtain ⟨i0, hi, hz0, hz1, hz2⟩ := info_parts Tryz.infoS
  have HML := marks_len s
  have HMS : Hid _ := marks_size s
  have HF : Hid (linksF s = (marksF s).filter isLink) := rfl
  go_enter Tryz.func175, Tryz.ntmps175
  go_wp2_with fail
  refine (implMarks_any s _ hs).mono ?_
  rintro e w1 ⟨v1, rfl, hO1, hb1⟩
  obtain ⟨a1, c1, rfl, hS1⟩ := hO1.strs
  have HS1 : Hid (IsStrs w1 a1 c1 (marksF s)) := hS1
  have HB1 : Hid (Below w.heap.size w w1) := hb1
  clear hO1 hS1 hb1
  generalize marksF s = L at *
  go_wp2
  go_loopw [3, 9] (fun v i wr => ∃ k : Nat, k ≤ L.length ∧ i = .int .i64 (k : Int) ∧ Hid (Owns wr w1.heap.size v ((L.take k).filter isLink)) ∧ Hid (Below w1.heap.size w1 wr))
    (fun _ i _ => L.length - (intOf i).toNat)
  case atStart => exact ⟨0, Nat.zero_le _, rfl, Owns.nil _ _, Below.refl _ _⟩
  case round =>
    obtain ⟨k, hk, rfl, HO, HB⟩ := hrel
    by_cases hlt : k < L.length
    · obtain ⟨_, hcm, _, hcc⟩ := HS1.out.below HB.out
      obtain ⟨b, off, rfl, hcell⟩ := hcc (by intro e; rw [e] at hlt; simp at hlt)
      have hck := hcell k hlt
      have hps : L[k].size ≤ maxLen := by have := HMS.out L[k] (List.getElem_mem hlt); unfold maxLen; omega
      have HT : Hid _ := filter_take L k hlt
      have hlen : ((L.take k).filter isLink).length ≤ 300 := by
        have h1 := List.length_filter_le isLink (L.take k)
        simp at h1; omega
      unfold maxLen at hcm
      clear hcell hcc
      obtain ⟨ao, co, hv, hst⟩ := HO.out.strs
      clear hst
      generalize hX : (L.take k).filter isLink = X at *
      generalize hp : L[k] = p at *
      subst hv
      cases h1 : headIs 33 p with
      | true =>
        have HN : Hid _ := link_no h1
        have H1 : Hid _ := h1
        clear h1
        go_wp2_with fail
        refine (begins_any p 33 _ hps (by omega) (by omega)).mono ?_
        rintro e w2 ⟨rfl, rfl⟩
        rw [H1.out]
        go_wp2
        go_roundw
        case rel => exact ⟨k + 1, by omega, by go_num, by rw [HT.out, HN.out]; simpa using HO, HB⟩
        case measure => simp [intOf]; omega
      | false =>
        cases h2 : headIs 64 p with
        | true =>
          have HN : Hid _ := link_at h2
          have H1 : Hid _ := h1
          have H2 : Hid _ := h2
          clear h1 h2
          go_wp2_with fail
          refine (begins_any p 33 _ hps (by omega) (by omega)).mono ?_
          rintro e w2 ⟨rfl, rfl⟩
          rw [H1.out]
          go_wp2_with fail
          refine (begins_any p 64 _ hps (by omega) (by omega)).mono ?_
          rintro e w3 ⟨rfl, rfl⟩
          rw [H2.out]
          go_wp2
          go_roundw
          case rel => exact ⟨k + 1, by omega, by go_num, by rw [HT.out, HN.out]; simpa using HO, HB⟩
          case measure => simp [intOf]; omega
        | false =>
          have HN : Hid _ := link_yes h1 h2
          have H1 : Hid _ := h1
          have H2 : Hid _ := h2
          clear h1 h2
          go_wp2_with fail
          refine (begins_any p 33 _ hps (by omega) (by omega)).mono ?_
          rintro e w2 ⟨rfl, rfl⟩
          rw [H1.out]
          go_wp2_with fail
          refine (begins_any p 64 _ hps (by omega) (by omega)).mono ?_
          rintro e w3 ⟨rfl, rfl⟩
          rw [H2.out]
          go_wp2_with (at_builtin; refine wpList_append_own _ rfl _ _ 23 rfl w1.heap.size 9 i0 (.string ⟨#[]⟩) 1 16 Tryz.underlying23 hi hz0 hz1 hz2 rfl (by decide) _ _ _ rfl (World.ownsRow.alloc HO.out _) ⟨w3.heap.size, 0, none⟩ 1 1 [.string p] rfl rfl (cell_one_new _ _ _) ?c2 ?c3 ?c4 ?c5 ?_)
          case c2 => intro u hu; simp at hu; subst hu; rfl
          case c3 => unfold maxLen; omega
          case c4 => omega
          case c5 => have := HB.out.size; simp; omega
          intro v' w4 hown' hgrow _
          have HO' : Hid _ := hown'
          have HG : Hid _ := hgrow
          clear hown' hgrow
          go_wp2
          go_roundw
          case rel =>
            refine ⟨k + 1, by omega, by go_num, ?_, ?_⟩
            · rw [HT.out, HN.out]; exact Owns.append HO'.out
            · exact Below.grown (HB.out.alloc HB.out.size _) HG.out (by have := HB.out.size; simp; omega) (Owns.block HO.out)
          case measure => simp [intOf]; omega
    · have hall : L.take k = L := List.take_of_length_le (by omega)
      rw [hall] at HO
      clear hall
      go_wp2
      go_ret
      exact ⟨_, rfl, by rw [HF.out]; exact Owns.mono HO.out HB1.out.size, HB1.out.trans (HB.out.mono HB1.out.size)⟩

/-- none of the first k marks is a base -/
theorem base_take {L : List ByteArray} {k : Nat} (h : k < L.length) (h0 : ∀ x ∈ L.take k, headIs 64 x = false) (h1 : headIs 64 L[k] = true) : baseL L = (tailS L[k], true) := by
  unfold baseL
  have e : L.find? (headIs 64) = some L[k] := by
    have hs : L = L.take k ++ L[k] :: L.drop (k + 1) := by rw [← List.drop_eq_getElem_cons h, List.take_append_drop]
    have hf := congrArg (List.find? (headIs 64)) hs
    rw [hf, List.find?_append]
    have : (L.take k).find? (headIs 64) = none := by rw [List.find?_eq_none]; intro x hx; rw [h0 x hx]; simp
    rw [this, Option.none_or, List.find?_cons_of_pos h1]
  rw [e]
theorem base_none {L : List ByteArray} (h0 : ∀ x ∈ L, headIs 64 x = false) : baseL L = (⟨#[]⟩, false) := by
  unfold baseL
  have : L.find? (headIs 64) = none := by rw [List.find?_eq_none]; intro x hx; rw [h0 x hx]; simp
  rw [this]
theorem take_all {L : List ByteArray} {k : Nat} (h : k < L.length) (h0 : ∀ x ∈ L.take k, headIs 64 x = false) (h1 : headIs 64 L[k] = false) : ∀ x ∈ L.take (k + 1), headIs 64 x = false := by
  intro x hx
  rw [List.take_succ_eq_append_getElem h] at hx
  rcases List.mem_append.1 hx with hx | hx
  · exact h0 x hx
  · simp at hx; subst hx; exact h1
theorem tail_ext (s : ByteArray) : s.extract 1 s.size = tailS s := by
  rw [Rd1.ext_drop]
  unfold tailS
  simp
theorem retSB {a b : ByteArray} {x y : Bool} (h : a = b) (h' : x = y) : Ending.returned (.tuple #[.string a, .bool x]) = .returned (.tuple #[.string b, .bool y]) := by rw [h, h']

set_option maxRecDepth 100000 in
set_option maxHeartbeats 3200000 in
theorem implBase_any (s : ByteArray) (w : World) (hs : s.size ≤ maxLen) :
    Calls Tryz.prog 193 #[.string s] w fun e w' => e = .returned (.tuple #[.string (baseF s).1, .bool (baseF s).2]) ∧ Below w.heap.size w w' := by
  have HML := marks_len s
  have HMS : Hid _ := marks_size s
  have HF : Hid (baseF s = baseL (marksF s)) := rfl
  go_enter Tryz.func193, Tryz.ntmps193
  go_wp2_with fail
  refine (implMarks_any s _ hs).mono ?_
  rintro e w1 ⟨v1, rfl, hO1, hb1⟩
  obtain ⟨a1, c1, rfl, hS1⟩ := hO1.strs
  have HS1 : Hid (IsStrs w1 a1 c1 (marksF s)) := hS1
  have HB1 : Hid (Below w.heap.size w w1) := hb1
  clear hO1 hS1 hb1
  generalize marksF s = L at *
  go_wp2
  go_loop [9] (fun i => ∃ k : Nat, k ≤ L.length ∧ i = .int .i64 (k : Int) ∧ Hid (∀ x ∈ L.take k, headIs 64 x = false)) (fun i => L.length - (intOf i).toNat)
  case atStart => exact ⟨0, Nat.zero_le _, rfl, (by intro x hx; simp at hx)⟩
  case round =>
    obtain ⟨k, hk, rfl, HN⟩ := hrel
    by_cases hlt : k < L.length
    · obtain ⟨_, hcm, _, hcc⟩ := HS1.out
      obtain ⟨b, off, rfl, hcell⟩ := hcc (by intro e; rw [e] at hlt; simp at hlt)
      have hck := hcell k hlt
      have hp3 := HMS.out L[k] (List.getElem_mem hlt)
      have hps : L[k].size ≤ maxLen := by unfold maxLen; omega
      unfold maxLen at hcm
      clear hcell hcc
      cases h1 : headIs 64 L[k] with
      | true =>
        have HE : Hid _ := base_take hlt HN.out h1
        have hpos : 1 ≤ L[k].size := by
          by_cases hz : L[k].size = 0
          · have := empty_of hz
            rw [this] at h1; cases h1
          · omega
        have H1 : Hid _ := h1
        clear h1
        have HX : Hid _ := tail_ext L[k]
        generalize L[k] = p at *
        go_wp2_with fail
        refine (begins_any p 64 _ hps (by omega) (by omega)).mono ?_
        rintro e w2 ⟨rfl, rfl⟩
        rw [H1.out]
        go_wp2
        go_ret2
        refine ⟨?_, HB1.out⟩
        rw [HF.out, HE.out]
        exact retSB (by first | exact HX.out | (rw [← HX.out]) | rfl) rfl
      | false =>
        have HN2 : Hid _ := take_all hlt HN.out h1
        have H1 : Hid _ := h1
        clear h1
        generalize L[k] = p at *
        go_wp2_with fail
        refine (begins_any p 64 _ hps (by omega) (by omega)).mono ?_
        rintro e w2 ⟨rfl, rfl⟩
        rw [H1.out]
        go_wp2
        go_round
        case rel => exact ⟨k + 1, by omega, by go_num, HN2.out⟩
        case measure => simp [intOf]; omega
    · have HE : Hid (baseL L = (⟨#[]⟩, false)) := by
        have h := HN.out
        rw [List.take_of_length_le (by omega)] at h
        exact base_none h
      go_wp2
      go_ret2
      exact ⟨retSB (by rw [HF.out, HE.out]) (by rw [HF.out, HE.out]), HB1.out⟩
end Go.Proofs.YtiennniclkbjlaaGreatDoor.Pg
