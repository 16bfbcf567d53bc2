import Derived.Test.YtboncolbijicfaaDoorEscNorm
namespace Go.Proofs.YtboncolbijicfaaDoor.EscL
open Go.RowKit Go.Proofs.YtboncolbijicfaaDoor.EscM

theorem str_app (a b : List UInt8) : (⟨a.toArray⟩ : ByteArray) ++ (⟨b.toArray⟩ : ByteArray) = ⟨(a ++ b).toArray⟩ := by
  apply ByteArray.ext; simp

theorem one_byte (W : World) (n : Int) (h0 : 0 ≤ n) (h1 : n ≤ 255) :
    (convert 79 9 (.slice (some ⟨W.heap.size, 0, none⟩) 1 1)).run Tryd.prog (W.alloc (.cells #[.int .u8 n] 5)) = .ok (.string ⟨#[toB n]⟩) (W.alloc (.cells #[.int .u8 n] 5)) := by
  refine run_convert_bytes_back _ _ _ _ _ 1 [toB n] Tryd.underlying79 Tryd.underlying5 Tryd.underlying9 ?_
  intro j hj
  match j, hj with
  | 0, _ => simp [Addr.add, toB_toNat n h0 h1]

theorem escN_at_short (s : ByteArray) (k : Nat) (h : k < s.size) (hb : ((s[k]'h).toNat : Int) = 37) (hl : s.size ≤ k + 2) : escN (s.data.toList.drop k) = none := by
  rcases meant_step (s.data.toList.drop k) (by rw [drop_cons s k h]; simp) with ⟨_, hn⟩ | ⟨b, m, hm, hm1, _, _⟩
  · exact hn
  · rw [meant_short s k h hb (by omega)] at hm
    have := congrArg Prod.snd hm
    simp at this; omega
theorem escN_at_plain (s : ByteArray) (k : Nat) (h : k < s.size) (hb : ¬ ((s[k]'h).toNat : Int) = 37) : escN (s.data.toList.drop k) = (escN (s.data.toList.drop (k + 1))).map (signL (s[k]'h).toNat ++ ·) := by
  rw [drop_cons s k h, escN_plain _ _ (ne37.2 hb)]
theorem escN_at_sign (s : ByteArray) (k : Nat) (h : k + 2 < s.size) (hb : ((s[k]'(by omega)).toNat : Int) = 37) :
    escN (s.data.toList.drop k) = if hexZ (s[k+1]'(by omega)).toNat < 0 ∨ hexZ (s[k+2]'h).toNat < 0 then none else (escN (s.data.toList.drop (k + 3))).map (signL (hexZ (s[k+1]'(by omega)).toNat * 16 + hexZ (s[k+2]'h).toNat) ++ ·) := by
  rw [drop_cons s k (by omega), drop_cons s (k+1) (by omega), drop_cons s (k + 2) h]
  have h37 : s[k]'(by omega) = 37 := UInt8.toNat.inj (by simp; omega)
  rw [h37, escN_sign]

/-- the end of a round: what was meant is written behind -/
theorem str_plain (l : List UInt8) (n : Int) (hp : plainZ n = true) : (⟨l.toArray⟩ : ByteArray) ++ (⟨#[toB n]⟩ : ByteArray) = ⟨(l ++ signL n).toArray⟩ := by
  rw [show signL n = [toB n] by simp [signL, hp]]; exact str_app l [toB n]
theorem str_sign (l : List UInt8) (n : Int) (hp : plainZ n = false) : (⟨l.toArray⟩ : ByteArray) ++ (⟨#[37, toB (figZ (n / 16)), toB (figZ (n % 16))]⟩ : ByteArray) = ⟨(l ++ signL n).toArray⟩ := by
  rw [show signL n = [37, toB (figZ (n / 16)), toB (figZ (n % 16))] by simp [signL, hp]]; exact str_app l _
theorem str_sign' (l : List UInt8) (a b : Int) (hp : plainZ (a * 16 + b) = false) : (⟨l.toArray⟩ : ByteArray) ++ (⟨#[37, toB (figZ ((a * 16 + b) / 16)), toB (figZ (b % 16))]⟩ : ByteArray) = ⟨(l ++ signL (a * 16 + b)).toArray⟩ := by
  have := str_sign l (a * 16 + b) hp
  rwa [show (a * 16 + b) % 16 = b % 16 by omega] at this
theorem val_str {a b : ByteArray} (h : a = b) : Value.string a = .string b := by rw [h]
theorem map_end {L : Option (List UInt8)} (l x : List UInt8) : (L.map (x ++ ·)).map (l ++ ·) = L.map ((l ++ x) ++ ·) := by cases L <;> simp

set_option maxRecDepth 100000 in
set_option maxHeartbeats 1600000 in
theorem specEsc_any (s : ByteArray) (w : World) (hs : s.size ≤ maxLen) :
    Calls Tryd.prog 61 #[.string s] w fun e w' => e = .returned (.tuple #[.string (escS s), .bool (escB s)]) ∧ Below w.heap.size w w' := by
  unfold maxLen at hs
  by_cases hlong : 60 < s.size
  · have HL : Hid _ := escF_long s hlong
    go_enter Tryd.func61, Tryd.ntmps61
    go_wp2
    go_ret2
    exact ⟨ret2 (by unfold escS; rw [HL.out]) (by unfold escB; rw [HL.out]), Below.refl _ _⟩
  · have HL : Hid _ := escF_of s (by omega)
    have hs60 : s.size ≤ 60 := by omega
    go_enter Tryd.func61, Tryd.ntmps61
    go_wp2
    go_loopw [4, 5] (fun v i wr => ∃ (k : Nat) (l : List UInt8), k ≤ s.size ∧ i = .int .i64 k ∧ v = .string ⟨l.toArray⟩ ∧ Below w.heap.size w wr ∧
        Hid (escN s.data.toList = (escN (s.data.toList.drop k)).map (l ++ ·)) ∧ l.length ≤ 3 * k)
      (fun _ i _ => s.size - (intOf i).toNat)
    case atStart => exact ⟨0, [], Nat.zero_le _, rfl, rfl, Below.refl _ _, by show _ = _; simp, by simp⟩
    case round =>
      obtain ⟨k, l, hk, rfl, rfl, hbel, HE, hl⟩ := hrel
      by_cases hlt : k < s.size
      · by_cases hb : ((s[k]'hlt).toNat : Int) = 37
        · by_cases hsh : s.size ≤ k + 2
          · -- not whole
            have HN : Hid (escN (s.data.toList.drop k) = none) := escN_at_short s k hlt hb hsh
            go_wp2
            go_ret2
            exact ⟨ret2 (by unfold escS; rw [HL.out, HE.out, HN.out]; rfl) (by unfold escB; rw [HL.out, HE.out, HN.out]; rfl), hbel⟩
          · have hlt1 : k + 1 < s.size := by omega
            have hlt2 : k + 2 < s.size := by omega
            have HN : Hid _ := escN_at_sign s k hlt2 hb
            obtain ⟨x1, x2⟩ := hexZ_bd (s[k+1]'hlt1).toNat
            obtain ⟨y1, y2⟩ := hexZ_bd (s[k+2]'hlt2).toNat
            by_cases hx : hexZ (s[k+1]'hlt1).toNat < 0
            · go_wp2_with (go_at_call 79; refine (l1Hex_any _ _ (Int.natCast_nonneg _) (byte_le _)).mono ?_; rintro e w1 ⟨rfl, rfl⟩)
              go_ret2
              have HN2 : escN (s.data.toList.drop k) = none := by rw [HN.out, if_pos (Or.inl hx)]
              exact ⟨ret2 (by unfold escS; rw [HL.out, HE.out, HN2]; rfl) (by unfold escB; rw [HL.out, HE.out, HN2]; rfl), hbel⟩
            · by_cases hy : hexZ (s[k+2]'hlt2).toNat < 0
              · go_wp2_with (go_at_call 79; refine (l1Hex_any _ _ (Int.natCast_nonneg _) (byte_le _)).mono ?_; rintro e w1 ⟨rfl, rfl⟩)
                go_ret2
                have HN2 : escN (s.data.toList.drop k) = none := by rw [HN.out, if_pos (Or.inr hy)]
                exact ⟨ret2 (by unfold escS; rw [HL.out, HE.out, HN2]; rfl) (by unfold escB; rw [HL.out, HE.out, HN2]; rfl), hbel⟩
              · have HN2 : Hid _ := (HN.out).trans (if_neg (by omega))
                have hob : ∀ (W : World) (q : Nat), (convert 79 9 (.slice (some ⟨W.heap.size, 0, none⟩) 1 1)).run Tryd.prog ((W.drewN q).alloc (.cells #[.int .u8 (hexZ (s[k+1]'hlt1).toNat * 16 + hexZ (s[k+2]'hlt2).toNat)] 5)) = _ := fun W q => one_byte (W.drewN q) (hexZ (s[k+1]'hlt1).toNat * 16 + hexZ (s[k+2]'hlt2).toNat) (by omega) (by omega)
                clear HN
                go_wp2_with (go_at_call 79; refine (l1Hex_any _ _ (Int.natCast_nonneg _) (byte_le _)).mono ?_; rintro e w1 ⟨rfl, rfl⟩)
                have hb1 : (k : Int) + 1 < (s.size : Int) := by omega
                have hb2 : (k : Int) + 2 < (s.size : Int) := by omega
                have hb5 : (0 : Int) ≤ (k : Int) + 1 := by omega
                have hb6 : (0 : Int) ≤ (k : Int) + 2 := by omega
                go_quiet ((go_at_call 79; exact Calls.quiet_of_same (l1Hex_any _ _ (Int.natCast_nonneg _) (byte_le _))))
                cases hp : plainZ (hexZ (s[k+1]'hlt1).toNat * 16 + hexZ (s[k+2]'hlt2).toNat) with
                | true =>
                  go_wp2_with (first
                    | (go_at_call 80; refine (l1Plain_any _ _ (by omega) (by omega)).mono ?_; rintro e w1 ⟨rfl, rfl⟩)
                    | (go_at_call 81; refine (l1Sign_any _ _ (by omega) (by omega)).mono ?_; rintro e w1 ⟨rfl, kk, rfl⟩))
                  go_roundw
                  case rel => exact ⟨k + 3, l ++ signL _, by omega, by go_num, val_str (str_plain l _ hp), (below_drewN hbel _).alloc hbel.size _, by show _ = _; rw [HE.out, HN2.out, map_end], by have := signL_len (hexZ (s[k+1]'hlt1).toNat * 16 + hexZ (s[k+2]'hlt2).toNat); simp only [List.length_append]; omega⟩
                  case measure => simp [intOf]; omega
                | false =>
                  go_wp2_with (first
                    | (go_at_call 80; refine (l1Plain_any _ _ (by omega) (by omega)).mono ?_; rintro e w1 ⟨rfl, rfl⟩)
                    | (go_at_call 81; refine (l1Sign_any _ _ (by omega) (by omega)).mono ?_; rintro e w1 ⟨rfl, kk, rfl⟩))
                  go_roundw
                  case rel => exact ⟨k + 3, l ++ signL _, by omega, by go_num, val_str (str_sign' l _ _ hp), below_drewN hbel _, by show _ = _; rw [HE.out, HN2.out, map_end], by have := signL_len (hexZ (s[k+1]'hlt1).toNat * 16 + hexZ (s[k+2]'hlt2).toNat); simp only [List.length_append]; omega⟩
                  case measure => simp [intOf]; omega
        · have HN : Hid _ := escN_at_plain s k hlt hb
          have hbl := byte_le (s[k]'hlt)
          have hob : ∀ W : World, _ := fun W => one_byte W (s[k]'hlt).toNat (Int.natCast_nonneg _) hbl
          cases hp : plainZ (s[k]'hlt).toNat with
          | true =>
            go_wp2_with (first
              | (go_at_call 80; refine (l1Plain_any _ _ (Int.natCast_nonneg _) (byte_le _)).mono ?_; rintro e w1 ⟨rfl, rfl⟩)
              | (go_at_call 81; refine (l1Sign_any _ _ (Int.natCast_nonneg _) (byte_le _)).mono ?_; rintro e w1 ⟨rfl, kk, rfl⟩))
            go_roundw
            case rel => exact ⟨k + 1, l ++ signL (s[k]'hlt).toNat, by omega, by go_num, val_str (str_plain l _ hp), hbel.alloc hbel.size _, by show _ = _; rw [HE.out, HN.out, map_end], by have := signL_len (s[k]'hlt).toNat; simp only [List.length_append]; omega⟩
            case measure => simp [intOf]; omega
          | false =>
            go_wp2_with (first
              | (go_at_call 80; refine (l1Plain_any _ _ (Int.natCast_nonneg _) (byte_le _)).mono ?_; rintro e w1 ⟨rfl, rfl⟩)
              | (go_at_call 81; refine (l1Sign_any _ _ (Int.natCast_nonneg _) (byte_le _)).mono ?_; rintro e w1 ⟨rfl, kk, rfl⟩))
            go_roundw
            case rel => exact ⟨k + 1, l ++ signL (s[k]'hlt).toNat, by omega, by go_num, val_str (str_sign l _ hp), below_drewN hbel _, by show _ = _; rw [HE.out, HN.out, map_end], by have := signL_len (s[k]'hlt).toNat; simp only [List.length_append]; omega⟩
            case measure => simp [intOf]; omega
      · have e : s.data.toList.drop k = [] := List.drop_eq_nil_of_le (by simp; omega)
        have HE2 : Hid (escN s.data.toList = some l) := by show _ = _; rw [HE.out, e]; simp [escN]
        clear e
        go_wp2
        go_ret2
        exact ⟨ret2 (by unfold escS; rw [HL.out, HE2.out]) (by unfold escB; rw [HL.out, HE2.out]), hbel⟩
end Go.Proofs.YtboncolbijicfaaDoor.EscL
