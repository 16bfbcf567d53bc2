/- The model's reading of an address: cut, split, small letters. -/
import Derived.Test.YtmgcdfmgmpnonaaGreatDoorReadMath
import Derived.Test.YtmgcdfmgmpnonaaGreatDoorEscLeafPk
import Derived.Test.YtmgcdfmgmpnonaaGreatDoorDraw1Pk
namespace Go.Proofs.YtmgcdfmgmpnonaaGreatDoor.Rd1
open Go.RowKit Go.Proofs.YtmgcdfmgmpnonaaGreatDoor.EscM Go.Proofs.YtmgcdfmgmpnonaaGreatDoor.AddrM Go.Proofs.YtmgcdfmgmpnonaaGreatDoor.ReadM Go.Proofs.YtmgcdfmgmpnonaaGreatDoor.St Go.Proofs.YtmgcdfmgmpnonaaGreatDoor.EscL

theorem bs_data (s : ByteArray) : bs s.data.toList = s := by unfold bs; cases s; simp
theorem ext_take (s : ByteArray) (k : Nat) : s.extract 0 k = bs (s.data.toList.take k) := by
  unfold bs; apply ByteArray.ext; apply Array.toList_inj.1; simp [ByteArray.data_extract]
theorem ext_drop (s : ByteArray) (k : Nat) : s.extract k s.size = bs (s.data.toList.drop k) := by
  unfold bs; apply ByteArray.ext; apply Array.toList_inj.1; simp [ByteArray.data_extract]
  rw [List.take_of_length_le (by simp)]

theorem ret3 {a b c d : ByteArray} {x y : Bool} (h : a = b) (h' : c = d) (h'' : x = y) : Ending.returned (.tuple #[.string a, .string c, .bool x]) = .returned (.tuple #[.string b, .string d, .bool y]) := by rw [h, h', h'']

set_option maxRecDepth 100000 in
set_option maxHeartbeats 1600000 in
theorem specCut_any (s : ByteArray) (c : Int) (w : World) (hs : s.size ≤ 4194304) (_hc0 : 0 ≤ c) (_hc1 : c ≤ 255) :
    Calls Tryz.prog 96 #[.string s, .int .u8 c] w fun e w' => e = .returned (.tuple #[.string (bs (cutL c s.data.toList).1), .string (bs (cutL c s.data.toList).2.1), .bool (cutL c s.data.toList).2.2]) ∧ ∃ n, w' = w.drewN n := by
  go_enter Tryz.func96, Tryz.ntmps96
  go_wp2
  go_loop [7] (fun i => ∃ k : Nat, k ≤ s.size ∧ i = .int .i64 (k : Int) ∧ Hid (∀ i (hi : i < k) (hi2 : i < s.data.toList.length), ((s.data.toList[i]'hi2).toNat : Int) ≠ c)) (fun i => s.size - (intOf i).toNat)
  case atStart => exact ⟨0, Nat.zero_le _, rfl, fun i hi => absurd hi (by omega)⟩
  case round =>
    obtain ⟨k, hk, rfl, HN⟩ := hrel
    by_cases hlt : k < s.size
    · have hlt' : k < s.data.toList.length := by simpa using hlt
      by_cases he : ((s[k]'hlt).toNat : Int) = c
      · have HC : Hid (cutL c s.data.toList = (s.data.toList.take k, s.data.toList.drop (k + 1), true)) := cut_at c _ k hlt' (fun i hi => HN.out i hi (by omega)) he
        have heb : (((s[k]'hlt).toNat : Int) == c) = true := by simpa using he
        have hw1 : IntKind.i64.wrap ((k : Int) + 1) = (k : Int) + 1 := IntWalk.i64_in _ (by omega)
        have hb1 : (k : Int) + 1 ≤ (s.size : Int) := by omega
        have hb0 : (0 : Int) ≤ (k : Int) + 1 := by omega
        have hb2 : (k : Int) ≤ (s.size : Int) := by omega
        clear he
        go_wp2
        go_quiet (fail)
        go_wp2
        go_ret3
        rw [HC.out]
        exact ⟨ret3 (ext_take s k) (ext_drop s (k + 1)) rfl, nq, rfl⟩
      · have HN2 : Hid (∀ i (hi : i < k + 1) (hi2 : i < s.data.toList.length), ((s.data.toList[i]'hi2).toNat : Int) ≠ c) := by
          intro i hi hi2
          by_cases e : i = k
          · subst e; exact he
          · exact HN.out i (by omega) hi2
        have heb : (((s[k]'hlt).toNat : Int) == c) = false := by simpa using he
        clear he
        go_wp2
        go_round
        case rel => exact ⟨k + 1, by omega, by go_num, HN2.out⟩
        case measure => simp [intOf]; omega
    · have HC : Hid (cutL c s.data.toList = (s.data.toList, [], false)) := cut_none c _ (fun i hi => HN.out i (by simp at hi; omega) hi)
      go_wp2
      go_ret3
      rw [HC.out]
      exact ⟨ret3 (bs_data s).symm rfl rfl, 0, rfl⟩

def splitM (r m : Value) : Nat := match r, m with | .string s, .bool true => s.size + 1 | _, _ => 0
theorem bs_size (l : List UInt8) : (bs l).size = l.length := by unfold bs; show l.toArray.size = _; simp

set_option maxRecDepth 100000 in
set_option maxHeartbeats 1600000 in
theorem specSplit_any (s : ByteArray) (c : Int) (w : World) (hs : s.size ≤ 1000000) (hc0 : 0 ≤ c) (hc1 : c ≤ 255) :
    Calls Tryz.prog 113 #[.string s, .int .u8 c] w fun e w' => ∃ v, e = .returned v ∧ Owns w' w.heap.size v (splitS c s) ∧ Below w.heap.size w w' := by
  obtain ⟨i0, hi, hz0, hz1, hz2⟩ := info_parts Tryz.infoS
  go_enter Tryz.func113, Tryz.ntmps113
  go_wp2
  go_loopw [5, 6, 7] (fun v r m wr => ∃ (L : List ByteArray) (l : List UInt8) (b : Bool), r = .string (bs l) ∧ m = .bool b ∧ Hid (splitS c s = L ++ if b then (splitL c l).map bs else []) ∧ Hid (Owns wr w.heap.size v L) ∧ Below w.heap.size w wr ∧ L.length + l.length ≤ s.size + 1 ∧ (b = true → L.length + l.length ≤ s.size)) (fun _ r m _ => splitM r m)
  case atStart => exact ⟨[], s.data.toList, true, by rw [bs_data], rfl, by show _ = _; simp [splitS], Owns.empty _ _ (Nat.le_refl _), (Below.refl _ _).alloc (Nat.le_refl _) _, by simp, by simp⟩
  case round =>
    obtain ⟨L, l, b, rfl, rfl, HE, HO, hbel, hlen, hlen2⟩ := hrel
    cases b with
    | true =>
      have hl2 := hlen2 rfl
      have hcl := cut_len c l
      have hsc := split_cut c l
      have HC : Hid _ := hcl
      have HSC : Hid _ := hsc
      clear hcl hsc hlen hlen2
      go_wp2_with fail
      refine (specCut_any (bs l) c _ (by rw [bs_size]; omega) hc0 hc1).mono ?_
      rintro e w1 ⟨rfl, n, rfl⟩
      rw [show (bs l).data.toList = l from by unfold bs; simp]
      have HO1 : Hid (Owns (wr.drewN n) w.heap.size u5 L) := Owns.keep HO.out fun _ _ => rfl
      have hb1 : Below w.heap.size w (wr.drewN n) := below_drewN hbel n
      generalize wr.drewN n = w1 at *
      generalize (cutL c l).1 = x at *
      generalize (cutL c l).2.1 = y at *
      generalize (cutL c l).2.2 = f at *
      go_wp2_with (at_builtin; refine wpList_append_own _ rfl _ _ 26 rfl w.heap.size 9 i0 (.string ⟨#[]⟩) 1 16 Tryz.underlying26 hi hz0 hz1 hz2 rfl (by decide) _ _ _ rfl (World.ownsRow.alloc HO1.out _) ⟨w1.heap.size, 0, none⟩ 1 1 [.string (bs x)] rfl rfl (cell_one_new _ _ _) ?c2 ?c3 ?c4 ?c5 ?_)
      case c2 => intro u hu; simp at hu; subst hu; rfl
      case c3 => unfold maxLen; omega
      case c4 => omega
      case c5 => have := hb1.size; simp; omega
      intro v' w2 hown' hgrow _
      have HO' : Hid _ := hown'
      have HG : Hid _ := hgrow
      clear hown' hgrow
      go_wp2
      go_roundw
      case rel =>
        refine ⟨L ++ [bs x], y, f, rfl, rfl, ?_, Owns.append HO'.out, ?_, ?_, ?_⟩
        · show _ = _
          rw [HE.out]
          simp only [if_true]
          rw [HSC.out]
          cases f <;> simp
        · exact Below.grown (hb1.alloc hb1.size _) HG.out (by have := hb1.size; simp; omega) (Owns.block HO1.out)
        · have := HC.out.1; simp; omega
        · intro h; have := HC.out.1; have := HC.out.2 h; simp; omega
      case measure =>
        have := HC.out.1
        have h2 := HC.out.2
        cases f with
        | true => have := h2 rfl; simp only [splitM, bs_size]; omega
        | false => simp [splitM]
    | false =>
      have HE2 : Hid (splitS c s = L) := by show _ = _; rw [HE.out]; simp
      go_wp2
      go_ret
      exact ⟨_, rfl, by rw [HE2.out]; exact HO.out, hbel⟩
end Go.Proofs.YtmgcdfmgmpnonaaGreatDoor.Rd1
