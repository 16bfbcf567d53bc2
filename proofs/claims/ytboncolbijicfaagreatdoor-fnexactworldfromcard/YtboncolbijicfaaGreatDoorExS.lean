/- The exact laws' helpers on lists of strings: how great, copied, the same, marked, held. -/
import Derived.Test.YtboncolbijicfaaGreatDoorCmp
import Derived.Test.YtboncolbijicfaaGreatDoorEscMeantPk
namespace Go.Proofs.YtboncolbijicfaaGreatDoor.St
open Go.RowKit

def sumSz : List ByteArray → Nat
  | [] => 0
  | x :: r => x.size + sumSz r
theorem sumSz_snoc : ∀ (L : List ByteArray) (x : ByteArray), sumSz (L ++ [x]) = sumSz L + x.size := by
  intro L
  induction L with
  | nil => intro x; simp [sumSz]
  | cons y L ih => intro x; simp only [List.cons_append, sumSz, ih]; omega
theorem sumSz_take (L : List ByteArray) (k : Nat) (h : k < L.length) : sumSz (L.take (k + 1)) = sumSz (L.take k) + L[k].size := by
  rw [List.take_succ_eq_append_getElem h, sumSz_snoc]

set_option maxRecDepth 100000 in
set_option maxHeartbeats 800000 in
theorem szS_any (a0 : Option Addr) (cap : Nat) (L : List ByteArray) (left : Nat) (w : World) (h : IsStrs w a0 cap L) (hs : ∀ s ∈ L, s.size ≤ maxLen) (hl : left ≤ 4194304) :
    Calls Tryz.prog 19 #[.slice a0 L.length cap, .int .i64 (left : Int)] w fun e w' => (∃ x : Int, e = .returned (.int .i64 x) ∧ (x < 0 ∨ (0 ≤ x ∧ x ≤ left ∧ L.length ≤ left ∧ x + (L.length : Int) + (sumSz L : Int) = (left : Int)))) ∧ w' = w := by
  have HS : Hid (IsStrs w a0 cap L) := h
  have HZ : Hid (∀ s ∈ L, s.size ≤ maxLen) := hs
  have hc1 := h.1
  have hc2 := h.2.1
  unfold maxLen at hc2
  clear h hs
  by_cases hlt : left < L.length
  · go_enter Tryz.func19, Tryz.ntmps19
    go_wp2
    go_ret
    exact ⟨⟨-1, rfl, Or.inl (by omega)⟩, rfl⟩
  · go_enter Tryz.func19, Tryz.ntmps19
    go_wp2
    go_loop [1, 5] (fun x i => ∃ (k m : Nat), k ≤ L.length ∧ i = .int .i64 (k : Int) ∧ x = .int .i64 (m : Int) ∧ m ≤ left ∧ Hid (m + L.length + sumSz (L.take k) = left)) (fun _ i => L.length - (intOf i).toNat)
    case atStart => exact ⟨0, left - L.length, Nat.zero_le _, rfl, by go_num, by omega, by show _ = _; simp [sumSz]; omega⟩
    case round =>
      obtain ⟨k, m, hk, rfl, rfl, hm, HSum⟩ := hrel
      by_cases hkl : k < L.length
      · obtain ⟨b, o, e, c⟩ := HS.out.at hkl
        subst e
        have hz := HZ.out _ (List.getElem_mem hkl)
        unfold maxLen at hz
        have HT : Hid _ := sumSz_take L k hkl
        generalize L[k] = p at *
        by_cases hp : m < p.size
        · go_wp2
          go_ret
          exact ⟨⟨-1, rfl, Or.inl (by omega)⟩, rfl⟩
        · go_wp2
          go_round
          case rel => exact ⟨k + 1, m - p.size, by omega, by go_num, by go_num, by omega, by show _ = _; rw [HT.out]; have := HSum.out; omega⟩
          case measure => simp [intOf]; omega
      · go_wp2
        go_ret
        refine ⟨⟨m, rfl, Or.inr ⟨by omega, by omega, by omega, ?_⟩⟩, rfl⟩
        have := HSum.out
        rw [List.take_of_length_le (by omega)] at this
        omega


theorem set_take (L : List ByteArray) (k : Nat) (hk : k < L.length) (e : ByteArray) : (L.take k ++ List.replicate (L.length - k) e).set k L[k] = L.take (k + 1) ++ List.replicate (L.length - (k + 1)) e := by
  have hl : (L.take k).length = k := by simp; omega
  rw [List.set_append_right _ _ (by omega), hl, Nat.sub_self]
  rw [show L.length - k = (L.length - (k + 1)) + 1 by omega, List.replicate_succ, List.set_cons_zero, List.take_succ_eq_append_getElem hk, List.append_assoc]
  rfl

set_option maxRecDepth 100000 in
set_option maxHeartbeats 800000 in
theorem toS_any (a0 : Option Addr) (cap : Nat) (L : List ByteArray) (w : World) (h : IsStrs w a0 cap L) (hl : L.length ≤ 4194304) :
    Calls Tryz.prog 21 #[.slice a0 L.length cap] w fun e w' => e = .returned (.slice (some ⟨w.heap.size, 0, none⟩) L.length L.length) ∧ Owns w' w.heap.size (.slice (some ⟨w.heap.size, 0, none⟩) L.length L.length) L ∧ Below w.heap.size w w' := by
  obtain ⟨i0, hi, hz0, hz1, hz2⟩ := info_parts Tryz.infoS
  obtain ⟨wm, hrun, hown, hgrow⟩ := run_make_full (P := Tryz.prog) w w.heap.size 24 9 i0 (.string ⟨#[]⟩) 1 Tryz.underlying24 hi hz0 hz1 .i64 .i64 L.length (by rw [hz2]; omega) (by unfold maxLen; omega) (Nat.le_refl _)
  have HO0 : Hid (Owns wm w.heap.size (.slice (some ⟨w.heap.size, 0, none⟩) L.length L.length) (L.take 0 ++ List.replicate (L.length - 0) ⟨#[]⟩)) := by
    show Owns _ _ _ _
    unfold Owns
    have e1 : (L.take 0 ++ List.replicate (L.length - 0) (⟨#[]⟩ : ByteArray)).length = L.length := by simp
    have e2 : cellsS (L.take 0 ++ List.replicate (L.length - 0) ⟨#[]⟩) = (madeCells (Value.cells (.string ⟨#[]⟩)) (L.length * 1)).toList := by
      rw [show Value.cells (.string ⟨#[]⟩) = #[.string ⟨#[]⟩] from rfl, toList_madeCells_one]; simp [cellsS]
    rw [e1, e2]; exact hown
  have hb0 : Below w.heap.size w wm := Below.grown (Below.refl _ _) hgrow (Nat.le_refl _) (by intro k hk; cases hk)
  have HS : Hid (IsStrs w a0 cap L) := h
  have hc1 := h.1
  have hc2 := h.2.1
  unfold maxLen at hc2
  clear h hown hgrow
  go_enter Tryz.func21, Tryz.ntmps21
  go_wp2
  go_loopw [4] (fun i wr => ∃ k : Nat, k ≤ L.length ∧ i = .int .i64 (k : Int) ∧ Hid (Owns wr w.heap.size (.slice (some ⟨w.heap.size, 0, none⟩) L.length L.length) (L.take k ++ List.replicate (L.length - k) ⟨#[]⟩)) ∧ Below w.heap.size w wr) (fun i _ => L.length - (intOf i).toNat)
  case atStart => exact ⟨0, Nat.zero_le _, rfl, HO0, hb0⟩
  case round =>
    obtain ⟨k, hk, rfl, HO, hbel⟩ := hrel
    clear hrun
    by_cases hlt : k < L.length
    · obtain ⟨b, o, e, c⟩ := (HS.out.below hbel).at hlt
      subst e
      have HT : Hid _ := set_take L k hlt ⟨#[]⟩
      have hlen : (L.take k ++ List.replicate (L.length - k) (⟨#[]⟩ : ByteArray)).length = L.length := by simp; omega
      have hO := HO.out
      unfold Owns at hO
      rw [hlen] at hO
      have hcell : wr.cell? ⟨w.heap.size, k, none⟩ = some (.string ⟨#[]⟩) := by
        rw [World.ownsRow.cellAt hO k (by omega)]
        simp only [cellsS, List.getElem?_map]
        have e3 : (L.take k).length = k := by simp; omega
        rw [List.getElem?_append_right (by omega), e3, Nat.sub_self, List.getElem?_replicate, if_pos (by omega)]
        rfl
      have hfz := World.ownsRow.frozenAt hO k
      have hst := World.ownsRow.stored hO k (.string L[k])
      have HST : Hid _ := hst
      clear hst hO hlen
      generalize hp : L[k] = p at *
      go_wp2
      go_roundw
      case rel =>
        refine ⟨k + 1, by omega, by go_num, ?_, ?_⟩
        · show Owns _ _ _ _
          rw [← HT.out]
          have e1 : ((L.take k ++ List.replicate (L.length - k) (⟨#[]⟩ : ByteArray)).set k p).length = L.length := by simp; omega
          have e2 : cellsS ((L.take k ++ List.replicate (L.length - k) (⟨#[]⟩ : ByteArray)).set k p) = (cellsS (L.take k ++ List.replicate (L.length - k) ⟨#[]⟩)).set k (.string p) := by unfold cellsS; rw [List.map_set]
          unfold Owns
          rw [e1, e2]; exact HST.out.1
        · exact Below.grown hbel HST.out.2 hbel.size (by intro k hk; have := Option.some.inj hk; omega)
      case measure => simp [intOf]; omega
    · have e1 : L.take k ++ List.replicate (L.length - k) (⟨#[]⟩ : ByteArray) = L := by rw [List.take_of_length_le (by omega), show L.length - k = 0 by omega]; simp
      rw [e1] at HO
      clear e1
      go_wp2
      go_ret
      exact ⟨rfl, HO.out, hbel⟩


/-- a number's figures, ahead of what is there -/
def digs : Nat → Nat → List UInt8 → List UInt8
  | 0, _, acc => acc
  | f + 1, k, acc => if k = 0 then acc else digs f (k / 10) (EscM.toB (48 + ((k % 10 : Nat) : Int)) :: acc)
theorem digs_zero (f : Nat) (acc : List UInt8) : digs f 0 acc = acc := by cases f <;> simp [digs]
def markS (k : Nat) : ByteArray := ⟨#[109]⟩ ++ ⟨(digs k k []).toArray⟩
def marks (k n : Nat) : List ByteArray := (List.range n).map fun i => markS (k + i)
theorem marks_len (k n : Nat) : (marks k n).length = n := by simp [marks]
theorem marks_at (k n i : Nat) (hi : i < (marks k n).length) : (marks k n)[i] = markS (k + i) := by simp [marks]

set_option maxRecDepth 100000 in
set_option maxHeartbeats 800000 in
theorem markText_any (k : Nat) (w : World) (h1 : 1 ≤ k) (h2 : k ≤ 16777216) :
    Calls Tryz.prog 51 #[.int .i64 (k : Int)] w fun e w' => e = .returned (.string (markS k)) ∧ Below w.heap.size w w' := by
  go_enter Tryz.func51, Tryz.ntmps51
  go_wp2
  go_loopw [0, 3] (fun i v wr => ∃ (n f : Nat) (acc : List UInt8), i = .int .i64 (n : Int) ∧ v = .string ⟨acc.toArray⟩ ∧ acc.length + n ≤ k ∧ n ≤ f ∧ Hid (digs k k [] = digs f n acc) ∧ Below w.heap.size w wr) (fun i _ _ => (intOf i).toNat)
  case atStart => exact ⟨k, k, [], rfl, rfl, by simp, Nat.le_refl _, rfl, Below.refl _ _⟩
  case round =>
    obtain ⟨n, f, acc, rfl, rfl, hac, hf, HD, hbel⟩ := hrel
    by_cases hn : 0 < n
    · obtain ⟨d, hd⟩ : ∃ d : Nat, d = n % 10 := ⟨_, rfl⟩
      have hd9 : d ≤ 9 := by omega
      have hd' : (n : Int) % 10 = (d : Int) := by omega
      have hq' : (n : Int) / 10 = ((n / 10 : Nat) : Int) := by omega
      have HDD : Hid _ := hd
      have HQ : Hid _ := hq'
      have hob : ∀ W : World, _ := fun W => EscL.one_byte W (48 + (d : Int)) (by omega) (by omega)
      have hsz : (⟨#[EscM.toB (48 + (d : Int))]⟩ : ByteArray).size = 1 := rfl
      have hsa : (⟨acc.toArray⟩ : ByteArray).size = acc.length := by show acc.toArray.size = _; simp
      clear hd hq'
      go_wp2
      go_roundw
      case rel =>
        refine ⟨n / 10, f - 1, EscM.toB (48 + (d : Int)) :: acc, by rw [HQ.out], ?_, by simp; omega, by omega, ?_, hbel.alloc hbel.size _⟩
        · exact EscL.val_str (EscL.str_app [EscM.toB (48 + (d : Int))] acc)
        · show _ = _
          rw [HD.out, HDD.out]
          obtain ⟨f', rfl⟩ : ∃ f', f = f' + 1 := ⟨f - 1, by omega⟩
          rw [digs, if_neg (by omega)]; rfl
      case measure => simp [intOf]; omega
    · have hn0 : n = 0 := by omega
      subst hn0
      have hsa : (⟨acc.toArray⟩ : ByteArray).size = acc.length := by show acc.toArray.size = _; simp
      go_wp2
      go_ret
      refine ⟨EscL.ret_str ?_, hbel⟩
      unfold markS
      rw [HD.out, digs_zero]

set_option maxRecDepth 100000 in
set_option maxHeartbeats 1600000 in
theorem eqStringS_any (a0 : Option Addr) (cap : Nat) (A : List ByteArray) (b0 : Option Addr) (dap : Nat) (B : List ByteArray) (w : World) (hA : IsStrs w a0 cap A) (hB : IsStrs w b0 dap B) (hl : A.length ≤ 4194304) (hl2 : B.length ≤ 4194304) :
    Calls Tryz.prog 14 #[.slice a0 A.length cap, .slice b0 B.length dap] w fun e w' => e = .returned (.bool (decide (A = B))) ∧ ∃ n, w' = w.drewN n := by
  have HA : Hid (IsStrs w a0 cap A) := hA
  have HB : Hid (IsStrs w b0 dap B) := hB
  clear hA hB
  by_cases hlen : A.length = B.length
  · have hlb : ((A.length : Int) != (B.length : Int)) = false := by simp; omega
    have hl3 : A.length ≤ B.length := by omega
    have hl4 : B.length ≤ A.length := by omega
    have HL : Hid _ := hlen
    clear hlen
    go_enter Tryz.func14, Tryz.ntmps14
    go_wp2
    go_loopw [5] (fun i wr => ∃ k n : Nat, k ≤ A.length ∧ i = .int .i64 (k : Int) ∧ wr = w.drewN n ∧ Hid (A.take k = B.take k)) (fun i _ => A.length - (intOf i).toNat)
    case atStart => exact ⟨0, 0, Nat.zero_le _, rfl, rfl, rfl⟩
    case round =>
      obtain ⟨k, n, hk, rfl, rfl, HT⟩ := hrel
      by_cases hlt : k < A.length
      · have hltB : k < B.length := by omega
        obtain ⟨b1, o1, e1, c1⟩ := HA.out.at hlt
        obtain ⟨b2, o2, e2, c2⟩ := HB.out.at hltB
        subst e1 e2
        have c1' : (w.drewN n).cell? ⟨b1, o1 + k, none⟩ = some (.string A[k]) := c1
        have c2' : (w.drewN n).cell? ⟨b2, o2 + k, none⟩ = some (.string B[k]) := c2
        have hi1 : (k : Int) < (A.length : Int) := by omega
        have hi2 : (k : Int) < (B.length : Int) := by omega
        cases he : (A[k].toList == B[k].toList) with
        | true =>
          have he' : A[k] = B[k] := by rw [str_eq_iff] at he; exact of_decide_eq_true he
          have HE : Hid _ := he'
          clear he'
          go_wp2
          go_quiet (fail)
          go_wp2
          go_roundw
          case rel => exact ⟨k + 1, n + nq, by omega, by go_num, rfl, take_ne HT.out hlt hltB HE.out⟩
          case measure => simp [intOf]; omega
        | false =>
          have he' : A[k] ≠ B[k] := by rw [str_eq_iff] at he; exact of_decide_eq_false he
          have hAB : decide (A = B) = false := by
            apply decide_eq_false
            intro e; subst e; exact he' rfl
          have HAB : Hid _ := hAB
          clear he' hAB
          go_wp2
          go_quiet (fail)
          go_wp2
          go_ret
          exact ⟨by rw [HAB.out]; rfl, n + nq, by simp⟩
      · have HAB : Hid (decide (A = B) = true) := by
          apply decide_eq_true
          have e1 : A.take k = A := List.take_of_length_le (by omega)
          have e2 : B.take k = B := List.take_of_length_le (by omega)
          rw [← e1, ← e2]; exact HT.out
        go_wp2
        go_ret
        exact ⟨by rw [HAB.out]; rfl, n, rfl⟩
  · have hlb : ((A.length : Int) != (B.length : Int)) = true := by simp; omega
    go_enter Tryz.func14, Tryz.ntmps14
    go_wp2
    go_ret
    have hAB : decide (A = B) = false := by
      apply decide_eq_false
      intro e; subst e; exact hlen rfl
    exact ⟨by rw [hAB]; rfl, 0, rfl⟩


theorem eqS_n (a0 : Option Addr) (n cap : Nat) (A : List ByteArray) (b0 : Option Addr) (m dap : Nat) (B : List ByteArray) (w : World) (hn : A.length = n) (hm : B.length = m) (hA : IsStrs w a0 cap A) (hB : IsStrs w b0 dap B) (hl : n ≤ 4194304) (hl2 : m ≤ 4194304) :
    Calls Tryz.prog 14 #[.slice a0 n cap, .slice b0 m dap] w fun e w' => e = .returned (.bool (decide (A = B))) ∧ ∃ n, w' = w.drewN n := by
  subst hn; subst hm; exact eqStringS_any a0 cap A b0 dap B w hA hB hl hl2

theorem marks_step (k j : Nat) (L : List ByteArray) (hj : j < L.length) : (marks k j ++ L.drop j).set j (markS (k + j)) = marks k (j + 1) ++ L.drop (j + 1) := by
  rw [List.set_append_right _ _ (by rw [marks_len]; omega), marks_len, Nat.sub_self, List.drop_eq_getElem_cons hj, List.set_cons_zero]
  simp [marks, List.range_succ]

theorem grown_refl (w : World) (row : Option Nat) : w.grownBy w row := ⟨rfl, rfl, rfl, Nat.le_refl _, fun _ _ _ => rfl⟩
theorem grown_trans {a b c : World} {row : Option Nat} (h : a.grownBy b row) (k : b.grownBy c row) : a.grownBy c row :=
  ⟨k.os.trans h.os, k.tape.trans h.tape, k.output.trans h.output, Nat.le_trans h.size k.size, fun i hi hr => (k.block i (Nat.lt_of_lt_of_le hi h.size) hr).trans (h.block i hi hr)⟩
theorem grown_of_below {a b : World} (row : Option Nat) (h : Below a.heap.size a b) : a.grownBy b row := ⟨h.os, h.tape, h.output, h.size, fun k hk _ => h.block k hk⟩

set_option maxRecDepth 100000 in
set_option maxHeartbeats 1600000 in
theorem markS_some (base g cap : Nat) (L : List ByteArray) (k : Nat) (w : World) (h : Owns w base (.slice (some ⟨g, 0, none⟩) L.length cap) L) (hl : L.length ≤ 4194304) (hk1 : 1 ≤ k) (hk2 : k ≤ 4194304) :
    Calls Tryz.prog 17 #[.slice (some ⟨g, 0, none⟩) L.length cap, .int .i64 (k : Int)] w fun e w' => e = .returned (.int .i64 ((k + L.length : Nat) : Int)) ∧ Owns w' base (.slice (some ⟨g, 0, none⟩) L.length cap) (marks k L.length) ∧ w.grownBy w' (some g) := by
  have HO0 : Hid (Owns w base (.slice (some ⟨g, 0, none⟩) L.length cap) (marks k 0 ++ L.drop 0)) := by show Owns _ _ _ _; simpa [marks] using h
  have hc : L.length ≤ cap ∧ cap ≤ maxLen := by
    obtain ⟨a', c', e, hs⟩ := h.strs
    injection e with e1 _ e2
    subst e2; exact ⟨hs.1, hs.2.1⟩
  obtain ⟨hc1, hc2⟩ := hc
  unfold maxLen at hc2
  clear h
  go_enter Tryz.func17, Tryz.ntmps17
  go_wp2
  go_loopw [1, 5] (fun x i wr => ∃ j : Nat, j ≤ L.length ∧ i = .int .i64 (j : Int) ∧ x = .int .i64 ((k + j : Nat) : Int) ∧ Hid (Owns wr base (.slice (some ⟨g, 0, none⟩) L.length cap) (marks k j ++ L.drop j)) ∧ w.grownBy wr (some g)) (fun _ i _ => L.length - (intOf i).toNat)
  case atStart => exact ⟨0, Nat.zero_le _, rfl, rfl, HO0, grown_refl _ _⟩
  case round =>
    obtain ⟨j, hj, rfl, rfl, HO, hg⟩ := hrel
    by_cases hlt : j < L.length
    · have HM : Hid _ := marks_step k j L hlt
      go_wp2_with fail
      refine (markText_any (k + j) _ (by omega) (by omega)).mono ?_
      rintro e w1 ⟨rfl, hb1⟩
      have hlen : (marks k j ++ L.drop j).length = L.length := by rw [List.length_append, marks_len]; simp; omega
      have hO := Owns.below HO.out hb1
      unfold Owns at hO
      rw [hlen] at hO
      obtain ⟨old, hold⟩ : ∃ old, w1.cell? ⟨g, j, none⟩ = some old := by
        rw [World.ownsRow.cellAt hO j (by omega)]
        exact ⟨_, List.getElem?_eq_getElem (by rw [cellsS_len]; omega)⟩
      have hfz := World.ownsRow.frozenAt hO j
      have HST : Hid _ := World.ownsRow.stored hO j (.string (markS (k + j)))
      clear hO hlen
      generalize markS (k + j) = p at *
      go_wp2
      go_roundw
      case rel =>
        refine ⟨j + 1, by omega, by go_num, by go_num, ?_, ?_⟩
        · show Owns _ _ _ _
          rw [← HM.out]
          have e1 : ((marks k j ++ L.drop j).set j p).length = L.length := by rw [List.length_set, List.length_append, marks_len]; simp; omega
          have e2 : cellsS ((marks k j ++ L.drop j).set j p) = (cellsS (marks k j ++ L.drop j)).set j (.string p) := by unfold cellsS; rw [List.map_set]
          unfold Owns
          rw [e1, e2]; exact HST.out.1
        · exact grown_trans hg (grown_trans (grown_of_below _ hb1) HST.out.2)
      case measure => simp [intOf]; omega
    · have e1 : marks k j ++ L.drop j = marks k L.length := by
        have : j = L.length := by omega
        subst this; simp
      rw [e1] at HO
      have e2 : j = L.length := by omega
      subst e2
      clear e1
      go_wp2
      go_ret
      exact ⟨rfl, HO.out, hg⟩

theorem markS_any (base cap : Nat) (a0 : Option Addr) (L : List ByteArray) (k : Nat) (w : World) (h : Owns w base (.slice a0 L.length cap) L) (hl : L.length ≤ 4194304) (hk1 : 1 ≤ k) (hk2 : k ≤ 4194304) :
    Calls Tryz.prog 17 #[.slice a0 L.length cap, .int .i64 (k : Int)] w fun e w' => e = .returned (.int .i64 ((k + L.length : Nat) : Int)) ∧ Owns w' base (.slice a0 L.length cap) (marks k L.length) ∧ w.grownBy w' (Value.slice a0 L.length cap).ownBlock := by
  have h' := h
  obtain ⟨_, ⟨e, hn⟩ | ⟨g, c, cur, e, _⟩⟩ := h
  · injection e with e1 _ e2
    subst e1; subst e2
    have hL : L = [] := List.eq_nil_of_length_eq_zero hn
    subst hL
    go_enter Tryz.func17, Tryz.ntmps17
    go_wp2
    go_loopw [1, 5] (fun x i wr => i = .int .i64 0 ∧ x = .int .i64 (k : Int) ∧ wr = w) (fun _ _ _ => 0)
    case atStart => exact ⟨rfl, rfl, rfl⟩
    case round =>
      obtain ⟨rfl, rfl, rfl⟩ := hrel
      go_wp2
      go_ret
      exact ⟨rfl, h', grown_refl _ _⟩
  · injection e with e1 _ e2
    subst e1; subst e2
    exact markS_some base g cap L k w h' hl hk1 hk2

set_option maxRecDepth 100000 in
set_option maxHeartbeats 1600000 in
theorem held_any (a0 : Option Addr) (cap n k : Nat) (w : World) (h : IsStrs w a0 cap (marks k n)) (hl : n ≤ 4194304) (hk1 : 1 ≤ k) (hk2 : k ≤ 4194304) :
    Calls Tryz.prog 18 #[.slice a0 n cap, .int .i64 (k : Int)] w fun e w' => e = .returned (.int .i64 ((k + n : Nat) : Int)) ∧ Below w.heap.size w w' := by
  have HS : Hid (IsStrs w a0 cap (marks k n)) := h
  have hc1 := h.1
  rw [marks_len] at hc1
  have hc2 := h.2.1
  unfold maxLen at hc2
  clear h
  go_enter Tryz.func18, Tryz.ntmps18
  go_wp2
  go_loopw [1, 5] (fun x i wr => ∃ j : Nat, j ≤ n ∧ i = .int .i64 (j : Int) ∧ x = .int .i64 ((k + j : Nat) : Int) ∧ Below w.heap.size w wr) (fun _ i _ => n - (intOf i).toNat)
  case atStart => exact ⟨0, Nat.zero_le _, rfl, rfl, Below.refl _ _⟩
  case round =>
    obtain ⟨j, hj, rfl, rfl, hbel⟩ := hrel
    by_cases hlt : j < n
    · obtain ⟨b, o, e, c⟩ := (HS.out.below hbel).at (k := j) (by rw [marks_len]; exact hlt)
      rw [marks_at] at c
      subst e
      have hblk := cell_block c
      have HC : Hid _ := c
      have hi1 : (j : Int) < (n : Int) := by omega
      have hi0 : (0 : Int) ≤ (j : Int) := by omega
      clear c
      have cd : wr.drew.cell? ⟨b, o + j, none⟩ = some (.string (markS (k + j))) := HC.out
      generalize hp : markS (k + j) = p at *
      have HP : Hid _ := hp
      clear hp
      go_wp2
      go_region_with (go_at_call 51; refine (markText_any (k + j) _ (by omega) (by omega)).mono ?_; rintro e w1 ⟨rfl, hb1⟩; rw [HP.out]; have cw : w1.cell? ⟨b, o + j, none⟩ = some (.string p) := (hb1.cell (by exact hblk)).trans cd)
      all_goals
        go_wp2
        go_roundw
        case rel => exact ⟨j + 1, by omega, by go_num, by go_num, hbel.drew.trans (hb1.mono hbel.size)⟩
        case measure => simp [intOf]; omega
    · have e2 : j = n := by omega
      subst e2
      go_wp2
      go_ret
      exact ⟨rfl, hbel⟩

end Go.Proofs.YtboncolbijicfaaGreatDoor.St
