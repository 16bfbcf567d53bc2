/- Is a way of a pattern: the model's. -/
import Derived.Test.YtemobclefdodjaaDoorHasMath
import Derived.Test.YtemobclefdodjaaDoorRule1
import Derived.Test.YtemobclefdodjaaDoorRead1
import Derived.Test.YtemobclefdodjaaDoorCmp
namespace Go.Proofs.YtemobclefdodjaaDoor.HaS
open Go.RowKit Go.Proofs.YtemobclefdodjaaDoor.EscM Go.Proofs.YtemobclefdodjaaDoor.EscL Go.Proofs.YtemobclefdodjaaDoor.RuleM Go.Proofs.YtemobclefdodjaaDoor.Ru1 Go.Proofs.YtemobclefdodjaaDoor.ReadM Go.Proofs.YtemobclefdodjaaDoor.HasM Go.Proofs.YtemobclefdodjaaDoor.St Go.Proofs.YtemobclefdodjaaDoor.Rd1

theorem occ_drop (s x : List UInt8) (f i : Nat) : Lib.occAt (s.drop f) x i = Lib.occAt s x (f + i) := by
  unfold Lib.occAt; rw [List.drop_drop]
theorem find_yes {s x : List UInt8} {f k : Nat} (hf : f ≤ k) (ho : Lib.occAt s x k = true) (hn : ∀ j, f ≤ j → j < k → Lib.occAt s x j = false) (hk : k ≤ s.length) : Lib.index (s.drop f) x = ((k - f : Nat) : Int) := by
  rcases Lib.index_spec (s.drop f) x with ⟨_, h2⟩ | ⟨m, h1, h2, h3, h4⟩
  · have := h2 (k - f) (by rw [List.length_drop]; omega)
    rw [occ_drop, show f + (k - f) = k from by omega, ho] at this; cases this
  · rw [h1]
    rw [occ_drop] at h3
    have e1 : ¬ m < k - f := by
      intro h
      have := hn (f + m) (by omega) (by omega)
      rw [h3] at this; cases this
    have e2 : ¬ k - f < m := by
      intro h
      have := h4 (k - f) h
      rw [occ_drop, show f + (k - f) = k from by omega, ho] at this; cases this
    have : m = k - f := by omega
    rw [this]
theorem occ_room {s x : List UInt8} {i : Nat} (h : Lib.occAt s x i = true) (hi : i ≤ s.length) : i + x.length ≤ s.length := by
  unfold Lib.occAt at h
  have := (List.isPrefixOf_iff_prefix.1 h).length_le
  rw [List.length_drop] at this; omega
theorem find_no {s x : List UInt8} {f : Nat} (hf : f ≤ s.length) (hn : ∀ j, f ≤ j → j + x.length ≤ s.length → Lib.occAt s x j = false) : Lib.index (s.drop f) x = -1 := by
  rcases Lib.index_spec (s.drop f) x with ⟨h1, _⟩ | ⟨m, h1, h2, h3, h4⟩
  · exact h1
  · rw [occ_drop] at h3
    have hm : m ≤ s.length - f := by rw [List.length_drop] at h2; exact h2
    have := hn (f + m) (by omega) (occ_room h3 (by omega))
    rw [h3] at this; cases this
theorem occ_ext (s x : ByteArray) (k : Nat) : ((s.extract k (k + x.size)).toList == x.toList) = Lib.occAt s.data.toList x.data.toList k := by
  unfold Lib.occAt
  rw [ByteArray.toList_eq, ByteArray.toList_eq, Bool.eq_iff_iff, beq_iff_eq, List.isPrefixOf_iff_prefix, List.prefix_iff_eq_take]
  have e : (s.extract k (k + x.size)).data.toList = (s.data.toList.drop k).take x.data.toList.length := by
    simp only [ByteArray.data_extract, Array.toList_extract, List.extract_eq_take_drop]
    rw [len_eq]; congr 1; omega
  rw [e]; exact eq_comm

/-- where a text stands in another one from a place on -/
def findZ (s x : List UInt8) (f : Nat) : Int := if Lib.index (s.drop f) x = -1 then -1 else (f : Int) + Lib.index (s.drop f) x

set_option maxRecDepth 100000 in
set_option maxHeartbeats 1600000 in
theorem find_any (s x : ByteArray) (f : Nat) (w : World) (hs : s.size ≤ 1000000) (hx : x.size ≤ 1000000) (hf : f ≤ s.size) :
    Calls Tryd.prog 49 #[.string s, .string x, .int .i64 (f : Int)] w fun e w' => e = .returned (.int .i64 (findZ s.data.toList x.data.toList f)) ∧ ∃ n, w' = w.drewN n := by
  go_enter Tryd.func49, Tryd.ntmps49
  go_wp2
  go_loopw [7] (fun i wr => ∃ k : Nat, f ≤ k ∧ k ≤ s.size + 1 ∧ i = .int .i64 (k : Int) ∧ Hid (∀ j, f ≤ j → j < k → Lib.occAt s.data.toList x.data.toList j = false) ∧ Hid (∃ n, wr = w.drewN n)) (fun i _ => s.size + 1 - (intOf i).toNat)
  case atStart => exact ⟨f, Nat.le_refl _, by omega, rfl, (fun j h1 h2 => absurd h1 (by omega)), ⟨0, rfl⟩⟩
  case round =>
    obtain ⟨k, hfk, hk, rfl, HN, HW⟩ := hrel
    by_cases hlt : k + x.size ≤ s.size
    · have hlt' : (k : Int) + (x.size : Int) ≤ (s.size : Int) := by omega
      have HO : Hid _ := occ_ext s x k
      cases ho : ((s.extract k (k + x.size)).toList == x.toList) with
      | true =>
        have HE : Hid (Lib.index (s.data.toList.drop f) x.data.toList = ((k - f : Nat) : Int)) := find_yes hfk (by rw [← HO.out, ho]) HN.out (by rw [len_eq]; omega)
        go_wp2
        go_ret
        obtain ⟨n, hn⟩ := HW.out
        refine ⟨ret_int ?_, n, hn⟩
        unfold findZ; rw [HE.out, if_neg (by omega)]; omega
      | false =>
        have HN2 : Hid (∀ j, f ≤ j → j < k + 1 → Lib.occAt s.data.toList x.data.toList j = false) := by
          intro j h1 h2
          by_cases e : j = k
          · subst e; rw [← HO.out, ho]
          · exact HN.out j h1 (by omega)
        go_wp2
        go_roundw
        case rel => exact ⟨k + 1, by omega, by omega, by go_num, HN2.out, HW.out⟩
        case measure => simp [intOf]; omega
    · have HE : Hid (Lib.index (s.data.toList.drop f) x.data.toList = -1) := by
        refine find_no (by rw [len_eq]; omega) fun j h1 h2 => ?_
        rw [len_eq, len_eq] at h2
        exact HN.out j h1 (by omega)
      have hlt' : ¬ (k : Int) + (x.size : Int) ≤ (s.size : Int) := by omega
      go_wp2
      go_ret
      obtain ⟨n, hn⟩ := HW.out
      exact ⟨ret_int (by unfold findZ; rw [HE.out, if_pos rfl]), n, hn⟩
end Go.Proofs.YtemobclefdodjaaDoor.HaS
