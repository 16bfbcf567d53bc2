/- What the laws of WorldReach share. -/
import Derived.Test.YtmgcdfmgmpnonaaGreatDoorReI
import Derived.Test.YtmgcdfmgmpnonaaGreatDoorReS
import Derived.Test.YtmgcdfmgmpnonaaGreatDoorReDr
import Derived.Test.YtmgcdfmgmpnonaaGreatDoorPgA1Pk
namespace Go.Proofs.YtmgcdfmgmpnonaaGreatDoor.ReM
open Go.RowKit Go.Proofs.YtmgcdfmgmpnonaaGreatDoor.EscM Go.Proofs.YtmgcdfmgmpnonaaGreatDoor.AddrM Go.Proofs.YtmgcdfmgmpnonaaGreatDoor.St Go.Proofs.YtmgcdfmgmpnonaaGreatDoor.EscL Go.Proofs.YtmgcdfmgmpnonaaGreatDoor.Ad1 Go.Proofs.YtmgcdfmgmpnonaaGreatDoor.Rd1 Go.Proofs.YtmgcdfmgmpnonaaGreatDoor.RuleM Go.Proofs.YtmgcdfmgmpnonaaGreatDoor.RdA Go.Proofs.YtmgcdfmgmpnonaaGreatDoor.MkA Go.Proofs.YtmgcdfmgmpnonaaGreatDoor.Mp Go.Proofs.YtmgcdfmgmpnonaaGreatDoor.WdM Go.Proofs.YtmgcdfmgmpnonaaGreatDoor.Wd Go.Proofs.YtmgcdfmgmpnonaaGreatDoor.WdN Go.Proofs.YtmgcdfmgmpnonaaGreatDoor.RR Go.Proofs.YtmgcdfmgmpnonaaGreatDoor.LetM Go.Proofs.YtmgcdfmgmpnonaaGreatDoor.Nm Go.Proofs.YtmgcdfmgmpnonaaGreatDoor.GrM Go.Proofs.YtmgcdfmgmpnonaaGreatDoor.RoPg Go.Proofs.YtmgcdfmgmpnonaaGreatDoor.PgM Go.Proofs.YtmgcdfmgmpnonaaGreatDoor.PgA

variable {L : List Pg} {name : ByteArray} {S : List ByteArray}
theorem bd_sz (h : Dr.PgsBd L) : PgSz L := fun p hp => by obtain ⟨h1, h2, h3, _⟩ := h p hp; omega
theorem bd_rd (h : Dr.PgsBd L) : PgRd L := fun p hp => by obtain ⟨h1, h2, h3, _, _, h6⟩ := h p hp; exact ⟨by omega, h6⟩
theorem all_asc (L : List Pg) : PgAs L := fun _ _ => ⟨trivial, trivial⟩
theorem all_tx (L : List Pg) : PgTx L := fun _ _ => trivial
theorem nameB_size {s : ByteArray} (h : nameB s = true) : s.size ≤ 8 := by unfold nameB at h; simp at h; omega
theorem reach_uni {x : ByteArray} (h : x ∈ reachW L name S) : x ∈ uR L S := by
  obtain ⟨i, hi, rfl⟩ := List.getElem_of_mem h
  rcases reach_least hi with h | ⟨k, hk, _, h⟩
  · exact List.mem_append_left _ h
  · exact from_uni h
theorem reach_len (L : List Pg) (name : ByteArray) (S : List ByteArray) : (reachW L name S).length ≤ 4000 := by
  cases hr : reachW L name S with
  | nil => exact Nat.zero_le _
  | cons x r =>
    rw [← hr]
    obtain ⟨h1, _, h3, _⟩ := reach_each (L := L) (name := name) (S := S) (x := x) (by rw [hr]; exact List.mem_cons_self ..)
    exact Nat.le_trans (nodup_len (reach_nodup L name S) fun y hy => reach_uni hy) (uni_bd h1 h3)
theorem reach_small (hS : ∀ x ∈ S, x.size ≤ 1000) {x : ByteArray} (h : x ∈ reachW L name S) : x.size ≤ 1000 := by
  rcases List.mem_append.1 (reach_uni h) with h | h
  · exact hS x h
  · obtain ⟨p, _, hp⟩ := List.mem_flatMap.1 h
    obtain ⟨_, _, _, _, h60⟩ := from_each hp
    omega
theorem ok_parts3 {x : ByteArray} (h : okR L name x = true) : nR x = true ∧ ¬ (kindF L x 2).1 = 3 ∧ letsW L name x = true := by
  unfold okR at h
  simp only [Bool.and_eq_true, Bool.not_eq_true', decide_eq_false_iff_not] at h
  exact ⟨h.1.1, h.1.2, h.2⟩
theorem get_two {x : ByteArray} (h : wOk L = true) : getF L x 2 = kindF L x 2 := by unfold getF; rw [h]; rfl
/-- what one comes to is looked at: as the laws ask it -/
theorem reach_looked {x : ByteArray} (h : x ∈ reachW L name S) : nR x = true ∧ ¬ (getF L x 2).1 = 3 ∧ letsW L name x = true := by
  obtain ⟨h1, _, _, h4⟩ := reach_each h
  rw [get_two h1]
  exact ok_parts3 h4
theorem below_drew {b : Nat} {u w : World} (h : Below b u w) (n : Nat) : Below b u (w.drewN n) := h.trans ⟨rfl, rfl, rfl, Nat.le_refl _, fun _ _ => rfl⟩
theorem ok_three {x : ByteArray} (h1 : nR x = true) (h2 : ¬ (kindF L x 2).1 = 3) (h3 : letsW L name x = true) : okR L name x = true := by
  unfold okR
  rw [h1, h3, decide_eq_false h2]; rfl
/-- from what is come to one goes on: as the law asks it -/
theorem reach_goes {x y : ByteArray} (hx : x ∈ reachW L name S) (hy : y ∈ fromW L x) (h1 : letsW L name y = true) (h2 : ¬ (getF L y 2).1 = 3) : hasB y (reachW L name S) = true := by
  obtain ⟨hw, _⟩ := reach_each hx
  rw [get_two hw] at h2
  exact has_mem.2 (reach_on hx hy (ok_three (from_norm hy) h2 h1))
theorem from_small {x y : ByteArray} (h : y ∈ fromW L x) : y.size ≤ 1000 := by
  obtain ⟨_, _, _, _, h60⟩ := from_each h
  omega
/-- nothing is come to but from elsewhere: as the law asks it -/
theorem reach_whence {R : List ByteArray} (hR : reachW L name S = R) {i : Nat} (hi : i < R.length) (hs : hasB R[i] S = false) : ∃ k, ∃ hk : k < R.length, k < i ∧ hasB R[i] (fromW L R[k]) = true := by
  subst hR
  rcases reach_least hi with h | ⟨k, hk, h1, h2⟩
  · rw [has_mem.2 h] at hs; cases hs
  · exact ⟨k, hk, h1, has_mem.2 h2⟩
theorem IsQ.strs {w : World} {base : Nat} {row : Option Nat} {v : Value} {A : List ByteArray} (h : IsQ w base row v A) : ∃ a c, v = .slice a A.length c ∧ IsStrs w a c A := by
  obtain ⟨ao, off, cap, h1, h2, h3, ⟨hc, _⟩ | ⟨b, hc, _, ha, _, hl, _⟩⟩ := h
  · exact ⟨ao, cap, h1, h2, h3, fun _ => hc, fun hn => absurd (List.eq_nil_of_length_eq_zero (by omega)) hn⟩
  · exact ⟨ao, cap, h1, h2, h3, fun e => (by rw [ha] at e; cases e), fun _ => ⟨b, off, ha, hl⟩⟩
end Go.Proofs.YtmgcdfmgmpnonaaGreatDoor.ReM
