/- An address that is ok is small: plain mathematics. -/
import Derived.Test.YtboncolbijicfaaGreatDoorRead3Pk
namespace Go.Proofs.YtboncolbijicfaaGreatDoor.OB
open Go.RowKit Go.Proofs.YtboncolbijicfaaGreatDoor.EscM Go.Proofs.YtboncolbijicfaaGreatDoor.AddrM Go.Proofs.YtboncolbijicfaaGreatDoor.ReadM Go.Proofs.YtboncolbijicfaaGreatDoor.St Go.Proofs.YtboncolbijicfaaGreatDoor.EscL Go.Proofs.YtboncolbijicfaaGreatDoor.PathM Go.Proofs.YtboncolbijicfaaGreatDoor.Ad1 Go.Proofs.YtboncolbijicfaaGreatDoor.Rd1

theorem sum_join : ∀ L : List ByteArray, sumS L ≤ (joinL L).length := by
  intro L
  induction L with
  | nil => simp [sumS]
  | cons y L ih =>
    have : y.data.toList.length = y.size := by simp
    rcases L with _ | ⟨z, L⟩
    · simp [joinL, sumS]
    · simp only [joinL, sumS, List.length_append, List.length_cons] at ih ⊢
      omega
theorem ok_parts {A : Ad} (h : okB A = true) : houseB A.house = true ∧ A.parts.length ≤ 5 ∧ A.parts.all partB = true ∧ (A.asks || A.ask.toList.isEmpty) = true ∧ normB A.ask = true ∧ (textL A).length ≤ 60 := by
  unfold okB at h
  simp only [Bool.and_eq_true, decide_eq_true_eq] at h
  exact ⟨h.1.1.1.1.1, h.1.1.1.1.2, h.1.1.1.2, h.1.1.2, h.1.2, h.2⟩
theorem ok_bulk {A : Ad} (h : okB A = true) : bulkA A ≤ 70 := by
  obtain ⟨_, h2, _, h4, _, h6⟩ := ok_parts h
  have hj := sum_join A.parts
  have hh : A.house.data.toList.length = A.house.size := by simp
  have ha : A.ask.data.toList.length = A.ask.size := by simp
  unfold bulkA
  unfold textL pathL at h6
  simp only [List.length_cons, List.length_append] at h6
  cases hq : A.asks with
  | true => rw [hq] at h6; simp only [if_true, List.length_cons] at h6; omega
  | false =>
    rw [hq] at h4 h6
    simp only [Bool.false_or] at h4
    rw [ByteArray.toList_eq] at h4
    have h0 : A.ask.data.toList.length = 0 := by rw [List.isEmpty_iff.1 h4]; rfl
    omega
theorem way_ok {house : ByteArray} {frm : List ByteArray} {way : ByteArray} {A : Ad} (h : wayF house frm way = some A) : okB A = true := by
  unfold wayF at h
  split at h
  · cases h
  · split at h
    · split at h
      · rename_i hk; cases h; exact hk
      · cases h
    · cases h
theorem read_ok {l : List UInt8} {A : Ad} (h : readF l = some A) : okB A = true := by
  unfold readF at h
  split at h
  · cases h
  · split at h
    · exact way_ok h
    · cases h
theorem reads_bulk {l : List UInt8} {A : Ad} {ok : Bool} (h : (ok = true ∧ readF l = some A) ∨ (ok = false ∧ readF l = none ∧ A = zeroAd)) : bulkA A ≤ 70 := by
  rcases h with ⟨_, h⟩ | ⟨_, _, rfl⟩
  · exact ok_bulk (read_ok h)
  · decide

end Go.Proofs.YtboncolbijicfaaGreatDoor.OB
