/- What holds of where pages lead: mathematics; once, within. -/
import Derived.Test.YtboncolbijicfaaGreatDoorPgA1Pk
namespace Go.Proofs.YtboncolbijicfaaGreatDoor.PgA
open Go.RowKit Go.Proofs.YtboncolbijicfaaGreatDoor.EscM Go.Proofs.YtboncolbijicfaaGreatDoor.St Go.Proofs.YtboncolbijicfaaGreatDoor.AddrM Go.Proofs.YtboncolbijicfaaGreatDoor.ReadM Go.Proofs.YtboncolbijicfaaGreatDoor.EscL Go.Proofs.YtboncolbijicfaaGreatDoor.Ad1 Go.Proofs.YtboncolbijicfaaGreatDoor.Dr Go.Proofs.YtboncolbijicfaaGreatDoor.Im Go.Proofs.YtboncolbijicfaaGreatDoor.Rd1 Go.Proofs.YtboncolbijicfaaGreatDoor.Door Go.Proofs.YtboncolbijicfaaGreatDoor.JnM Go.Proofs.YtboncolbijicfaaGreatDoor.Jn Go.Proofs.YtboncolbijicfaaGreatDoor.PgM Go.Proofs.YtboncolbijicfaaGreatDoor.RB

theorem put_mem {L : List ByteArray} {x y : ByteArray} : y ∈ putL L x ↔ y ∈ L ∨ y = x := by
  unfold putL
  cases h : hasB x L with
  | true =>
    rw [if_pos rfl]
    constructor
    · exact Or.inl
    · rintro (h' | rfl)
      · exact h'
      · exact hasB_iff.1 h
  | false => simp
theorem put_nodup {L : List ByteArray} {x : ByteArray} (h : L.Nodup) : (putL L x).Nodup := by
  unfold putL
  cases hh : hasB x L with
  | true => exact h
  | false =>
    show (L ++ [x]).Nodup
    rw [List.nodup_append]
    refine ⟨h, by simp, ?_⟩
    intro a ha b hb
    simp at hb; subst hb
    rintro rfl
    exact hasB_no.1 hh ha
/-- each is where a link leads -/
theorem fold_each (B : Ad) : ∀ (L acc : List ByteArray), (∀ y ∈ L.foldl (pageStep B) acc, y ∈ acc ∨ ∃ l ∈ L, ∃ C, joinF B l.data.toList = some C ∧ y = textF C) ∧ (acc.Nodup → (L.foldl (pageStep B) acc).Nodup) ∧ (∀ y ∈ acc, y ∈ L.foldl (pageStep B) acc) ∧ (∀ l ∈ L, ∀ C, joinF B l.data.toList = some C → textF C ∈ L.foldl (pageStep B) acc) := by
  intro L
  induction L with
  | nil => intro acc; exact ⟨fun y hy => Or.inl hy, fun h => h, fun y hy => hy, fun l hl => by cases hl⟩
  | cons x L ih =>
    intro acc
    obtain ⟨i1, i2, i3, i4⟩ := ih (pageStep B acc x)
    have hs : ∀ y, y ∈ pageStep B acc x → y ∈ acc ∨ ∃ C, joinF B x.data.toList = some C ∧ y = textF C := by
      intro y hy
      unfold pageStep at hy
      cases hj : joinF B x.data.toList with
      | none => rw [hj] at hy; exact Or.inl hy
      | some C =>
        rw [hj] at hy
        rcases put_mem.1 hy with h | h
        · exact Or.inl h
        · exact Or.inr ⟨C, rfl, h⟩
    have hk : ∀ y ∈ acc, y ∈ pageStep B acc x := by
      intro y hy
      unfold pageStep
      split
      · exact put_mem.2 (Or.inl hy)
      · exact hy
    refine ⟨?_, ?_, ?_, ?_⟩
    · intro y hy
      rcases i1 y hy with h | ⟨l, hl, C, h1, h2⟩
      · rcases hs y h with h | ⟨C, h1, h2⟩
        · exact Or.inl h
        · exact Or.inr ⟨x, by simp, C, h1, h2⟩
      · exact Or.inr ⟨l, by simp [hl], C, h1, h2⟩
    · intro h
      apply i2
      unfold pageStep
      split
      · exact put_nodup h
      · exact h
    · intro y hy; exact i3 y (hk y hy)
    · intro l hl C hC
      rcases List.mem_cons.1 hl with rfl | hl
      · apply i3
        unfold pageStep; rw [hC]; exact put_mem.2 (Or.inr rfl)
      · exact i4 l hl C hC
theorem page_each {A : Ad} {t : ByteArray} {y : ByteArray} (h : y ∈ pageF A t) : ∃ C, okB C = true ∧ y = textF C := by
  unfold pageF at h
  split at h
  · rcases (fold_each _ _ []).1 y h with h | ⟨l, _, C, h1, h2⟩
    · cases h
    · exact ⟨C, join_ok h1, h2⟩
  · cases h
theorem page_nodup (A : Ad) (t : ByteArray) : (pageF A t).Nodup := by
  unfold pageF
  split
  · exact (fold_each _ _ []).2.1 (by simp)
  · simp
theorem page_len (A : Ad) (t : ByteArray) : (pageF A t).length ≤ 300 := by
  unfold pageF
  split
  · have := pageL_len (fromF A t) (linksF t) []
    have h2 := links_len t
    unfold pageL
    simp at this; omega
  · simp

end Go.Proofs.YtboncolbijicfaaGreatDoor.PgA
