/- What holds of where pages lead: mathematics; once, within. -/
import Derived.Test.YtjeohndfgamiaaaGreatDoorPgA1
namespace Go.Proofs.YtjeohndfgamiaaaGreatDoor.PgA
open Go.RowKit Go.Proofs.YtjeohndfgamiaaaGreatDoor.EscM Go.Proofs.YtjeohndfgamiaaaGreatDoor.St Go.Proofs.YtjeohndfgamiaaaGreatDoor.AddrM Go.Proofs.YtjeohndfgamiaaaGreatDoor.ReadM Go.Proofs.YtjeohndfgamiaaaGreatDoor.EscL Go.Proofs.YtjeohndfgamiaaaGreatDoor.Ad1 Go.Proofs.YtjeohndfgamiaaaGreatDoor.Dr Go.Proofs.YtjeohndfgamiaaaGreatDoor.Im Go.Proofs.YtjeohndfgamiaaaGreatDoor.Rd1 Go.Proofs.YtjeohndfgamiaaaGreatDoor.Door Go.Proofs.YtjeohndfgamiaaaGreatDoor.JnM Go.Proofs.YtjeohndfgamiaaaGreatDoor.Jn Go.Proofs.YtjeohndfgamiaaaGreatDoor.PgM Go.Proofs.YtjeohndfgamiaaaGreatDoor.RB

theorem put_mem {L : List ByteArray} {x y : ByteArray} : y ∈ putL L x ↔ y ∈ L ∨ y = x := by
  unfold putL
  cases h : hasB x L with
  | true =>
    rw [if_pos rfl]
    constructor
    · exact Or.inl
    · rintro (h' | rfl)
      · exact h'
      · exact hasB_iff.1 h
  | false => simp
theorem put_nodup {L : List ByteArray} {x : ByteArray} (h : L.Nodup) : (putL L x).Nodup := by
  unfold putL
  cases hh : hasB x L with
  | true => exact h
  | false =>
    show (L ++ [x]).Nodup
    rw [List.nodup_append]
    refine ⟨h, by simp, ?_⟩
    intro a ha b hb
    simp at hb; subst hb
    rintro rfl
    exact hasB_no.1 hh ha
/-- each is where a link leads -/
theorem fold_each (B : Ad) : ∀ (L acc : List ByteArray), (∀ y ∈ L.foldl (pageStep B) acc, y ∈ acc ∨ ∃ l ∈ L, ∃ C, joinF B l.data.toList = some C ∧ y = textF C) ∧ (acc.Nodup → (L.foldl (pageStep B) acc).Nodup) ∧ (∀ y ∈ acc, y ∈ L.foldl (pageStep B) acc) ∧ (∀ l ∈ L, ∀ C, joinF B l.data.toList = some C → textF C ∈ L.foldl (pageStep B) acc) := by
  intro L
  induction L with
  | nil => intro acc; exact ⟨fun y hy => Or.inl hy, fun h => h, fun y hy => hy, fun l hl => by cases hl⟩
  | cons x L ih =>
    intro acc
    obtain ⟨i1, i2, i3, i4⟩ := ih (pageStep B acc x)
    have hs : ∀ y, y ∈ pageStep B acc x → y ∈ acc ∨ ∃ C, joinF B x.data.toList = some C ∧ y = textF C := by
      intro y hy
      unfold pageStep at hy
      cases hj : joinF B x.data.toList with
      | none => rw [hj] at hy; exact Or.inl hy
      | some C =>
        rw [hj] at hy
        rcases put_mem.1 hy with h | h
        · exact Or.inl h
        · exact Or.inr ⟨C, rfl, h⟩
    have hk : ∀ y ∈ acc, y ∈ pageStep B acc x := by
      intro y hy
      unfold pageStep
      split
      · exact put_mem.2 (Or.inl hy)
      · exact hy
    refine ⟨?_, ?_, ?_, ?_⟩
    · intro y hy
      rcases i1 y hy with h | ⟨l, hl, C, h1, h2⟩
      · rcases hs y h with h | ⟨C, h1, h2⟩
        · exact Or.inl h
        · exact Or.inr ⟨x, by simp, C, h1, h2⟩
      · exact Or.inr ⟨l, by simp [hl], C, h1, h2⟩
    · intro h
      apply i2
      unfold pageStep
      split
      · exact put_nodup h
      · exact h
    · intro y hy; exact i3 y (hk y hy)
    · intro l hl C hC
      rcases List.mem_cons.1 hl with rfl | hl
      · apply i3
        unfold pageStep; rw [hC]; exact put_mem.2 (Or.inr rfl)
      · exact i4 l hl C hC
theorem page_each {A : Ad} {t : ByteArray} {y : ByteArray} (h : y ∈ pageF A t) : ∃ C, okB C = true ∧ y = textF C := by
  unfold pageF at h
  split at h
  · rcases (fold_each _ _ []).1 y h with h | ⟨l, _, C, h1, h2⟩
    · cases h
    · exact ⟨C, join_ok h1, h2⟩
  · cases h
theorem page_nodup (A : Ad) (t : ByteArray) : (pageF A t).Nodup := by
  unfold pageF
  split
  · exact (fold_each _ _ []).2.1 (by simp)
  · simp
theorem page_len (A : Ad) (t : ByteArray) : (pageF A t).length ≤ 300 := by
  unfold pageF
  split
  · have := pageL_len (fromF A t) (linksF t) []
    have h2 := links_len t
    unfold pageL
    simp at this; omega
  · simp

theorem once_take {L : List ByteArray} (h : L.Nodup) {k : Nat} (hk : k < L.length) : hasB L[k] (L.take k) = false := by
  apply hasB_no.2
  intro hm
  obtain ⟨i, hi, e⟩ := List.getElem_of_mem hm
  have hi' : i < k := by simp at hi; omega
  rw [List.getElem_take] at e
  have := (List.pairwise_iff_getElem.1 h) i k (by omega) hk hi'
  exact this e
theorem has_n (a0 : Option Addr) (cap n : Nat) (A : List ByteArray) (x : ByteArray) (w : World) (hn : A.length = n) (hA : IsStrs w a0 cap A) (hl : n ≤ 4194304) :
    Calls Tryz.prog 33 #[.slice a0 n cap, .string x] w fun e w' => e = .returned (.bool (hasB x A)) ∧ w' = w := by
  subst hn; exact has_any a0 cap A x w hA hl
set_option maxRecDepth 100000 in
set_option maxHeartbeats 1600000 in
theorem once_any (a0 : Option Addr) (cap : Nat) (L : List ByteArray) (w : World) (hA : IsStrs w a0 cap L) (hl : L.length ≤ 4194304) (hn : L.Nodup) :
    Calls Tryz.prog 12 #[.slice a0 L.length cap] w fun e w' => e = .returned (.bool true) ∧ ∃ n, w' = w.drewN n := by
  have HA : Hid (IsStrs w a0 cap L) := hA
  have HN : Hid _ := hn
  have hcp := hA.1
  have hcm := hA.2.1
  unfold maxLen at hcm
  clear hA hn
  go_enter Tryz.func12, Tryz.ntmps12
  go_wp2
  go_loopw [3] (fun i wr => ∃ k : Nat, k ≤ L.length ∧ i = .int .i64 (k : Int) ∧ Hid (∃ n, wr = w.drewN n)) (fun i _ => L.length - (intOf i).toNat)
  case atStart => exact ⟨0, Nat.zero_le _, rfl, ⟨0, rfl⟩⟩
  case round =>
    obtain ⟨k, hk, rfl, HW⟩ := hrel
    by_cases hlt : k < L.length
    · have hpw := HW.out
      obtain ⟨n, hn⟩ := hpw
      have hAr : IsStrs wr a0 cap L := by rw [hn]; exact IsStrs.drewN HA.out n
      obtain ⟨b1, o1, e1, c1⟩ := hAr.at hlt
      have HAr : Hid (IsStrs wr a0 cap (L.take k)) := hAr.cut k
      have HO : Hid _ := once_take HN.out hlt
      have hlk : (L.take k).length = k := by simp; omega
      have HLK : Hid _ := hlk
      clear hn hAr hlk
      subst e1
      have hkc : (k : Int) ≤ (cap : Int) := by omega
      have HPW : Hid (∃ n, wr.drew = w.drewN n) := by
        obtain ⟨n, hn⟩ := HW.out
        exact ⟨n + 1, by rw [hn]; rfl⟩
      go_wp2
      go_region_with (go_at_call 33; refine (has_n (some ⟨b1, o1, none⟩) cap k (L.take k) L[k] wr.drew HLK.out (IsStrs.keep HAr.out fun _ _ => rfl) (by omega)).mono ?_; rintro e w1 ⟨rfl, rfl⟩; rw [HO.out])
      all_goals
        go_wp2
        go_roundw
        case rel => exact ⟨k + 1, by omega, by go_num, HPW⟩
        case measure => simp [intOf]; omega
    · go_wp2
      go_ret
      exact ⟨rfl, HW.out⟩
end Go.Proofs.YtjeohndfgamiaaaGreatDoor.PgA
