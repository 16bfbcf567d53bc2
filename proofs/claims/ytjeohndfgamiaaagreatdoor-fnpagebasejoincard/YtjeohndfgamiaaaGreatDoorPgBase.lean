/- A whole address as a page's base: plain mathematics. -/
import Derived.Test.YtjeohndfgamiaaaGreatDoorPgLaws
namespace Go.Proofs.YtjeohndfgamiaaaGreatDoor.PgA
open Go.RowKit Go.Proofs.YtjeohndfgamiaaaGreatDoor.EscM Go.Proofs.YtjeohndfgamiaaaGreatDoor.St Go.Proofs.YtjeohndfgamiaaaGreatDoor.AddrM Go.Proofs.YtjeohndfgamiaaaGreatDoor.ReadM Go.Proofs.YtjeohndfgamiaaaGreatDoor.EscL Go.Proofs.YtjeohndfgamiaaaGreatDoor.Ad1 Go.Proofs.YtjeohndfgamiaaaGreatDoor.Dr Go.Proofs.YtjeohndfgamiaaaGreatDoor.Im Go.Proofs.YtjeohndfgamiaaaGreatDoor.Rd1 Go.Proofs.YtjeohndfgamiaaaGreatDoor.Door Go.Proofs.YtjeohndfgamiaaaGreatDoor.JnM Go.Proofs.YtjeohndfgamiaaaGreatDoor.Jn Go.Proofs.YtjeohndfgamiaaaGreatDoor.PgM Go.Proofs.YtjeohndfgamiaaaGreatDoor.RB

theorem mk_in : ∀ (l : List UInt8) (m r : List UInt8), (∀ b ∈ l, (b.toNat : Int) ≠ 62) → mk 1 m (l ++ 62 :: r) = [bs (m ++ l)] ++ mk 0 (m ++ l) r := by
  intro l
  induction l with
  | nil =>
    intro m r _
    rw [List.nil_append, mk_cons, List.append_nil]
    have e1 : outM 1 m 62 = [bs m] := by unfold outM; rw [if_pos ⟨rfl, rfl⟩]
    have e2 : nextP 1 62 = 0 := rfl
    have e3 : nextM 1 m 62 = m := by unfold nextM; rw [if_pos rfl, if_pos (by decide)]
    rw [e1, e2, e3]
  | cons b l ih =>
    intro m r h
    have hb := h b (by simp)
    rw [List.cons_append, mk_cons]
    have e1 : outM 1 m b = [] := by unfold outM; rw [if_neg (fun h => hb h.2)]
    have e2 : nextP 1 b = 1 := by unfold nextP; simp [hb]
    have e3 : nextM 1 m b = m ++ [b] := by unfold nextM; rw [if_pos rfl, if_neg hb]
    rw [e1, e2, e3, List.nil_append, ih (m ++ [b]) r (fun x hx => h x (by simp [hx]))]
    simp
theorem mk_mark (l r : List UInt8) (h : ∀ b ∈ l, (b.toNat : Int) ≠ 62) : mk 0 [] (60 :: (l ++ 62 :: r)) = [bs l] ++ mk 0 l r := by
  rw [mk_cons]
  have e1 : outM 0 [] 60 = [] := rfl
  have e2 : nextP 0 60 = 1 := rfl
  have e3 : nextM 0 [] 60 = [] := rfl
  rw [e1, e2, e3, List.nil_append, mk_in l [] r h, List.nil_append]
theorem tame62 {b : UInt8} (h : plainZ b.toNat = true ∨ ¬ hexZ b.toNat < 0 ∨ b = 37) : (b.toNat : Int) ≠ 62 := by
  rcases h with h | h | h
  · unfold plainZ at h; have := of_decide_eq_true h; omega
  · unfold hexZ at h
    intro e
    apply h
    split
    · omega
    · split
      · omega
      · split
        · omega
        · omega
  · subst h; decide
theorem norm62 : ∀ (n : Nat) (L : List UInt8), L.length ≤ n → escN L = some L → ∀ b ∈ L, (b.toNat : Int) ≠ 62 := by
  intro n
  induction n with
  | zero => intro L hL _ b hb; have : L = [] := List.eq_nil_of_length_eq_zero (by omega); subst this; cases hb
  | succ n ih =>
    intro L hL h b hb
    cases L with
    | nil => cases hb
    | cons c r =>
      rcases written_step h c r rfl with ⟨h1, h2, h3⟩ | ⟨h1, x, y, r', h2, h3⟩
      · rcases List.mem_cons.1 hb with rfl | hb
        · exact tame62 (Or.inl h2)
        · exact ih r (by simpa using hL) h3 b hb
      · subst h1 h2
        have hxy : ¬ (hexZ x.toNat < 0 ∨ hexZ y.toNat < 0) := by
          intro hh
          simp only [escN, if_true, if_pos hh] at h
          cases h
        rcases List.mem_cons.1 hb with rfl | hb
        · decide
        · rcases List.mem_cons.1 hb with rfl | hb
          · exact tame62 (Or.inr (Or.inl (fun e => hxy (Or.inl e))))
          · rcases List.mem_cons.1 hb with rfl | hb
            · exact tame62 (Or.inr (Or.inl (fun e => hxy (Or.inr e))))
            · exact ih r' (by simp at hL; omega) h3 b hb
theorem text62 {A : Ad} (h : okB A = true) : ∀ b ∈ textL A, (b.toNat : Int) ≠ 62 := by
  have hn : ∀ s : ByteArray, normB s = true → ∀ b ∈ s.data.toList, (b.toNat : Int) ≠ 62 := fun s hs => norm62 _ _ (Nat.le_refl _) (norm_fix hs).2.2
  have hj : ∀ b ∈ joinL A.parts, (b.toNat : Int) ≠ 62 := by
    refine join_mem A.parts 62 (by decide) fun p hp => hn p (part_norm' ?_).1
    exact List.all_eq_true.1 (Dr.ok_parts h).2.2.1 p hp
  intro b hb
  unfold textL pathL at hb
  rcases List.mem_cons.1 hb with rfl | hb
  · decide
  rcases List.mem_cons.1 hb with rfl | hb
  · decide
  rcases List.mem_append.1 hb with hb | hb
  · have := house_letters h b hb; omega
  rcases List.mem_cons.1 hb with rfl | hb
  · decide
  rcases List.mem_append.1 hb with hb | hb
  · exact hj b hb
  · split at hb
    · rcases List.mem_cons.1 hb with rfl | hb
      · decide
      · exact hn _ (Dr.ok_parts h).2.2.2.2.1 b hb
    · cases hb
/-- the page with an address as its base ahead -/
def basedS (b : Ad) (t : ByteArray) : ByteArray := ((⟨#[60, 64]⟩ : ByteArray) ++ textF b) ++ (⟨#[62]⟩ : ByteArray) ++ t
theorem based_data {b : Ad} (h : okB b = true) (t : ByteArray) : (basedS b t).data.toList = 60 :: ((64 :: textL b) ++ 62 :: t.data.toList) := by
  unfold basedS
  rw [data_append, data_append, data_append, text_data h]; simp
theorem based_marks {b : Ad} (h : okB b = true) {t : ByteArray} (ht : t.size + 70 ≤ 300) : marksF (basedS b t) = [bs (64 :: textL b)] ++ marksF t := by
  have hz := textF_size b
  have hs : ¬ 300 < (basedS b t).size := by
    unfold basedS
    rw [ByteArray.size_append, ByteArray.size_append, ByteArray.size_append]
    show ¬ 300 < 2 + _ + 1 + _
    omega
  unfold marksF
  rw [if_neg hs, if_neg (by omega), based_data h, mk_mark (64 :: textL b) _ (by
    intro x hx
    rcases List.mem_cons.1 hx with rfl | hx
    · decide
    · exact text62 h x hx)]
  congr 1
  exact mk_any _ 0 _ _ (by decide)
theorem based_base {b : Ad} (h : okB b = true) {t : ByteArray} (ht : t.size + 70 ≤ 300) : baseF (basedS b t) = (textF b, true) := by
  unfold baseF baseL
  rw [based_marks h ht]
  have e : headIs 64 (bs (64 :: textL b)) = true := rfl
  rw [List.singleton_append, List.find?_cons_of_pos e]
  show (tailS (bs (64 :: textL b)), true) = _
  have : tailS (bs (64 :: textL b)) = textF b := by
    apply ByteArray.ext
    apply Array.toList_inj.1
    rw [text_data h]
    simp [tailS, bs]
  rw [this]
theorem based_links {b : Ad} (h : okB b = true) {t : ByteArray} (ht : t.size + 70 ≤ 300) : linksF (basedS b t) = linksF t := by
  unfold linksF
  rw [based_marks h ht, List.singleton_append, List.filter_cons_of_neg]
  show ¬ isLink (bs (64 :: textL b)) = true
  have e : headIs 64 (bs (64 :: textL b)) = true := rfl
  unfold isLink
  rw [e]; simp
theorem join_text {P T : Ad} (h : okB P = true) (ht : okB T = true) : joinF P (textF T).data.toList = some T := by
  have hz := textF_size T
  have hl : ¬ 60 < (textF T).data.toList.length := by simp; omega
  have hc : cutL 35 (textF T).data.toList = ((textF T).data.toList, [], false) := RL.bare_cut fun b hb => by
    rw [text_data ht] at hb; exact (text_bytes ht b hb).1
  have h2 : (textF T).data.toList.take 2 = [47, 47] := by rw [text_data ht]; rfl
  rw [join_go h hl, hc, go_whole h2]
  have hr := read_back ht
  rw [← text_data ht] at hr
  rw [read_is hl (by rw [hc]; exact h2), hc] at hr
  exact hr
theorem based_page {a b : Ad} (ha : okB a = true) (hb : okB b = true) {t : ByteArray} (ht : t.size + 70 ≤ 300) (hn : (baseF t).2 = false) : pageF a (basedS b t) = pageF b t := by
  rw [page_ok ha, page_ok hb, based_links hb ht]
  have e1 : fromF a (basedS b t) = b := by
    unfold fromF
    rw [based_base hb ht]
    simp only [if_true]
    rw [join_text ha hb]
  have e2 : fromF b t = b := by unfold fromF; rw [hn]; rfl
  rw [e1, e2]
theorem based_ascii (b : Ad) {t : ByteArray} (ht : asciiB t = true) : asciiB (basedS b t) = true := by
  unfold basedS
  exact asciiB_app (asciiB_app (asciiB_app (by decide) (asciiB_text b)) (by decide)) ht
theorem based_size (b : Ad) (t : ByteArray) : (basedS b t).size = 2 + (textF b).size + 1 + t.size := by
  unfold basedS
  rw [ByteArray.size_append, ByteArray.size_append, ByteArray.size_append]; rfl
end Go.Proofs.YtjeohndfgamiaaaGreatDoor.PgA
