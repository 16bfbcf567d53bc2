/- An ok address is read back from its text: plain mathematics. -/
import Derived.Test.YtboncolbijicfaaDoorDraw5Pk
namespace Go.Proofs.YtboncolbijicfaaDoor.RB
open Go.Proofs.YtboncolbijicfaaDoor.EscM Go.Proofs.YtboncolbijicfaaDoor.EscL Go.Proofs.YtboncolbijicfaaDoor.AddrM Go.Proofs.YtboncolbijicfaaDoor.ReadM Go.Proofs.YtboncolbijicfaaDoor.PathM Go.Proofs.YtboncolbijicfaaDoor.Rd1

/-- bytes that stand in what is written in one way -/
def tame (b : UInt8) : Prop := (b.toNat : Int) ≠ 47 ∧ (b.toNat : Int) ≠ 63 ∧ (b.toNat : Int) ≠ 35 ∧ b.toNat < 128
theorem tame_plain {b : UInt8} (h : plainZ b.toNat = true) : tame b := by
  unfold plainZ at h
  have := of_decide_eq_true h
  refine ⟨?_, ?_, ?_, ?_⟩ <;> omega
theorem tame_hex {b : UInt8} (h : ¬ hexZ b.toNat < 0) : tame b := by
  unfold hexZ at h
  split at h
  · refine ⟨?_, ?_, ?_, ?_⟩ <;> omega
  · split at h
    · refine ⟨?_, ?_, ?_, ?_⟩ <;> omega
    · split at h
      · refine ⟨?_, ?_, ?_, ?_⟩ <;> omega
      · omega
theorem tame_norm : ∀ (n : Nat) (L : List UInt8), L.length ≤ n → escN L = some L → ∀ b ∈ L, tame b := by
  intro n
  induction n with
  | zero => intro L hL _ b hb; have : L = [] := List.eq_nil_of_length_eq_zero (by omega); subst this; cases hb
  | succ n ih =>
    intro L hL h b hb
    cases L with
    | nil => cases hb
    | cons c r =>
      rcases written_step h c r rfl with ⟨h1, h2, h3⟩ | ⟨h1, x, y, r', h2, h3⟩
      · rcases List.mem_cons.1 hb with rfl | hb
        · exact tame_plain h2
        · exact ih r (by simpa using hL) h3 b hb
      · subst h1 h2
        have hxy : ¬ (hexZ x.toNat < 0 ∨ hexZ y.toNat < 0) := by
          intro hh
          simp only [escN, if_true, if_pos hh] at h
          cases h
        rcases List.mem_cons.1 hb with rfl | hb
        · unfold tame; decide
        · rcases List.mem_cons.1 hb with rfl | hb
          · exact tame_hex (fun e => hxy (Or.inl e))
          · rcases List.mem_cons.1 hb with rfl | hb
            · exact tame_hex (fun e => hxy (Or.inr e))
            · exact ih r' (by simp at hL; omega) h3 b hb
theorem norm_fix {s : ByteArray} (h : normB s = true) : escB s = true ∧ escS s = s ∧ escN s.data.toList = some s.data.toList := by
  unfold normB at h
  simp only [Bool.and_eq_true] at h
  have he : escS s = s := by
    have := h.2
    rw [ByteArray.toList_eq, ByteArray.toList_eq] at this
    apply ByteArray.ext
    apply Array.toList_inj.1
    exact eq_of_beq this
  obtain ⟨_, x, hx, hs⟩ := escB_true h.1
  refine ⟨h.1, he, ?_⟩
  rw [hx]
  rw [he] at hs
  rw [hs]
theorem norm_tame {s : ByteArray} (h : normB s = true) : ∀ b ∈ s.data.toList, tame b := tame_norm _ _ (Nat.le_refl _) (norm_fix h).2.2

theorem split_one (c : Int) : ∀ l : List UInt8, (∀ b ∈ l, (b.toNat : Int) ≠ c) → splitL c l = [l] := by
  intro l
  induction l with
  | nil => intro _; rfl
  | cons b r ih =>
    intro h
    rw [split_cons, if_neg (h b (by simp)), ih (fun x hx => h x (by simp [hx]))]; rfl
theorem split_app (c : Int) (d : UInt8) (hd : (d.toNat : Int) = c) : ∀ (l r : List UInt8), (∀ b ∈ l, (b.toNat : Int) ≠ c) → splitL c (l ++ d :: r) = l :: splitL c r := by
  intro l
  induction l with
  | nil => intro r _; rw [List.nil_append, split_cons, if_pos hd]
  | cons b l ih =>
    intro r h
    rw [List.cons_append, split_cons, if_neg (h b (by simp)), ih r (fun x hx => h x (by simp [hx]))]; rfl
theorem cut_app (c : Int) (d : UInt8) (hd : (d.toNat : Int) = c) : ∀ (l r : List UInt8), (∀ b ∈ l, (b.toNat : Int) ≠ c) → cutL c (l ++ d :: r) = (l, r, true) := by
  intro l
  induction l with
  | nil => intro r _; rw [List.nil_append, cut_cons, if_pos hd]
  | cons b l ih =>
    intro r h
    rw [List.cons_append, cut_cons, if_neg (h b (by simp)), ih r (fun x hx => h x (by simp [hx]))]
theorem cut_no (c : Int) : ∀ l : List UInt8, (∀ b ∈ l, (b.toNat : Int) ≠ c) → cutL c l = (l, [], false) := fun l h => cut_none c l (fun _ hi => h _ (List.getElem_mem hi))

theorem join_split : ∀ L : List ByteArray, L ≠ [] → (∀ p ∈ L, ∀ b ∈ p.data.toList, tame b) → splitL 47 (joinL L) = L.map (·.data.toList) := by
  intro L
  induction L with
  | nil => intro h; exact absurd rfl h
  | cons x r ih =>
    intro _ h
    cases r with
    | nil => simp only [joinL, List.map_cons, List.map_nil]; exact split_one _ _ (fun b hb => (h x (by simp) b hb).1)
    | cons y r =>
      simp only [joinL]
      rw [split_app 47 47 rfl _ _ (fun b hb => (h x (by simp) b hb).1), ih (by simp) (fun p hp => h p (by simp [hp]))]; rfl
theorem join_mem : ∀ (L : List ByteArray) (c : Int), c ≠ 47 → (∀ p ∈ L, ∀ b ∈ p.data.toList, (b.toNat : Int) ≠ c) → ∀ b ∈ joinL L, (b.toNat : Int) ≠ c := by
  intro L c hc
  induction L with
  | nil => intro _ b hb; cases hb
  | cons x r ih =>
    intro h b hb
    cases r with
    | nil => simp only [joinL] at hb; exact h x (by simp) b hb
    | cons y r =>
      simp only [joinL] at hb
      rcases List.mem_append.1 hb with hb | hb
      · exact h x (by simp) b hb
      · rcases List.mem_cons.1 hb with rfl | hb
        · intro e; exact hc (by rw [← e]; rfl)
        · exact ih (fun p hp => h p (by simp [hp])) b hb

theorem part_norm' {s : ByteArray} (h : partB s = true) : normB s = true ∧ good s := by
  unfold partB at h
  simp only [Bool.and_eq_true, Bool.not_eq_true'] at h
  exact ⟨h.2, h.1.1.1, h.1.1.2, h.1.2⟩
theorem parts_tame {A : Ad} (h : okB A = true) : ∀ p ∈ A.parts, ∀ b ∈ p.data.toList, tame b := by
  intro p hp
  exact norm_tame (part_norm' (List.all_eq_true.1 (Dr.ok_parts h).2.2.1 p hp)).1
theorem ask_none {A : Ad} (h : okB A = true) (hq : A.asks = false) : A.ask = ⟨#[]⟩ := by
  have := (Dr.ok_parts h).2.2.2.1
  rw [hq, Bool.false_or, ByteArray.toList_eq] at this
  apply ByteArray.ext
  apply Array.toList_inj.1
  rw [List.isEmpty_iff.1 this]
/-- a way, cut at what is asked -/
theorem cut_path {A : Ad} (h : okB A = true) : cutL 63 (pathL A) = (47 :: joinL A.parts, A.ask.data.toList, A.asks) := by
  have hj : ∀ b ∈ 47 :: joinL A.parts, (b.toNat : Int) ≠ 63 := by
    intro b hb
    rcases List.mem_cons.1 hb with rfl | hb
    · decide
    · exact join_mem A.parts 63 (by decide) (fun p hp b hb => (parts_tame h p hp b hb).2.1) b hb
  unfold pathL
  cases hq : A.asks with
  | true =>
    have := cut_app 63 63 rfl (47 :: joinL A.parts) A.ask.data.toList hj
    simpa using this
  | false =>
    have := cut_no 63 (47 :: joinL A.parts) hj
    rw [ask_none h hq]
    simpa using this
/-- the parts, as a way is split -/
theorem split_path {A : Ad} (h : okB A = true) : splitS 47 (bs (47 :: joinL A.parts)) = if A.parts = [] then [⟨#[]⟩, ⟨#[]⟩] else ⟨#[]⟩ :: A.parts := by
  unfold splitS
  rw [bs_list, split_cons, if_pos (by rfl)]
  by_cases hp : A.parts = []
  · rw [if_pos hp, hp]; rfl
  · rw [if_neg hp, join_split _ hp (parts_tame h), List.map_cons, List.map_map]
    congr 1
    conv => rhs; rw [← List.map_id A.parts]
    apply List.map_congr_left
    intro p _
    show bs p.data.toList = p
    exact bs_data p
theorem clean_nones {L : List ByteArray} (h : L.all partB = true) : cleanL (⟨#[]⟩ :: L) = L := by
  have hg : ∀ (L acc : List ByteArray), (∀ s ∈ L, good s) → L.foldl cleanStep acc = acc ++ L := by
    intro L
    induction L with
    | nil => intro acc _; simp
    | cons x r ih =>
      intro acc h
      rw [List.foldl_cons, step_good _ _ (h x (by simp)), ih _ (fun s hs => h s (by simp [hs]))]; simp
  unfold cleanL
  rw [List.foldl_cons, do_none, hg _ _ (fun s hs => (part_norm' (List.all_eq_true.1 h s hs)).2)]; simp
/-- AN OK ADDRESS IS READ BACK FROM ITS WAY -/
theorem way_back {A : Ad} (h : okB A = true) : wayF A.house [] (bs (pathL A)) = some A := by
  obtain ⟨_, _, h3, _, h5, _⟩ := Dr.ok_parts h
  have hn : normS (splitS 47 (bs (47 :: joinL A.parts))) = some (splitS 47 (bs (47 :: joinL A.parts))) := by
    rw [split_path h]
    have he : ∀ x ∈ (if A.parts = [] then [⟨#[]⟩, ⟨#[]⟩] else ⟨#[]⟩ :: A.parts : List ByteArray), escB x = true ∧ escS x = x := by
      intro x hx
      split at hx
      · simp at hx; subst hx; exact ⟨esc_empty.2, esc_empty.1⟩
      · rcases List.mem_cons.1 hx with rfl | hx
        · exact ⟨esc_empty.2, esc_empty.1⟩
        · have := norm_fix (part_norm' (List.all_eq_true.1 h3 x hx)).1
          exact ⟨this.1, this.2.1⟩
    rw [normS_all (fun x hx => (he x hx).1)]
    congr 1
    conv => rhs; rw [← List.map_id (if A.parts = [] then [⟨#[]⟩, ⟨#[]⟩] else ⟨#[]⟩ :: A.parts : List ByteArray)]
    apply List.map_congr_left
    intro x hx
    exact (he x hx).2
  have hc : cleanL ([] ++ splitS 47 (bs (47 :: joinL A.parts))) = A.parts := by
    rw [List.nil_append, split_path h]
    split
    · rename_i hp; rw [hp]; unfold cleanL; rw [List.foldl_cons, do_none, List.foldl_cons, do_none]; rfl
    · exact clean_nones h3
  have ha := norm_fix h5
  unfold wayF
  rw [bs_list, cut_path h]
  dsimp only
  rw [hn]
  dsimp only
  rw [bs_data, ha.1, ha.2.1, hc]
  simp only [if_true]
  have e : (⟨A.house, A.parts, A.asks, A.ask⟩ : Ad) = A := rfl
  rw [e, h]; rfl
theorem path_inj {A B : Ad} (hA : okB A = true) (hB : okB B = true) (h : pathL A = pathL B) : A.parts = B.parts ∧ A.asks = B.asks ∧ A.ask = B.ask := by
  have ca := way_back hA
  have e1 : wayF A.house [] (bs (pathL B)) = some A := by rw [← h]; exact ca
  have cb := cut_path hB
  have ca2 := cut_path hA
  rw [h, cb] at ca2
  injection ca2 with e2 e3
  injection e3 with e3 e4
  have hs := split_path hA
  have hs2 := split_path hB
  rw [← e2, hs2] at hs
  have hask : A.ask = B.ask := by
    apply ByteArray.ext; apply Array.toList_inj.1; exact e3.symm
  refine ⟨?_, e4.symm, hask⟩
  have cl := clean_nones (Dr.ok_parts hA).2.2.1
  have cl2 := clean_nones (Dr.ok_parts hB).2.2.1
  by_cases ha : A.parts = []
  · by_cases hb : B.parts = []
    · rw [ha, hb]
    · rw [if_pos ha, if_neg hb] at hs
      injection hs with _ hs
      have := (part_norm' (List.all_eq_true.1 (Dr.ok_parts hB).2.2.1 ⟨#[]⟩ (by rw [hs]; simp))).2.1
      simp [ByteArray.toList_eq] at this
  · by_cases hb : B.parts = []
    · rw [if_neg ha, if_pos hb] at hs
      injection hs with _ hs
      have := (part_norm' (List.all_eq_true.1 (Dr.ok_parts hA).2.2.1 ⟨#[]⟩ (by rw [← hs]; simp))).2.1
      simp [ByteArray.toList_eq] at this
    · rw [if_neg ha, if_neg hb] at hs
      injection hs with _ hs
      exact hs.symm
theorem house_letters {A : Ad} (h : okB A = true) : ∀ b ∈ A.house.data.toList, 97 ≤ (b.toNat : Int) ∧ (b.toNat : Int) ≤ 122 := by
  have := (Dr.ok_parts h).1
  unfold houseB smallB at this
  simp only [Bool.and_eq_true] at this
  intro b hb
  exact of_decide_eq_true (List.all_eq_true.1 this.2 b hb)
/-- bytes of a text -/
theorem text_bytes {A : Ad} (h : okB A = true) : ∀ b ∈ textL A, (b.toNat : Int) ≠ 35 ∧ b.toNat < 128 := by
  have hj : ∀ b ∈ joinL A.parts, (b.toNat : Int) ≠ 35 ∧ b.toNat < 128 := by
    have : ∀ L : List ByteArray, (∀ p ∈ L, ∀ b ∈ p.data.toList, tame b) → ∀ b ∈ joinL L, (b.toNat : Int) ≠ 35 ∧ b.toNat < 128 := by
      intro L
      induction L with
      | nil => intro _ b hb; cases hb
      | cons x r ih =>
        intro ht b hb
        cases r with
        | nil => simp only [joinL] at hb; exact (ht x (by simp) b hb).2.2
        | cons y r =>
          simp only [joinL] at hb
          rcases List.mem_append.1 hb with hb | hb
          · exact (ht x (by simp) b hb).2.2
          · rcases List.mem_cons.1 hb with rfl | hb
            · decide
            · exact ih (fun p hp => ht p (by simp [hp])) b hb
    exact this _ (parts_tame h)
  intro b hb
  unfold textL pathL at hb
  rcases List.mem_cons.1 hb with rfl | hb
  · decide
  rcases List.mem_cons.1 hb with rfl | hb
  · decide
  rcases List.mem_append.1 hb with hb | hb
  · have := house_letters h b hb
    omega
  rcases List.mem_cons.1 hb with rfl | hb
  · decide
  rcases List.mem_append.1 hb with hb | hb
  · exact hj b hb
  · split at hb
    · rcases List.mem_cons.1 hb with rfl | hb
      · decide
      · exact (norm_tame (Dr.ok_parts h).2.2.2.2.1 b hb).2.2
    · cases hb
theorem while_app {l r : List UInt8} (h : ∀ b ∈ l, goesOn b = true) : (l ++ 47 :: r).takeWhile goesOn = l ∧ (l ++ 47 :: r).dropWhile goesOn = 47 :: r := by
  induction l with
  | nil => exact ⟨rfl, rfl⟩
  | cons b l ih =>
    have h0 := h b (by simp)
    have := ih (fun x hx => h x (by simp [hx]))
    simp [h0, this.1, this.2]
theorem small_same {l : List UInt8} (h : ∀ b ∈ l, 97 ≤ (b.toNat : Int)) : smallL l = l := by
  unfold smallL
  conv => rhs; rw [← List.map_id l]
  apply List.map_congr_left
  intro b hb
  have := h b hb
  unfold smallZ
  rw [if_neg (by omega)]
  exact toB_inv b
/-- AN OK ADDRESS IS READ BACK FROM ITS TEXT -/
theorem read_back {A : Ad} (h : okB A = true) : readF (textL A) = some A := by
  have h60 := (Dr.ok_parts h).2.2.2.2.2
  have hc := cut_no 35 (textL A) (fun b hb => (text_bytes h b hb).1)
  unfold readF
  rw [if_neg (by omega), hc]
  have e1 : (textL A).take 2 = [47, 47] := rfl
  have e2 : (textL A).drop 2 = A.house.data.toList ++ pathL A := rfl
  dsimp only
  rw [if_pos e1, e2]
  have hp : pathL A = 47 :: (joinL A.parts ++ if A.asks then 63 :: A.ask.data.toList else []) := rfl
  have hw := while_app (l := A.house.data.toList) (r := joinL A.parts ++ if A.asks then 63 :: A.ask.data.toList else []) (fun b hb => by
    have := house_letters h b hb
    unfold goesOn
    have h1 : ((b.toNat : Int) == 47) = false := by simp; omega
    have h2 : ((b.toNat : Int) == 63) = false := by simp; omega
    rw [h1, h2]; rfl)
  rw [← hp] at hw
  unfold wholeF
  rw [hw.1, hw.2, small_same (fun b hb => (house_letters h b hb).1), bs_data]
  exact way_back h
end Go.Proofs.YtboncolbijicfaaDoor.RB
