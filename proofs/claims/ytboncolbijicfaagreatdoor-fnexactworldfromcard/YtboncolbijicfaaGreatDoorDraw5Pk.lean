/- Several texts in one: Draw5, Draw6, ReadBack, ReadLaws, JoinMath. -/
import Derived.Test.YtboncolbijicfaaGreatDoorDraw3
import Derived.Test.YtboncolbijicfaaGreatDoorAddr5Pk
import Derived.Test.YtboncolbijicfaaGreatDoorRead3Pk
import Derived.Test.YtboncolbijicfaaGreatDoorStep
import Derived.Test.YtboncolbijicfaaGreatDoorDrawG
import Derived.Deep.RegionHeld3
/- An address is drawn: its text. -/
namespace Go.Proofs.YtboncolbijicfaaGreatDoor.Dr
open Go.RowKit Go.Proofs.YtboncolbijicfaaGreatDoor.St Go.Proofs.YtboncolbijicfaaGreatDoor.AddrM Go.Proofs.YtboncolbijicfaaGreatDoor.EscL Go.Proofs.YtboncolbijicfaaGreatDoor.Ad1

theorem textF_size (A : Ad) : (textF A).size ≤ 60 := by
  unfold textF
  cases h : okB A with
  | false => show (0 : Nat) ≤ 60; omega
  | true =>
    unfold okB at h
    simp only [Bool.and_eq_true, decide_eq_true_eq] at h
    show (textL A).toArray.size ≤ 60
    simpa using h.2
theorem pathF_size (A : Ad) : (pathF A).size ≤ 60 := by
  unfold pathF
  cases h : okB A with
  | false => show (0 : Nat) ≤ 60; omega
  | true =>
    unfold okB at h
    simp only [Bool.and_eq_true, decide_eq_true_eq] at h
    have h2 := h.2
    unfold textL at h2
    simp only [List.length_cons, List.length_append] at h2
    show (pathL A).toArray.size ≤ 60
    simp; omega

/-- a struct of an address lies in a block -/
def Box (w : World) (G : Nat) (x0 x1 x2 x3 : Value) : Prop :=
  w.heap[G]? = some (.cells #[x0, x1, x2, x3] 73 (0, 0))
theorem Box.cells {w : World} {G : Nat} {x0 x1 x2 x3 : Value} (h : Box w G x0 x1 x2 x3) : (w.cell? ⟨G, 0, none⟩ = some x0 ∧ w.cell? ⟨G, 1, none⟩ = some x1 ∧ w.cell? ⟨G, 2, none⟩ = some x2 ∧ w.cell? ⟨G, 3, none⟩ = some x3) ∧ ∀ j, w.frozen? ⟨G, j, none⟩ = false := by
  unfold Box at h
  refine ⟨⟨?_, ?_, ?_, ?_⟩, fun j => ?_⟩
  · simp [World.cell?, h]
  · simp [World.cell?, h]
  · simp [World.cell?, h]
  · simp [World.cell?, h]
  · simp [World.frozen?, h]
theorem Box.lt {w : World} {G : Nat} {x0 x1 x2 x3 : Value} (h : Box w G x0 x1 x2 x3) : G < w.heap.size := (Array.getElem?_eq_some_iff.1 h).1
theorem Box.grown {w w' : World} {G : Nat} {x0 x1 x2 x3 : Value} {row : Option Nat} (h : Box w G x0 x1 x2 x3) (hg : w.grownBy w' row) (hr : row ≠ some G) : Box w' G x0 x1 x2 x3 := by
  unfold Box
  rw [hg.block G h.lt (fun e => hr e.symm)]; exact h
theorem Box.set1 {w : World} {G : Nat} {x0 x1 x2 x3 : Value} (h : Box w G x0 x1 x2 x3) (y : Value) : Box (w.setCell ⟨G, 1, none⟩ y) G x0 y x2 x3 := by
  unfold Box at h ⊢
  simp only [World.setCell, Array.getElem?_modify, if_true, h, Option.map_some]
  simp [Array.setIfInBounds]
theorem Box.set0 {w : World} {G : Nat} {x0 x1 x2 x3 : Value} (h : Box w G x0 x1 x2 x3) (y : Value) : Box (w.setCell ⟨G, 0, none⟩ y) G y x1 x2 x3 := by
  unfold Box at h ⊢
  simp only [World.setCell, Array.getElem?_modify, if_true, h, Option.map_some]
  simp [Array.setIfInBounds]
theorem Box.set2 {w : World} {G : Nat} {x0 x1 x2 x3 : Value} (h : Box w G x0 x1 x2 x3) (y : Value) : Box (w.setCell ⟨G, 2, none⟩ y) G x0 x1 y x3 := by
  unfold Box at h ⊢
  simp only [World.setCell, Array.getElem?_modify, if_true, h, Option.map_some]
  simp [Array.setIfInBounds]
theorem Box.set3 {w : World} {G : Nat} {x0 x1 x2 x3 : Value} (h : Box w G x0 x1 x2 x3) (y : Value) : Box (w.setCell ⟨G, 3, none⟩ y) G x0 x1 x2 y := by
  unfold Box at h ⊢
  simp only [World.setCell, Array.getElem?_modify, if_true, h, Option.map_some]
  simp [Array.setIfInBounds]
theorem Box.heapEq {w w' : World} {G : Nat} {x0 x1 x2 x3 : Value} (h : Box w G x0 x1 x2 x3) (e : w'.heap = w.heap) : Box w' G x0 x1 x2 x3 := by unfold Box; rw [e]; exact h

theorem sum_snoc (L : List ByteArray) (t : ByteArray) : sumS (L ++ [t]) = sumS L + t.size := by rw [ReadM.sumS_append]; simp [sumS]

theorem join_le : ∀ L : List ByteArray, (joinL L).length ≤ sumS L + L.length := by
  intro L
  induction L with
  | nil => simp [joinL, sumS]
  | cons y L ih =>
    have : y.data.toList.length = y.size := by simp
    rcases L with _ | ⟨z, L⟩
    · simp [joinL, sumS]
    · simp only [joinL, sumS, List.length_append, List.length_cons] at ih ⊢
      omega
theorem text_small (s0 t : ByteArray) (L : List ByteArray) (b : Bool) (h0 : s0.size ≤ 5) (h1 : L.length ≤ 2) (h2 : sumS L ≤ 12) (h3 : t.size ≤ 6) : (textF ⟨s0, L, b, t⟩).size ≤ 30 := by
  unfold textF
  split
  · show (textL ⟨s0, L, b, t⟩).toArray.size ≤ 30
    have hj := join_le L
    have e0 : s0.data.toList.length = s0.size := by simp
    have e1 : t.data.toList.length = t.size := by simp
    simp only [List.size_toArray]
    unfold textL pathL
    simp only [List.length_cons, List.length_append]
    cases b <;> simp <;> omega
  · show (0 : Nat) ≤ 30; omega

end Go.Proofs.YtboncolbijicfaaGreatDoor.Dr
/- An address is drawn: as a struct, some spoilt. -/
namespace Go.Proofs.YtboncolbijicfaaGreatDoor.Dr
open Go.RowKit Go.Proofs.YtboncolbijicfaaGreatDoor.St Go.Proofs.YtboncolbijicfaaGreatDoor.AddrM Go.Proofs.YtboncolbijicfaaGreatDoor.EscL Go.Proofs.YtboncolbijicfaaGreatDoor.Ad1 Go.Proofs.YtboncolbijicfaaGreatDoor.ReadM Go.Proofs.YtboncolbijicfaaGreatDoor.Rd1

theorem sum_join : ∀ L : List ByteArray, sumS L ≤ (joinL L).length := by
  intro L
  induction L with
  | nil => simp [sumS]
  | cons y L ih =>
    have : y.data.toList.length = y.size := by simp
    rcases L with _ | ⟨z, L⟩
    · simp [joinL, sumS]
    · simp only [joinL, sumS, List.length_append, List.length_cons] at ih ⊢
      omega
theorem ok_parts {A : Ad} (h : okB A = true) : houseB A.house = true ∧ A.parts.length ≤ 5 ∧ A.parts.all partB = true ∧ (A.asks || A.ask.toList.isEmpty) = true ∧ normB A.ask = true ∧ (textL A).length ≤ 60 := by
  unfold okB at h
  simp only [Bool.and_eq_true, decide_eq_true_eq] at h
  exact ⟨h.1.1.1.1.1, h.1.1.1.1.2, h.1.1.1.2, h.1.1.2, h.1.2, h.2⟩
theorem ok_bulk {A : Ad} (h : okB A = true) : bulkA A ≤ 70 := by
  obtain ⟨_, h2, _, h4, _, h6⟩ := ok_parts h
  have hj := sum_join A.parts
  have hh : A.house.data.toList.length = A.house.size := by simp
  have ha : A.ask.data.toList.length = A.ask.size := by simp
  unfold bulkA
  unfold textL pathL at h6
  simp only [List.length_cons, List.length_append] at h6
  cases hq : A.asks with
  | true => rw [hq] at h6; simp only [if_true, List.length_cons] at h6; omega
  | false =>
    rw [hq] at h4 h6
    simp only [Bool.false_or] at h4
    rw [ByteArray.toList_eq] at h4
    have h0 : A.ask.data.toList.length = 0 := by rw [List.isEmpty_iff.1 h4]; rfl
    omega
theorem way_ok {house : ByteArray} {frm : List ByteArray} {way : ByteArray} {A : Ad} (h : wayF house frm way = some A) : okB A = true := by
  unfold wayF at h
  split at h
  · cases h
  · split at h
    · split at h
      · rename_i hk; cases h; exact hk
      · cases h
    · cases h
theorem read_ok {l : List UInt8} {A : Ad} (h : readF l = some A) : okB A = true := by
  unfold readF at h
  split at h
  · cases h
  · split at h
    · exact way_ok h
    · cases h
theorem reads_bulk {l : List UInt8} {A : Ad} {ok : Bool} (h : (ok = true ∧ readF l = some A) ∨ (ok = false ∧ readF l = none ∧ A = zeroAd)) : bulkA A ≤ 70 := by
  rcases h with ⟨_, h⟩ | ⟨_, _, rfl⟩
  · exact ok_bulk (read_ok h)
  · decide

theorem own_not_box {w : World} {base G : Nat} {v : Value} {L : List ByteArray} {x0 x1 x2 x3 : Value} (h : Owns w base v L) (hx : Box w G x0 x1 x2 x3) : v.ownBlock ≠ some G := by
  obtain ⟨_, ⟨rfl, _⟩ | ⟨g, cap, cur, rfl, _, hc, _⟩⟩ := h
  · intro e; simp [Value.ownBlock] at e
  · intro e
    have e' : g = G := by simpa [Value.ownBlock] using e
    subst e'
    unfold Box at hx
    rw [hc] at hx
    injection hx with hx
    injection hx with _ h2 _
    exact absurd h2 (by decide)
theorem Owns.setBox {w : World} {base G j : Nat} {v y : Value} {L : List ByteArray} {x0 x1 x2 x3 : Value} (h : Owns w base v L) (hx : Box w G x0 x1 x2 x3) : Owns (w.setCell ⟨G, j, none⟩ y) base v L := by
  have hne := own_not_box h hx
  refine World.ownsRow.kept h (grown_set j y) ?_
  cases hv : v.ownBlock with
  | none => exact Or.inl rfl
  | some g => right; rw [hv] at hne; exact hne
theorem bulk_house {A : Ad} {t : ByteArray} (h : bulkA A ≤ 70) (ht : t.size ≤ 10) : bulkA ⟨t, A.parts, A.asks, A.ask⟩ ≤ 1000 := by unfold bulkA at *; dsimp only; omega
theorem bulk_ask {A : Ad} {t : ByteArray} (h : bulkA A ≤ 70) (ht : t.size ≤ 10) : bulkA ⟨A.house, A.parts, A.asks, t⟩ ≤ 1000 := by unfold bulkA at *; dsimp only; omega
theorem bulk_more {A : Ad} {M : List ByteArray} (h : bulkA A ≤ 70) (ht : sumS M + M.length ≤ 100) : bulkA ⟨A.house, A.parts ++ M, A.asks, A.ask⟩ ≤ 1000 := by
  unfold bulkA at *; dsimp only; rw [sumS_append, List.length_append]; omega

theorem cells_new (w : World) (C : Array Value) (t : TypeId) : ∀ j u, C.toList[j]? = some u → (w.alloc (.cells C t)).cell? ((⟨w.heap.size, 0, none⟩ : Addr).add j) = some u := by
  intro j u hj
  rw [add_mk]
  have hb := heap_new w (.cells C t)
  have : C[j]? = some u := by rw [← Array.getElem?_toList]; exact hj
  unfold World.cell?
  dsimp only
  rw [hb]; simpa using this
def fiveS : List ByteArray := [⟨#[97]⟩, ⟨#[98]⟩, ⟨#[99]⟩, ⟨#[97]⟩, ⟨#[98]⟩]

end Go.Proofs.YtboncolbijicfaaGreatDoor.Dr
/- An ok address is read back from its text: plain mathematics. -/
namespace Go.Proofs.YtboncolbijicfaaGreatDoor.RB
open Go.Proofs.YtboncolbijicfaaGreatDoor.EscM Go.Proofs.YtboncolbijicfaaGreatDoor.EscL Go.Proofs.YtboncolbijicfaaGreatDoor.AddrM Go.Proofs.YtboncolbijicfaaGreatDoor.ReadM Go.Proofs.YtboncolbijicfaaGreatDoor.PathM Go.Proofs.YtboncolbijicfaaGreatDoor.Rd1

/-- bytes that stand in what is written in one way -/
def tame (b : UInt8) : Prop := (b.toNat : Int) ≠ 47 ∧ (b.toNat : Int) ≠ 63 ∧ (b.toNat : Int) ≠ 35 ∧ b.toNat < 128
theorem tame_plain {b : UInt8} (h : plainZ b.toNat = true) : tame b := by
  unfold plainZ at h
  have := of_decide_eq_true h
  refine ⟨?_, ?_, ?_, ?_⟩ <;> omega
theorem tame_hex {b : UInt8} (h : ¬ hexZ b.toNat < 0) : tame b := by
  unfold hexZ at h
  split at h
  · refine ⟨?_, ?_, ?_, ?_⟩ <;> omega
  · split at h
    · refine ⟨?_, ?_, ?_, ?_⟩ <;> omega
    · split at h
      · refine ⟨?_, ?_, ?_, ?_⟩ <;> omega
      · omega
theorem tame_norm : ∀ (n : Nat) (L : List UInt8), L.length ≤ n → escN L = some L → ∀ b ∈ L, tame b := by
  intro n
  induction n with
  | zero => intro L hL _ b hb; have : L = [] := List.eq_nil_of_length_eq_zero (by omega); subst this; cases hb
  | succ n ih =>
    intro L hL h b hb
    cases L with
    | nil => cases hb
    | cons c r =>
      rcases written_step h c r rfl with ⟨h1, h2, h3⟩ | ⟨h1, x, y, r', h2, h3⟩
      · rcases List.mem_cons.1 hb with rfl | hb
        · exact tame_plain h2
        · exact ih r (by simpa using hL) h3 b hb
      · subst h1 h2
        have hxy : ¬ (hexZ x.toNat < 0 ∨ hexZ y.toNat < 0) := by
          intro hh
          simp only [escN, if_true, if_pos hh] at h
          cases h
        rcases List.mem_cons.1 hb with rfl | hb
        · unfold tame; decide
        · rcases List.mem_cons.1 hb with rfl | hb
          · exact tame_hex (fun e => hxy (Or.inl e))
          · rcases List.mem_cons.1 hb with rfl | hb
            · exact tame_hex (fun e => hxy (Or.inr e))
            · exact ih r' (by simp at hL; omega) h3 b hb
theorem norm_fix {s : ByteArray} (h : normB s = true) : escB s = true ∧ escS s = s ∧ escN s.data.toList = some s.data.toList := by
  unfold normB at h
  simp only [Bool.and_eq_true] at h
  have he : escS s = s := by
    have := h.2
    rw [ByteArray.toList_eq, ByteArray.toList_eq] at this
    apply ByteArray.ext
    apply Array.toList_inj.1
    exact eq_of_beq this
  obtain ⟨_, x, hx, hs⟩ := escB_true h.1
  refine ⟨h.1, he, ?_⟩
  rw [hx]
  rw [he] at hs
  rw [hs]
theorem norm_tame {s : ByteArray} (h : normB s = true) : ∀ b ∈ s.data.toList, tame b := tame_norm _ _ (Nat.le_refl _) (norm_fix h).2.2

theorem split_one (c : Int) : ∀ l : List UInt8, (∀ b ∈ l, (b.toNat : Int) ≠ c) → splitL c l = [l] := by
  intro l
  induction l with
  | nil => intro _; rfl
  | cons b r ih =>
    intro h
    rw [split_cons, if_neg (h b (by simp)), ih (fun x hx => h x (by simp [hx]))]; rfl
theorem split_app (c : Int) (d : UInt8) (hd : (d.toNat : Int) = c) : ∀ (l r : List UInt8), (∀ b ∈ l, (b.toNat : Int) ≠ c) → splitL c (l ++ d :: r) = l :: splitL c r := by
  intro l
  induction l with
  | nil => intro r _; rw [List.nil_append, split_cons, if_pos hd]
  | cons b l ih =>
    intro r h
    rw [List.cons_append, split_cons, if_neg (h b (by simp)), ih r (fun x hx => h x (by simp [hx]))]; rfl
theorem cut_app (c : Int) (d : UInt8) (hd : (d.toNat : Int) = c) : ∀ (l r : List UInt8), (∀ b ∈ l, (b.toNat : Int) ≠ c) → cutL c (l ++ d :: r) = (l, r, true) := by
  intro l
  induction l with
  | nil => intro r _; rw [List.nil_append, cut_cons, if_pos hd]
  | cons b l ih =>
    intro r h
    rw [List.cons_append, cut_cons, if_neg (h b (by simp)), ih r (fun x hx => h x (by simp [hx]))]
theorem cut_no (c : Int) : ∀ l : List UInt8, (∀ b ∈ l, (b.toNat : Int) ≠ c) → cutL c l = (l, [], false) := fun l h => cut_none c l (fun _ hi => h _ (List.getElem_mem hi))

theorem join_split : ∀ L : List ByteArray, L ≠ [] → (∀ p ∈ L, ∀ b ∈ p.data.toList, tame b) → splitL 47 (joinL L) = L.map (·.data.toList) := by
  intro L
  induction L with
  | nil => intro h; exact absurd rfl h
  | cons x r ih =>
    intro _ h
    cases r with
    | nil => simp only [joinL, List.map_cons, List.map_nil]; exact split_one _ _ (fun b hb => (h x (by simp) b hb).1)
    | cons y r =>
      simp only [joinL]
      rw [split_app 47 47 rfl _ _ (fun b hb => (h x (by simp) b hb).1), ih (by simp) (fun p hp => h p (by simp [hp]))]; rfl
theorem join_mem : ∀ (L : List ByteArray) (c : Int), c ≠ 47 → (∀ p ∈ L, ∀ b ∈ p.data.toList, (b.toNat : Int) ≠ c) → ∀ b ∈ joinL L, (b.toNat : Int) ≠ c := by
  intro L c hc
  induction L with
  | nil => intro _ b hb; cases hb
  | cons x r ih =>
    intro h b hb
    cases r with
    | nil => simp only [joinL] at hb; exact h x (by simp) b hb
    | cons y r =>
      simp only [joinL] at hb
      rcases List.mem_append.1 hb with hb | hb
      · exact h x (by simp) b hb
      · rcases List.mem_cons.1 hb with rfl | hb
        · intro e; exact hc (by rw [← e]; rfl)
        · exact ih (fun p hp => h p (by simp [hp])) b hb

theorem part_norm' {s : ByteArray} (h : partB s = true) : normB s = true ∧ good s := by
  unfold partB at h
  simp only [Bool.and_eq_true, Bool.not_eq_true'] at h
  exact ⟨h.2, h.1.1.1, h.1.1.2, h.1.2⟩
theorem parts_tame {A : Ad} (h : okB A = true) : ∀ p ∈ A.parts, ∀ b ∈ p.data.toList, tame b := by
  intro p hp
  exact norm_tame (part_norm' (List.all_eq_true.1 (Dr.ok_parts h).2.2.1 p hp)).1
theorem ask_none {A : Ad} (h : okB A = true) (hq : A.asks = false) : A.ask = ⟨#[]⟩ := by
  have := (Dr.ok_parts h).2.2.2.1
  rw [hq, Bool.false_or, ByteArray.toList_eq] at this
  apply ByteArray.ext
  apply Array.toList_inj.1
  rw [List.isEmpty_iff.1 this]
/-- a way, cut at what is asked -/
theorem cut_path {A : Ad} (h : okB A = true) : cutL 63 (pathL A) = (47 :: joinL A.parts, A.ask.data.toList, A.asks) := by
  have hj : ∀ b ∈ 47 :: joinL A.parts, (b.toNat : Int) ≠ 63 := by
    intro b hb
    rcases List.mem_cons.1 hb with rfl | hb
    · decide
    · exact join_mem A.parts 63 (by decide) (fun p hp b hb => (parts_tame h p hp b hb).2.1) b hb
  unfold pathL
  cases hq : A.asks with
  | true =>
    have := cut_app 63 63 rfl (47 :: joinL A.parts) A.ask.data.toList hj
    simpa using this
  | false =>
    have := cut_no 63 (47 :: joinL A.parts) hj
    rw [ask_none h hq]
    simpa using this
/-- the parts, as a way is split -/
theorem split_path {A : Ad} (h : okB A = true) : splitS 47 (bs (47 :: joinL A.parts)) = if A.parts = [] then [⟨#[]⟩, ⟨#[]⟩] else ⟨#[]⟩ :: A.parts := by
  unfold splitS
  rw [bs_list, split_cons, if_pos (by rfl)]
  by_cases hp : A.parts = []
  · rw [if_pos hp, hp]; rfl
  · rw [if_neg hp, join_split _ hp (parts_tame h), List.map_cons, List.map_map]
    congr 1
    conv => rhs; rw [← List.map_id A.parts]
    apply List.map_congr_left
    intro p _
    show bs p.data.toList = p
    exact bs_data p
theorem clean_nones {L : List ByteArray} (h : L.all partB = true) : cleanL (⟨#[]⟩ :: L) = L := by
  have hg : ∀ (L acc : List ByteArray), (∀ s ∈ L, good s) → L.foldl cleanStep acc = acc ++ L := by
    intro L
    induction L with
    | nil => intro acc _; simp
    | cons x r ih =>
      intro acc h
      rw [List.foldl_cons, step_good _ _ (h x (by simp)), ih _ (fun s hs => h s (by simp [hs]))]; simp
  unfold cleanL
  rw [List.foldl_cons, do_none, hg _ _ (fun s hs => (part_norm' (List.all_eq_true.1 h s hs)).2)]; simp
/-- AN OK ADDRESS IS READ BACK FROM ITS WAY -/
theorem way_back {A : Ad} (h : okB A = true) : wayF A.house [] (bs (pathL A)) = some A := by
  obtain ⟨_, _, h3, _, h5, _⟩ := Dr.ok_parts h
  have hn : normS (splitS 47 (bs (47 :: joinL A.parts))) = some (splitS 47 (bs (47 :: joinL A.parts))) := by
    rw [split_path h]
    have he : ∀ x ∈ (if A.parts = [] then [⟨#[]⟩, ⟨#[]⟩] else ⟨#[]⟩ :: A.parts : List ByteArray), escB x = true ∧ escS x = x := by
      intro x hx
      split at hx
      · simp at hx; subst hx; exact ⟨esc_empty.2, esc_empty.1⟩
      · rcases List.mem_cons.1 hx with rfl | hx
        · exact ⟨esc_empty.2, esc_empty.1⟩
        · have := norm_fix (part_norm' (List.all_eq_true.1 h3 x hx)).1
          exact ⟨this.1, this.2.1⟩
    rw [normS_all (fun x hx => (he x hx).1)]
    congr 1
    conv => rhs; rw [← List.map_id (if A.parts = [] then [⟨#[]⟩, ⟨#[]⟩] else ⟨#[]⟩ :: A.parts : List ByteArray)]
    apply List.map_congr_left
    intro x hx
    exact (he x hx).2
  have hc : cleanL ([] ++ splitS 47 (bs (47 :: joinL A.parts))) = A.parts := by
    rw [List.nil_append, split_path h]
    split
    · rename_i hp; rw [hp]; unfold cleanL; rw [List.foldl_cons, do_none, List.foldl_cons, do_none]; rfl
    · exact clean_nones h3
  have ha := norm_fix h5
  unfold wayF
  rw [bs_list, cut_path h]
  dsimp only
  rw [hn]
  dsimp only
  rw [bs_data, ha.1, ha.2.1, hc]
  simp only [if_true]
  have e : (⟨A.house, A.parts, A.asks, A.ask⟩ : Ad) = A := rfl
  rw [e, h]; rfl
theorem path_inj {A B : Ad} (hA : okB A = true) (hB : okB B = true) (h : pathL A = pathL B) : A.parts = B.parts ∧ A.asks = B.asks ∧ A.ask = B.ask := by
  have ca := way_back hA
  have e1 : wayF A.house [] (bs (pathL B)) = some A := by rw [← h]; exact ca
  have cb := cut_path hB
  have ca2 := cut_path hA
  rw [h, cb] at ca2
  injection ca2 with e2 e3
  injection e3 with e3 e4
  have hs := split_path hA
  have hs2 := split_path hB
  rw [← e2, hs2] at hs
  have hask : A.ask = B.ask := by
    apply ByteArray.ext; apply Array.toList_inj.1; exact e3.symm
  refine ⟨?_, e4.symm, hask⟩
  have cl := clean_nones (Dr.ok_parts hA).2.2.1
  have cl2 := clean_nones (Dr.ok_parts hB).2.2.1
  by_cases ha : A.parts = []
  · by_cases hb : B.parts = []
    · rw [ha, hb]
    · rw [if_pos ha, if_neg hb] at hs
      injection hs with _ hs
      have := (part_norm' (List.all_eq_true.1 (Dr.ok_parts hB).2.2.1 ⟨#[]⟩ (by rw [hs]; simp))).2.1
      simp [ByteArray.toList_eq] at this
  · by_cases hb : B.parts = []
    · rw [if_neg ha, if_pos hb] at hs
      injection hs with _ hs
      have := (part_norm' (List.all_eq_true.1 (Dr.ok_parts hA).2.2.1 ⟨#[]⟩ (by rw [← hs]; simp))).2.1
      simp [ByteArray.toList_eq] at this
    · rw [if_neg ha, if_neg hb] at hs
      injection hs with _ hs
      exact hs.symm
theorem house_letters {A : Ad} (h : okB A = true) : ∀ b ∈ A.house.data.toList, 97 ≤ (b.toNat : Int) ∧ (b.toNat : Int) ≤ 122 := by
  have := (Dr.ok_parts h).1
  unfold houseB smallB at this
  simp only [Bool.and_eq_true] at this
  intro b hb
  exact of_decide_eq_true (List.all_eq_true.1 this.2 b hb)
/-- bytes of a text -/
theorem text_bytes {A : Ad} (h : okB A = true) : ∀ b ∈ textL A, (b.toNat : Int) ≠ 35 ∧ b.toNat < 128 := by
  have hj : ∀ b ∈ joinL A.parts, (b.toNat : Int) ≠ 35 ∧ b.toNat < 128 := by
    have : ∀ L : List ByteArray, (∀ p ∈ L, ∀ b ∈ p.data.toList, tame b) → ∀ b ∈ joinL L, (b.toNat : Int) ≠ 35 ∧ b.toNat < 128 := by
      intro L
      induction L with
      | nil => intro _ b hb; cases hb
      | cons x r ih =>
        intro ht b hb
        cases r with
        | nil => simp only [joinL] at hb; exact (ht x (by simp) b hb).2.2
        | cons y r =>
          simp only [joinL] at hb
          rcases List.mem_append.1 hb with hb | hb
          · exact (ht x (by simp) b hb).2.2
          · rcases List.mem_cons.1 hb with rfl | hb
            · decide
            · exact ih (fun p hp => ht p (by simp [hp])) b hb
    exact this _ (parts_tame h)
  intro b hb
  unfold textL pathL at hb
  rcases List.mem_cons.1 hb with rfl | hb
  · decide
  rcases List.mem_cons.1 hb with rfl | hb
  · decide
  rcases List.mem_append.1 hb with hb | hb
  · have := house_letters h b hb
    omega
  rcases List.mem_cons.1 hb with rfl | hb
  · decide
  rcases List.mem_append.1 hb with hb | hb
  · exact hj b hb
  · split at hb
    · rcases List.mem_cons.1 hb with rfl | hb
      · decide
      · exact (norm_tame (Dr.ok_parts h).2.2.2.2.1 b hb).2.2
    · cases hb
theorem while_app {l r : List UInt8} (h : ∀ b ∈ l, goesOn b = true) : (l ++ 47 :: r).takeWhile goesOn = l ∧ (l ++ 47 :: r).dropWhile goesOn = 47 :: r := by
  induction l with
  | nil => exact ⟨rfl, rfl⟩
  | cons b l ih =>
    have h0 := h b (by simp)
    have := ih (fun x hx => h x (by simp [hx]))
    simp [h0, this.1, this.2]
theorem small_same {l : List UInt8} (h : ∀ b ∈ l, 97 ≤ (b.toNat : Int)) : smallL l = l := by
  unfold smallL
  conv => rhs; rw [← List.map_id l]
  apply List.map_congr_left
  intro b hb
  have := h b hb
  unfold smallZ
  rw [if_neg (by omega)]
  exact toB_inv b
/-- AN OK ADDRESS IS READ BACK FROM ITS TEXT -/
theorem read_back {A : Ad} (h : okB A = true) : readF (textL A) = some A := by
  have h60 := (Dr.ok_parts h).2.2.2.2.2
  have hc := cut_no 35 (textL A) (fun b hb => (text_bytes h b hb).1)
  unfold readF
  rw [if_neg (by omega), hc]
  have e1 : (textL A).take 2 = [47, 47] := rfl
  have e2 : (textL A).drop 2 = A.house.data.toList ++ pathL A := rfl
  dsimp only
  rw [if_pos e1, e2]
  have hp : pathL A = 47 :: (joinL A.parts ++ if A.asks then 63 :: A.ask.data.toList else []) := rfl
  have hw := while_app (l := A.house.data.toList) (r := joinL A.parts ++ if A.asks then 63 :: A.ask.data.toList else []) (fun b hb => by
    have := house_letters h b hb
    unfold goesOn
    have h1 : ((b.toNat : Int) == 47) = false := by simp; omega
    have h2 : ((b.toNat : Int) == 63) = false := by simp; omega
    rw [h1, h2]; rfl)
  rw [← hp] at hw
  unfold wholeF
  rw [hw.1, hw.2, small_same (fun b hb => (house_letters h b hb).1), bs_data]
  exact way_back h
end Go.Proofs.YtboncolbijicfaaGreatDoor.RB
/- What holds of readings: plain mathematics. -/
namespace Go.Proofs.YtboncolbijicfaaGreatDoor.RL
open Go.RowKit Go.Proofs.YtboncolbijicfaaGreatDoor.EscM Go.Proofs.YtboncolbijicfaaGreatDoor.AddrM Go.Proofs.YtboncolbijicfaaGreatDoor.ReadM Go.Proofs.YtboncolbijicfaaGreatDoor.St Go.Proofs.YtboncolbijicfaaGreatDoor.EscL Go.Proofs.YtboncolbijicfaaGreatDoor.PathM Go.Proofs.YtboncolbijicfaaGreatDoor.Ad1 Go.Proofs.YtboncolbijicfaaGreatDoor.Rd1 Go.Proofs.YtboncolbijicfaaGreatDoor.RB

theorem way_ok {h : ByteArray} {f : List ByteArray} {way : ByteArray} {A : Ad} (e : wayF h f way = some A) : okB A = true := by
  unfold wayF at e
  split at e
  · cases e
  · split at e
    · split at e
      · rename_i hk; have := Option.some.inj e; subst this; exact hk
      · cases e
    · cases e
theorem read_ok {l : List UInt8} {A : Ad} (e : readF l = some A) : okB A = true := by
  unfold readF at e
  split at e
  · cases e
  · split at e
    · exact way_ok e
    · cases e
theorem cut_more (c : Int) (d : UInt8) (hd : (d.toNat : Int) = c) : ∀ l r : List UInt8, (cutL c (l ++ d :: r)).1 = (cutL c l).1 := by
  intro l
  induction l with
  | nil => intro r; rw [List.nil_append, cut_cons, if_pos hd]; rfl
  | cons b t ih =>
    intro r
    rw [List.cons_append, cut_cons, cut_cons]
    split
    · rfl
    · simp only [ih]
theorem read_cross (l : List UInt8) (h : l.length + 2 ≤ 60) : readF (l ++ [35, 120]) = readF l := by
  have h1 : ¬ 60 < (l ++ [35, 120]).length := by simp; omega
  have h2 : ¬ 60 < l.length := by omega
  unfold readF
  rw [cut_more 35 35 (by decide) l [120], if_neg h1, if_neg h2]

theorem while_stop {d : UInt8} (hd : goesOn d = false) : ∀ r t : List UInt8, (r ++ d :: t).takeWhile goesOn = r.takeWhile goesOn ∧ (r ++ d :: t).dropWhile goesOn = r.dropWhile goesOn ++ d :: t := by
  intro r
  induction r with
  | nil => intro t; simp [hd]
  | cons b r ih =>
    intro t
    have := ih t
    cases hb : goesOn b with
    | false => simp [hb]
    | true => simp [hb, this.1, this.2]
theorem split_two (c : Int) (d : UInt8) (hd : (d.toNat : Int) = c) : ∀ l r : List UInt8, splitL c (l ++ d :: r) = splitL c l ++ splitL c r := by
  intro l
  induction l with
  | nil => intro r; rw [List.nil_append, split_cons, if_pos hd]; rfl
  | cons b t ih =>
    intro r
    rw [List.cons_append, split_cons, split_cons]
    split
    · rw [ih]; rfl
    · rw [ih]
      cases hs : splitL c t with
      | nil => exact absurd hs (split_ne c t)
      | cons y z => simp
theorem normS_app : ∀ X Y : List ByteArray, normS (X ++ Y) = match normS X, normS Y with
    | some x, some y => some (x ++ y)
    | _, _ => none := by
  intro X
  induction X with
  | nil => intro Y; simp only [List.nil_append, normS]; cases normS Y <;> rfl
  | cons a X ih =>
    intro Y
    simp only [List.cons_append, normS, ih]
    cases escB a with
    | false => simp
    | true => cases normS X <;> cases normS Y <;> simp
theorem bare_cut {c : Int} {l : List UInt8} (h : ∀ b ∈ l, (b.toNat : Int) ≠ c) : cutL c l = (l, [], false) := cut_no c l h

theorem clean_idle (X : List ByteArray) (Y : List ByteArray) (h : ∀ s ∈ Y, ∀ acc, cleanStep acc s = acc) : cleanL (X ++ Y) = cleanL X := by
  unfold cleanL
  rw [List.foldl_append]
  generalize X.foldl cleanStep [] = a
  induction Y generalizing a with
  | nil => rfl
  | cons y Y ih => rw [List.foldl_cons, h y (by simp), ih (fun s hs => h s (by simp [hs]))]
theorem step_none (acc : List ByteArray) : cleanStep acc ⟨#[]⟩ = acc := by
  unfold cleanStep; simp
theorem step_dot (acc : List ByteArray) : cleanStep acc ⟨#[46]⟩ = acc := by
  unfold cleanStep; simp [ByteArray.toList_eq]

theorem way_more {house : ByteArray} {frm : List ByteArray} {d t : List UInt8} (hd : ∀ b ∈ d, (b.toNat : Int) ≠ 63) (ht : ∀ b ∈ t, (b.toNat : Int) ≠ 63) (hn : normS ((splitL 47 t).map bs) = some ((splitL 47 t).map bs)) (hi : ∀ s ∈ (splitL 47 t).map bs, ∀ acc, cleanStep acc s = acc) :
    wayF house frm (bs (d ++ 47 :: t)) = wayF house frm (bs d) := by
  rw [way_cut (bare_cut (c := 63) (l := d ++ 47 :: t) (by
    intro b hb
    rcases List.mem_append.1 hb with hb | hb
    · exact hd b hb
    · rcases List.mem_cons.1 hb with rfl | hb
      · decide
      · exact ht b hb)), way_cut (bare_cut (c := 63) hd)]
  have e : splitS 47 (bs (d ++ 47 :: t)) = splitS 47 (bs d) ++ (splitL 47 t).map bs := by
    unfold splitS
    rw [bs_list, bs_list, split_two 47 47 (by decide), List.map_append]
  rw [e, normS_app, hn]
  cases normS (splitS 47 (bs d)) with
  | none => rfl
  | some ps =>
    simp only
    rw [← List.append_assoc, clean_idle _ _ hi]

theorem read_more {l t : List UInt8} {A : Ad} (h : readF l = some A) (hb : ∀ b ∈ l, (b.toNat : Int) ≠ 63 ∧ (b.toNat : Int) ≠ 35) (hl : l.length + (t.length + 1) ≤ 60) (ht : ∀ b ∈ t, (b.toNat : Int) ≠ 63 ∧ (b.toNat : Int) ≠ 35) (hn : normS ((splitL 47 t).map bs) = some ((splitL 47 t).map bs)) (hi : ∀ s ∈ (splitL 47 t).map bs, ∀ acc, cleanStep acc s = acc) :
    readF (l ++ 47 :: t) = some A := by
  rw [← h]
  unfold readF
  rw [bare_cut (c := 35) (l := l) (fun b hb' => (hb b hb').2), bare_cut (c := 35) (l := l ++ 47 :: t) (by
    intro b hb'
    rcases List.mem_append.1 hb' with hb' | hb'
    · exact (hb b hb').2
    · rcases List.mem_cons.1 hb' with rfl | hb'
      · decide
      · exact (ht b hb').2)]
  have h1 : ¬ 60 < (l ++ 47 :: t).length := by simp; omega
  have h2 : ¬ 60 < l.length := by omega
  rw [if_neg h1, if_neg h2]
  dsimp only
  by_cases h2 : l.take 2 = [47, 47]
  · have hl2 : 2 ≤ l.length := by have := congrArg List.length h2; simp at this; omega
    rw [List.take_append_of_le_length hl2, List.drop_append_of_le_length hl2, if_pos h2, if_pos h2]
    unfold wholeF
    have := while_stop (d := 47) (by decide) (l.drop 2) t
    rw [this.1, this.2]
    exact way_more (fun b hb' => (hb b (List.mem_of_mem_drop ((List.dropWhile_sublist _).subset hb'))).1) (fun b hb' => (ht b hb').1) hn hi
  · exfalso
    unfold readF at h
    rw [bare_cut (c := 35) (l := l) (fun b hb' => (hb b hb').2), if_neg h2] at h
    split at h <;> cases h
theorem read_stroke {l : List UInt8} {A : Ad} (h : readF l = some A) (hb : ∀ b ∈ l, (b.toNat : Int) ≠ 63 ∧ (b.toNat : Int) ≠ 35) (hl : l.length + 4 ≤ 60) : readF (l ++ [47]) = some A :=
  read_more h hb (by simp; omega) (by simp) (by decide) (by intro s hs acc; simp [splitL] at hs; subst hs; exact step_none acc)
theorem read_dot {l : List UInt8} {A : Ad} (h : readF l = some A) (hb : ∀ b ∈ l, (b.toNat : Int) ≠ 63 ∧ (b.toNat : Int) ≠ 35) (hl : l.length + 4 ≤ 60) : readF (l ++ [47, 46, 47]) = some A :=
  read_more (t := [46, 47]) h hb (by simp; omega) (by decide) (by decide) (by
    intro s hs acc
    have : s = ⟨#[46]⟩ ∨ s = ⟨#[]⟩ := by simpa [splitL, bs] using hs
    rcases this with rfl | rfl
    · exact step_dot acc
    · exact step_none acc)

/-- great letters -/
def upZ (n : Int) : Int := if 97 ≤ n ∧ n ≤ 122 then n - 32 else n
def goes3 (b : UInt8) : Bool := !(((b.toNat : Int) == 47) || ((b.toNat : Int) == 63) || ((b.toNat : Int) == 35))
def upL (l : List UInt8) : List UInt8 := l.map fun b => toB (upZ b.toNat)
def greatL (r : List UInt8) : List UInt8 := upL (r.takeWhile goes3) ++ r.dropWhile goes3

theorem toB_nat {n : Int} (h0 : 0 ≤ n) (h1 : n ≤ 255) : ((toB n).toNat : Int) = n := by
  unfold toB
  simp [UInt8.toNat_ofNat']
  omega
theorem up_val (b : UInt8) : ((toB (upZ b.toNat)).toNat : Int) = upZ b.toNat := by
  have hb : b.toNat < 256 := b.toNat_lt
  refine toB_nat ?_ ?_ <;> unfold upZ <;> split <;> omega
theorem up_small (b : UInt8) : smallZ ((toB (upZ b.toNat)).toNat) = smallZ b.toNat := by
  rw [up_val]
  unfold smallZ upZ
  split <;> split <;> (try split) <;> omega
theorem up_goes (b : UInt8) : goes3 (toB (upZ b.toNat)) = goes3 b := by
  unfold goes3
  rw [up_val]
  unfold upZ
  split
  · have h1 : ((b.toNat : Int) == 47) = false := by simp; omega
    have h2 : ((b.toNat : Int) == 63) = false := by simp; omega
    have h3 : ((b.toNat : Int) == 35) = false := by simp; omega
    have g1 : ((b.toNat : Int) - 32 == 47) = false := by simp; omega
    have g2 : ((b.toNat : Int) - 32 == 63) = false := by simp; omega
    have g3 : ((b.toNat : Int) - 32 == 35) = false := by simp; omega
    rw [h1, h2, h3, g1, g2, g3]
  · rfl
theorem goes3_on {b : UInt8} (h : goes3 b = true) : goesOn b = true ∧ (b.toNat : Int) ≠ 35 := by
  unfold goes3 at h
  unfold goesOn
  simp at h ⊢
  omega
theorem small_up (l : List UInt8) : smallL (upL l) = smallL l := by
  unfold smallL upL
  rw [List.map_map]
  refine List.map_congr_left fun b _ => ?_
  show toB (smallZ (toB (upZ b.toNat)).toNat) = _
  rw [up_small]
theorem up_len (l : List UInt8) : (upL l).length = l.length := by simp [upL]
theorem great_len (r : List UInt8) : (greatL r).length = r.length := by
  unfold greatL
  rw [List.length_append, up_len, ← List.length_append, List.takeWhile_append_dropWhile]

theorem cut_pre (c : Int) : ∀ a b : List UInt8, (∀ x ∈ a, (x.toNat : Int) ≠ c) → (cutL c (a ++ b)).1 = a ++ (cutL c b).1 := by
  intro a
  induction a with
  | nil => intro b _; rfl
  | cons x a ih =>
    intro b h
    rw [List.cons_append, cut_cons, if_neg (h x (by simp))]
    simp only [List.cons_append]
    rw [ih b (fun y hy => h y (by simp [hy]))]
/-- what comes first behind the house stops it -/
def stops (l : List UInt8) : Prop := l = [] ∨ ∃ b t, l = b :: t ∧ goesOn b = false
theorem while_pre : ∀ a b : List UInt8, (∀ x ∈ a, goesOn x = true) → stops b → (a ++ b).takeWhile goesOn = a ∧ (a ++ b).dropWhile goesOn = b := by
  intro a
  induction a with
  | nil =>
    intro b _ hb
    rcases hb with rfl | ⟨x, t, rfl, hx⟩
    · exact ⟨rfl, rfl⟩
    · simp [hx]
  | cons x a ih =>
    intro b h hb
    have h0 := h x (by simp)
    have := ih b (fun y hy => h y (by simp [hy])) hb
    simp [h0, this.1, this.2]
theorem mem_while {p : UInt8 → Bool} : ∀ (l : List UInt8), ∀ x ∈ l.takeWhile p, p x = true := by
  intro l
  induction l with
  | nil => intro x hx; cases hx
  | cons b t ih =>
    intro x hx
    cases hb : p b with
    | false => rw [List.takeWhile_cons, hb] at hx; cases hx
    | true =>
      rw [List.takeWhile_cons, hb] at hx
      rcases List.mem_cons.1 hx with rfl | hx
      · exact hb
      · exact ih x hx
theorem drop_stops : ∀ r : List UInt8, stops (cutL 35 (r.dropWhile goes3)).1 := by
  intro r
  induction r with
  | nil => exact Or.inl rfl
  | cons b t ih =>
    rw [List.dropWhile_cons]
    cases hb : goes3 b with
    | true => exact ih
    | false =>
      rw [if_neg (by simp), cut_cons]
      by_cases h : (b.toNat : Int) = 35
      · rw [if_pos h]; exact Or.inl rfl
      · rw [if_neg h]
        refine Or.inr ⟨b, _, rfl, ?_⟩
        unfold goes3 at hb
        unfold goesOn
        simp at hb ⊢
        omega
theorem read_great {r : List UInt8} : readF (47 :: 47 :: greatL r) = readF (47 :: 47 :: r) := by
  have hl := great_len r
  have e0 : ∀ x : List UInt8, (cutL 35 (47 :: 47 :: x)).1 = 47 :: 47 :: (cutL 35 x).1 := by
    intro x
    rw [cut_cons, if_neg (by decide), cut_cons, if_neg (by decide)]
  have e1 : (cutL 35 r).1 = r.takeWhile goes3 ++ (cutL 35 (r.dropWhile goes3)).1 := by
    have := cut_pre 35 (r.takeWhile goes3) (r.dropWhile goes3) (fun x hx => (goes3_on (mem_while r x hx)).2)
    rwa [List.takeWhile_append_dropWhile] at this
  have hup : ∀ x ∈ upL (r.takeWhile goes3), goes3 x = true := by
    intro x hx
    unfold upL at hx
    obtain ⟨b, hb, rfl⟩ := List.mem_map.1 hx
    rw [up_goes]; exact mem_while r b hb
  have e2 : (cutL 35 (greatL r)).1 = upL (r.takeWhile goes3) ++ (cutL 35 (r.dropWhile goes3)).1 :=
    cut_pre 35 _ _ (fun x hx => (goes3_on (hup x hx)).2)
  have hs := drop_stops r
  unfold readF
  simp only [List.length_cons, hl]
  rw [e0, e0, e1, e2]
  split
  · rfl
  · have t : ∀ x : List UInt8, (47 :: 47 :: x : List UInt8).take 2 = [47, 47] := fun x => by simp
    rw [if_pos (t _), if_pos (t _)]
    have d : ∀ x : List UInt8, (47 :: 47 :: x : List UInt8).drop 2 = x := fun x => by simp
    rw [d, d]
    unfold wholeF
    have w1 := while_pre _ _ (fun x hx => (goes3_on (mem_while r x hx)).1) hs
    have w2 := while_pre _ _ (fun x hx => (goes3_on (hup x hx)).1) hs
    rw [w1.1, w1.2, w2.1, w2.2, small_up]
theorem read_two {l : List UInt8} {A : Ad} (h : readF l = some A) : ∃ r, l = 47 :: 47 :: r := by
  unfold readF at h
  split at h
  · cases h
  · split at h
    · rename_i h2
      cases l with
      | nil => simp [cutL] at h2
      | cons a l =>
        rw [cut_cons] at h2
        by_cases ha : (a.toNat : Int) = 35
        · rw [if_pos ha] at h2; simp at h2
        · rw [if_neg ha] at h2
          cases l with
          | nil => simp [cutL] at h2
          | cons b l =>
            rw [cut_cons] at h2
            by_cases hb : (b.toNat : Int) = 35
            · rw [if_pos hb] at h2; simp at h2
            · rw [if_neg hb] at h2
              simp at h2
              exact ⟨l, by rw [h2.1, h2.2]⟩
    · cases h
end Go.Proofs.YtboncolbijicfaaGreatDoor.RL
/- Plain mathematics of joining. -/
namespace Go.Proofs.YtboncolbijicfaaGreatDoor.JnM
open Go.RowKit Go.Proofs.YtboncolbijicfaaGreatDoor.EscM Go.Proofs.YtboncolbijicfaaGreatDoor.AddrM Go.Proofs.YtboncolbijicfaaGreatDoor.ReadM Go.Proofs.YtboncolbijicfaaGreatDoor.St Go.Proofs.YtboncolbijicfaaGreatDoor.EscL Go.Proofs.YtboncolbijicfaaGreatDoor.PathM Go.Proofs.YtboncolbijicfaaGreatDoor.Ad1 Go.Proofs.YtboncolbijicfaaGreatDoor.Rd1 Go.Proofs.YtboncolbijicfaaGreatDoor.RB

/-- where one comes by a text that has no cross -/
def goF (A : Ad) (l : List UInt8) : Option Ad :=
  if l.take 2 = [47, 47] then wholeF (l.drop 2)
  else if l = [] then some A
  else if l.head? = some 47 then wayF A.house [] (bs l)
  else if l.head? = some 63 then wayF A.house A.parts (bs l)
  else wayF A.house A.parts.dropLast (bs l)
def joinF (A : Ad) (l : List UInt8) : Option Ad := if okB A then if 60 < l.length then none else goF A (cutL 35 l).1 else none

theorem join_bad {A : Ad} {l : List UInt8} (h : okB A = false) : joinF A l = none := by unfold joinF; rw [h]; rfl
theorem join_go {A : Ad} {l : List UInt8} (h : okB A = true) (h2 : ¬ 60 < l.length) : joinF A l = goF A (cutL 35 l).1 := by unfold joinF; rw [h, if_neg h2]; rfl
theorem go_whole {A : Ad} {l : List UInt8} (h : l.take 2 = [47, 47]) : goF A l = wholeF (l.drop 2) := by unfold goF; rw [if_pos h]
theorem go_none {A : Ad} : goF A [] = some A := by unfold goF; simp
theorem go_door {A : Ad} {l : List UInt8} (h : ¬ l.take 2 = [47, 47]) (h1 : l.head? = some 47) : goF A l = wayF A.house [] (bs l) := by
  unfold goF; rw [if_neg h, if_neg (by intro e; rw [e] at h1; cases h1), if_pos h1]
theorem go_ask {A : Ad} {l : List UInt8} (h1 : l.head? = some 63) : goF A l = wayF A.house A.parts (bs l) := by
  unfold goF
  rw [if_neg (by intro e; cases l with | nil => cases h1 | cons a t => cases t with | nil => simp at e | cons b t => simp at e h1; rw [h1] at e; exact absurd e.1 (by decide)), if_neg (by intro e; rw [e] at h1; cases h1), if_neg (by rw [h1]; decide), if_pos h1]
theorem go_beside {A : Ad} {l : List UInt8} (h : ¬ l.take 2 = [47, 47]) (h0 : ¬ l = []) (h1 : ¬ l.head? = some 47) (h2 : ¬ l.head? = some 63) : goF A l = wayF A.house A.parts.dropLast (bs l) := by
  unfold goF; rw [if_neg h, if_neg h0, if_neg h1, if_neg h2]
theorem go_ok {A B : Ad} {l : List UInt8} (hA : okB A = true) (h : goF A l = some B) : okB B = true := by
  unfold goF at h
  split at h
  · exact RL.way_ok h
  · split at h
    · have := Option.some.inj h; subst this; exact hA
    · split at h
      · exact RL.way_ok h
      · split at h
        · exact RL.way_ok h
        · exact RL.way_ok h
theorem join_ok {A B : Ad} {l : List UInt8} (h : joinF A l = some B) : okB B = true := by
  unfold joinF at h
  cases hA : okB A with
  | false => rw [hA] at h; cases h
  | true =>
    rw [hA] at h
    simp only [if_true] at h
    split at h
    · cases h
    · exact go_ok hA h
theorem way_house {h : ByteArray} {f : List ByteArray} {way : ByteArray} {A : Ad} (e : wayF h f way = some A) : A.house = h := by
  unfold wayF at e
  split at e
  · cases e
  · split at e
    · split at e
      · have := Option.some.inj e; subst this; rfl
      · cases e
    · cases e
end Go.Proofs.YtboncolbijicfaaGreatDoor.JnM
