/- Several texts in one: ReadLaws, JoinMath. -/
import Derived.Test.YtcohaalgefcjnaaGreatDoorDraw5Pk
/- What holds of readings: plain mathematics. -/
namespace Go.Proofs.YtcohaalgefcjnaaGreatDoor.RL
open Go.RowKit Go.Proofs.YtcohaalgefcjnaaGreatDoor.EscM Go.Proofs.YtcohaalgefcjnaaGreatDoor.AddrM Go.Proofs.YtcohaalgefcjnaaGreatDoor.ReadM Go.Proofs.YtcohaalgefcjnaaGreatDoor.St Go.Proofs.YtcohaalgefcjnaaGreatDoor.EscL Go.Proofs.YtcohaalgefcjnaaGreatDoor.PathM Go.Proofs.YtcohaalgefcjnaaGreatDoor.Ad1 Go.Proofs.YtcohaalgefcjnaaGreatDoor.Rd1 Go.Proofs.YtcohaalgefcjnaaGreatDoor.RB

theorem way_ok {h : ByteArray} {f : List ByteArray} {way : ByteArray} {A : Ad} (e : wayF h f way = some A) : okB A = true := by
  unfold wayF at e
  split at e
  · cases e
  · split at e
    · split at e
      · rename_i hk; have := Option.some.inj e; subst this; exact hk
      · cases e
    · cases e
theorem read_ok {l : List UInt8} {A : Ad} (e : readF l = some A) : okB A = true := by
  unfold readF at e
  split at e
  · cases e
  · split at e
    · exact way_ok e
    · cases e
theorem cut_more (c : Int) (d : UInt8) (hd : (d.toNat : Int) = c) : ∀ l r : List UInt8, (cutL c (l ++ d :: r)).1 = (cutL c l).1 := by
  intro l
  induction l with
  | nil => intro r; rw [List.nil_append, cut_cons, if_pos hd]; rfl
  | cons b t ih =>
    intro r
    rw [List.cons_append, cut_cons, cut_cons]
    split
    · rfl
    · simp only [ih]
theorem read_cross (l : List UInt8) (h : l.length + 2 ≤ 60) : readF (l ++ [35, 120]) = readF l := by
  have h1 : ¬ 60 < (l ++ [35, 120]).length := by simp; omega
  have h2 : ¬ 60 < l.length := by omega
  unfold readF
  rw [cut_more 35 35 (by decide) l [120], if_neg h1, if_neg h2]

theorem while_stop {d : UInt8} (hd : goesOn d = false) : ∀ r t : List UInt8, (r ++ d :: t).takeWhile goesOn = r.takeWhile goesOn ∧ (r ++ d :: t).dropWhile goesOn = r.dropWhile goesOn ++ d :: t := by
  intro r
  induction r with
  | nil => intro t; simp [hd]
  | cons b r ih =>
    intro t
    have := ih t
    cases hb : goesOn b with
    | false => simp [hb]
    | true => simp [hb, this.1, this.2]
theorem split_two (c : Int) (d : UInt8) (hd : (d.toNat : Int) = c) : ∀ l r : List UInt8, splitL c (l ++ d :: r) = splitL c l ++ splitL c r := by
  intro l
  induction l with
  | nil => intro r; rw [List.nil_append, split_cons, if_pos hd]; rfl
  | cons b t ih =>
    intro r
    rw [List.cons_append, split_cons, split_cons]
    split
    · rw [ih]; rfl
    · rw [ih]
      cases hs : splitL c t with
      | nil => exact absurd hs (split_ne c t)
      | cons y z => simp
theorem normS_app : ∀ X Y : List ByteArray, normS (X ++ Y) = match normS X, normS Y with
    | some x, some y => some (x ++ y)
    | _, _ => none := by
  intro X
  induction X with
  | nil => intro Y; simp only [List.nil_append, normS]; cases normS Y <;> rfl
  | cons a X ih =>
    intro Y
    simp only [List.cons_append, normS, ih]
    cases escB a with
    | false => simp
    | true => cases normS X <;> cases normS Y <;> simp
theorem bare_cut {c : Int} {l : List UInt8} (h : ∀ b ∈ l, (b.toNat : Int) ≠ c) : cutL c l = (l, [], false) := cut_no c l h

theorem clean_idle (X : List ByteArray) (Y : List ByteArray) (h : ∀ s ∈ Y, ∀ acc, cleanStep acc s = acc) : cleanL (X ++ Y) = cleanL X := by
  unfold cleanL
  rw [List.foldl_append]
  generalize X.foldl cleanStep [] = a
  induction Y generalizing a with
  | nil => rfl
  | cons y Y ih => rw [List.foldl_cons, h y (by simp), ih (fun s hs => h s (by simp [hs]))]
theorem step_none (acc : List ByteArray) : cleanStep acc ⟨#[]⟩ = acc := by
  unfold cleanStep; simp
theorem step_dot (acc : List ByteArray) : cleanStep acc ⟨#[46]⟩ = acc := by
  unfold cleanStep; simp [ByteArray.toList_eq]

theorem way_more {house : ByteArray} {frm : List ByteArray} {d t : List UInt8} (hd : ∀ b ∈ d, (b.toNat : Int) ≠ 63) (ht : ∀ b ∈ t, (b.toNat : Int) ≠ 63) (hn : normS ((splitL 47 t).map bs) = some ((splitL 47 t).map bs)) (hi : ∀ s ∈ (splitL 47 t).map bs, ∀ acc, cleanStep acc s = acc) :
    wayF house frm (bs (d ++ 47 :: t)) = wayF house frm (bs d) := by
  rw [way_cut (bare_cut (c := 63) (l := d ++ 47 :: t) (by
    intro b hb
    rcases List.mem_append.1 hb with hb | hb
    · exact hd b hb
    · rcases List.mem_cons.1 hb with rfl | hb
      · decide
      · exact ht b hb)), way_cut (bare_cut (c := 63) hd)]
  have e : splitS 47 (bs (d ++ 47 :: t)) = splitS 47 (bs d) ++ (splitL 47 t).map bs := by
    unfold splitS
    rw [bs_list, bs_list, split_two 47 47 (by decide), List.map_append]
  rw [e, normS_app, hn]
  cases normS (splitS 47 (bs d)) with
  | none => rfl
  | some ps =>
    simp only
    rw [← List.append_assoc, clean_idle _ _ hi]

theorem read_more {l t : List UInt8} {A : Ad} (h : readF l = some A) (hb : ∀ b ∈ l, (b.toNat : Int) ≠ 63 ∧ (b.toNat : Int) ≠ 35) (hl : l.length + (t.length + 1) ≤ 60) (ht : ∀ b ∈ t, (b.toNat : Int) ≠ 63 ∧ (b.toNat : Int) ≠ 35) (hn : normS ((splitL 47 t).map bs) = some ((splitL 47 t).map bs)) (hi : ∀ s ∈ (splitL 47 t).map bs, ∀ acc, cleanStep acc s = acc) :
    readF (l ++ 47 :: t) = some A := by
  rw [← h]
  unfold readF
  rw [bare_cut (c := 35) (l := l) (fun b hb' => (hb b hb').2), bare_cut (c := 35) (l := l ++ 47 :: t) (by
    intro b hb'
    rcases List.mem_append.1 hb' with hb' | hb'
    · exact (hb b hb').2
    · rcases List.mem_cons.1 hb' with rfl | hb'
      · decide
      · exact (ht b hb').2)]
  have h1 : ¬ 60 < (l ++ 47 :: t).length := by simp; omega
  have h2 : ¬ 60 < l.length := by omega
  rw [if_neg h1, if_neg h2]
  dsimp only
  by_cases h2 : l.take 2 = [47, 47]
  · have hl2 : 2 ≤ l.length := by have := congrArg List.length h2; simp at this; omega
    rw [List.take_append_of_le_length hl2, List.drop_append_of_le_length hl2, if_pos h2, if_pos h2]
    unfold wholeF
    have := while_stop (d := 47) (by decide) (l.drop 2) t
    rw [this.1, this.2]
    exact way_more (fun b hb' => (hb b (List.mem_of_mem_drop ((List.dropWhile_sublist _).subset hb'))).1) (fun b hb' => (ht b hb').1) hn hi
  · exfalso
    unfold readF at h
    rw [bare_cut (c := 35) (l := l) (fun b hb' => (hb b hb').2), if_neg h2] at h
    split at h <;> cases h
theorem read_stroke {l : List UInt8} {A : Ad} (h : readF l = some A) (hb : ∀ b ∈ l, (b.toNat : Int) ≠ 63 ∧ (b.toNat : Int) ≠ 35) (hl : l.length + 4 ≤ 60) : readF (l ++ [47]) = some A :=
  read_more h hb (by simp; omega) (by simp) (by decide) (by intro s hs acc; simp [splitL] at hs; subst hs; exact step_none acc)
theorem read_dot {l : List UInt8} {A : Ad} (h : readF l = some A) (hb : ∀ b ∈ l, (b.toNat : Int) ≠ 63 ∧ (b.toNat : Int) ≠ 35) (hl : l.length + 4 ≤ 60) : readF (l ++ [47, 46, 47]) = some A :=
  read_more (t := [46, 47]) h hb (by simp; omega) (by decide) (by decide) (by
    intro s hs acc
    have : s = ⟨#[46]⟩ ∨ s = ⟨#[]⟩ := by simpa [splitL, bs] using hs
    rcases this with rfl | rfl
    · exact step_dot acc
    · exact step_none acc)

/-- great letters -/
def upZ (n : Int) : Int := if 97 ≤ n ∧ n ≤ 122 then n - 32 else n
def goes3 (b : UInt8) : Bool := !(((b.toNat : Int) == 47) || ((b.toNat : Int) == 63) || ((b.toNat : Int) == 35))
def upL (l : List UInt8) : List UInt8 := l.map fun b => toB (upZ b.toNat)
def greatL (r : List UInt8) : List UInt8 := upL (r.takeWhile goes3) ++ r.dropWhile goes3

theorem toB_nat {n : Int} (h0 : 0 ≤ n) (h1 : n ≤ 255) : ((toB n).toNat : Int) = n := by
  unfold toB
  simp [UInt8.toNat_ofNat']
  omega
theorem up_val (b : UInt8) : ((toB (upZ b.toNat)).toNat : Int) = upZ b.toNat := by
  have hb : b.toNat < 256 := b.toNat_lt
  refine toB_nat ?_ ?_ <;> unfold upZ <;> split <;> omega
theorem up_small (b : UInt8) : smallZ ((toB (upZ b.toNat)).toNat) = smallZ b.toNat := by
  rw [up_val]
  unfold smallZ upZ
  split <;> split <;> (try split) <;> omega
theorem up_goes (b : UInt8) : goes3 (toB (upZ b.toNat)) = goes3 b := by
  unfold goes3
  rw [up_val]
  unfold upZ
  split
  · have h1 : ((b.toNat : Int) == 47) = false := by simp; omega
    have h2 : ((b.toNat : Int) == 63) = false := by simp; omega
    have h3 : ((b.toNat : Int) == 35) = false := by simp; omega
    have g1 : ((b.toNat : Int) - 32 == 47) = false := by simp; omega
    have g2 : ((b.toNat : Int) - 32 == 63) = false := by simp; omega
    have g3 : ((b.toNat : Int) - 32 == 35) = false := by simp; omega
    rw [h1, h2, h3, g1, g2, g3]
  · rfl
theorem goes3_on {b : UInt8} (h : goes3 b = true) : goesOn b = true ∧ (b.toNat : Int) ≠ 35 := by
  unfold goes3 at h
  unfold goesOn
  simp at h ⊢
  omega
theorem small_up (l : List UInt8) : smallL (upL l) = smallL l := by
  unfold smallL upL
  rw [List.map_map]
  refine List.map_congr_left fun b _ => ?_
  show toB (smallZ (toB (upZ b.toNat)).toNat) = _
  rw [up_small]
theorem up_len (l : List UInt8) : (upL l).length = l.length := by simp [upL]
theorem great_len (r : List UInt8) : (greatL r).length = r.length := by
  unfold greatL
  rw [List.length_append, up_len, ← List.length_append, List.takeWhile_append_dropWhile]

theorem cut_pre (c : Int) : ∀ a b : List UInt8, (∀ x ∈ a, (x.toNat : Int) ≠ c) → (cutL c (a ++ b)).1 = a ++ (cutL c b).1 := by
  intro a
  induction a with
  | nil => intro b _; rfl
  | cons x a ih =>
    intro b h
    rw [List.cons_append, cut_cons, if_neg (h x (by simp))]
    simp only [List.cons_append]
    rw [ih b (fun y hy => h y (by simp [hy]))]
/-- what comes first behind the house stops it -/
def stops (l : List UInt8) : Prop := l = [] ∨ ∃ b t, l = b :: t ∧ goesOn b = false
theorem while_pre : ∀ a b : List UInt8, (∀ x ∈ a, goesOn x = true) → stops b → (a ++ b).takeWhile goesOn = a ∧ (a ++ b).dropWhile goesOn = b := by
  intro a
  induction a with
  | nil =>
    intro b _ hb
    rcases hb with rfl | ⟨x, t, rfl, hx⟩
    · exact ⟨rfl, rfl⟩
    · simp [hx]
  | cons x a ih =>
    intro b h hb
    have h0 := h x (by simp)
    have := ih b (fun y hy => h y (by simp [hy])) hb
    simp [h0, this.1, this.2]
theorem mem_while {p : UInt8 → Bool} : ∀ (l : List UInt8), ∀ x ∈ l.takeWhile p, p x = true := by
  intro l
  induction l with
  | nil => intro x hx; cases hx
  | cons b t ih =>
    intro x hx
    cases hb : p b with
    | false => rw [List.takeWhile_cons, hb] at hx; cases hx
    | true =>
      rw [List.takeWhile_cons, hb] at hx
      rcases List.mem_cons.1 hx with rfl | hx
      · exact hb
      · exact ih x hx
theorem drop_stops : ∀ r : List UInt8, stops (cutL 35 (r.dropWhile goes3)).1 := by
  intro r
  induction r with
  | nil => exact Or.inl rfl
  | cons b t ih =>
    rw [List.dropWhile_cons]
    cases hb : goes3 b with
    | true => exact ih
    | false =>
      rw [if_neg (by simp), cut_cons]
      by_cases h : (b.toNat : Int) = 35
      · rw [if_pos h]; exact Or.inl rfl
      · rw [if_neg h]
        refine Or.inr ⟨b, _, rfl, ?_⟩
        unfold goes3 at hb
        unfold goesOn
        simp at hb ⊢
        omega
theorem read_great {r : List UInt8} : readF (47 :: 47 :: greatL r) = readF (47 :: 47 :: r) := by
  have hl := great_len r
  have e0 : ∀ x : List UInt8, (cutL 35 (47 :: 47 :: x)).1 = 47 :: 47 :: (cutL 35 x).1 := by
    intro x
    rw [cut_cons, if_neg (by decide), cut_cons, if_neg (by decide)]
  have e1 : (cutL 35 r).1 = r.takeWhile goes3 ++ (cutL 35 (r.dropWhile goes3)).1 := by
    have := cut_pre 35 (r.takeWhile goes3) (r.dropWhile goes3) (fun x hx => (goes3_on (mem_while r x hx)).2)
    rwa [List.takeWhile_append_dropWhile] at this
  have hup : ∀ x ∈ upL (r.takeWhile goes3), goes3 x = true := by
    intro x hx
    unfold upL at hx
    obtain ⟨b, hb, rfl⟩ := List.mem_map.1 hx
    rw [up_goes]; exact mem_while r b hb
  have e2 : (cutL 35 (greatL r)).1 = upL (r.takeWhile goes3) ++ (cutL 35 (r.dropWhile goes3)).1 :=
    cut_pre 35 _ _ (fun x hx => (goes3_on (hup x hx)).2)
  have hs := drop_stops r
  unfold readF
  simp only [List.length_cons, hl]
  rw [e0, e0, e1, e2]
  split
  · rfl
  · have t : ∀ x : List UInt8, (47 :: 47 :: x : List UInt8).take 2 = [47, 47] := fun x => by simp
    rw [if_pos (t _), if_pos (t _)]
    have d : ∀ x : List UInt8, (47 :: 47 :: x : List UInt8).drop 2 = x := fun x => by simp
    rw [d, d]
    unfold wholeF
    have w1 := while_pre _ _ (fun x hx => (goes3_on (mem_while r x hx)).1) hs
    have w2 := while_pre _ _ (fun x hx => (goes3_on (hup x hx)).1) hs
    rw [w1.1, w1.2, w2.1, w2.2, small_up]
theorem read_two {l : List UInt8} {A : Ad} (h : readF l = some A) : ∃ r, l = 47 :: 47 :: r := by
  unfold readF at h
  split at h
  · cases h
  · split at h
    · rename_i h2
      cases l with
      | nil => simp [cutL] at h2
      | cons a l =>
        rw [cut_cons] at h2
        by_cases ha : (a.toNat : Int) = 35
        · rw [if_pos ha] at h2; simp at h2
        · rw [if_neg ha] at h2
          cases l with
          | nil => simp [cutL] at h2
          | cons b l =>
            rw [cut_cons] at h2
            by_cases hb : (b.toNat : Int) = 35
            · rw [if_pos hb] at h2; simp at h2
            · rw [if_neg hb] at h2
              simp at h2
              exact ⟨l, by rw [h2.1, h2.2]⟩
    · cases h
end Go.Proofs.YtcohaalgefcjnaaGreatDoor.RL
/- Plain mathematics of joining. -/
namespace Go.Proofs.YtcohaalgefcjnaaGreatDoor.JnM
open Go.RowKit Go.Proofs.YtcohaalgefcjnaaGreatDoor.EscM Go.Proofs.YtcohaalgefcjnaaGreatDoor.AddrM Go.Proofs.YtcohaalgefcjnaaGreatDoor.ReadM Go.Proofs.YtcohaalgefcjnaaGreatDoor.St Go.Proofs.YtcohaalgefcjnaaGreatDoor.EscL Go.Proofs.YtcohaalgefcjnaaGreatDoor.PathM Go.Proofs.YtcohaalgefcjnaaGreatDoor.Ad1 Go.Proofs.YtcohaalgefcjnaaGreatDoor.Rd1 Go.Proofs.YtcohaalgefcjnaaGreatDoor.RB

/-- where one comes by a text that has no cross -/
def goF (A : Ad) (l : List UInt8) : Option Ad :=
  if l.take 2 = [47, 47] then wholeF (l.drop 2)
  else if l = [] then some A
  else if l.head? = some 47 then wayF A.house [] (bs l)
  else if l.head? = some 63 then wayF A.house A.parts (bs l)
  else wayF A.house A.parts.dropLast (bs l)
def joinF (A : Ad) (l : List UInt8) : Option Ad := if okB A then if 60 < l.length then none else goF A (cutL 35 l).1 else none

theorem join_bad {A : Ad} {l : List UInt8} (h : okB A = false) : joinF A l = none := by unfold joinF; rw [h]; rfl
theorem join_go {A : Ad} {l : List UInt8} (h : okB A = true) (h2 : ¬ 60 < l.length) : joinF A l = goF A (cutL 35 l).1 := by unfold joinF; rw [h, if_neg h2]; rfl
theorem go_whole {A : Ad} {l : List UInt8} (h : l.take 2 = [47, 47]) : goF A l = wholeF (l.drop 2) := by unfold goF; rw [if_pos h]
theorem go_none {A : Ad} : goF A [] = some A := by unfold goF; simp
theorem go_door {A : Ad} {l : List UInt8} (h : ¬ l.take 2 = [47, 47]) (h1 : l.head? = some 47) : goF A l = wayF A.house [] (bs l) := by
  unfold goF; rw [if_neg h, if_neg (by intro e; rw [e] at h1; cases h1), if_pos h1]
theorem go_ask {A : Ad} {l : List UInt8} (h1 : l.head? = some 63) : goF A l = wayF A.house A.parts (bs l) := by
  unfold goF
  rw [if_neg (by intro e; cases l with | nil => cases h1 | cons a t => cases t with | nil => simp at e | cons b t => simp at e h1; rw [h1] at e; exact absurd e.1 (by decide)), if_neg (by intro e; rw [e] at h1; cases h1), if_neg (by rw [h1]; decide), if_pos h1]
theorem go_beside {A : Ad} {l : List UInt8} (h : ¬ l.take 2 = [47, 47]) (h0 : ¬ l = []) (h1 : ¬ l.head? = some 47) (h2 : ¬ l.head? = some 63) : goF A l = wayF A.house A.parts.dropLast (bs l) := by
  unfold goF; rw [if_neg h, if_neg h0, if_neg h1, if_neg h2]
theorem go_ok {A B : Ad} {l : List UInt8} (hA : okB A = true) (h : goF A l = some B) : okB B = true := by
  unfold goF at h
  split at h
  · exact RL.way_ok h
  · split at h
    · have := Option.some.inj h; subst this; exact hA
    · split at h
      · exact RL.way_ok h
      · split at h
        · exact RL.way_ok h
        · exact RL.way_ok h
theorem join_ok {A B : Ad} {l : List UInt8} (h : joinF A l = some B) : okB B = true := by
  unfold joinF at h
  cases hA : okB A with
  | false => rw [hA] at h; cases h
  | true =>
    rw [hA] at h
    simp only [if_true] at h
    split at h
    · cases h
    · exact go_ok hA h
theorem way_house {h : ByteArray} {f : List ByteArray} {way : ByteArray} {A : Ad} (e : wayF h f way = some A) : A.house = h := by
  unfold wayF at e
  split at e
  · cases e
  · split at e
    · split at e
      · have := Option.some.inj e; subst this; rfl
      · cases e
    · cases e
end Go.Proofs.YtcohaalgefcjnaaGreatDoor.JnM
