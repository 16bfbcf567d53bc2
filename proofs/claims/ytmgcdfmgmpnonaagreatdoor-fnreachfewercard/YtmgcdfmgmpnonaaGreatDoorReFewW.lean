/- What is not come to changes nothing: of worlds. -/
import Derived.Test.YtmgcdfmgmpnonaaGreatDoorReFew
import Derived.Test.YtmgcdfmgmpnonaaGreatDoorPgA1Pk
namespace Go.Proofs.YtmgcdfmgmpnonaaGreatDoor.ReM
open Go.RowKit Go.Proofs.YtmgcdfmgmpnonaaGreatDoor.EscM Go.Proofs.YtmgcdfmgmpnonaaGreatDoor.ReadM Go.Proofs.YtmgcdfmgmpnonaaGreatDoor.LetM Go.Proofs.YtmgcdfmgmpnonaaGreatDoor.RuleM Go.Proofs.YtmgcdfmgmpnonaaGreatDoor.AddrM Go.Proofs.YtmgcdfmgmpnonaaGreatDoor.Ad1 Go.Proofs.YtmgcdfmgmpnonaaGreatDoor.Rd1 Go.Proofs.YtmgcdfmgmpnonaaGreatDoor.EscL Go.Proofs.YtmgcdfmgmpnonaaGreatDoor.St Go.Proofs.YtmgcdfmgmpnonaaGreatDoor.PgM Go.Proofs.YtmgcdfmgmpnonaaGreatDoor.PgA Go.Proofs.YtmgcdfmgmpnonaaGreatDoor.RoPg Go.Proofs.YtmgcdfmgmpnonaaGreatDoor.WdM Go.Proofs.YtmgcdfmgmpnonaaGreatDoor.Wd Go.Proofs.YtmgcdfmgmpnonaaGreatDoor.WdN Go.Proofs.YtmgcdfmgmpnonaaGreatDoor.Nm Go.Proofs.YtmgcdfmgmpnonaaGreatDoor.RB

/-- a world without one of its pages -/
def fewL (L : List Pg) (k : Nat) : List Pg := L.take k ++ L.drop (k + 1)
theorem few_split {L : List Pg} {k : Nat} (hk : k < L.length) : L = L.take k ++ L[k] :: L.drop (k + 1) := by
  rw [← List.drop_eq_getElem_cons hk, List.take_append_drop]
theorem find_few {L : List Pg} {k : Nat} (hk : k < L.length) {s : ByteArray} (h : sameA s L[k] = false) : (fewL L k).find? (sameA s) = L.find? (sameA s) := by
  unfold fewL
  conv => rhs; rw [few_split hk]
  rw [List.find?_append, List.find?_append, List.find?_cons_of_neg (by rw [h]; decide)]
theorem kind_few {L : List Pg} {k : Nat} (hk : k < L.length) {s : ByteArray} (h : sameA s L[k] = false) (t : Int) : kindF (fewL L k) s t = kindF L s t := by unfold kindF; rw [find_few hk h]
theorem same_addr {s : ByteArray} {p : Pg} : sameA s p = true ↔ p.addr = s := by
  unfold sameA
  constructor
  · intro h
    have e1 : p.addr.toList = s.toList := by simpa using h
    rw [ByteArray.toList_eq, ByteArray.toList_eq] at e1
    exact ByteArray.ext (Array.toList_inj.1 e1)
  · intro h; rw [h]; simp
theorem same_not {s : ByteArray} {p : Pg} (h : s ≠ p.addr) : sameA s p = false := by
  cases hq : sameA s p with
  | false => rfl
  | true => exact absurd (same_addr.1 hq).symm h
theorem door_ok {house : ByteArray} (h : houseB house = true) : okB (doorA house) = true := by
  have hz : house.size ≤ 5 := by unfold houseB at h; simp at h; omega
  have h1 : ([⟨#[110, 111, 116, 105, 99, 101]⟩] : List ByteArray).all partB = true := by decide +kernel
  have h2 : normB ⟨#[]⟩ = true := by decide +kernel
  have h3 : (textL (doorA house)).length ≤ 60 := by
    unfold textL pathL doorA joinL
    have : house.data.toList.length = house.size := by simp
    simp; omega
  unfold okB
  show (houseB house && decide (([⟨#[110, 111, 116, 105, 99, 101]⟩] : List ByteArray).length ≤ 5) && ([⟨#[110, 111, 116, 105, 99, 101]⟩] : List ByteArray).all partB && (false || (⟨#[]⟩ : ByteArray).toList.isEmpty) && normB ⟨#[]⟩ && decide ((textL (doorA house)).length ≤ 60)) = true
  rw [h, h1, h2, decide_eq_true h3]
  have : (⟨#[]⟩ : ByteArray).toList.isEmpty = true := by rw [ByteArray.toList_eq]; rfl
  rw [this]; rfl
theorem wOk_pw {L : List Pg} : wOk L = true ↔ (∀ p ∈ L, pgB p = true) ∧ L.Pairwise (fun p q => sameA q.addr p = false) ∧ L.length ≤ 12 := by
  rw [wOk_iff]
  constructor
  · rintro ⟨h, hl⟩
    refine ⟨fun p hp => ?_, List.pairwise_iff_getElem.2 (fun i j hi hj hij => ?_), hl⟩
    · obtain ⟨i, hi, rfl⟩ := List.mem_iff_getElem.1 hp
      exact (h i hi).1
    · have := (h j hj).2
      rw [List.any_eq_false] at this
      have hm : L[i] ∈ L.take j := by rw [List.mem_iff_getElem]; exact ⟨i, by simp; omega, by simp⟩
      simpa using this _ hm
  · rintro ⟨h1, h2, hl⟩
    refine ⟨fun i hi => ⟨h1 _ (List.getElem_mem hi), ?_⟩, hl⟩
    rw [List.any_eq_false]
    intro p hp
    obtain ⟨j, hj, e⟩ := List.mem_iff_getElem.1 hp
    have hji : j < i := by simp at hj; omega
    have := List.pairwise_iff_getElem.1 h2 j i (by omega) hi hji
    rw [← e]; simpa using this
theorem wOk_few {L : List Pg} (h : wOk L = true) (k : Nat) (hk : k < L.length) : wOk (fewL L k) = true := by
  rw [wOk_pw] at h ⊢
  have hs : List.Sublist (fewL L k) L := by
    conv => rhs; rw [few_split hk]
    exact List.Sublist.append_left (List.sublist_cons_self _ _) _
  exact ⟨fun p hp => h.1 p (hs.subset hp), h.2.1.sublist hs, Nat.le_trans hs.length_le h.2.2⟩
theorem door_other {L : List Pg} {k : Nat} {hk : k < L.length} {B : Ad} {house : ByteArray} (hh : houseB house = true) (hB : normA L[k].addr = some B) (hp : pathF B ≠ ⟨#[47, 110, 111, 116, 105, 99, 101]⟩) : doorS house ≠ L[k].addr := by
  intro e
  have hr := (norm_some hB).1
  have hd := door_ok hh
  have h1 : readF (doorS house).data.toList = some (doorA house) := by
    rw [← door_text hh, Door.text_data hd]; exact read_back hd
  rw [← e, h1] at hr
  have e2 : doorA house = B := Option.some.inj hr
  refine hp ?_
  rw [← e2, path_ok hd]
  unfold pathS pathL doorA joinL
  rfl
theorem kind_own {L : List Pg} (h : wOk L = true) {k : Nat} (hk : k < L.length) (hf : L[k].fails < 3) : ¬ (kindF L L[k].addr 2).1 = 3 := by
  have hpw := (wOk_pw.1 h).2.1
  have hs : L.find? (sameA L[k].addr) = some L[k] := by
    rw [List.find?_eq_some_iff_getElem]
    refine ⟨same_addr.2 rfl, k, hk, rfl, fun j hj => ?_⟩
    have := List.pairwise_iff_getElem.1 hpw j k (by omega) hk hj
    simpa using this
  unfold kindF
  rw [hs]
  dsimp only
  rw [if_neg (by omega)]
  split <;> simp
theorem kind_gone {L : List Pg} (h : wOk L = true) {k : Nat} (hk : k < L.length) : (kindF (fewL L k) L[k].addr 2).1 = 0 := by
  have hpw := (wOk_pw.1 h).2.1
  have hs : (fewL L k).find? (sameA L[k].addr) = none := by
    rw [List.find?_eq_none]
    intro p hp
    have hq : sameA L[k].addr p = false := by
      rcases List.mem_append.1 hp with hp | hp
      · obtain ⟨j, hj, e⟩ := List.mem_iff_getElem.1 hp
        have hjk : j < k := by simp at hj; omega
        have := List.pairwise_iff_getElem.1 hpw j k (by omega) hk hjk
        rw [← e]; simpa using this
      · obtain ⟨j, hj, e⟩ := List.mem_iff_getElem.1 hp
        have hjl : k + 1 + j < L.length := by simp at hj; omega
        have := List.pairwise_iff_getElem.1 hpw k (k + 1 + j) hk hjl (by omega)
        have e2 : p = L[k + 1 + j] := by rw [← e]; simp
        refine same_not fun e3 => ?_
        rw [← e2] at this
        rw [same_addr.2 e3] at this
        cases this
    rw [hq]; decide
  unfold kindF
  rw [hs]
theorem from_few {L : List Pg} (h : wOk L = true) {k : Nat} (hk : k < L.length) {x : ByteArray} (hx : x ≠ L[k].addr) : fromW L x = fromW (fewL L k) x := by
  unfold fromW
  rw [h, wOk_few h k hk, kind_few hk (same_not hx)]
theorem ok_few {L : List Pg} (h : wOk L = true) {k : Nat} (hk : k < L.length) {B : Ad} (hB : normA L[k].addr = some B) (hp : pathF B ≠ ⟨#[47, 110, 111, 116, 105, 99, 101]⟩) (hf : L[k].fails < 3) (name x : ByteArray) : okR (fewL L k) name x = okR L name x := by
  have hl : letsW (fewL L k) name x = letsW L name x := by
    unfold letsW
    cases hr : readF x.data.toList with
    | none => rfl
    | some A =>
      dsimp only
      have hh := (Dr.ok_parts (OB.read_ok hr)).1
      rw [h, wOk_few h k hk, kind_few hk (same_not (door_other hh hB hp))]
  unfold okR
  rw [hl]
  by_cases hx : x = L[k].addr
  · subst hx
    rw [decide_eq_false (kind_own h hk hf), decide_eq_false (by rw [kind_gone h hk]; decide)]
  · rw [kind_few hk (same_not hx)]
/-- what is not come to changes nothing -/
theorem reach_few {L : List Pg} (h : wOk L = true) {k : Nat} (hk : k < L.length) {B : Ad} (hB : normA L[k].addr = some B) (hp : pathF B ≠ ⟨#[47, 110, 111, 116, 105, 99, 101]⟩) (hf : L[k].fails < 3) (name : ByteArray) (S : List ByteArray) (hz : L[k].addr ∉ reachW L name S) : reachW (fewL L k) name S = reachW L name S := by
  have hok : okR (fewL L k) name = okR L name := funext fun x => ok_few h hk hB hp hf name x
  unfold reachW at hz ⊢
  rw [wOk_few h k hk]
  rw [h] at hz ⊢
  split at hz
  · next hc =>
    rw [if_pos hc, if_pos hc, hok]
    have e1 := lst_enough (ok := okR L name) (next := fromW (fewL L k)) (U := uR (fewL L k) S) (fun x _ y hy => from_uni hy) (uR (fewL L k) S).length ((uR (fewL L k) S).length + (uR L S).length) 0 (putsL [] (S.filter nR)) [] (puts_nodup List.nodup_nil) (fun x hx => by
      rcases puts_mem.1 hx with hx | hx
      · cases hx
      · exact List.mem_append_left _ (List.mem_filter.1 hx).1) (by omega) (by omega)
    have e2 := lst_enough (ok := okR L name) (next := fromW L) (U := uR L S) (fun x _ y hy => from_uni hy) (uR L S).length ((uR (fewL L k) S).length + (uR L S).length) 0 (putsL [] (S.filter nR)) [] (puts_nodup List.nodup_nil) (fun x hx => by
      rcases puts_mem.1 hx with hx | hx
      · cases hx
      · exact List.mem_append_left _ (List.mem_filter.1 hx).1) (by omega) (by omega)
    rw [e2] at hz
    rw [e1, e2]
    exact lst_same L[k].addr (fun x hx => from_few h hk hx) _ _ _ _ hz
  · next hc => rw [if_neg hc, if_neg hc]
end Go.Proofs.YtmgcdfmgmpnonaaGreatDoor.ReM
