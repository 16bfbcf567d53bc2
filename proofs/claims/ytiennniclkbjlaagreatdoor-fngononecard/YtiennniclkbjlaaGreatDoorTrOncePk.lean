/- Several texts in one: TrOnce, TrTime, TrCnt, TrEnd, TrNone. -/
import Derived.Test.YtiennniclkbjlaaGreatDoorPgA1Pk
/- Nothing is looked at twice; the kinds of calls. -/
namespace Go.Proofs.YtiennniclkbjlaaGreatDoor.TrM
open Go.Proofs.YtiennniclkbjlaaGreatDoor.EscM Go.Proofs.YtiennniclkbjlaaGreatDoor.AddrM Go.Proofs.YtiennniclkbjlaaGreatDoor.ReadM Go.Proofs.YtiennniclkbjlaaGreatDoor.Ad1 Go.Proofs.YtiennniclkbjlaaGreatDoor.Rd1 Go.Proofs.YtiennniclkbjlaaGreatDoor.RuleM Go.Proofs.YtiennniclkbjlaaGreatDoor.St Go.Proofs.YtiennniclkbjlaaGreatDoor.PgM Go.Proofs.YtiennniclkbjlaaGreatDoor.PgA Go.Proofs.YtiennniclkbjlaaGreatDoor.RoPg Go.Proofs.YtiennniclkbjlaaGreatDoor.LetM Go.Proofs.YtiennniclkbjlaaGreatDoor.Nm Go.Proofs.YtiennniclkbjlaaGreatDoor.GrM Go.Proofs.YtiennniclkbjlaaGreatDoor.RoIt Go.Proofs.YtiennniclkbjlaaGreatDoor.RoLk Go.Proofs.YtiennniclkbjlaaGreatDoor.WdM Go.Proofs.YtiennniclkbjlaaGreatDoor.Wd Go.Proofs.YtiennniclkbjlaaGreatDoor.WdN Go.Proofs.YtiennniclkbjlaaGreatDoor.TpM Go.Proofs.YtiennniclkbjlaaGreatDoor.ReM

variable {L : List Pg} {name : ByteArray} {S : List ByteArray}
/-- not at the way of a notice -/
def npX (x : ByteArray) : Prop := ∃ A, normA x = some A ∧ pathF A ≠ ⟨#[47, 110, 111, 116, 105, 99, 101]⟩
theorem np_door {house : ByteArray} (h : houseB house = true) : ¬ npX (doorS house) := by
  rintro ⟨A, hA, hp⟩
  rw [door_norm h] at hA
  injection hA with hA
  subst hA
  refine hp ?_
  rw [path_ok (door_ok h)]
  unfold pathS pathL doorA joinL
  rfl
/-- how often one called at an address -/
def cntL (lk : List Lk) (x : ByteArray) : Nat := (lk.filter fun z => decide (z.addr = x)).length
theorem cnt_snoc (lk : List Lk) (z : Lk) (x : ByteArray) : cntL (lk ++ [z]) x = cntL lk x + if z.addr = x then 1 else 0 := by
  unfold cntL
  rw [List.filter_append, List.length_append]
  congr 1
  by_cases h : z.addr = x
  · simp [h]
  · simp [h]
theorem cnt_none {lk : List Lk} {x : ByteArray} (h : ∀ z ∈ lk, z.addr ≠ x) : cntL lk x = 0 := by
  unfold cntL
  rw [List.filter_eq_nil_iff.2 fun z hz => by simpa using h z hz]; rfl
structure GoO (t : Tm) : Prop where
  pw : t.lk.Pairwise fun a b => a.addr = b.addr → npX b.addr → a.kind = 3
  ct : ∀ x, npX x → cntL t.lk x ≤ 3
  sn : ∀ z ∈ t.lk, npX z.addr → z.addr ∈ t.seen
  td : ∀ h ∈ t.hs, ∀ y ∈ h.todo, npX y.addr → (cntL t.lk y.addr : Int) = y.tries ∧ ∀ z ∈ t.lk, z.addr = y.addr → z.kind = 3
theorem o_hear {t : Tm} (h : TmOk t) (ho : GoO t) (x : ByteArray) : GoO (hearT t x) := by
  unfold hearT
  cases hA : normA x with
  | none => exact ho
  | some A =>
    dsimp only
    split
    · exact ho
    · next hc =>
      rw [Bool.or_eq_true, decide_eq_true_eq, has_mem] at hc
      have hx : x ∉ t.seen := fun e => hc (Or.inr e)
      refine ⟨ho.pw, ho.ct, fun z hz hn => List.mem_append_left _ (ho.sn z hz hn), fun g hg y hy hn => ?_⟩
      have hnew : y = ⟨x, 0⟩ → (cntL t.lk y.addr : Int) = y.tries ∧ ∀ z ∈ t.lk, z.addr = y.addr → z.kind = 3 := by
        rintro rfl
        have hz : ∀ z ∈ t.lk, z.addr ≠ x := fun z hz e => hx (e ▸ ho.sn z hz (by rw [e]; exact hn))
        exact ⟨by show (cntL t.lk x : Int) = 0; rw [cnt_none hz]; rfl, fun z hzl e => absurd e (hz z hzl)⟩
      rcases put_in_mem h.hn hg with ⟨h1, _⟩ | ⟨h', h1, _, rfl⟩ | ⟨_, rfl⟩
      · exact ho.td g h1 y hy hn
      · rcases add_todo hy with hy | ⟨e, _⟩
        · exact ho.td h' h1 y hy hn
        · exact hnew e
      · rcases add_todo hy with hy | ⟨e, _⟩
        · cases hy
        · exact hnew e
theorem o_hears : ∀ (F : List ByteArray) {t : Tm}, TmOk t → GoO t → GoO (F.foldl hearT t) := by
  intro F
  induction F with
  | nil => intro t _ h; exact h
  | cons x r ih => intro t h ho; exact ih (hear_ok h x) (o_hear h ho x)
theorem o_new (hnm : nameB name = true) : GoO (newT name S) :=
  o_hears S (empty_ok hnm) ⟨List.Pairwise.nil, fun _ _ => Nat.zero_le _, (fun z hz => by cases hz), (fun g hg => by cases hg)⟩
theorem o_step {t t' : Tm} (h : TmOk t) (ho : GoO t) (hs : stepT L t = some t') : GoO t' := by
  obtain ⟨i, m, g, g', a, k, F, _, _, hg, _, _, _, _, rfl, hok, hcase⟩ := step_parts h hs
  have hgm : g ∈ t.hs := List.mem_of_getElem? hg
  have hgk := h.hh g hgm
  refine o_hears F hok ?_
  rcases hcase with ⟨hu, rfl, rfl, rfl, rfl⟩ | ⟨hu, it, rest, ht, rfl, rfl, rfl, rfl⟩
  · have hnp := np_door hgk.nm
    have hne : ∀ x, npX x → ¬ doorS g.name = x := fun x hx e => hnp (e ▸ hx)
    have hcn : ∀ x, npX x → cntL (t.lk ++ [⟨m, doorS g.name, (kindF L (doorS g.name) g.tries).1⟩]) x = cntL t.lk x := fun x hx => by
      rw [cnt_snoc, if_neg (hne x hx)]; rfl
    refine ⟨List.pairwise_append.2 ⟨ho.pw, by simp, fun x hx y hy _ hyn => ?_⟩, fun x hx => by rw [hcn x hx]; exact ho.ct x hx, fun z hz hn => ?_, fun x hx y hy hyn => ?_⟩
    · have e : y = ⟨m, doorS g.name, (kindF L (doorS g.name) g.tries).1⟩ := by simpa using hy
      subst e; exact absurd hyn hnp
    · rcases List.mem_append.1 hz with hz | hz
      · exact ho.sn z hz hn
      · have e : z = ⟨m, doorS g.name, (kindF L (doorS g.name) g.tries).1⟩ := by simpa using hz
        subst e; exact absurd hn hnp
    · have hold : y ∈ g.todo ∨ x ∈ t.hs ∧ y ∈ x.todo := by
        rcases set_mem h.hn hg hx with rfl | ⟨h1, _⟩
        · left
          unfold askH at hy
          dsimp only at hy
          split at hy
          · exact hy
          · exact (List.mem_filter.1 hy).1
        · exact Or.inr ⟨h1, hy⟩
      have hc : (cntL t.lk y.addr : Int) = y.tries ∧ ∀ z ∈ t.lk, z.addr = y.addr → z.kind = 3 := by
        rcases hold with h1 | ⟨h1, h2⟩
        · exact ho.td g hgm y h1 hyn
        · exact ho.td x h1 y h2 hyn
      refine ⟨by show (cntL (t.lk ++ [_]) y.addr : Int) = _; rw [hcn y.addr hyn]; exact hc.1, fun z hz e => ?_⟩
      rcases List.mem_append.1 hz with hz | hz
      · exact hc.2 z hz e
      · have e2 : z = ⟨m, doorS g.name, (kindF L (doorS g.name) g.tries).1⟩ := by simpa using hz
        subst e2; exact absurd e (hne _ hyn)
  · have hitm : it ∈ g.todo := by rw [ht]; exact List.mem_cons_self ..
    obtain ⟨⟨A, hA, hAh⟩, hsn, ht0, ht2⟩ := hgk.td it hitm
    have hc := ho.td g hgm it hitm
    have hon := hgk.on
    rw [ht, List.map_cons, List.nodup_cons] at hon
    refine ⟨List.pairwise_append.2 ⟨ho.pw, by simp, fun x hx y hy e hyn => ?_⟩, fun x hx => ?_, fun z hz hn => ?_, fun x hx y hy hyn => ?_⟩
    · have e2 : y = ⟨m, it.addr, (kindF L it.addr it.tries).1⟩ := by simpa using hy
      subst e2
      exact (hc hyn).2 x hx e
    · rw [cnt_snoc]
      dsimp only
      split
      · next e =>
        subst e
        have := (hc hx).1
        omega
      · exact ho.ct x hx
    · rcases List.mem_append.1 hz with hz | hz
      · exact ho.sn z hz hn
      · have e : z = ⟨m, it.addr, (kindF L it.addr it.tries).1⟩ := by simpa using hz
        subst e; exact hsn
    · -- what is left: another address, or this one anew
      have hold : (∃ x' ∈ t.hs, y ∈ x'.todo ∧ it.addr ≠ y.addr) ∨ (y = ⟨it.addr, it.tries + 1⟩ ∧ (kindF L it.addr it.tries).1 = 3) := by
        rcases set_mem h.hn hg hx with rfl | ⟨h1, h2⟩
        · rcases firstH_todo hy with hy | ⟨e, hk, _⟩
          · exact Or.inl ⟨g, hgm, by rw [ht]; exact List.mem_cons_of_mem _ hy, fun e => hon.1 (by rw [e]; exact List.mem_map_of_mem hy)⟩
          · exact Or.inr ⟨e, hk⟩
        · refine Or.inl ⟨x, h1, hy, fun e => h2 ?_⟩
          obtain ⟨⟨B, hB, hBh⟩, _⟩ := (h.hh x h1).td y hy
          rw [← e, hA] at hB
          injection hB with hB
          rw [← hBh, ← hB, hAh]
      rcases hold with ⟨x', h1, h2, h3⟩ | ⟨rfl, hk⟩
      · obtain ⟨q1, q2⟩ := ho.td x' h1 y h2 hyn
        refine ⟨?_, fun z hz e => ?_⟩
        · show (cntL (t.lk ++ [_]) y.addr : Int) = _
          rw [cnt_snoc, if_neg h3]; exact q1
        · rcases List.mem_append.1 hz with hz | hz
          · exact q2 z hz e
          · have e2 : z = ⟨m, it.addr, (kindF L it.addr it.tries).1⟩ := by simpa using hz
            subst e2; exact absurd e h3
      · obtain ⟨q1, q2⟩ := hc hyn
        refine ⟨?_, fun z hz e => ?_⟩
        · show (cntL (t.lk ++ [_]) it.addr : Int) = it.tries + 1
          rw [cnt_snoc, if_pos rfl]
          push_cast
          rw [q1]
        · rcases List.mem_append.1 hz with hz | hz
          · exact q2 z hz e
          · have e2 : z = ⟨m, it.addr, (kindF L it.addr it.tries).1⟩ := by simpa using hz
            subst e2; exact hk
theorem o_run : ∀ (n : Nat) {t : Tm}, TmOk t → GoO t → GoO (runT L n t) := by
  intro n
  induction n with
  | zero => intro t _ h; exact h
  | succ n ih =>
    intro t h ho
    unfold runT
    split
    · exact ho
    · next t' hs => exact ih (step_ok h hs) (o_step h ho hs)
theorem go_o (hnm : nameB name = true) (n : Nat) : GoO (runT L n (newT name S)) := o_run n (new_ok hnm S) (o_new hnm)
/-- how often one called at an address ahead of a call -/
theorem once_ahead {t : Tm} (ho : GoO t) {i : Nat} (hi : i < t.lk.length) (hn : npX t.lk[i].addr) : (∀ z ∈ t.lk.take i, z.addr = t.lk[i].addr → z.kind = 3) ∧ cntL (t.lk.take i) t.lk[i].addr < 3 := by
  constructor
  · intro z hz e
    obtain ⟨j, hj, rfl⟩ := List.getElem_of_mem hz
    have hji : j < i := by simp at hj; omega
    rw [List.getElem_take] at e ⊢
    exact (List.pairwise_iff_getElem.1 ho.pw) j i (by omega) hi hji e hn
  · have h1 := ho.ct _ hn
    have h2 : cntL (t.lk.take (i + 1)) t.lk[i].addr ≤ cntL t.lk t.lk[i].addr := ((List.take_sublist (i + 1) t.lk).filter _).length_le
    rw [List.take_succ_eq_append_getElem hi, cnt_snoc, if_pos rfl] at h2
    omega
/-- what one gets is what stands there -/
theorem kind_nine {L : List Pg} (hw : wOk L = true) (a : ByteArray) : ¬ (kindF L a 9).1 = 3 := by
  unfold kindF
  split
  · show ¬ (0 : Int) = 3; decide
  · next p hp =>
    have hpm := List.mem_of_find?_eq_some hp
    obtain ⟨i, hi, e⟩ := List.getElem_of_mem hpm
    have h1 := (((wOk_iff L).1 hw).1 i hi).1
    rw [e] at h1
    unfold pgB at h1
    simp only [Bool.and_eq_true, decide_eq_true_eq] at h1
    have hf := h1.1.2
    rw [if_neg (by omega)]
    split
    · show ¬ (1 : Int) = 3; decide
    · show ¬ (2 : Int) = 3; decide
theorem kinds_are (hw : wOk L = true) {t : Tm} (h : GoI L name S t) {x : Lk} (hx : x ∈ t.lk) (hk : ¬ x.kind = 3) : x.kind = (kindF L x.addr 9).1 := by
  obtain ⟨n, hn⟩ := h.kd x hx
  rw [hn] at hk ⊢
  rcases Int.le_total n 9 with h9 | h9
  · rw [kind_same h9 hk]
  · rw [kind_same h9 (kind_nine hw _)]
end Go.Proofs.YtiennniclkbjlaaGreatDoor.TrM
/- When one calls at a house: never ahead of its time. -/
namespace Go.Proofs.YtiennniclkbjlaaGreatDoor.TrM
open Go.Proofs.YtiennniclkbjlaaGreatDoor.EscM Go.Proofs.YtiennniclkbjlaaGreatDoor.AddrM Go.Proofs.YtiennniclkbjlaaGreatDoor.ReadM Go.Proofs.YtiennniclkbjlaaGreatDoor.Ad1 Go.Proofs.YtiennniclkbjlaaGreatDoor.Rd1 Go.Proofs.YtiennniclkbjlaaGreatDoor.RuleM Go.Proofs.YtiennniclkbjlaaGreatDoor.St Go.Proofs.YtiennniclkbjlaaGreatDoor.PgM Go.Proofs.YtiennniclkbjlaaGreatDoor.PgA Go.Proofs.YtiennniclkbjlaaGreatDoor.RoPg Go.Proofs.YtiennniclkbjlaaGreatDoor.LetM Go.Proofs.YtiennniclkbjlaaGreatDoor.Nm Go.Proofs.YtiennniclkbjlaaGreatDoor.GrM Go.Proofs.YtiennniclkbjlaaGreatDoor.RoIt Go.Proofs.YtiennniclkbjlaaGreatDoor.RoLk Go.Proofs.YtiennniclkbjlaaGreatDoor.WdM Go.Proofs.YtiennniclkbjlaaGreatDoor.Wd Go.Proofs.YtiennniclkbjlaaGreatDoor.WdN Go.Proofs.YtiennniclkbjlaaGreatDoor.TpM Go.Proofs.YtiennniclkbjlaaGreatDoor.ReM

variable {L : List Pg} {name : ByteArray} {S : List ByteArray}
/-- the calls at a house -/
def atL (lk : List Lk) (house : ByteArray) : List Lk := lk.filter fun z => decide (houseX z.addr = house)
theorem at_snoc (lk : List Lk) (z : Lk) (house : ByteArray) : atL (lk ++ [z]) house = if houseX z.addr = house then atL lk house ++ [z] else atL lk house := by
  unfold atL
  rw [List.filter_append]
  by_cases h : houseX z.addr = house
  · simp [h]
  · simp [h]
theorem at_mem {lk : List Lk} {house : ByteArray} {z : Lk} : z ∈ atL lk house ↔ z ∈ lk ∧ houseX z.addr = house := by
  unfold atL; rw [List.mem_filter]; simp
theorem at_none {lk : List Lk} {house : ByteArray} (h : ∀ z ∈ lk, houseX z.addr ≠ house) : atL lk house = [] := List.filter_eq_nil_iff.2 fun z hz => by simpa using h z hz

/-- when one called at a house, and when one may again -/
structure HmT (lk : List Lk) (h : Hm) : Prop where
  /-- nobody calls ahead of its time -/
  rd : ∀ z ∈ atL lk h.name, z.time + max h.gp.2.2 1 ≤ h.ready ∧ (z.kind = 3 → z.time + 3 ≤ h.ready)
  /-- one waits between two calls -/
  gap : (atL lk h.name).Pairwise fun a b => a.time + 1 ≤ b.time ∧ (a.kind = 3 → a.time + 3 ≤ b.time)
  /-- one waits as long as its notice says, behind the calls for that -/
  late : ∀ j (hj : j + 1 < (atL lk h.name).length), 2 < j → (atL lk h.name)[j].time + h.gp.2.2 ≤ (atL lk h.name)[j + 1].time
  /-- of those there are three at most -/
  few : h.known = false → ((atL lk h.name).length : Int) = h.tries ∧ h.gp.2.2 = 0
/-- .. at all houses; no calls elsewhere -/
structure GoT (t : Tm) : Prop where
  hs : ∀ h ∈ t.hs, HmT t.lk h
  els : ∀ z ∈ t.lk, houseX z.addr ∈ t.hs.map Hm.name
theorem HmT.add {lk : List Lk} {h : Hm} (hk : HmT lk h) (A : Ad) (x : ByteArray) : HmT lk (addIt A x h) := by
  obtain ⟨f1, f2, f3, f4⟩ := add_fields A x h
  have fn := add_name A x h
  exact ⟨by rw [fn, f2, f4]; exact hk.rd, by rw [fn]; exact hk.gap, fun j hj h2 => by simp only [fn, f2] at hj ⊢; exact hk.late j hj h2, by rw [f1, f2, f3, fn]; exact hk.few⟩
theorem t_hear {t : Tm} (h : TmOk t) (ht : GoT t) (x : ByteArray) : GoT (hearT t x) := by
  unfold hearT
  cases hA : normA x with
  | none => exact ht
  | some A =>
    dsimp only
    split
    · exact ht
    · refine ⟨fun g hg => ?_, fun z hz => put_keeps (ht.els z hz)⟩
      rcases put_in_mem h.hn hg with ⟨h1, _⟩ | ⟨h', h1, _, rfl⟩ | ⟨h1, rfl⟩
      · exact ht.hs g h1
      · exact (ht.hs h' h1).add A x
      · refine HmT.add ?_ A x
        have e : atL t.lk (newH t.name A.house).name = [] := at_none fun z hz e => h1 (by rw [show A.house = houseX z.addr from e.symm]; exact ht.els z hz)
        refine ⟨fun z hz => ?_, ?_, fun j hj => ?_, fun _ => ?_⟩
        · rw [e] at hz; cases hz
        · rw [e]; exact List.Pairwise.nil
        · exfalso; rw [e] at hj; simp at hj
        · rw [e]; exact ⟨rfl, rfl⟩
theorem t_hears : ∀ (F : List ByteArray) {t : Tm}, TmOk t → GoT t → GoT (F.foldl hearT t) := by
  intro F
  induction F with
  | nil => intro t _ h; exact h
  | cons x r ih => intro t h ht; exact ih (hear_ok h x) (t_hear h ht x)
theorem t_new (hnm : nameB name = true) : GoT (newT name S) := t_hears S (empty_ok hnm) ⟨(fun g hg => by cases hg), fun z hz => by cases hz⟩
/-- behind a call -/
theorem HmT.call {lk : List Lk} {g g' : Hm} {m k : Int} {a : ByteArray} (hk : HmT lk g) (ha : houseX a = g.name) (hn : g'.name = g.name) (hm : g.ready ≤ m)
    (hr : m + max g'.gp.2.2 1 ≤ g'.ready ∧ (k = 3 → m + 3 ≤ g'.ready)) (hw : g'.gp.2.2 = g.gp.2.2 ∨ (g.known = false ∧ g.tries ≤ 2)) (hf : g'.known = false → g.known = false ∧ g'.tries = g.tries + 1 ∧ g'.gp.2.2 = 0) : HmT (lk ++ [⟨m, a, k⟩]) g' := by
  have e : atL (lk ++ [⟨m, a, k⟩]) g'.name = atL lk g.name ++ [⟨m, a, k⟩] := by rw [at_snoc, if_pos (by rw [hn]; exact ha), hn]
  refine ⟨fun z hz => ?_, ?_, fun j hj hj2 => ?_, fun hu => ?_⟩
  · rw [e] at hz
    rcases List.mem_append.1 hz with hz | hz
    · have := (hk.rd z hz).1
      have h1 : z.time + 1 ≤ m := by omega
      exact ⟨by omega, fun h3 => by have := (hk.rd z hz).2 h3; omega⟩
    · have e2 : z = ⟨m, a, k⟩ := by simpa using hz
      subst e2; exact hr
  · rw [e]
    refine List.pairwise_append.2 ⟨hk.gap, by simp, fun z hz y hy => ?_⟩
    have e2 : y = ⟨m, a, k⟩ := by simpa using hy
    subst e2
    have := (hk.rd z hz).1
    exact ⟨by dsimp only; omega, fun h3 => by have := (hk.rd z hz).2 h3; dsimp only; omega⟩
  · simp only [e] at hj ⊢
    rw [List.length_append] at hj
    simp only [List.length_singleton] at hj
    have hjl : j < (atL lk g.name).length := by omega
    rw [List.getElem_append_left hjl]
    by_cases hl : j + 1 < (atL lk g.name).length
    · rw [List.getElem_append_left hl]
      rcases hw with hw | ⟨hu, htr⟩
      · rw [hw]; exact hk.late j hl hj2
      · have := (hk.few hu).1; omega
    · rw [List.getElem_append_right (by omega)]
      have hz := hk.rd _ (List.getElem_mem hjl)
      rcases hw with hw | ⟨hu, htr⟩
      · rw [hw]
        simp only [show j + 1 - (atL lk g.name).length = 0 by omega, List.getElem_cons_zero]
        have := hz.1
        omega
      · have := (hk.few hu).1; omega
  · obtain ⟨h1, h2, h3⟩ := hf hu
    rw [e, List.length_append]
    refine ⟨?_, h3⟩
    have := (hk.few h1).1
    push_cast
    simp only [List.length_singleton]
    omega
theorem HmT.other {lk : List Lk} {h : Hm} {z : Lk} (hk : HmT lk h) (hz : houseX z.addr ≠ h.name) : HmT (lk ++ [z]) h := by
  have e : atL (lk ++ [z]) h.name = atL lk h.name := by rw [at_snoc, if_neg hz]
  exact ⟨by rw [e]; exact hk.rd, by rw [e]; exact hk.gap, fun j hj h2 => by simp only [e] at hj ⊢; exact hk.late j hj h2, by rw [e]; exact hk.few⟩
theorem back_two {n : Int} (h0 : 1 ≤ n) (h3 : n ≤ 3) : 2 ≤ backF n := by
  unfold backF
  rw [if_neg (by omega)]
  have : n = 1 ∨ n = 2 ∨ n = 3 := by omega
  rcases this with rfl | rfl | rfl <;> decide
theorem look_after {h : Hm} {now kd tries : Int} (ht : 0 ≤ tries ∧ tries ≤ 2) : now + max h.gp.2.2 1 ≤ (lookH h now kd tries).ready ∧ (kd = 3 → now + 3 ≤ (lookH h now kd tries).ready) := by
  have hb := back_in (tries + 1)
  have hb2 := back_two (n := tries + 1) (by omega) (by omega)
  unfold lookH
  dsimp only
  constructor
  · split <;> omega
  · intro hk
    rw [if_pos hk]; omega
theorem t_step {t t' : Tm} (h : TmOk t) (ht : GoT t) (hs : stepT L t = some t') : GoT t' := by
  obtain ⟨i, m, g, g', a, k, F, _, _, hg, _, _, hmx, _, rfl, hok, hcase⟩ := step_parts h hs
  have hgm : g ∈ t.hs := List.mem_of_getElem? hg
  have hgk := h.hh g hgm
  have hgt := ht.hs g hgm
  have hha : houseX a = g.name := by
    rcases hcase with ⟨_, _, rfl, _⟩ | ⟨_, it, rest, htd, rfl, _⟩
    · exact house_door hgk.nm
    · obtain ⟨⟨A, hA, hAh⟩, _⟩ := hgk.td it (by rw [htd]; exact List.mem_cons_self ..)
      exact (house_norm hA).trans hAh
  have hgn : g'.name = g.name := by
    rcases hcase with ⟨_, _, _, _, rfl⟩ | ⟨_, it, rest, _, _, _, rfl, _⟩
    · exact ask_name ..
    · exact firstH_name ..
  refine t_hears F hok ⟨fun x hx => ?_, fun z hz => ?_⟩
  · rcases set_mem h.hn hg hx with rfl | ⟨h1, h2⟩
    · refine hgt.call hha hgn (by omega) ?_ ?_ ?_
      · rcases hcase with ⟨hu, rfl, rfl, rfl, rfl⟩ | ⟨hu, it, rest, htd, rfl, rfl, rfl, rfl⟩
        · have hl := look_after (h := g) (now := m) (kd := (kindF L (doorS g.name) g.tries).1) hgk.tr
          have hw0 := (hgt.few hu).2
          unfold askH
          dsimp only
          split
          · exact hl
          · obtain ⟨_, hw, _⟩ := says_fine (kindF L (doorS g.name) 2) t.name
            dsimp only
            exact ⟨by omega, fun h3 => by have := hl.2 h3; omega⟩
        · obtain ⟨_, _, ht0, ht2⟩ := hgk.td it (by rw [htd]; exact List.mem_cons_self ..)
          have hl := look_after (h := { g with todo := rest }) (now := m) (kd := (kindF L it.addr it.tries).1) (tries := it.tries) ⟨ht0, ht2⟩
          obtain ⟨f1, f2, f3⟩ := firstH_same L m g it rest
          rw [f2]
          have fr : (firstH L m g it rest).ready = (lookH { g with todo := rest } m (kindF L it.addr it.tries).1 it.tries).ready := by
            unfold firstH
            dsimp only
            split <;> rfl
          rw [fr]; exact hl
      · rcases hcase with ⟨hu, rfl, rfl, rfl, rfl⟩ | ⟨hu, it, rest, htd, rfl, rfl, rfl, rfl⟩
        · exact Or.inr ⟨hu, hgk.tr.2⟩
        · exact Or.inl (by rw [(firstH_same L m g it rest).2.1])
      · intro hu'
        rcases hcase with ⟨hu, rfl, rfl, rfl, rfl⟩ | ⟨hu, it, rest, htd, rfl, rfl, rfl, rfl⟩
        · by_cases hc : (kindF L (doorS g.name) g.tries).1 = 3 ∧ g.tries + 1 < 3
          · obtain ⟨q1, q2, q3, _⟩ := ask_again (nm := t.name) (m := m) hc
            exact ⟨hu, q2, by rw [q3]; exact (hgt.few hu).2⟩
          · rw [ask_known hc] at hu'; cases hu'
        · rw [(firstH_same L m g it rest).1, hu] at hu'; cases hu'
    · exact (ht.hs x h1).other (by dsimp only; rw [hha]; exact fun e => h2 e.symm)
  · show houseX z.addr ∈ (t.hs.set i g').map Hm.name
    rw [set_names hg hgn]
    rcases List.mem_append.1 hz with hz | hz
    · exact ht.els z hz
    · have e : z = ⟨m, a, k⟩ := by simpa using hz
      subst e
      dsimp only
      rw [hha]; exact List.mem_map_of_mem hgm
theorem t_run : ∀ (n : Nat) {t : Tm}, TmOk t → GoT t → GoT (runT L n t) := by
  intro n
  induction n with
  | zero => intro t _ h; exact h
  | succ n ih =>
    intro t h ho
    unfold runT
    split
    · exact ho
    · next t' hs => exact ih (step_ok h hs) (t_step h ho hs)
theorem go_t (hnm : nameB name = true) (n : Nat) : GoT (runT L n (newT name S)) := t_run n (new_ok hnm S) (t_new hnm)
end Go.Proofs.YtiennniclkbjlaaGreatDoor.TrM
/- Doors first, houses, how many calls, barred houses, where nothing stands, shorter trips. -/
namespace Go.Proofs.YtiennniclkbjlaaGreatDoor.TrM
open Go.Proofs.YtiennniclkbjlaaGreatDoor.EscM Go.Proofs.YtiennniclkbjlaaGreatDoor.AddrM Go.Proofs.YtiennniclkbjlaaGreatDoor.ReadM Go.Proofs.YtiennniclkbjlaaGreatDoor.Ad1 Go.Proofs.YtiennniclkbjlaaGreatDoor.Rd1 Go.Proofs.YtiennniclkbjlaaGreatDoor.RuleM Go.Proofs.YtiennniclkbjlaaGreatDoor.St Go.Proofs.YtiennniclkbjlaaGreatDoor.PgM Go.Proofs.YtiennniclkbjlaaGreatDoor.PgA Go.Proofs.YtiennniclkbjlaaGreatDoor.RoPg Go.Proofs.YtiennniclkbjlaaGreatDoor.LetM Go.Proofs.YtiennniclkbjlaaGreatDoor.Nm Go.Proofs.YtiennniclkbjlaaGreatDoor.GrM Go.Proofs.YtiennniclkbjlaaGreatDoor.RoIt Go.Proofs.YtiennniclkbjlaaGreatDoor.RoLk Go.Proofs.YtiennniclkbjlaaGreatDoor.WdM Go.Proofs.YtiennniclkbjlaaGreatDoor.Wd Go.Proofs.YtiennniclkbjlaaGreatDoor.WdN Go.Proofs.YtiennniclkbjlaaGreatDoor.TpM Go.Proofs.YtiennniclkbjlaaGreatDoor.ReM

variable {L : List Pg} {name : ByteArray} {S : List ByteArray}
/-! ### shorter trips -/
theorem run_none {t : Tm} (h : stepT L t = none) : ∀ n, runT L n t = t := by
  intro n
  cases n with
  | zero => rfl
  | succ n =>
    show (match stepT L t with | none => t | some t' => runT L n t') = t
    rw [h]
theorem run_some {t t' : Tm} (h : stepT L t = some t') (n : Nat) : runT L (n + 1) t = runT L n t' := by
  show (match stepT L t with | none => t | some t' => runT L n t') = _
  rw [h]
theorem run_add (a b : Nat) : ∀ (t : Tm), runT L (a + b) t = runT L b (runT L a t) := by
  induction a with
  | zero => intro t; rw [Nat.zero_add]; rfl
  | succ a ih =>
    intro t
    rw [Nat.succ_add]
    cases hs : stepT L t with
    | none => rw [run_none hs, run_none hs, run_none hs]
    | some t' => rw [run_some hs, run_some hs]; exact ih t'
theorem step_lk {t t' : Tm} (h : TmOk t) (hs : stepT L t = some t') : t.lk <+: t'.lk := by
  obtain ⟨i, m, g, g', a, k, F, _, _, hg, _, _, _, _, rfl, _, _⟩ := step_parts h hs
  rw [hears_lk]; exact List.prefix_append _ _
theorem run_lk : ∀ (n : Nat) {t : Tm}, TmOk t → t.lk <+: (runT L n t).lk := by
  intro n
  induction n with
  | zero => intro t _; exact List.prefix_refl _
  | succ n ih =>
    intro t h
    unfold runT
    split
    · exact List.prefix_refl _
    · next t' hs => exact (step_lk h hs).trans (ih (step_ok h hs))
theorem ls_mono (lk : List Lk) : ∀ (r : List Lk), ∀ x ∈ (lsF lk).out, x ∈ (lsF (lk ++ r)).out := by
  intro r
  induction r generalizing lk with
  | nil => intro x hx; rw [List.append_nil]; exact hx
  | cons z r ih =>
    intro x hx
    rw [show lk ++ z :: r = (lk ++ [z]) ++ r by simp]
    refine ih (lk ++ [z]) x ?_
    rw [ls_snoc]
    unfold lsStep
    dsimp only
    split
    · exact ReM.put_mem.2 (Or.inl hx)
    · exact hx
theorem run_out (n : Nat) {t : Tm} (h : TmOk t) : ∀ x ∈ (lsF t.lk).out, x ∈ (lsF (runT L n t).lk).out := by
  obtain ⟨r, hr⟩ := run_lk (L := L) n h
  intro x hx
  rw [← hr]; exact ls_mono _ r x hx

/-! ### how many calls, and how many houses -/
def leftI (l : List It) : Nat := (l.map fun y => 3 - y.tries.toNat).sum
def leftH (h : Hm) : Nat := (if h.known then 0 else 3 - h.tries.toNat) + leftI h.todo
def leftT (H : List Hm) : Nat := (H.map leftH).sum
theorem leftI_app (a b : List It) : leftI (a ++ b) = leftI a + leftI b := by unfold leftI; rw [List.map_append, List.sum_append]
theorem leftT_app (a b : List Hm) : leftT (a ++ b) = leftT a + leftT b := by unfold leftT; rw [List.map_append, List.sum_append]
theorem leftT_cons (h : Hm) (r : List Hm) : leftT (h :: r) = leftH h + leftT r := by unfold leftT; rw [List.map_cons, List.sum_cons]
theorem leftI_sub {a b : List It} (h : List.Sublist a b) : leftI a ≤ leftI b := by
  induction h with
  | slnil => exact Nat.le_refl _
  | cons x _ ih =>
    unfold leftI at ih ⊢
    rw [List.map_cons, List.sum_cons]; omega
  | cons_cons x _ ih =>
    unfold leftI at ih ⊢
    rw [List.map_cons, List.sum_cons, List.map_cons, List.sum_cons]; omega
theorem leftH_add (A : Ad) (x : ByteArray) (h : Hm) : leftH (addIt A x h) ≤ leftH h + 3 := by
  unfold addIt
  split
  · unfold leftH
    dsimp only
    rw [leftI_app]
    have : leftI [⟨x, 0⟩] = 3 := rfl
    omega
  · omega
theorem left_put {nm : ByteArray} {A : Ad} {x : ByteArray} : ∀ (H : List Hm), leftT (putH nm A x H) + 3 * H.length ≤ leftT H + 3 + 3 * (putH nm A x H).length := by
  intro H
  induction H with
  | nil =>
    have h1 := leftH_add A x (newH nm A.house)
    have h2 : leftH (newH nm A.house) = 3 := rfl
    show leftT [addIt A x (newH nm A.house)] + 3 * 0 ≤ _ + 3 + 3 * 1
    rw [leftT_cons]
    have h3 : leftT [] = 0 := rfl
    omega
  | cons h r ih =>
    unfold putH
    split
    · have h1 := leftH_add A x h
      rw [leftT_cons, leftT_cons]
      simp only [List.length_cons]; omega
    · rw [leftT_cons, leftT_cons]
      simp only [List.length_cons]; omega
theorem put_len {nm : ByteArray} {A : Ad} {x : ByteArray} : ∀ (H : List Hm), (putH nm A x H).length ≤ H.length + 1 := by
  intro H
  induction H with
  | nil => exact Nat.le_refl _
  | cons h r ih =>
    unfold putH
    split
    · exact Nat.le_succ _
    · simp only [List.length_cons]; omega
structure GoN (t : Tm) : Prop where
  ct : t.lk.length + leftT t.hs ≤ 3 * (t.seen.length + t.hs.length)
  hl : t.hs.length ≤ t.seen.length
theorem n_hear {t : Tm} (h : GoN t) (x : ByteArray) : GoN (hearT t x) := by
  unfold hearT
  split
  · exact h
  · next A _ =>
    split
    · exact h
    · have h1 := left_put (nm := t.name) (A := A) (x := x) t.hs
      have h2 := put_len (nm := t.name) (A := A) (x := x) t.hs
      have h3 := h.ct
      have h4 := h.hl
      constructor
      · show t.lk.length + leftT (putH t.name A x t.hs) ≤ 3 * ((t.seen ++ [x]).length + (putH t.name A x t.hs).length)
        rw [List.length_append]
        simp only [List.length_singleton]; omega
      · show (putH t.name A x t.hs).length ≤ (t.seen ++ [x]).length
        rw [List.length_append]
        simp only [List.length_singleton]; omega
theorem n_hears : ∀ (F : List ByteArray) {t : Tm}, GoN t → GoN (F.foldl hearT t) := by
  intro F
  induction F with
  | nil => intro t h; exact h
  | cons x r ih => intro t h; exact ih (n_hear h x)
theorem left_set : ∀ {H : List Hm} {i : Nat} {g g' : Hm}, H[i]? = some g → leftH g' + 1 ≤ leftH g → leftT (H.set i g') + 1 ≤ leftT H := by
  intro H
  induction H with
  | nil => intro i g g' hi; cases hi
  | cons h r ih =>
    intro i g g' hi hle
    cases i with
    | zero =>
      have e : h = g := by simpa using hi
      subst e
      rw [List.set_cons_zero, leftT_cons, leftT_cons]; omega
    | succ i =>
      rw [List.set_cons_succ, leftT_cons, leftT_cons]
      have := ih (by simpa using hi) hle
      omega
theorem n_step {t t' : Tm} (h : TmOk t) (hn : GoN t) (hs : stepT L t = some t') : GoN t' := by
  obtain ⟨i, m, g, g', a, k, F, _, _, hg, _, _, _, _, rfl, hok, hcase⟩ := step_parts h hs
  have hgk := h.hh g (List.mem_of_getElem? hg)
  have hle : leftH g' + 1 ≤ leftH g := by
    rcases hcase with ⟨hu, rfl, rfl, rfl, rfl⟩ | ⟨hu, it, rest, ht, rfl, rfl, rfl, rfl⟩
    · have htr := hgk.tr
      by_cases hc : (kindF L (doorS g.name) g.tries).1 = 3 ∧ g.tries + 1 < 3
      · obtain ⟨q1, q2, _, q4⟩ := ask_again (nm := t.name) (m := m) hc
        unfold leftH
        rw [q1, q2, q4, hu]
        simp only [Bool.false_eq_true, if_false]
        omega
      · have q1 := ask_known (nm := t.name) (m := m) hc
        have q2 : leftI (askH L t.name m g).todo ≤ leftI g.todo := by
          unfold askH
          dsimp only
          rw [if_neg hc]
          exact leftI_sub List.filter_sublist
        unfold leftH
        rw [q1, hu]
        simp only [Bool.false_eq_true, if_false, if_true]
        omega
    · obtain ⟨_, _, ht0, ht2⟩ := hgk.td it (by rw [ht]; exact List.mem_cons_self ..)
      obtain ⟨f1, _, f3⟩ := firstH_same L m g it rest
      have q : leftI (firstH L m g it rest).todo + 1 ≤ leftI g.todo := by
        have e : leftI (it :: rest) = (3 - it.tries.toNat) + leftI rest := by unfold leftI; rw [List.map_cons, List.sum_cons]
        rw [ht, e]
        unfold firstH
        dsimp only
        split
        · next hc =>
          rw [leftI_app]
          have e2 : leftI [⟨it.addr, it.tries + 1⟩] = 3 - (it.tries + 1).toNat := rfl
          rw [e2]; omega
        · show leftI rest + 1 ≤ _
          omega
      unfold leftH
      rw [f1, hu]
      simp only [if_true]; omega
  refine n_hears F ⟨?_, ?_⟩
  · have h1 := left_set hg hle
    have h2 := hn.ct
    show (t.lk ++ [_]).length + leftT (t.hs.set i g') ≤ 3 * (t.seen.length + (t.hs.set i g').length)
    rw [List.length_append, List.length_set]
    simp only [List.length_singleton]; omega
  · show (t.hs.set i g').length ≤ _
    rw [List.length_set]; exact hn.hl
theorem n_run : ∀ (n : Nat) {t : Tm}, TmOk t → GoN t → GoN (runT L n t) := by
  intro n
  induction n with
  | zero => intro t _ h; exact h
  | succ n ih =>
    intro t h ho
    unfold runT
    split
    · exact ho
    · next t' hs => exact ih (step_ok h hs) (n_step h ho hs)
theorem go_n (hnm : nameB name = true) (n : Nat) : GoN (runT L n (newT name S)) := n_run n (new_ok hnm S) (n_hears S ⟨Nat.le_refl _, Nat.le_refl _⟩)

/-! ### doors first -/
/-- at the way of a notice -/
def dpX (x : ByteArray) : Prop := ∃ A, normA x = some A ∧ pathF A = ⟨#[47, 110, 111, 116, 105, 99, 101]⟩
theorem dp_door {house : ByteArray} (h : houseB house = true) : dpX (doorS house) := by
  refine ⟨_, door_norm h, ?_⟩
  rw [path_ok (door_ok h)]
  unfold pathS pathL doorA joinL
  rfl
def FstD (lk : List Lk) : Prop := ∀ i (hi : i < lk.length), (∀ j (hj : j < i), houseX lk[j].addr ≠ houseX lk[i].addr) → dpX lk[i].addr
structure GoD (t : Tm) : Prop where
  fst : FstD t.lk
  met : ∀ h ∈ t.hs, h.known = true → ∃ z ∈ t.lk, houseX z.addr = h.name
theorem d_hear {t : Tm} (h : TmOk t) (hd : GoD t) (x : ByteArray) : GoD (hearT t x) := by
  refine ⟨by show FstD (hearT t x).lk; rw [hear_lk]; exact hd.fst, fun g hg hu => ?_⟩
  rw [hear_lk]
  unfold hearT at hg
  split at hg
  · exact hd.met g hg hu
  · split at hg
    · exact hd.met g hg hu
    · rcases put_in_mem h.hn hg with ⟨h1, _⟩ | ⟨h', h1, _, rfl⟩ | ⟨_, rfl⟩
      · exact hd.met g h1 hu
      · rw [(add_fields _ _ h').1] at hu
        rw [add_name]; exact hd.met h' h1 hu
      · rw [(add_fields _ _ _).1] at hu; cases hu
theorem d_hears : ∀ (F : List ByteArray) {t : Tm}, TmOk t → GoD t → GoD (F.foldl hearT t) := by
  intro F
  induction F with
  | nil => intro t _ h; exact h
  | cons x r ih => intro t h ho; exact ih (hear_ok h x) (d_hear h ho x)
theorem d_step {t t' : Tm} (h : TmOk t) (hd : GoD t) (hs : stepT L t = some t') : GoD t' := by
  obtain ⟨i, m, g, g', a, k, F, _, _, hg, _, _, _, _, rfl, hok, hcase⟩ := step_parts h hs
  have hgm : g ∈ t.hs := List.mem_of_getElem? hg
  have hgk := h.hh g hgm
  have hha : houseX a = g.name := by
    rcases hcase with ⟨_, _, rfl, _⟩ | ⟨_, it, rest, htd, rfl, _⟩
    · exact house_door hgk.nm
    · obtain ⟨⟨A, hA, hAh⟩, _⟩ := hgk.td it (by rw [htd]; exact List.mem_cons_self ..)
      exact (house_norm hA).trans hAh
  have hgn : g'.name = g.name := by
    rcases hcase with ⟨_, _, _, _, rfl⟩ | ⟨_, it, rest, _, _, _, rfl, _⟩
    · exact ask_name ..
    · exact firstH_name ..
  refine d_hears F hok ⟨fun j hj hfar => ?_, fun x hx hu => ?_⟩
  · show dpX (t.lk ++ ([⟨m, a, k⟩] : List Lk))[j].addr
    have hj' : j < (t.lk ++ ([⟨m, a, k⟩] : List Lk)).length := hj
    by_cases hjl : j < t.lk.length
    · rw [List.getElem_append_left hjl]
      refine hd.fst j hjl fun q hq => ?_
      have := hfar q hq
      dsimp only at this
      rw [List.getElem_append_left (by omega), List.getElem_append_left hjl] at this
      exact this
    · rw [List.length_append] at hj'
      simp only [List.length_singleton] at hj'
      have ej : j = t.lk.length := by omega
      subst ej
      have e : (t.lk ++ ([⟨m, a, k⟩] : List Lk))[t.lk.length] = ⟨m, a, k⟩ := by simp
      rw [e]
      rcases hcase with ⟨hu, rfl, rfl, rfl, rfl⟩ | ⟨hu, it, rest, ht, rfl, rfl, rfl, rfl⟩
      · exact dp_door hgk.nm
      · exfalso
        obtain ⟨z, hz, hzh⟩ := hd.met g hgm hu
        obtain ⟨q, hq, rfl⟩ := List.getElem_of_mem hz
        have := hfar q hq
        dsimp only at this
        rw [List.getElem_append_left hq, e] at this
        exact this (hzh.trans hha.symm)
  · show ∃ z ∈ t.lk ++ ([⟨m, a, k⟩] : List Lk), houseX z.addr = x.name
    rcases set_mem h.hn hg hx with rfl | ⟨h1, _⟩
    · exact ⟨⟨m, a, k⟩, by simp, by rw [hgn]; exact hha⟩
    · obtain ⟨z, hz, hzh⟩ := hd.met x h1 hu
      exact ⟨z, List.mem_append_left _ hz, hzh⟩
theorem d_run : ∀ (n : Nat) {t : Tm}, TmOk t → GoD t → GoD (runT L n t) := by
  intro n
  induction n with
  | zero => intro t _ h; exact h
  | succ n ih =>
    intro t h ho
    unfold runT
    split
    · exact ho
    · next t' hs => exact ih (step_ok h hs) (d_step h ho hs)
theorem go_d (hnm : nameB name = true) (n : Nat) : GoD (runT L n (newT name S)) :=
  d_run n (new_ok hnm S) (d_hears S (empty_ok hnm) ⟨fun i hi => (by cases hi), fun g hg => (by cases hg)⟩)

/-! ### each call is at a house one heard of -/
theorem one_sum {x : ByteArray} : ∀ {N : List ByteArray}, N.Nodup → x ∈ N → (N.map fun n => if x = n then 1 else 0).sum = 1 := by
  intro N
  induction N with
  | nil => intro _ h; cases h
  | cons n r ih =>
    intro hN hx
    rw [List.nodup_cons] at hN
    rw [List.map_cons, List.sum_cons]
    by_cases he : x = n
    · subst he
      have h0 : ∀ (M : List ByteArray), x ∉ M → (M.map fun n => if x = n then 1 else 0).sum = 0 := by
        intro M
        induction M with
        | nil => intro _; rfl
        | cons y q ihq =>
          intro hy
          rw [List.map_cons, List.sum_cons, if_neg (fun e => hy (by rw [e]; exact List.mem_cons_self ..)), ihq fun e => hy (List.mem_cons_of_mem _ e)]
      rw [if_pos rfl, h0 r hN.1]
    · rcases List.mem_cons.1 hx with e | hx
      · exact absurd e he
      · rw [if_neg he, ih hN.2 hx]
theorem sum_zero (f : ByteArray → Nat) (h : ∀ n, f n = 0) : ∀ (N : List ByteArray), (N.map f).sum = 0 := by
  intro N
  induction N with
  | nil => rfl
  | cons n r ih => rw [List.map_cons, List.sum_cons, ih, h]
theorem sum_plus (f g q : ByteArray → Nat) (h : ∀ n, f n = g n + q n) : ∀ (N : List ByteArray), (N.map f).sum = (N.map g).sum + (N.map q).sum := by
  intro N
  induction N with
  | nil => rfl
  | cons n r ih =>
    rw [List.map_cons, List.sum_cons, List.map_cons, List.sum_cons, List.map_cons, List.sum_cons, ih, h]; omega
theorem at_sum : ∀ {lk : List Lk} {N : List ByteArray}, N.Nodup → (∀ z ∈ lk, houseX z.addr ∈ N) → (N.map fun n => (atL lk n).length).sum = lk.length := by
  intro lk
  induction lk with
  | nil => intro N _ _; exact sum_zero _ (fun _ => rfl) N
  | cons z lk ih =>
    intro N hN h
    have h1 := ih hN fun y hy => h y (List.mem_cons_of_mem _ hy)
    rw [sum_plus (fun n => (atL (z :: lk) n).length) (fun n => (atL lk n).length) (fun n => if houseX z.addr = n then 1 else 0) (fun n => by
      by_cases he : houseX z.addr = n
      · rw [if_pos he]
        unfold atL; rw [List.filter_cons_of_pos (by simpa using he), List.length_cons]
      · rw [if_neg he]
        unfold atL; rw [List.filter_cons_of_neg (by simpa using he)]; rfl) N, h1, one_sum hN (h z (List.mem_cons_self ..))]
    rfl
end Go.Proofs.YtiennniclkbjlaaGreatDoor.TrM
/- The end: barred houses, where nothing stands, and that one comes to it. -/
namespace Go.Proofs.YtiennniclkbjlaaGreatDoor.TrM
open Go.Proofs.YtiennniclkbjlaaGreatDoor.HasM Go.Proofs.YtiennniclkbjlaaGreatDoor.EscM Go.Proofs.YtiennniclkbjlaaGreatDoor.AddrM Go.Proofs.YtiennniclkbjlaaGreatDoor.ReadM Go.Proofs.YtiennniclkbjlaaGreatDoor.Ad1 Go.Proofs.YtiennniclkbjlaaGreatDoor.Rd1 Go.Proofs.YtiennniclkbjlaaGreatDoor.RuleM Go.Proofs.YtiennniclkbjlaaGreatDoor.St Go.Proofs.YtiennniclkbjlaaGreatDoor.PgM Go.Proofs.YtiennniclkbjlaaGreatDoor.PgA Go.Proofs.YtiennniclkbjlaaGreatDoor.RoPg Go.Proofs.YtiennniclkbjlaaGreatDoor.LetM Go.Proofs.YtiennniclkbjlaaGreatDoor.Nm Go.Proofs.YtiennniclkbjlaaGreatDoor.GrM Go.Proofs.YtiennniclkbjlaaGreatDoor.RoIt Go.Proofs.YtiennniclkbjlaaGreatDoor.RoLk Go.Proofs.YtiennniclkbjlaaGreatDoor.WdM Go.Proofs.YtiennniclkbjlaaGreatDoor.Wd Go.Proofs.YtiennniclkbjlaaGreatDoor.WdN Go.Proofs.YtiennniclkbjlaaGreatDoor.TpM Go.Proofs.YtiennniclkbjlaaGreatDoor.ReM

variable {L : List Pg} {name : ByteArray} {S : List ByteArray}
/-! ### a house that always fails is left alone -/
theorem has_all {r : List UInt8} (h : (47 :: r).length ≤ 60) : hasL [47] (47 :: r) = true := by
  unfold hasL
  rw [decide_eq_true h]
  have h1 : ruleL [47] = true := by decide +kernel
  rw [h1]
  have h2 : endsB [47] = false := by decide +kernel
  have h3 : splitL 42 (bodyL [47]) = [[47]] := by decide +kernel
  rw [h2, h3]
  simp [justL, restL]
theorem ban_all {x : ByteArray} {A : Ad} (h : normA x = some A) (nm : ByteArray) (w : Int) (n : Int) : letIt ([nm], [⟨false, ⟨#[47]⟩⟩], w) ⟨x, n⟩ = false := by
  have hok := OB.read_ok (norm_some h).1
  unfold letIt
  rw [h]
  dsimp only
  rw [path_ok hok]
  have hz := (Dr.ok_parts hok).2.2.2.2.2
  have hh : has ⟨false, ⟨#[47]⟩⟩ (pathS A).data.toList = true := by
    unfold has pathS
    show hasL [47] (pathL A) = true
    unfold pathL
    refine has_all ?_
    unfold textL pathL at hz
    simp only [List.length_cons, List.length_append] at hz ⊢
    omega
  unfold letsL letSt
  rw [List.foldl_cons, List.foldl_nil]
  unfold letStep
  rw [hh]
  rfl
structure GoB (L : List Pg) (t : Tm) : Prop where
  br : ∀ h ∈ t.hs, h.known = true → (kindF L (doorS h.name) 2).1 = 3 → h.todo = [] ∧ (atL t.lk h.name).length ≤ 3
theorem b_hear {t : Tm} (h : GoI L name S t) (hb : GoB L t) (x : ByteArray) : GoB L (hearT t x) := by
  refine ⟨fun g hg hu hk => ?_⟩
  rw [hear_lk]
  unfold hearT at hg
  split at hg
  · exact hb.br g hg hu hk
  · next A hA =>
    split at hg
    · exact hb.br g hg hu hk
    · rcases put_in_mem h.ok.hn hg with ⟨h1, _⟩ | ⟨h', h1, h2, rfl⟩ | ⟨_, rfl⟩
      · exact hb.br g h1 hu hk
      · rw [(add_fields _ _ h').1] at hu
        rw [add_name] at hk ⊢
        obtain ⟨q1, q2⟩ := hb.br h' h1 hu hk
        refine ⟨?_, q2⟩
        have hgp := h.gk h' h1 hu
        unfold addIt
        have hl : letsL h'.gp.2.1 (pathF A).data.toList = false := by
          have := ban_all hA name 0 0
          unfold letIt at this
          rw [hA] at this
          rw [hgp]
          have e : saysG (kindF L (doorS h'.name) 2) name = ([name], [⟨false, ⟨#[47]⟩⟩], 0) := by
            generalize kindF L (doorS h'.name) 2 = K at hk ⊢
            obtain ⟨k, tx⟩ := K
            dsimp only at hk
            subst hk
            exact says_fail tx name
          rw [e]; exact this
        rw [hl]; exact q1
      · rw [(add_fields _ _ _).1] at hu; cases hu
theorem b_hears : ∀ (F : List ByteArray) {t : Tm}, GoI L name S t → GoB L t → (∀ x ∈ F, x ∈ S ∨ ∃ y ∈ (lsF t.lk).out, x ∈ fromW L y) → GoB L (F.foldl hearT t) := by
  intro F
  induction F with
  | nil => intro t _ h _; exact h
  | cons x r ih =>
    intro t h hb hF
    refine ih (go_hear h (hF x (List.mem_cons_self ..))) (b_hear h hb x) fun y hy => ?_
    rw [hear_lk]; exact hF y (List.mem_cons_of_mem _ hy)
theorem b_step (hw : wOk L = true) (hnm : nameB name = true) {t t' : Tm} (h : GoI L name S t) (ht : GoT t) (hb : GoB L t) (hs : stepT L t = some t') : GoB L t' := by
  obtain ⟨i, m, g, g', a, k, F, _, _, hg, _, _, _, _, rfl, hok, hcase⟩ := step_parts h.ok hs
  have hgm : g ∈ t.hs := List.mem_of_getElem? hg
  have hgk := h.ok.hh g hgm
  rcases hcase with ⟨hu, rfl, rfl, rfl, rfl⟩ | ⟨hu, it, rest, htd, rfl, rfl, rfl, rfl⟩
  · show GoB L ⟨t.name, m, t.hs.set i (askH L t.name m g), t.seen, t.lk ++ [⟨m, doorS g.name, (kindF L (doorS g.name) g.tries).1⟩]⟩
    refine ⟨fun x hx hxu hk => ?_⟩
    rcases set_mem h.ok.hn hg hx with rfl | ⟨h1, h2⟩
    · rw [ask_name] at hk ⊢
      have hc : ¬ ((kindF L (doorS g.name) g.tries).1 = 3 ∧ g.tries + 1 < 3) := fun hc => by
        rw [(ask_again (nm := t.name) (m := m) hc).1, hu] at hxu; cases hxu
      constructor
      · unfold askH
        dsimp only
        rw [if_neg hc]
        have e : saysG (kindF L (doorS g.name) 2) t.name = ([t.name], [⟨false, ⟨#[47]⟩⟩], 0) := by
          generalize kindF L (doorS g.name) 2 = K at hk ⊢
          obtain ⟨k, tx⟩ := K
          dsimp only at hk
          subst hk
          exact says_fail tx t.name
        refine List.filter_eq_nil_iff.2 fun y hy => ?_
        obtain ⟨⟨A, hA, _⟩, _⟩ := hgk.td y hy
        rw [e, let_addr _ y y.tries, ban_all hA]; decide
      · dsimp only
        rw [at_snoc]
        have hf := ((ht.hs g hgm).few hu).1
        have htr := hgk.tr
        split
        · rw [List.length_append]
          simp only [List.length_singleton]; omega
        · omega
    · dsimp only
      rw [at_snoc, if_neg (by dsimp only; rw [house_door hgk.nm]; exact fun e => h2 e.symm)]
      exact hb.br x h1 hxu hk
  · obtain ⟨h1, h2⟩ := go_first0 hw hnm h hg hu htd hok
    obtain ⟨⟨A, hA, hAh⟩, _, _, ht2⟩ := hgk.td it (by rw [htd]; exact List.mem_cons_self ..)
    refine b_hears _ h1 ⟨fun x hx hxu hk => ?_⟩ fun x hx => Or.inr ?_
    · rcases set_mem h.ok.hn hg hx with rfl | ⟨h3, h4⟩
      · rw [firstH_name] at hk
        rw [(hb.br g hgm hu hk).1] at htd; cases htd
      · dsimp only
        rw [at_snoc, if_neg (by dsimp only; rw [house_norm hA, hAh]; exact fun e => h4 e.symm)]
        exact hb.br x h3 hxu hk
    · by_cases hk : (kindF L it.addr it.tries).1 = 3
      · rw [lead_fail hk] at hx; cases hx
      · rw [lead_from hw hA ht2 hk] at hx
        exact ⟨it.addr, h2 hk, hx⟩
theorem b_run (hw : wOk L = true) (hnm : nameB name = true) : ∀ (n : Nat) {t : Tm}, GoI L name S t → GoT t → GoB L t → GoB L (runT L n t) := by
  intro n
  induction n with
  | zero => intro t _ _ h; exact h
  | succ n ih =>
    intro t h ht hb
    unfold runT
    split
    · exact hb
    · next t' hs => exact ih (go_step hw hnm h hs) (t_step h.ok ht hs) (b_step hw hnm h ht hb hs)
theorem go_b (hw : wOk L = true) (hnm : nameB name = true) (n : Nat) : GoB L (runT L n (newT name S)) :=
  b_run hw hnm n (go_new hnm) (t_new hnm) (b_hears S (go_empty hnm) ⟨fun g hg => by cases hg⟩ fun _ hx => Or.inl hx)
/-- a house whose notice always fails is called at three times at most -/
theorem barred_few {t : Tm} (h : GoI L name S t) (ht : GoT t) (hb : GoB L t) {g : Hm} (hg : g ∈ t.hs) (hk : (kindF L (doorS g.name) 2).1 = 3) : (atL t.lk g.name).length ≤ 3 := by
  cases hu : g.known with
  | true => exact (hb.br g hg hu hk).2
  | false =>
    have := ((ht.hs g hg).few hu).1
    have := (h.ok.hh g hg).tr
    omega

/-! ### one is never late -/
structure GoL (t : Tm) : Prop where
  nw : t.now ≤ 28 * t.lk.length
  rd : ∀ h ∈ t.hs, h.ready ≤ t.now + 28
theorem l_hears : ∀ (F : List ByteArray) {t : Tm}, TmOk t → GoL t → GoL (F.foldl hearT t) := by
  intro F
  induction F with
  | nil => intro t _ h; exact h
  | cons x r ih =>
    intro t h hl
    refine ih (hear_ok h x) ⟨by rw [(hear_now t x).1, hear_lk]; exact hl.nw, fun g hg => ?_⟩
    rw [(hear_now t x).1]
    unfold hearT at hg
    split at hg
    · exact hl.rd g hg
    · split at hg
      · exact hl.rd g hg
      · rcases put_in_mem h.hn hg with ⟨h1, _⟩ | ⟨h', h1, _, rfl⟩ | ⟨_, rfl⟩
        · exact hl.rd g h1
        · rw [(add_fields _ _ h').2.2.2]; exact hl.rd h' h1
        · rw [(add_fields _ _ _).2.2.2]
          show (0 : Int) ≤ _
          have := h.nw; omega
theorem l_step {t t' : Tm} (h : TmOk t) (hl : GoL t) (hs : stepT L t = some t') : GoL t' := by
  obtain ⟨i, m, g, g', a, k, F, _, _, hg, hnm, _, hmx, _, rfl, hok, hcase⟩ := step_parts h hs
  have hgm : g ∈ t.hs := List.mem_of_getElem? hg
  have hgk := h.hh g hgm
  have h1 := hl.rd g hgm
  have h2 := hl.nw
  have h0 := h.nw
  refine l_hears F hok ⟨?_, fun x hx => ?_⟩
  · dsimp only
    rw [List.length_append]
    simp only [List.length_singleton]
    push_cast; omega
  · dsimp only
    rcases set_mem h.hn hg hx with rfl | ⟨h3, _⟩
    · have hlk : ∀ (h' : Hm) (kd tries : Int), 0 ≤ h'.gp.2.2 ∧ h'.gp.2.2 ≤ 20 → (lookH h' m kd tries).ready ≤ m + 28 := by
        intro h' kd tries hw
        have hb := back_in (tries + 1)
        unfold lookH
        dsimp only
        split <;> omega
      rcases hcase with ⟨hu, rfl, rfl, rfl, rfl⟩ | ⟨hu, it, rest, htd, rfl, rfl, rfl, rfl⟩
      · have hq := hlk g (kindF L (doorS g.name) g.tries).1 g.tries hgk.wt
        unfold askH
        dsimp only
        split
        · exact hq
        · obtain ⟨_, hw, _⟩ := says_fine (kindF L (doorS g.name) 2) t.name
          dsimp only
          omega
      · have hq := hlk { g with todo := rest } (kindF L it.addr it.tries).1 it.tries hgk.wt
        have fr : (firstH L m g it rest).ready = (lookH { g with todo := rest } m (kindF L it.addr it.tries).1 it.tries).ready := by
          unfold firstH
          dsimp only
          split <;> rfl
        rw [fr]; exact hq
    · have := hl.rd x h3
      omega
theorem l_run : ∀ (n : Nat) {t : Tm}, TmOk t → GoL t → GoL (runT L n t) := by
  intro n
  induction n with
  | zero => intro t _ h; exact h
  | succ n ih =>
    intro t h ho
    unfold runT
    split
    · exact ho
    · next t' hs => exact ih (step_ok h hs) (l_step h ho hs)
theorem go_l (hnm : nameB name = true) (n : Nat) : GoL (runT L n (newT name S)) :=
  l_run n (new_ok hnm S) (l_hears S (empty_ok hnm) ⟨Int.le_refl _, fun g hg => by cases hg⟩)
/-- few calls: then one ends just where nothing is left -/
theorem end_done {t : Tm} (hl : GoL t) (hk : t.lk.length < 170) (hs : stepT L t = none) : ∀ g ∈ t.hs, g.todo = [] := by
  have hn : nextT t = none := by
    unfold stepT at hs
    split at hs
    · next h => exact h
    · next i m h =>
      exfalso
      obtain ⟨hi, _⟩ := next_spec h
      rw [if_neg (by omega), List.getElem?_eq_getElem hi] at hs
      cases hs
  rcases next_none hn with h | h
  · exact h
  · intro g hg
    cases htd : g.todo with
    | nil => rfl
    | cons y r =>
      have h1 := h g hg (by rw [htd]; simp)
      have h2 := hl.rd g hg
      have h3 := hl.nw
      exfalso
      omega
theorem next_done {t : Tm} (h : ∀ g ∈ t.hs, g.todo = []) : nextT t = none := by
  cases hn : nextT t with
  | none => rfl
  | some p =>
    obtain ⟨i, m⟩ := p
    obtain ⟨hi, hne, _⟩ := next_spec hn
    exact absurd (h _ (List.getElem_mem hi)) hne
theorem step_done {t : Tm} (h : ∀ g ∈ t.hs, g.todo = []) : stepT L t = none := by unfold stepT; rw [next_done h]
/-- so many calls as one can make: then no call more can be made -/
theorem run_end : ∀ (n : Nat) {t : Tm}, TmOk t → 400 ≤ t.lk.length + n → stepT L (runT L n t) = none := by
  intro n
  induction n with
  | zero =>
    intro t h hl
    show stepT L t = none
    unfold stepT
    split
    · rfl
    · rw [if_pos (by omega)]
  | succ n ih =>
    intro t h hl
    cases hs : stepT L t with
    | none => rw [run_none hs]; exact hs
    | some t' =>
      rw [run_some hs]
      refine ih (step_ok h hs) ?_
      obtain ⟨i, m, g, g', a, k, F, _, _, hg, _, _, _, _, rfl, hok, _⟩ := step_parts h hs
      rw [hears_lk, List.length_append]
      simp only [List.length_singleton]; omega
end Go.Proofs.YtiennniclkbjlaaGreatDoor.TrM
/- Where nothing stands one looks at what one begins with. -/
namespace Go.Proofs.YtiennniclkbjlaaGreatDoor.TrM
open Go.Proofs.YtiennniclkbjlaaGreatDoor.HasM Go.Proofs.YtiennniclkbjlaaGreatDoor.EscM Go.Proofs.YtiennniclkbjlaaGreatDoor.AddrM Go.Proofs.YtiennniclkbjlaaGreatDoor.ReadM Go.Proofs.YtiennniclkbjlaaGreatDoor.Ad1 Go.Proofs.YtiennniclkbjlaaGreatDoor.Rd1 Go.Proofs.YtiennniclkbjlaaGreatDoor.RuleM Go.Proofs.YtiennniclkbjlaaGreatDoor.St Go.Proofs.YtiennniclkbjlaaGreatDoor.PgM Go.Proofs.YtiennniclkbjlaaGreatDoor.PgA Go.Proofs.YtiennniclkbjlaaGreatDoor.RoPg Go.Proofs.YtiennniclkbjlaaGreatDoor.LetM Go.Proofs.YtiennniclkbjlaaGreatDoor.Nm Go.Proofs.YtiennniclkbjlaaGreatDoor.GrM Go.Proofs.YtiennniclkbjlaaGreatDoor.RoIt Go.Proofs.YtiennniclkbjlaaGreatDoor.RoLk Go.Proofs.YtiennniclkbjlaaGreatDoor.WdM Go.Proofs.YtiennniclkbjlaaGreatDoor.Wd Go.Proofs.YtiennniclkbjlaaGreatDoor.WdN Go.Proofs.YtiennniclkbjlaaGreatDoor.TpM Go.Proofs.YtiennniclkbjlaaGreatDoor.ReM

variable {name : ByteArray} {S : List ByteArray}
theorem kind_nil (a : ByteArray) (n : Int) : kindF [] a n = (0, ⟨#[]⟩) := rfl
theorem says_nil (a nm : ByteArray) (n : Int) : saysG (kindF [] a n) nm = ([nm], [], 0) := says_else _ _ (by decide) (by decide)
def zH (h : Hm) : Nat := (if h.known then 0 else 1) + h.todo.length
def zT (H : List Hm) : Nat := (H.map zH).sum
theorem zT_cons (h : Hm) (r : List Hm) : zT (h :: r) = zH h + zT r := by unfold zT; rw [List.map_cons, List.sum_cons]
structure GoZ (S : List ByteArray) (t : Tm) : Prop where
  gp : ∀ h ∈ t.hs, h.gp.2.1 = []
  ct : t.lk.length + zT t.hs = t.seen.length + t.hs.length
  un : ∀ h ∈ t.hs, h.known = false → h.todo ≠ []
theorem add_free {A : Ad} {x : ByteArray} {h : Hm} (hg : h.gp.2.1 = []) : addIt A x h = { h with todo := h.todo ++ [⟨x, 0⟩] } := by
  unfold addIt
  rw [hg]; rfl
theorem z_put {nm : ByteArray} {A : Ad} {x : ByteArray} : ∀ (H : List Hm), (∀ h ∈ H, h.gp.2.1 = []) → zT (putH nm A x H) + H.length = zT H + 1 + (putH nm A x H).length := by
  intro H
  induction H with
  | nil =>
    intro _
    show zT [addIt A x (newH nm A.house)] + 0 = 0 + 1 + 1
    rw [add_free rfl]; rfl
  | cons h r ih =>
    intro hg
    have h1 := hg h (List.mem_cons_self ..)
    unfold putH
    split
    · rw [zT_cons, zT_cons, add_free h1]
      unfold zH
      simp only [List.length_append, List.length_cons, List.length_nil]; omega
    · rw [zT_cons, zT_cons]
      have := ih fun g hgm => hg g (List.mem_cons_of_mem _ hgm)
      simp only [List.length_cons]; omega
theorem z_hear {t : Tm} (hn : (t.hs.map Hm.name).Nodup) (h : GoZ S t) (x : ByteArray) : GoZ S (hearT t x) := by
  unfold hearT
  split
  · exact h
  · next A _ =>
    split
    · exact h
    · refine ⟨fun g hg => ?_, ?_, fun g hg hu => ?_⟩
      · rcases put_in_mem hn hg with ⟨h1, _⟩ | ⟨h', h1, _, rfl⟩ | ⟨_, rfl⟩
        · exact h.gp g h1
        · rw [(add_fields _ _ h').2.1]; exact h.gp h' h1
        · rw [(add_fields _ _ _).2.1]; rfl
      · have h1 := z_put (nm := t.name) (A := A) (x := x) t.hs h.gp
        have h2 := h.ct
        show t.lk.length + zT (putH t.name A x t.hs) = (t.seen ++ [x]).length + (putH t.name A x t.hs).length
        rw [List.length_append]
        simp only [List.length_singleton]; omega
      · rcases put_in_mem hn hg with ⟨h1, _⟩ | ⟨h', h1, _, rfl⟩ | ⟨_, rfl⟩
        · exact h.un g h1 hu
        · rw [add_free (h.gp h' h1)]; simp
        · rw [add_free rfl]; simp
theorem z_hears : ∀ (F : List ByteArray) {t : Tm}, TmOk t → GoZ S t → GoZ S (F.foldl hearT t) := by
  intro F
  induction F with
  | nil => intro t _ h; exact h
  | cons x r ih => intro t h hz; exact ih (hear_ok h x) (z_hear h.hn hz x)
theorem z_set : ∀ {H : List Hm} {i : Nat} {g g' : Hm}, H[i]? = some g → zH g' + 1 = zH g → zT (H.set i g') + 1 = zT H := by
  intro H
  induction H with
  | nil => intro i g g' hi; cases hi
  | cons h r ih =>
    intro i g g' hi hle
    cases i with
    | zero =>
      have e : h = g := by simpa using hi
      subst e
      rw [List.set_cons_zero, zT_cons, zT_cons]; omega
    | succ i =>
      rw [List.set_cons_succ, zT_cons, zT_cons]
      have := ih (by simpa using hi) hle
      omega
theorem let_free {g : List ByteArray × List Ru × Int} (h : g.2.1 = []) (y : It) : letIt g y = true := by
  unfold letIt
  rw [h]
  split <;> rfl
theorem z_step {t t' : Tm} (h : TmOk t) (hz : GoZ S t) (hs : stepT [] t = some t') : GoZ S t' ∧ t'.seen = t.seen := by
  obtain ⟨i, m, g, g', a, k, F, _, _, hg, _, _, _, hne, rfl, hok, hcase⟩ := step_parts h hs
  have hgm : g ∈ t.hs := List.mem_of_getElem? hg
  have hF : F = [] := by
    rcases hcase with ⟨_, hF, _⟩ | ⟨_, it, rest, _, _, _, _, hF⟩
    · exact hF
    · rw [hF]
      unfold leadT
      split
      · rw [kind_nil]; exact lead_no (by decide) (by decide)
      · rfl
  subst hF
  have hg' : g'.gp.2.1 = [] ∧ zH g' + 1 = zH g ∧ g'.known = true := by
    rcases hcase with ⟨hu, _, rfl, rfl, rfl⟩ | ⟨hu, it, rest, ht, rfl, rfl, rfl, _⟩
    · have hc : ¬ ((kindF [] (doorS g.name) g.tries).1 = 3 ∧ g.tries + 1 < 3) := fun e => absurd e.1 (by rw [kind_nil]; decide)
      unfold askH
      dsimp only
      rw [if_neg hc]
      refine ⟨by rw [says_nil], ?_, rfl⟩
      unfold zH
      dsimp only
      rw [hu, List.filter_eq_self.2 fun y _ => let_free (by rw [says_nil]) y]
      simp only [Bool.false_eq_true, if_false, if_true]; omega
    · obtain ⟨f1, f2, _⟩ := firstH_same [] m g it rest
      refine ⟨by rw [f2]; exact hz.gp g hgm, ?_, by rw [f1]; exact hu⟩
      have hc : ¬ ((kindF [] it.addr it.tries).1 = 3 ∧ it.tries + 1 < 3) := fun e => absurd e.1 (by rw [kind_nil]; decide)
      have ft : (firstH [] m g it rest).todo = rest := by
        unfold firstH
        dsimp only
        rw [if_neg hc]
        rfl
      unfold zH
      rw [f1, ft, hu, ht]
      simp only [if_true, List.length_cons]; omega
  refine ⟨⟨fun x hx => ?_, ?_, fun x hx hu => ?_⟩, rfl⟩
  · rcases set_mem h.hn hg hx with rfl | ⟨h1, _⟩
    · exact hg'.1
    · exact hz.gp x h1
  · show (t.lk ++ [_]).length + zT (t.hs.set i g') = t.seen.length + (t.hs.set i g').length
    have h1 := z_set hg hg'.2.1
    have h2 := hz.ct
    rw [List.length_append, List.length_set]
    simp only [List.length_singleton]; omega
  · rcases set_mem h.hn hg hx with rfl | ⟨h1, _⟩
    · rw [hg'.2.2] at hu; cases hu
    · exact hz.un x h1 hu
theorem z_run : ∀ (n : Nat) {t : Tm}, TmOk t → GoZ S t → GoZ S (runT [] n t) ∧ (runT [] n t).seen = t.seen := by
  intro n
  induction n with
  | zero => intro t _ h; exact ⟨h, rfl⟩
  | succ n ih =>
    intro t h hz
    cases hs : stepT [] t with
    | none => rw [run_none hs]; exact ⟨hz, rfl⟩
    | some t' =>
      rw [run_some hs]
      obtain ⟨h1, h2⟩ := z_step h hz hs
      obtain ⟨h3, h4⟩ := ih (step_ok h hs) h1
      exact ⟨h3, h4.trans h2⟩
theorem seen_len : ∀ (F : List ByteArray) (t : Tm), (F.foldl hearT t).seen.length ≤ t.seen.length + F.length := by
  intro F
  induction F with
  | nil => intro t; exact Nat.le_refl _
  | cons x r ih =>
    intro t
    refine Nat.le_trans (ih (hearT t x)) ?_
    have : (hearT t x).seen.length ≤ t.seen.length + 1 := by
      unfold hearT
      split
      · exact Nat.le_succ _
      · split
        · exact Nat.le_succ _
        · show (t.seen ++ [x]).length ≤ _
          simp
    simp only [List.length_cons]; omega
/-- the end of it -/
theorem none_end (hnm : nameB name = true) (hS : S.length ≤ 12) : (∀ g ∈ (runT [] 400 (newT name S)).hs, g.todo = []) ∧ (∀ x ∈ (lsF (runT [] 400 (newT name S)).lk).out, x ∈ S) ∧ (∀ x ∈ (runT [] 400 (newT name S)).seen, x ∈ (lsF (runT [] 400 (newT name S)).lk).out) ∧ (runT [] 400 (newT name S)).lk.length = (runT [] 400 (newT name S)).seen.length + (runT [] 400 (newT name S)).hs.length := by
  have hw : wOk [] = true := rfl
  have hI := go_all (S := S) hw hnm 400
  have hz0 : GoZ S (newT name S) := z_hears S (empty_ok hnm) ⟨(fun g hg => by cases hg), rfl, fun g hg => by cases hg⟩
  obtain ⟨hz, hse⟩ := z_run 400 (new_ok hnm S) hz0
  have hl := go_l (L := []) (S := S) hnm 400
  have hn := go_n (L := []) (S := S) hnm 400
  have hse2 := run_end (L := []) 400 (new_ok hnm S) (by omega)
  have hsl : (newT name S).seen.length ≤ S.length := by
    have := seen_len S ⟨name, 0, [], [], []⟩
    rw [show (⟨name, 0, [], [], []⟩ : Tm).seen.length = 0 from rfl, Nat.zero_add] at this
    exact this
  rw [← hse] at hsl
  generalize runT [] 400 (newT name S) = t at *
  have hct := hz.ct
  have hhl := hn.hl
  have hd := end_done hl (by omega) hse2
  refine ⟨hd, fun x hx => ?_, fun x hx => ?_, ?_⟩
  · obtain ⟨h1, _⟩ := hI.lo x hx
    rcases hI.so x h1 with h2 | ⟨y, _, h2⟩
    · exact h2
    · unfold fromW at h2
      rw [hw] at h2
      split at h2
      · split at h2
        · rw [kind_nil, lead_no (by decide) (by decide)] at h2; cases h2
        · cases h2
      · cases h2
  · obtain ⟨g, hg, hgn⟩ := List.mem_map.1 (hI.sh x hx)
    rcases hI.led x hx g hg hgn with h1 | h1 | h1 | ⟨_, h1⟩
    · rw [hd g hg] at h1; cases h1
    · exact h1
    · rw [kind_nil] at h1; exact absurd h1 (by decide)
    · rw [let_free (hz.gp g hg)] at h1; cases h1
  · have h0 : ∀ (H : List Hm), (∀ g ∈ H, g.known = true ∧ g.todo = []) → zT H = 0 := by
      intro H
      induction H with
      | nil => intro _; rfl
      | cons h r ih =>
        intro hh
        obtain ⟨h1, h2⟩ := hh h (List.mem_cons_self ..)
        rw [zT_cons, ih fun g hg => hh g (List.mem_cons_of_mem _ hg)]
        unfold zH
        rw [h1, h2]; rfl
    have : zT t.hs = 0 := h0 _ fun g hg => by
      refine ⟨?_, hd g hg⟩
      cases hu : g.known with
      | true => rfl
      | false => exact absurd (hd g hg) (hz.un g hg hu)
    omega
end Go.Proofs.YtiennniclkbjlaaGreatDoor.TrM
