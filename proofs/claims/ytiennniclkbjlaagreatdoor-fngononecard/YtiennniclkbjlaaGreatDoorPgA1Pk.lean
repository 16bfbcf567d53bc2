/- Several texts in one: PgA1, ReMath, ReCn, ReInv, PgA2, PgAsc, PgA3, PgA4, Wd4, PgLaws, WdF, WdN, WdN2, WdN3, WdN4, ReW, ReA, ReCl, ReLaws, ReU, PgA5, Wd5, ReS, Tp1, Tp2, TrMath, Tq1, TrSay, ReFew, ReFewW, TrOk, Tq2, TrPut, TrGo, TrGo2, TrTop. -/
import Derived.Test.YtiennniclkbjlaaGreatDoorJoin1Pk
import Derived.Test.YtiennniclkbjlaaGreatDoorPage4
import Derived.Test.YtiennniclkbjlaaGreatDoorDraw5Pk
import Derived.Test.YtiennniclkbjlaaGreatDoorStrsPk
import Derived.Test.YtiennniclkbjlaaGreatDoorStep
import Derived.Deep.AppendLies
import Derived.Test.YtiennniclkbjlaaGreatDoorRead3Pk
import Derived.Test.YtiennniclkbjlaaGreatDoorDraw14Pk
import Derived.Test.YtiennniclkbjlaaGreatDoorGrpMathPk
import Derived.Test.YtiennniclkbjlaaGreatDoorLets1
import Derived.Test.YtiennniclkbjlaaGreatDoorLets2Pk
import Derived.Deep.RegionHeldLaw
import Derived.Test.YtiennniclkbjlaaGreatDoorAddr1Pk
import Derived.Test.YtiennniclkbjlaaGreatDoorTpMath
/- Where pages lead: mathematics, and joins by texts of any length. -/
namespace Go.Proofs.YtiennniclkbjlaaGreatDoor.PgA
open Go.RowKit Go.Proofs.YtiennniclkbjlaaGreatDoor.EscM Go.Proofs.YtiennniclkbjlaaGreatDoor.St Go.Proofs.YtiennniclkbjlaaGreatDoor.AddrM Go.Proofs.YtiennniclkbjlaaGreatDoor.ReadM Go.Proofs.YtiennniclkbjlaaGreatDoor.EscL Go.Proofs.YtiennniclkbjlaaGreatDoor.Ad1 Go.Proofs.YtiennniclkbjlaaGreatDoor.Dr Go.Proofs.YtiennniclkbjlaaGreatDoor.Im Go.Proofs.YtiennniclkbjlaaGreatDoor.Rd1 Go.Proofs.YtiennniclkbjlaaGreatDoor.Door Go.Proofs.YtiennniclkbjlaaGreatDoor.JnM Go.Proofs.YtiennniclkbjlaaGreatDoor.Jn Go.Proofs.YtiennniclkbjlaaGreatDoor.PgM Go.Proofs.YtiennniclkbjlaaGreatDoor.RB

theorem join_long {A : Ad} {l : List UInt8} (h : 60 < l.length) : joinF A l = none := by
  unfold joinF
  cases okB A with
  | false => rfl
  | true => rw [if_pos h]; rfl

set_option maxRecDepth 100000 in
set_option maxHeartbeats 3200000 in
theorem implJoin_long (A : Ad) (ref : ByteArray) (a0 : Option Addr) (cap : Nat) (w : World) (hS : IsStrs w a0 cap A.parts) (hB : bulkA A ≤ 1000) (hr : 60 < ref.size) (hm : ref.size ≤ 1000000) :
    Calls Tryz.prog 176 #[.agg #[.string A.house, .slice a0 A.parts.length cap, .bool A.asks, .string A.ask], .string ref] w fun e w' => Reads (joinF A ref.data.toList) w e w' := by
  have HN : Hid (joinF A ref.data.toList = none) := join_long (by simp; exact hr)
  have HS : Hid (IsStrs w a0 cap A.parts) := hS
  have hb4 : bulkA A ≤ 4194304 := by omega
  clear hS
  generalize joinF A ref.data.toList = R at *
  go_enter Tryz.func176, Tryz.ntmps176
  go_wp2_with fail
  refine (implOk_any A a0 cap _ (HS.out.keep (fun k hk => by rw [alloc_keep _ _ k (by simp; omega), alloc_keep _ _ k hk])) hb4).mono ?_
  rintro e w1 ⟨rfl, hb1⟩
  have HB1 : Hid (Below (w.heap.size + 1 + 1) ((w.alloc (.cells #[.string A.house, .slice a0 A.parts.length cap, .bool A.asks, .string A.ask] 97)).alloc (.cells #[.string ⟨#[]⟩, .slice none 0 0, .bool false, .string ⟨#[]⟩] 97)) w1) := hb1.mono (by simp)
  have hb1' := HB1.out
  obtain ⟨⟨c0, c1, c2, c3⟩, ⟨d0, d1, d2, d3⟩, dz⟩ := two_cells hb1'
  clear hb1 hb1'
  cases hok : okB A with
  | false =>
    go_wp2
    refine bodyPost_ret (v := .tuple #[.agg #[.string ⟨#[]⟩, .slice none 0 0, .bool false, .string ⟨#[]⟩], .bool false]) (by simp [results, Tryz.results176, go_sem, d0, d1, d2, d3]) rfl ?_
    refine ⟨zeroAd, false, none, 0, rfl, Or.inr ⟨rfl, HN.out, rfl⟩, Owns.nil _ _, ?_⟩
    have hbw := two_below HB1.out
    iterate 4 refine Below.setCell ?_ (by dsimp only; omega) _
    exact hbw
  | true =>
    go_wp2
    refine bodyPost_ret (v := .tuple #[.agg #[.string ⟨#[]⟩, .slice none 0 0, .bool false, .string ⟨#[]⟩], .bool false]) (by simp [results, Tryz.results176, go_sem, d0, d1, d2, d3]) rfl ?_
    refine ⟨zeroAd, false, none, 0, rfl, Or.inr ⟨rfl, HN.out, rfl⟩, Owns.nil _ _, ?_⟩
    have hbw := two_below HB1.out
    iterate 4 refine Below.setCell ?_ (by dsimp only; omega) _
    exact hbw

theorem implJoin_page (A : Ad) (ref : ByteArray) (a0 : Option Addr) (cap : Nat) (w : World) (hM : Mx w) (hS : IsStrs w a0 cap A.parts) (hB : bulkA A ≤ 1000) (hr : ref.size ≤ 300) (ha : ascii ref) :
    Calls Tryz.prog 176 #[.agg #[.string A.house, .slice a0 A.parts.length cap, .bool A.asks, .string A.ask], .string ref] w fun e w' => Reads (joinF A ref.data.toList) w e w' := by
  by_cases h : ref.size ≤ 60
  · exact implJoin_ascii A ref a0 cap w hM hS hB h ha
  · exact implJoin_long A ref a0 cap w hS hB (by omega) (by omega)
/-- from where links of a page lead -/
def fromF (A : Ad) (t : ByteArray) : Ad := if (baseF t).2 then (match joinF A (baseF t).1.data.toList with | some B => B | none => A) else A
def putL (L : List ByteArray) (x : ByteArray) : List ByteArray := if hasB x L then L else L ++ [x]
def pageStep (B : Ad) (acc : List ByteArray) (l : ByteArray) : List ByteArray := match joinF B l.data.toList with | some C => putL acc (textF C) | none => acc
def pageL (B : Ad) (links : List ByteArray) : List ByteArray := links.foldl (pageStep B) []
/-- where one comes from a page -/
def pageF (A : Ad) (t : ByteArray) : List ByteArray := if okB A then pageL (fromF A t) (linksF t) else []
theorem page_bad {A : Ad} {t : ByteArray} (h : okB A = false) : pageF A t = [] := by unfold pageF; rw [h]; rfl
theorem page_ok {A : Ad} {t : ByteArray} (h : okB A = true) : pageF A t = pageL (fromF A t) (linksF t) := by unfold pageF; rw [h]; rfl
theorem from_ok {A : Ad} {t : ByteArray} (h : okB A = true) : okB (fromF A t) = true := by
  unfold fromF
  split
  · split
    · rename_i B hj; exact join_ok hj
    · exact h
  · exact h
theorem from_bulk {A : Ad} {t : ByteArray} (h : okB A = true) : bulkA (fromF A t) ≤ 1000 := (ok_sum (from_ok h)).2
theorem page_snoc {B : Ad} {L : List ByteArray} {k : Nat} (h : k < L.length) : pageL B (L.take (k + 1)) = pageStep B (pageL B (L.take k)) L[k] := by
  unfold pageL
  rw [List.take_succ_eq_append_getElem h, List.foldl_append]; rfl
theorem put_len (L : List ByteArray) (x : ByteArray) : (putL L x).length ≤ L.length + 1 := by unfold putL; split <;> simp
theorem step_len (B : Ad) (L : List ByteArray) (x : ByteArray) : (pageStep B L x).length ≤ L.length + 1 := by
  unfold pageStep; split
  · exact put_len _ _
  · omega
theorem pageL_len (B : Ad) : ∀ (L acc : List ByteArray), (L.foldl (pageStep B) acc).length ≤ acc.length + L.length := by
  intro L
  induction L with
  | nil => intro acc; simp
  | cons x L ih => intro acc; have := ih (pageStep B acc x); have := step_len B acc x; simp only [List.foldl_cons, List.length_cons]; omega
end Go.Proofs.YtiennniclkbjlaaGreatDoor.PgA
/- What one comes to: by a growing list, and that a queue with copies comes to the same. -/
namespace Go.Proofs.YtiennniclkbjlaaGreatDoor.ReM
open Go.Proofs.YtiennniclkbjlaaGreatDoor.St Go.Proofs.YtiennniclkbjlaaGreatDoor.PgM Go.Proofs.YtiennniclkbjlaaGreatDoor.PgA

/-- as many are put, each once -/
def putsL (T xs : List ByteArray) : List ByteArray := xs.foldl putL T
/-- by a growing list: i of T are done, out is what one came to -/
def lstR (ok : ByteArray → Bool) (next : ByteArray → List ByteArray) : Nat → Nat → List ByteArray → List ByteArray → List ByteArray
  | 0, _, _, out => out
  | f + 1, i, T, out => match T[i]? with
    | none => out
    | some x => if ok x then lstR ok next f (i + 1) (putsL T (next x)) (out ++ [x]) else lstR ok next f (i + 1) T out
variable {ok : ByteArray → Bool} {next : ByteArray → List ByteArray}
theorem lst_end {f i : Nat} {T out : List ByteArray} (h : T.length ≤ i) : lstR ok next f i T out = out := by
  cases f with
  | zero => rfl
  | succ f => simp [lstR, List.getElem?_eq_none h]
theorem lst_ok {f i : Nat} {T out : List ByteArray} (h : i < T.length) (hk : ok T[i] = true) : lstR ok next (f + 1) i T out = lstR ok next f (i + 1) (putsL T (next T[i])) (out ++ [T[i]]) := by
  simp [lstR, List.getElem?_eq_getElem h, hk]
theorem lst_no {f i : Nat} {T out : List ByteArray} (h : i < T.length) (hk : ok T[i] = false) : lstR ok next (f + 1) i T out = lstR ok next f (i + 1) T out := by
  simp [lstR, List.getElem?_eq_getElem h, hk]

theorem has_mem {x : ByteArray} {L : List ByteArray} : hasB x L = true ↔ x ∈ L := by
  unfold hasB; simp
theorem put_in {x : ByteArray} {L : List ByteArray} (h : x ∈ L) : putL L x = L := by unfold putL; rw [if_pos (has_mem.2 h)]
theorem put_out {x : ByteArray} {L : List ByteArray} (h : x ∉ L) : putL L x = L ++ [x] := by unfold putL; rw [if_neg (fun e => h (has_mem.1 e))]
theorem put_mem {x y : ByteArray} {L : List ByteArray} : y ∈ putL L x ↔ y ∈ L ∨ y = x := by
  by_cases h : x ∈ L
  · rw [put_in h]; exact ⟨Or.inl, fun e => e.elim id fun e => e ▸ h⟩
  · rw [put_out h]; simp
theorem puts_mem {xs : List ByteArray} : ∀ {T : List ByteArray} {y : ByteArray}, y ∈ putsL T xs ↔ y ∈ T ∨ y ∈ xs := by
  induction xs with
  | nil => intro T y; simp [putsL]
  | cons x r ih =>
    intro T y
    show y ∈ putsL (putL T x) r ↔ _
    rw [ih, put_mem]; simp [or_assoc]
theorem put_nodup {x : ByteArray} {L : List ByteArray} (h : L.Nodup) : (putL L x).Nodup := by
  by_cases hx : x ∈ L
  · rw [put_in hx]; exact h
  · rw [put_out hx]
    exact List.nodup_append.2 ⟨h, by simp, fun a ha b hb => by simp at hb; subst hb; exact fun e => hx (e ▸ ha)⟩
theorem puts_nodup {xs : List ByteArray} : ∀ {T : List ByteArray}, T.Nodup → (putsL T xs).Nodup := by
  induction xs with
  | nil => intro T h; exact h
  | cons x r ih => intro T h; exact ih (put_nodup h)
theorem put_pre (L : List ByteArray) (x : ByteArray) : L <+: putL L x := by
  by_cases hx : x ∈ L
  · rw [put_in hx]; exact List.prefix_refl _
  · rw [put_out hx]; exact List.prefix_append _ _
theorem puts_pre {xs : List ByteArray} : ∀ T : List ByteArray, T <+: putsL T xs := by
  induction xs with
  | nil => intro T; exact List.prefix_refl _
  | cons x r ih => intro T; exact (put_pre T x).trans (ih _)
theorem puts_app (T xs ys : List ByteArray) : putsL T (xs ++ ys) = putsL (putsL T xs) ys := by unfold putsL; rw [List.foldl_append]
theorem puts_snoc (T xs : List ByteArray) (y : ByteArray) : putsL T (xs ++ [y]) = putL (putsL T xs) y := puts_app T xs [y]
/-- what stands once in a list is no longer than what it is drawn from -/
theorem nodup_len {T U : List ByteArray} (h : T.Nodup) (hs : ∀ x ∈ T, x ∈ U) : T.length ≤ U.length := by
  induction T generalizing U with
  | nil => exact Nat.zero_le _
  | cons x r ih =>
    have hx := hs x (List.mem_cons_self ..)
    obtain ⟨h1, h2⟩ := List.nodup_cons.1 h
    have : r.length ≤ (U.filter fun y => decide (y ≠ x)).length := ih h2 fun y hy => by
      have hne : y ≠ x := fun e => h1 (e ▸ hy)
      exact List.mem_filter.2 ⟨hs y (List.mem_cons_of_mem _ hy), decide_eq_true hne⟩
    have hlt : (U.filter fun y => decide (y ≠ x)).length < U.length := List.length_filter_lt_length_iff_exists.2 ⟨x, hx, by simp⟩
    simp only [List.length_cons]; omega

/-- D is what the queue let go by, q what stands in it: what is to be done by the growing list -/
def todoR (n : ByteArray → Bool) (D q : List ByteArray) : List ByteArray := putsL (D.filter n) (q.filter n)
variable {n : ByteArray → Bool}
theorem put_filter (D : List ByteArray) (x : ByteArray) : (putL D x).filter n = if n x then putL (D.filter n) x else D.filter n := by
  by_cases h : x ∈ D
  · rw [put_in h]
    split
    · next hn => rw [put_in (List.mem_filter.2 ⟨h, hn⟩)]
    · rfl
  · rw [put_out h, List.filter_append]
    split
    · next hn => rw [put_out (fun e => h (List.mem_filter.1 e).1)]; simp [hn]
    · next hn => simp [hn]
/-- the head is let go by: the growing list stays -/
theorem todo_pop (D q : List ByteArray) (x : ByteArray) : todoR n (putL D x) q = todoR n D (x :: q) := by
  unfold todoR
  rw [put_filter]
  by_cases hn : n x = true
  · rw [if_pos hn, List.filter_cons_of_pos hn]; rfl
  · rw [if_neg hn, List.filter_cons_of_neg hn]
/-- what is found is put behind -/
theorem todo_more (D q xs : List ByteArray) (h : ∀ x ∈ xs, n x = true) : todoR n D (q ++ xs) = putsL (todoR n D q) xs := by
  unfold todoR
  rw [List.filter_append, puts_app, List.filter_eq_self.2 h]
/-- the head, if it is new, is the next of the growing list -/
theorem todo_head {D q : List ByteArray} {x : ByteArray} (hx : x ∉ D) (hn : n x = true) : (todoR n D (x :: q))[(D.filter n).length]? = some x := by
  have h : (D.filter n) ++ [x] <+: todoR n D (x :: q) := by
    unfold todoR
    rw [List.filter_cons_of_pos hn]
    have e : putsL (D.filter n) (x :: q.filter n) = putsL (putL (D.filter n) x) (q.filter n) := rfl
    rw [e, put_out (fun e => hx (List.mem_filter.1 e).1)]
    exact puts_pre _
  obtain ⟨t, ht⟩ := h
  rw [← ht]
  simp
theorem todo_len_new {D : List ByteArray} {x : ByteArray} (hx : x ∉ D) (hn : n x = true) : ((putL D x).filter n).length = (D.filter n).length + 1 := by
  rw [put_out hx, List.filter_append]; simp [hn]
theorem todo_len_old {D : List ByteArray} {x : ByteArray} (h : x ∈ D ∨ n x = false) : ((putL D x).filter n).length = (D.filter n).length := by
  rcases h with h | h
  · rw [put_in h]
  · rw [put_filter, if_neg (by rw [h]; decide)]
theorem todo_nil (D : List ByteArray) : todoR n D [] = D.filter n := rfl
end Go.Proofs.YtiennniclkbjlaaGreatDoor.ReM
/- How often each was heard of: the counts that the program keeps, beside the list of what was heard of. -/
namespace Go.Proofs.YtiennniclkbjlaaGreatDoor.ReM
open Go.RowKit Go.Proofs.YtiennniclkbjlaaGreatDoor.St Go.Proofs.YtiennniclkbjlaaGreatDoor.PgM Go.Proofs.YtiennniclkbjlaaGreatDoor.PgA Go.Proofs.YtiennniclkbjlaaGreatDoor.Mp

/-- each of D was heard of, at most N times; nothing else was -/
def Cn (M : List (ByteArray × Value)) (D : List ByteArray) (N : Nat) : Prop := (∀ x, x ∉ D → getM M x = none) ∧ ∀ x ∈ D, ∃ n : Nat, getM M x = some (.int .i64 n) ∧ 1 ≤ n ∧ n ≤ N
variable {M : List (ByteArray × Value)} {D : List ByteArray} {N : Nat}
theorem cn_new : Cn [] [] 0 := ⟨fun _ _ => rfl, fun x hx => by cases hx⟩
theorem cn_put {x : ByteArray} {n : Nat} (h : Cn M D N) (h1 : 1 ≤ n) (h2 : n ≤ N + 1) : Cn (putM M x (.int .i64 n)) (putL D x) (N + 1) := by
  refine ⟨fun y hy => ?_, fun y hy => ?_⟩
  · have hyx : ¬ y = x := fun e => hy (put_mem.2 (Or.inr e))
    rw [get_put_other hyx]
    exact h.1 y fun e => hy (put_mem.2 (Or.inl e))
  · by_cases e : y = x
    · subst e
      exact ⟨n, get_put_same _ _ _, h1, h2⟩
    · rw [get_put_other e]
      rcases put_mem.1 hy with hy | hy
      · obtain ⟨k, h3, h4, h5⟩ := h.2 y hy
        exact ⟨k, h3, h4, by omega⟩
      · exact absurd hy e
theorem cn_first {x : ByteArray} (h : Cn M D N) : Cn (putM M x (.int .i64 1)) (putL D x) (N + 1) := cn_put (n := 1) h (Nat.le_refl _) (by omega)
/-- what is looked up: how often so far -/
theorem cn_get (h : Cn M D N) (x : ByteArray) : ∃ n : Nat, (getM M x).getD (.int .i64 0) = .int .i64 (n : Int) ∧ n ≤ N ∧ (x ∉ D → n = 0) ∧ (x ∈ D → 1 ≤ n) := by
  by_cases hx : x ∈ D
  · obtain ⟨n, h1, h2, h3⟩ := h.2 x hx
    exact ⟨n, by rw [h1]; rfl, h3, fun e => absurd hx e, fun _ => h2⟩
  · exact ⟨0, by rw [h.1 x hx]; rfl, Nat.zero_le _, fun _ => rfl, fun e => absurd e hx⟩
end Go.Proofs.YtiennniclkbjlaaGreatDoor.ReM
/- What one comes to: what holds at each round of either side's loop. -/
namespace Go.Proofs.YtiennniclkbjlaaGreatDoor.ReM
open Go.Proofs.YtiennniclkbjlaaGreatDoor.St Go.Proofs.YtiennniclkbjlaaGreatDoor.PgM Go.Proofs.YtiennniclkbjlaaGreatDoor.PgA

/-- at a round of the growing list: R is what comes out at the end, U holds all that is ever heard of -/
def LI (ok : ByteArray → Bool) (next : ByteArray → List ByteArray) (R U : List ByteArray) (f i : Nat) (T out : List ByteArray) : Prop :=
  R = lstR ok next f i T out ∧ T.Nodup ∧ (∀ x ∈ T, x ∈ U) ∧ U.length ≤ i + f ∧ i ≤ T.length
variable {ok n : ByteArray → Bool} {next : ByteArray → List ByteArray} {R U : List ByteArray}
theorem li_new (T : List ByteArray) (h1 : T.Nodup) (h2 : ∀ x ∈ T, x ∈ U) : LI ok next (lstR ok next U.length 0 T []) U U.length 0 T [] := ⟨rfl, h1, h2, by omega, Nat.zero_le _⟩
theorem li_len {f i : Nat} {T out : List ByteArray} (h : LI ok next R U f i T out) : T.length ≤ U.length := nodup_len h.2.1 h.2.2.1
theorem li_end {f i : Nat} {T out : List ByteArray} (h : LI ok next R U f i T out) (hi : T.length ≤ i) : R = out := h.1.trans (lst_end hi)
theorem li_ok {f i : Nat} {T out : List ByteArray} (h : LI ok next R U f i T out) (hi : i < T.length) (hk : ok T[i] = true) (hn : ∀ y ∈ next T[i], y ∈ U) : ∃ f', LI ok next R U f' (i + 1) (putsL T (next T[i])) (out ++ [T[i]]) := by
  have hl := li_len h
  obtain ⟨h1, h2, h3, h4, h5⟩ := h
  cases f with
  | zero => omega
  | succ f =>
    refine ⟨f, h1.trans (lst_ok hi hk), puts_nodup h2, fun x hx => ?_, by omega, ?_⟩
    · rcases puts_mem.1 hx with hx | hx
      · exact h3 x hx
      · exact hn x hx
    · have := (puts_pre (xs := next T[i]) T).length_le; omega
theorem li_no {f i : Nat} {T out : List ByteArray} (h : LI ok next R U f i T out) (hi : i < T.length) (hk : ok T[i] = false) : ∃ f', LI ok next R U f' (i + 1) T out := by
  have hl := li_len h
  obtain ⟨h1, h2, h3, h4, h5⟩ := h
  cases f with
  | zero => omega
  | succ f => exact ⟨f, h1.trans (lst_no hi hk), h2, h3, by omega, by omega⟩

/-- at a round of the queue: D it let go by, q stands in it; V holds all that ever stands in it -/
def QI (ok n : ByteArray → Bool) (next : ByteArray → List ByteArray) (R U V : List ByteArray) (D q out : List ByteArray) : Prop :=
  (∃ f, LI ok next R U f (D.filter n).length (todoR n D q) out) ∧ D.Nodup ∧ (∀ x ∈ D, x ∈ V) ∧ (∀ x ∈ q, x ∈ V)
variable {V : List ByteArray}
theorem qi_len {D q out : List ByteArray} (h : QI ok n next R U V D q out) : D.length ≤ V.length := nodup_len h.2.1 h.2.2.1
theorem qi_end {D out : List ByteArray} (h : QI ok n next R U V D [] out) : R = out := by
  obtain ⟨⟨f, h⟩, _⟩ := h
  exact li_end h (by rw [todo_nil]; exact Nat.le_refl _)
theorem qi_put {D q : List ByteArray} {x : ByteArray} (h1 : D.Nodup) (h2 : ∀ y ∈ D, y ∈ V) (h3 : ∀ y ∈ x :: q, y ∈ V) : (putL D x).Nodup ∧ (∀ y ∈ putL D x, y ∈ V) ∧ ∀ y ∈ q, y ∈ V :=
  ⟨put_nodup h1, fun y hy => by
    rcases put_mem.1 hy with hy | hy
    · exact h2 y hy
    · subst hy; exact h3 y (List.mem_cons_self ..), fun y hy => h3 y (List.mem_cons_of_mem _ hy)⟩
theorem qi_new (S : List ByteArray) (h2 : ∀ x ∈ S, n x = true → x ∈ U) (h3 : ∀ x ∈ S, x ∈ V) : QI ok n next (lstR ok next U.length 0 (putsL [] (S.filter n)) []) U V [] S [] := by
  refine ⟨⟨U.length, ?_⟩, List.nodup_nil, (fun x hx => by cases hx), h3⟩
  exact li_new _ (puts_nodup List.nodup_nil) fun x hx => by
    rcases puts_mem.1 hx with hx | hx
    · cases hx
    · exact h2 x (List.mem_filter.1 hx).1 (List.mem_filter.1 hx).2
/-- a copy, or one that may not be looked at, goes by -/
theorem qi_skip {D q out : List ByteArray} {x : ByteArray} (h : QI ok n next R U V D (x :: q) out) (hx : x ∈ D ∨ ok x = false) : QI ok n next R U V (putL D x) q out := by
  obtain ⟨⟨f, h⟩, h1, h2, h3⟩ := h
  refine ⟨?_, qi_put h1 h2 h3⟩
  by_cases ho : x ∈ D ∨ n x = false
  · rw [todo_pop, todo_len_old ho]; exact ⟨f, h⟩
  · have hxD : x ∉ D := fun e => ho (Or.inl e)
    have hn : n x = true := by
      cases hq : n x with
      | true => rfl
      | false => exact absurd (Or.inr hq) ho
    have hk : ok x = false := hx.resolve_left hxD
    obtain ⟨hlt, he⟩ := List.getElem?_eq_some_iff.1 (todo_head (q := q) hxD hn)
    rw [todo_pop, todo_len_new hxD hn]
    exact li_no h hlt (by rw [he]; exact hk)
/-- one that may be looked at, and was not yet, is taken -/
theorem qi_take {D q out : List ByteArray} {x : ByteArray} (hok : ok x = true → n x = true) (h : QI ok n next R U V D (x :: q) out) (hx : x ∉ D) (hk : ok x = true) (hn : ∀ y ∈ next x, n y = true ∧ y ∈ U ∧ y ∈ V) : QI ok n next R U V (putL D x) (q ++ next x) (out ++ [x]) := by
  obtain ⟨⟨f, h⟩, h1, h2, h3⟩ := h
  obtain ⟨hlt, he⟩ := List.getElem?_eq_some_iff.1 (todo_head (q := q) hx (hok hk))
  obtain ⟨f', h'⟩ := li_ok h hlt (by rw [he]; exact hk) (by rw [he]; exact fun y hy => (hn y hy).2.1)
  rw [he] at h'
  obtain ⟨p1, p2, p3⟩ := qi_put h1 h2 h3
  refine ⟨⟨f', ?_⟩, p1, p2, fun y hy => ?_⟩
  · rw [todo_more _ _ _ fun y hy => (hn y hy).1, todo_pop, todo_len_new hx (hok hk)]; exact h'
  · rcases List.mem_append.1 hy with hy | hy
    · exact p3 y hy
    · exact (hn y hy).2.2
end Go.Proofs.YtiennniclkbjlaaGreatDoor.ReM
/- Where pages lead: lists in which each stands once. -/
namespace Go.Proofs.YtiennniclkbjlaaGreatDoor.PgA
open Go.RowKit Go.Proofs.YtiennniclkbjlaaGreatDoor.EscM Go.Proofs.YtiennniclkbjlaaGreatDoor.St Go.Proofs.YtiennniclkbjlaaGreatDoor.AddrM Go.Proofs.YtiennniclkbjlaaGreatDoor.ReadM Go.Proofs.YtiennniclkbjlaaGreatDoor.EscL Go.Proofs.YtiennniclkbjlaaGreatDoor.Ad1 Go.Proofs.YtiennniclkbjlaaGreatDoor.Dr Go.Proofs.YtiennniclkbjlaaGreatDoor.Im Go.Proofs.YtiennniclkbjlaaGreatDoor.Rd1 Go.Proofs.YtiennniclkbjlaaGreatDoor.Door Go.Proofs.YtiennniclkbjlaaGreatDoor.JnM Go.Proofs.YtiennniclkbjlaaGreatDoor.Jn Go.Proofs.YtiennniclkbjlaaGreatDoor.PgM Go.Proofs.YtiennniclkbjlaaGreatDoor.RB

theorem has_take {L : List ByteArray} {k : Nat} {x : ByteArray} (h : k < L.length) (hn : x ∉ L.take k) (he : ¬ L[k] = x) : x ∉ L.take (k + 1) := by
  rw [List.take_succ_eq_append_getElem h, List.mem_append]
  rintro (h' | h')
  · exact hn h'
  · simp at h'; exact he h'.symm

set_option maxRecDepth 100000 in
set_option maxHeartbeats 1600000 in
theorem index_any (a0 : Option Addr) (cap : Nat) (L : List ByteArray) (x : ByteArray) (w : World) (hA : IsStrs w a0 cap L) (hl : L.length ≤ 4194304) :
    Calls Tryz.prog 80 #[.slice a0 L.length cap, .string x] w fun e w' => (∃ z : Int, e = .returned (.int .i64 z) ∧ (0 ≤ z ↔ hasB x L = true)) ∧ ∃ n, w' = w.drewN n := by
  have HA : Hid (IsStrs w a0 cap L) := hA
  clear hA
  go_enter Tryz.func80, Tryz.ntmps80
  go_wp2
  go_loopw [8] (fun i wr => ∃ k : Nat, k ≤ L.length ∧ i = .int .i64 (k : Int) ∧ Hid (x ∉ L.take k) ∧ Hid (∃ n, wr = w.drewN n)) (fun i _ => L.length - (intOf i).toNat)
  case atStart => exact ⟨0, Nat.zero_le _, rfl, by show x ∉ _; simp, ⟨0, rfl⟩⟩
  case round =>
    obtain ⟨k, hk, rfl, HN, HW⟩ := hrel
    by_cases hlt : k < L.length
    · have hpw := HW.out
      obtain ⟨n, hn⟩ := hpw
      obtain ⟨b1, o1, e1, c1⟩ := (IsStrs.drewN HA.out n).at hlt
      rw [← hn] at c1
      clear hn
      subst e1
      cases he : (x.toList == L[k].toList) with
      | true =>
        have HE : Hid (hasB x L = true) := by
          apply hasB_iff.2
          rw [str_eq_iff] at he
          have := of_decide_eq_true he
          rw [this]; exact List.getElem_mem hlt
        go_wp2
        go_ret
        exact ⟨⟨_, rfl, by rw [HE.out]; simp⟩, HW.out⟩
      | false =>
        have HE : Hid (x ∉ L.take (k + 1)) := by
          rw [str_eq_iff] at he
          exact has_take hlt HN.out (fun e => of_decide_eq_false he e.symm)
        go_wp2
        go_roundw
        case rel => exact ⟨k + 1, by omega, by go_num, HE, HW⟩
        case measure => simp [intOf]; omega
    · have HE : Hid (hasB x L = false) := by
        apply hasB_no.2
        have e1 : L.take k = L := List.take_of_length_le (by omega)
        rw [← e1]; exact HN.out
      go_wp2
      go_ret
      exact ⟨⟨-1, rfl, by rw [HE.out]; simp⟩, HW.out⟩
theorem contains_any (a0 : Option Addr) (cap : Nat) (L : List ByteArray) (x : ByteArray) (w : World) (hA : IsStrs w a0 cap L) (hl : L.length ≤ 4194304) :
    Calls Tryz.prog 54 #[.slice a0 L.length cap, .string x] w fun e w' => e = .returned (.bool (hasB x L)) ∧ ∃ n, w' = w.drewN n := by
  have HA : Hid (IsStrs w a0 cap L) := hA
  clear hA
  go_enter Tryz.func54, Tryz.ntmps54
  go_wp2_with fail
  refine (index_any a0 cap L x _ HA.out hl).mono ?_
  rintro e w1 ⟨⟨z, rfl, hz⟩, n, rfl⟩
  have HZ : Hid (decide (0 ≤ z) = hasB x L) := by
    show _ = _
    rw [Bool.eq_iff_iff, decide_eq_true_eq]; exact hz
  clear hz
  go_wp2
  go_ret
  exact ⟨ret_bool HZ.out, n, rfl⟩

theorem strs_apart {w w' : World} {a0 : Option Addr} {cap : Nat} {L : List ByteArray} {row : Option Nat} (h : IsStrs w a0 cap L) (hg : w.grownBy w' row) (hne : ∀ a, a0 = some a → row ≠ some a.block) : IsStrs w' a0 cap L := by
  obtain ⟨h1, h2, h3, h4⟩ := h
  refine ⟨h1, h2, h3, fun hn => ?_⟩
  obtain ⟨b, off, e, hc⟩ := h4 hn
  refine ⟨b, off, e, fun i hi => ?_⟩
  have hb := St.cell_block (hc i hi)
  rw [World.cell?_of_block (w := w) (hg.block _ hb (fun e' => hne _ e e'.symm))]; exact hc i hi
end Go.Proofs.YtiennniclkbjlaaGreatDoor.PgA
/- Which bytes a page's marks have: any. -/
namespace Go.Proofs.YtiennniclkbjlaaGreatDoor.PgA
open Go.RowKit Go.Proofs.YtiennniclkbjlaaGreatDoor.EscM Go.Proofs.YtiennniclkbjlaaGreatDoor.St Go.Proofs.YtiennniclkbjlaaGreatDoor.AddrM Go.Proofs.YtiennniclkbjlaaGreatDoor.ReadM Go.Proofs.YtiennniclkbjlaaGreatDoor.EscL Go.Proofs.YtiennniclkbjlaaGreatDoor.Ad1 Go.Proofs.YtiennniclkbjlaaGreatDoor.Dr Go.Proofs.YtiennniclkbjlaaGreatDoor.Im Go.Proofs.YtiennniclkbjlaaGreatDoor.Rd1 Go.Proofs.YtiennniclkbjlaaGreatDoor.Door Go.Proofs.YtiennniclkbjlaaGreatDoor.JnM Go.Proofs.YtiennniclkbjlaaGreatDoor.Jn Go.Proofs.YtiennniclkbjlaaGreatDoor.PgM Go.Proofs.YtiennniclkbjlaaGreatDoor.RB

def asc (_ : ByteArray) : Prop := True
theorem marks_ascii {t : ByteArray} (_ : asc t) : ∀ x ∈ marksF t, ascii x := fun _ _ => trivial
theorem links_ascii {t : ByteArray} (_ : asc t) : ∀ x ∈ linksF t, ascii x := fun _ _ => trivial
theorem base_ascii {t : ByteArray} (_ : asc t) : ascii (baseF t).1 := trivial
end Go.Proofs.YtiennniclkbjlaaGreatDoor.PgA
/- Where pages lead: the program's. -/
namespace Go.Proofs.YtiennniclkbjlaaGreatDoor.PgA
open Go.RowKit Go.Proofs.YtiennniclkbjlaaGreatDoor.EscM Go.Proofs.YtiennniclkbjlaaGreatDoor.St Go.Proofs.YtiennniclkbjlaaGreatDoor.AddrM Go.Proofs.YtiennniclkbjlaaGreatDoor.ReadM Go.Proofs.YtiennniclkbjlaaGreatDoor.EscL Go.Proofs.YtiennniclkbjlaaGreatDoor.Ad1 Go.Proofs.YtiennniclkbjlaaGreatDoor.Dr Go.Proofs.YtiennniclkbjlaaGreatDoor.Im Go.Proofs.YtiennniclkbjlaaGreatDoor.Rd1 Go.Proofs.YtiennniclkbjlaaGreatDoor.Door Go.Proofs.YtiennniclkbjlaaGreatDoor.JnM Go.Proofs.YtiennniclkbjlaaGreatDoor.Jn Go.Proofs.YtiennniclkbjlaaGreatDoor.PgM Go.Proofs.YtiennniclkbjlaaGreatDoor.RB Go.Proofs.YtiennniclkbjlaaGreatDoor.Pg

set_option maxRecDepth 100000 in
set_option maxHeartbeats 3200000 in
theorem from_any (A : Ad) (t : ByteArray) (a0 : Option Addr) (cap : Nat) (w : World) (hM : Mx w) (hS : IsStrs w a0 cap A.parts) (hB : bulkA A ≤ 1000) (ht : t.size ≤ 4194304) (ha : asc t) :
    Calls Tryz.prog 174 #[.agg #[.string A.house, .slice a0 A.parts.length cap, .bool A.asks, .string A.ask], .string t] w fun e w' => ∃ a1 c1, e = .returned (.agg #[.string (fromF A t).house, .slice a1 (fromF A t).parts.length c1, .bool (fromF A t).asks, .string (fromF A t).ask]) ∧ IsStrs w' a1 c1 (fromF A t).parts ∧ Below w.heap.size w w' := by
  have HS : Hid (IsStrs w a0 cap A.parts) := hS
  have HM : Hid (Mx w) := hM
  have HBA : Hid (ascii (baseF t).1) := base_ascii ha
  have hbs := base_size t
  have HF : Hid (fromF A t = if (baseF t).2 then (match joinF A (baseF t).1.data.toList with | some B => B | none => A) else A) := rfl
  have htm : t.size ≤ maxLen := by unfold maxLen; omega
  have HIB : Hid _ := fun W => implBase_any t W htm
  clear hS hM ha
  generalize (baseF t).1 = ref at *
  generalize (baseF t).2 = told at *
  generalize fromF A t = R at *
  go_enter Tryz.func174, Tryz.ntmps174
  go_wp2_with fail
  refine (HIB.out _).mono ?_
  rintro e w1 ⟨rfl, hb1⟩
  have HB1 : Hid (Below (w.heap.size + 1 + 1) ((w.alloc (.cells #[.string A.house, .slice a0 A.parts.length cap, .bool A.asks, .string A.ask] 97)).alloc (.cells #[.string ⟨#[]⟩, .slice none 0 0, .bool false, .string ⟨#[]⟩] 97)) w1) := hb1.mono (by simp)
  have hb1' := HB1.out
  obtain ⟨⟨c0, c1, c2, c3⟩, ⟨d0, d1, d2, d3⟩, dz⟩ := two_cells hb1'
  clear hb1 hb1'
  cases told with
  | false =>
    have HR : Hid (R = A) := by show _ = _; rw [HF.out]; rfl
    clear HF
    go_wp2
    refine bodyPost_ret (v := .agg #[.string A.house, .slice a0 A.parts.length cap, .bool A.asks, .string A.ask]) (by simp [results, Tryz.results174, go_sem, d0, d1, d2, d3]) rfl ?_
    rw [HR.out]
    have hbw : Below w.heap.size w ((((w1.setCell ⟨w.heap.size + 1, 0, none⟩ (.string A.house)).setCell ⟨w.heap.size + 1, 1, none⟩ (.slice a0 A.parts.length cap)).setCell ⟨w.heap.size + 1, 2, none⟩ (.bool A.asks)).setCell ⟨w.heap.size + 1, 3, none⟩ (.string A.ask)) := by
      iterate 4 refine Below.setCell ?_ (by dsimp only; omega) _
      exact two_below HB1.out
    exact ⟨a0, cap, rfl, HS.out.below hbw, hbw⟩
  | true =>
    have HM1 : Hid (Mx w1) := HM.out.keep fun k hk => (two_below HB1.out).block k hk
    have HS1 : Hid (IsStrs w1 a0 cap A.parts) := HS.out.below (two_below HB1.out)
    go_wp2_with fail
    refine (implJoin_page A ref a0 cap _ HM1.out HS1.out hB hbs HBA.out).mono ?_
    rintro e w2 ⟨B, ok, x1, y1, rfl, hans, hO, hb2⟩
    have HB2 : Hid _ := two_next HB1.out hb2
    have HB3 : Hid _ := two_next HB2.out ((Below.refl _ w2).alloc (Nat.le_refl _) (.cells #[.string B.house, .slice x1 B.parts.length y1, .bool B.asks, .string B.ask] 97))
    have HO2 : Hid (Owns w2 w1.heap.size (.slice x1 B.parts.length y1) B.parts) := hO
    have hz1 : w.heap.size + 1 + 1 ≤ w1.heap.size := by have := HB1.out.size; simp at this; omega
    have hz2 : w.heap.size + 1 + 1 ≤ w2.heap.size := by have := HB2.out.size; simp at this; omega
    clear hO hb2 c0 c1 c2 c3 d0 d1 d2 d3 dz HB1
    have hb2' := HB3.out
    obtain ⟨⟨c0, c1, c2, c3⟩, ⟨d0, d1, d2, d3⟩, dz⟩ := two_cells hb2'
    clear hb2'
    rcases hans with ⟨rfl, hj⟩ | ⟨rfl, hj, rfl⟩
    · have HR : Hid (R = B) := by show _ = _; rw [HF.out, hj]; rfl
      clear HF hj
      go_wp2
      refine bodyPost_ret (v := .agg #[.string B.house, .slice x1 B.parts.length y1, .bool B.asks, .string B.ask]) (by simp [results, Tryz.results174, go_sem, d0, d1, d2, d3]) rfl ?_
      rw [HR.out]
      refine ⟨x1, y1, rfl, Owns.strsOf (base := w1.heap.size) (n := B.parts.length) ?_, ?_⟩
      · have hO := Owns.keep HO2.out (alloc_keep w2 (.cells #[.string B.house, .slice x1 B.parts.length y1, .bool B.asks, .string B.ask] 97))
        iterate 4 refine ownsRow_setCell_below ?_ (by dsimp only; omega) _
        exact hO
      · have hbw := two_below HB3.out
        iterate 4 refine Below.setCell ?_ (by dsimp only; omega) _
        exact hbw
    · have HR : Hid (R = A) := by show _ = _; rw [HF.out, hj]; rfl
      clear HF hj
      go_wp2
      refine bodyPost_ret (v := .agg #[.string A.house, .slice a0 A.parts.length cap, .bool A.asks, .string A.ask]) (by simp [results, Tryz.results174, go_sem, d0, d1, d2, d3]) rfl ?_
      rw [HR.out]
      have hbw := two_below HB3.out
      refine ⟨a0, cap, rfl, HS.out.below ?_, ?_⟩
      · iterate 4 refine Below.setCell ?_ (by dsimp only; omega) _
        exact hbw
      · iterate 4 refine Below.setCell ?_ (by dsimp only; omega) _
        exact hbw
end Go.Proofs.YtiennniclkbjlaaGreatDoor.PgA
/- Where pages lead: the program's PageAddrs. -/
namespace Go.Proofs.YtiennniclkbjlaaGreatDoor.PgA
open Go.RowKit Go.Proofs.YtiennniclkbjlaaGreatDoor.EscM Go.Proofs.YtiennniclkbjlaaGreatDoor.St Go.Proofs.YtiennniclkbjlaaGreatDoor.AddrM Go.Proofs.YtiennniclkbjlaaGreatDoor.ReadM Go.Proofs.YtiennniclkbjlaaGreatDoor.EscL Go.Proofs.YtiennniclkbjlaaGreatDoor.Ad1 Go.Proofs.YtiennniclkbjlaaGreatDoor.Dr Go.Proofs.YtiennniclkbjlaaGreatDoor.Im Go.Proofs.YtiennniclkbjlaaGreatDoor.Rd1 Go.Proofs.YtiennniclkbjlaaGreatDoor.Door Go.Proofs.YtiennniclkbjlaaGreatDoor.JnM Go.Proofs.YtiennniclkbjlaaGreatDoor.Jn Go.Proofs.YtiennniclkbjlaaGreatDoor.PgM Go.Proofs.YtiennniclkbjlaaGreatDoor.RB Go.Proofs.YtiennniclkbjlaaGreatDoor.Pg

set_option maxRecDepth 100000 in
set_option maxHeartbeats 6400000 in
theorem implPage_any (A : Ad) (t : ByteArray) (a0 : Option Addr) (cap : Nat) (w : World) (hM : Mx w) (hS : IsStrs w a0 cap A.parts) (hB : bulkA A ≤ 1000) (ht : t.size ≤ 4194304) (ha : asc t) :
    Calls Tryz.prog 151 #[.agg #[.string A.house, .slice a0 A.parts.length cap, .bool A.asks, .string A.ask], .string t] w fun e w' => ∃ v, e = .returned v ∧ Owns w' w.heap.size v (pageF A t) ∧ Below w.heap.size w w' := by
  obtain ⟨i0, hi, hz0, hz1, hz2⟩ := info_parts Tryz.infoS
  have hb4 : bulkA A ≤ 4194304 := by omega
  have HS : Hid (IsStrs (w.alloc (.cells #[.string A.house, .slice a0 A.parts.length cap, .bool A.asks, .string A.ask] 97)) a0 cap A.parts) := hS.keep (alloc_keep _ _)
  have HM : Hid (Mx (w.alloc (.cells #[.string A.house, .slice a0 A.parts.length cap, .bool A.asks, .string A.ask] 97))) := hM.alloc _
  have HB0 : Hid (Below w.heap.size w (w.alloc (.cells #[.string A.house, .slice a0 A.parts.length cap, .bool A.asks, .string A.ask] 97))) := (Below.refl _ w).alloc (Nat.le_refl _) _
  have HX0 : Hid (Box (w.alloc (.cells #[.string A.house, .slice a0 A.parts.length cap, .bool A.asks, .string A.ask] 97)) w.heap.size (.string A.house) (.slice a0 A.parts.length cap) (.bool A.asks) (.string A.ask)) := heap_new w _
  have htm : t.size ≤ maxLen := by unfold maxLen; omega
  have HAS : Hid (asc t) := ha
  clear hS hM ha
  go_enter Tryz.func151, Tryz.ntmps151
  go_wp2_with fail
  refine (implOk_any A a0 cap _ HS.out hb4).mono ?_
  rintro e w1 ⟨rfl, hb1⟩
  have HS1 : Hid (IsStrs w1 a0 cap A.parts) := HS.out.below hb1
  have HM1 : Hid (Mx w1) := HM.out.below hb1
  have HB1 : Hid (Below w.heap.size w w1) := HB0.out.trans (hb1.mono HB0.out.size)
  have HX1 : Hid (Box w1 w.heap.size (.string A.house) (.slice a0 A.parts.length cap) (.bool A.asks) (.string A.ask)) := HX0.out.grown (grown_of_below none hb1) (by simp)
  clear hb1 HS HM HB0 HX0
  have hx := HX1.out
  obtain ⟨⟨c0, c1, c2, c3⟩, _⟩ := hx.cells
  clear hx
  cases hok : okB A with
  | false =>
    have HF : Hid _ := page_bad (t := t) hok
    clear hok
    go_wp2
    go_ret
    exact ⟨_, rfl, by rw [HF.out]; exact Owns.nil _ _, HB1.out⟩
  | true =>
    have HF : Hid _ := page_ok (t := t) hok
    have HBK : Hid _ := from_bulk (t := t) hok
    clear hok
    go_wp2_with fail
    refine (from_any A t a0 cap _ HM1.out HS1.out hB ht HAS.out).mono ?_
    rintro e w2 ⟨f1, g1, rfl, hS2, hb2⟩
    have HMK : Hid (∀ x ∈ linksF t, ascii x) := links_ascii HAS.out
    have HLS : Hid _ := links_size t
    have hll := links_len t
    generalize fromF A t = B at *
    have HS2 : Hid (IsStrs (w2.alloc (.cells #[.string B.house, .slice f1 B.parts.length g1, .bool B.asks, .string B.ask] 97)) f1 g1 B.parts) := hS2.keep (alloc_keep _ _)
    have hba := hb2.alloc hb2.size (.cells #[.string B.house, .slice f1 B.parts.length g1, .bool B.asks, .string B.ask] 97)
    have HM2 : Hid (Mx (w2.alloc (.cells #[.string B.house, .slice f1 B.parts.length g1, .bool B.asks, .string B.ask] 97))) := HM1.out.below hba
    have HB2 : Hid (Below w.heap.size w (w2.alloc (.cells #[.string B.house, .slice f1 B.parts.length g1, .bool B.asks, .string B.ask] 97))) := HB1.out.trans (hba.mono HB1.out.size)
    have HX2 : Hid (Box (w2.alloc (.cells #[.string B.house, .slice f1 B.parts.length g1, .bool B.asks, .string B.ask] 97)) w2.heap.size (.string B.house) (.slice f1 B.parts.length g1) (.bool B.asks) (.string B.ask)) := heap_new w2 _
    have hw2 : w.heap.size ≤ w2.heap.size := Nat.le_trans HB1.out.size hb2.size
    obtain ⟨G, hG⟩ : ∃ G, w2.heap.size = G := ⟨_, rfl⟩
    rw [hG] at HX2 hw2
    clear hS2 hb2 hba c0 c1 c2 c3 HX1 HS1 HM1 HB1
    go_wp2_with fail
    refine (implLinks_any t _ htm).mono ?_
    rintro e w3 ⟨v3, rfl, hO3, hb3⟩
    obtain ⟨l1, m1, hv3, hS3⟩ := hO3.strs
    subst hv3
    have HL3 : Hid (IsStrs w3 l1 m1 (linksF t)) := hS3
    have HS3 : Hid (IsStrs w3 f1 g1 B.parts) := HS2.out.below hb3
    have HM3 : Hid (Mx w3) := HM2.out.below hb3
    have HB3 : Hid (Below w.heap.size w w3) := HB2.out.trans (hb3.mono HB2.out.size)
    have HX3 : Hid (Box w3 G (.string B.house) (.slice f1 B.parts.length g1) (.bool B.asks) (.string B.ask)) := HX2.out.grown (grown_of_below none hb3) (by simp)
    have hGw : G < w3.heap.size := HX3.out.lt
    clear hO3 hS3 hb3 HS2 HM2 HB2 HX2
    generalize linksF t = K at *
    go_wp2
    go_loopw [6, 21] (fun v i wr => ∃ k : Nat, k ≤ K.length ∧ i = .int .i64 (k : Int) ∧ Hid (Owns wr w3.heap.size v (pageL B (K.take k))) ∧ Hid (Below w3.heap.size w3 wr)) (fun _ i _ => K.length - (intOf i).toNat)
    case atStart => exact ⟨0, Nat.zero_le _, rfl, Owns.nil _ _, Below.refl _ _⟩
    case round =>
      obtain ⟨k, hk, rfl, HO, HB⟩ := hrel
      by_cases hlt : k < K.length
      · obtain ⟨lb, lo, e1, cl⟩ := (HL3.out.below HB.out).at hlt
        subst e1
        have HXr : Hid (Box wr G (.string B.house) (.slice f1 B.parts.length g1) (.bool B.asks) (.string B.ask)) := HX3.out.grown (grown_of_below none HB.out) (by simp)
        have hx := HXr.out
        obtain ⟨⟨c0, c1, c2, c3⟩, _⟩ := hx.cells
        clear hx
        have hks := HLS.out K[k] (List.getElem_mem _)
        have HKA : Hid (ascii K[k]) := HMK.out K[k] (List.getElem_mem _)
        have HSN : Hid _ := page_snoc (B := B) hlt
        have hacc : (pageL B (K.take k)).length ≤ 300 := by
          have := pageL_len B (K.take k) []
          unfold pageL
          simp at this ⊢; omega
        obtain ⟨ao, co, hv, hso⟩ := HO.out.strs
        subst hv
        clear hso
        obtain ⟨acc, hac⟩ : ∃ acc, pageL B (K.take k) = acc := ⟨_, rfl⟩
        rw [hac] at HO HSN hacc
        simp only [hac]
        clear hac
        go_wp2_with fail
        refine (implJoin_page B K[k] f1 g1 _ (HM3.out.below HB.out) (HS3.out.below HB.out) HBK.out hks HKA.out).mono ?_
        rintro e w4 ⟨C, ok, x1, y1, rfl, hans, hOC, hb4'⟩
        have HO4 : Hid (Owns (w4.alloc (.cells #[.string C.house, .slice x1 C.parts.length y1, .bool C.asks, .string C.ask] 97)) w3.heap.size (.slice ao acc.length co) acc) := Owns.keep (Owns.below HO.out hb4') (alloc_keep _ _)
        have HB4 : Hid (Below w3.heap.size w3 (w4.alloc (.cells #[.string C.house, .slice x1 C.parts.length y1, .bool C.asks, .string C.ask] 97))) := (HB.out.trans (hb4'.mono HB.out.size)).alloc (HB.out.trans (hb4'.mono HB.out.size)).size _
        have HSC : Hid (IsStrs (w4.alloc (.cells #[.string C.house, .slice x1 C.parts.length y1, .bool C.asks, .string C.ask] 97)) x1 y1 C.parts) := (Owns.strsOf hOC).keep (alloc_keep _ _)
        clear hOC hb4' c0 c1 c2 c3 cl HXr
        rcases hans with ⟨rfl, hj⟩ | ⟨rfl, hj, rfl⟩
        · have HN : Hid (pageL B (K.take (k + 1)) = putL acc (textF C)) := by show _ = _; rw [HSN.out]; unfold pageStep; rw [hj]
          have hCb : bulkA C ≤ 4194304 := Nat.le_trans (ok_sum (join_ok hj)).2 (by decide)
          clear hj HSN
          go_wp2_with fail
          refine (implAddrText_any C x1 y1 _ HSC.out hCb).mono ?_
          rintro e w5 ⟨rfl, hb5⟩
          have HO5 : Hid (Owns w5 w3.heap.size (.slice ao acc.length co) acc) := Owns.below HO4.out hb5
          have HB5 : Hid (Below w3.heap.size w3 w5) := HB4.out.trans (hb5.mono HB4.out.size)
          clear hb5 HO4 HB4 HSC
          generalize textF C = tx at *
          go_wp2_with fail
          refine (contains_any ao co acc tx _ (Owns.strsOf HO5.out) (by omega)).mono ?_
          rintro e w6 ⟨rfl, n6, hw6⟩
          have HO6 : Hid (Owns w6 w3.heap.size (.slice ao acc.length co) acc) := by rw [hw6]; exact Owns.keep HO5.out fun _ _ => rfl
          have HB6 : Hid (Below w3.heap.size w3 w6) := by rw [hw6]; exact below_drewN HB5.out n6
          clear hw6 HO5 HB5
          cases hh : hasB tx acc with
          | true =>
            have HP : Hid (putL acc tx = acc) := by show _ = _; unfold putL; rw [hh]; rfl
            clear hh
            go_wp2
            go_roundw
            case rel => exact ⟨k + 1, by omega, by go_num, by rw [HN.out, HP.out]; exact HO6, HB6⟩
            case measure => simp [intOf]; omega
          | false =>
            have HP : Hid (putL acc tx = acc ++ [tx]) := by show _ = _; unfold putL; rw [hh]; rfl
            clear hh
            go_wp2_with (at_builtin; refine wpList_append_own _ rfl _ _ 23 rfl w3.heap.size 9 i0 (.string ⟨#[]⟩) 1 16 Tryz.underlying23 hi hz0 hz1 hz2 rfl (by decide) _ _ _ rfl (World.ownsRow.alloc HO6.out _) ⟨w6.heap.size, 0, none⟩ 1 1 [.string tx] rfl rfl (cell_one_new _ _ _) ?c2 ?c3 ?c4 ?c5 ?_)
            case c2 => first | rfl | (intro u hu; simp at hu; subst hu; rfl)
            case c3 => unfold maxLen; omega
            case c4 => omega
            case c5 => have := HB6.out.size; first | omega | (simp; omega)
            intro v' w7 hown' hgrow _
            have HO' : Hid (Owns w7 w3.heap.size v' (acc ++ [tx])) := Owns.append hown'
            have HB7 : Hid (Below w3.heap.size w3 w7) := Below.grown (HB6.out.alloc HB6.out.size _) hgrow (by have := HB6.out.size; simp; omega) (Owns.block HO6.out)
            clear hown' hgrow
            go_wp2
            go_roundw
            case rel => exact ⟨k + 1, by omega, by go_num, by rw [HN.out, HP.out]; exact HO', HB7⟩
            case measure => simp [intOf]; omega
        · have HN : Hid (pageL B (K.take (k + 1)) = acc) := by show _ = _; rw [HSN.out]; unfold pageStep; rw [hj]
          clear hj HSN
          go_wp2
          go_roundw
          case rel => exact ⟨k + 1, by omega, by go_num, by rw [HN.out]; exact HO4, HB4⟩
          case measure => simp [intOf]; omega
      · have HR : Hid (pageF A t = pageL B (K.take k)) := by show _ = _; rw [List.take_of_length_le (by omega)]; exact HF.out
        go_wp2
        go_ret
        exact ⟨_, rfl, by rw [HR.out]; exact Owns.mono HO.out HB3.out.size, HB3.out.trans (HB.out.mono HB3.out.size)⟩
end Go.Proofs.YtiennniclkbjlaaGreatDoor.PgA
/- Where one comes from an address of a world. -/
namespace Go.Proofs.YtiennniclkbjlaaGreatDoor.Wd
open Go.RowKit Go.Proofs.YtiennniclkbjlaaGreatDoor.EscM Go.Proofs.YtiennniclkbjlaaGreatDoor.AddrM Go.Proofs.YtiennniclkbjlaaGreatDoor.ReadM Go.Proofs.YtiennniclkbjlaaGreatDoor.St Go.Proofs.YtiennniclkbjlaaGreatDoor.EscL Go.Proofs.YtiennniclkbjlaaGreatDoor.PathM Go.Proofs.YtiennniclkbjlaaGreatDoor.Ad1 Go.Proofs.YtiennniclkbjlaaGreatDoor.Rd1 Go.Proofs.YtiennniclkbjlaaGreatDoor.LibM Go.Proofs.YtiennniclkbjlaaGreatDoor.Im Go.Proofs.YtiennniclkbjlaaGreatDoor.RdA Go.Proofs.YtiennniclkbjlaaGreatDoor.MkA Go.Proofs.YtiennniclkbjlaaGreatDoor.Mp Go.Proofs.YtiennniclkbjlaaGreatDoor.WdM Go.Proofs.YtiennniclkbjlaaGreatDoor.RR Go.Proofs.YtiennniclkbjlaaGreatDoor.RoPg Go.Proofs.YtiennniclkbjlaaGreatDoor.PgA Go.Proofs.YtiennniclkbjlaaGreatDoor.RB

/-- where what one got at A leads -/
def leadF (A : Ad) (k : Int × ByteArray) : List ByteArray := if k.1 = 1 then pageF A k.2 else if k.1 = 2 then [k.2] else []
theorem lead_one (A : Ad) (t : ByteArray) : leadF A (1, t) = pageF A t := rfl
theorem lead_two (A : Ad) (t : ByteArray) : leadF A (2, t) = [t] := rfl
theorem lead_no {A : Ad} {k : Int} {t : ByteArray} (h1 : ¬ k = 1) (h2 : ¬ k = 2) : leadF A (k, t) = [] := by unfold leadF; rw [if_neg h1, if_neg h2]
def fromW (L : List Pg) (a : ByteArray) : List ByteArray := if wOk L then (match normA a with | some A => leadF A (kindF L a 2) | none => []) else []
theorem fromW_bad {L : List Pg} {a : ByteArray} (h : wOk L = false) : fromW L a = [] := by unfold fromW; rw [h]; rfl
theorem fromW_none {L : List Pg} {a : ByteArray} (h : normA a = none) : fromW L a = [] := by unfold fromW; rw [h]; split <;> rfl
theorem fromW_ok {L : List Pg} {a : ByteArray} {A : Ad} (h : wOk L = true) (h2 : normA a = some A) : fromW L a = leadF A (kindF L a 2) := by unfold fromW; rw [h, h2]; rfl
def PgTx (L : List Pg) : Prop := ∀ p ∈ L, asc p.text
theorem norm_some {s : ByteArray} {A : Ad} (h : normA s = some A) : readF s.data.toList = some A ∧ textF A = s := by
  unfold normA at h
  cases hr : readF s.data.toList with
  | none => rw [hr] at h; cases h
  | some B =>
    rw [hr] at h
    dsimp only at h
    split at h
    · rename_i he
      injection h with e
      subst e
      refine ⟨rfl, ?_⟩
      have := eq_of_beq he
      rw [ByteArray.toList_eq, ByteArray.toList_eq] at this
      exact ByteArray.ext (Array.ext' this)
    · cases h
theorem read_le {s : ByteArray} {A : Ad} (h : readF s.data.toList = some A) : bulkA A ≤ 1000 := by
  have := OB.reads_bulk (A := A) (ok := true) (Or.inl ⟨rfl, h⟩)
  omega
theorem kind_text {L : List Pg} (hS : PgSz L) (a : ByteArray) (t : Int) : (kindF L a t).2.size ≤ 4194304 := by
  unfold kindF
  cases hf : L.find? (sameA a) with
  | none => exact Nat.zero_le _
  | some p =>
    have := hS p (List.mem_of_find?_eq_some hf)
    dsimp only
    split
    · exact Nat.zero_le _
    · split
      · exact this.2.1
      · exact this.2.2
theorem kind_asc {L : List Pg} (hT : PgTx L) (a : ByteArray) (t : Int) (h : (kindF L a t).1 = 1) : asc (kindF L a t).2 := by
  unfold kindF at h ⊢
  cases hf : L.find? (sameA a) with
  | none => rw [hf] at h; cases h
  | some p =>
    rw [hf] at h
    have := hT p (List.mem_of_find?_eq_some hf)
    dsimp only at h ⊢
    by_cases h0 : t < p.fails
    · rw [if_pos h0] at h; cases h
    · rw [if_neg h0] at h ⊢
      by_cases h1 : p.lead.toList.isEmpty = true
      · rw [if_pos h1]; exact this
      · rw [if_neg h1] at h; cases h
theorem lit_one (w : World) (base : Nat) (s : ByteArray) (hb : base ≤ w.heap.size) : Owns (w.alloc (.cells #[.string s] 9)) base (.slice (some ⟨w.heap.size, 0, none⟩) 1 1) [s] := by
  refine ⟨by simp [cellsS], Or.inr ⟨w.heap.size, 1, #[.string s], rfl, hb, ?_, Nat.le_refl _, by decide, rfl, by simp [cellsS]⟩⟩
  show (w.heap.push _)[w.heap.size]? = _
  simp

set_option maxRecDepth 100000 in
set_option maxHeartbeats 2000000 in
theorem leadsTo_any (A : Ad) (t : ByteArray) (k : Int) (a0 : Option Addr) (cap : Nat) (w : World) (hM : Mx w) (hS : IsStrs w a0 cap A.parts) (hB : bulkA A ≤ 1000) (ht : t.size ≤ 4194304) (ha : k = 1 → asc t) :
    Calls Tryz.prog 128 #[.agg #[.string A.house, .slice a0 A.parts.length cap, .bool A.asks, .string A.ask], .int .i64 k, .string t] w fun e w' => ∃ v, e = .returned v ∧ Owns w' w.heap.size v (leadF A (k, t)) ∧ Below w.heap.size w w' := by
  have HS : Hid (IsStrs w a0 cap A.parts) := hS
  have HM : Hid (Mx w) := hM
  clear hS hM
  by_cases h1 : k = 1
  · subst h1
    have HA : Hid (asc t) := ha rfl
    clear ha
    rw [lead_one]
    go_enter Tryz.func128, Tryz.ntmps128
    go_wp2_with fail
    refine (implPage_any A t a0 cap _ (HM.out.alloc _) (HS.out.keep (alloc_keep _ _)) hB ht HA.out).mono ?_
    rintro e w1 ⟨v, rfl, hO, hb⟩
    have HO : Hid (Owns w1 w.heap.size v (pageF A t)) := Owns.mono hO (by simp)
    have HB : Hid (Below w.heap.size w w1) := ((Below.refl _ w).alloc (Nat.le_refl _) _).trans (hb.mono (by simp))
    clear hO hb
    go_wp2
    go_ret
    exact ⟨_, rfl, HO.out, HB.out⟩
  · by_cases h2 : k = 2
    · subst h2
      rw [lead_two]
      go_enter Tryz.func128, Tryz.ntmps128
      go_wp2
      go_ret
      refine ⟨_, rfl, ?_, ?_⟩
      · have := lit_one (w.alloc (.cells #[.string A.house, .slice a0 A.parts.length cap, .bool A.asks, .string A.ask] 97)) w.heap.size t (by simp)
        rw [show (w.alloc (.cells #[.string A.house, .slice a0 A.parts.length cap, .bool A.asks, .string A.ask] 97)).heap.size = w.heap.size + 1 by simp] at this
        exact this
      · exact ((Below.refl _ w).alloc (Nat.le_refl _) _).alloc (by simp) _
    · rw [lead_no h1 h2]
      have hk1 : (k == 1) = false := by simpa using h1
      have hk2 : (k == 2) = false := by simpa using h2
      go_enter Tryz.func128, Tryz.ntmps128
      go_wp2
      go_ret
      exact ⟨_, rfl, Owns.nil _ _, (Below.refl _ w).alloc (Nat.le_refl _) _⟩

set_option maxRecDepth 100000 in
set_option maxHeartbeats 2000000 in
theorem getAtLast_any (b : Nat) (L : List Pg) (a : ByteArray) (w : World) (h : IsMap w b (entsL L)) :
    Calls Tryz.prog 148 #[.map (some b), .string a] w fun e w' => e = .returned (.tuple #[.int .i64 (kindF L a 2).1, .string (kindF L a 2).2]) ∧ Below w.heap.size w w' := by
  have HG : Hid _ := getAt_any b L a 2 w h
  generalize kindF L a 2 = R at *
  go_enter Tryz.func148, Tryz.ntmps148
  go_wp2_with fail
  refine Calls.mono HG.out ?_
  rintro e w1 ⟨rfl, hb⟩
  go_wp2
  go_ret2
  exact ⟨rfl, hb⟩


end Go.Proofs.YtiennniclkbjlaaGreatDoor.Wd
/- What holds of where pages lead: mathematics; once, within. -/
namespace Go.Proofs.YtiennniclkbjlaaGreatDoor.PgA
open Go.RowKit Go.Proofs.YtiennniclkbjlaaGreatDoor.EscM Go.Proofs.YtiennniclkbjlaaGreatDoor.St Go.Proofs.YtiennniclkbjlaaGreatDoor.AddrM Go.Proofs.YtiennniclkbjlaaGreatDoor.ReadM Go.Proofs.YtiennniclkbjlaaGreatDoor.EscL Go.Proofs.YtiennniclkbjlaaGreatDoor.Ad1 Go.Proofs.YtiennniclkbjlaaGreatDoor.Dr Go.Proofs.YtiennniclkbjlaaGreatDoor.Im Go.Proofs.YtiennniclkbjlaaGreatDoor.Rd1 Go.Proofs.YtiennniclkbjlaaGreatDoor.Door Go.Proofs.YtiennniclkbjlaaGreatDoor.JnM Go.Proofs.YtiennniclkbjlaaGreatDoor.Jn Go.Proofs.YtiennniclkbjlaaGreatDoor.PgM Go.Proofs.YtiennniclkbjlaaGreatDoor.RB

theorem put_mem {L : List ByteArray} {x y : ByteArray} : y ∈ putL L x ↔ y ∈ L ∨ y = x := by
  unfold putL
  cases h : hasB x L with
  | true =>
    rw [if_pos rfl]
    constructor
    · exact Or.inl
    · rintro (h' | rfl)
      · exact h'
      · exact hasB_iff.1 h
  | false => simp
theorem put_nodup {L : List ByteArray} {x : ByteArray} (h : L.Nodup) : (putL L x).Nodup := by
  unfold putL
  cases hh : hasB x L with
  | true => exact h
  | false =>
    show (L ++ [x]).Nodup
    rw [List.nodup_append]
    refine ⟨h, by simp, ?_⟩
    intro a ha b hb
    simp at hb; subst hb
    rintro rfl
    exact hasB_no.1 hh ha
/-- each is where a link leads -/
theorem fold_each (B : Ad) : ∀ (L acc : List ByteArray), (∀ y ∈ L.foldl (pageStep B) acc, y ∈ acc ∨ ∃ l ∈ L, ∃ C, joinF B l.data.toList = some C ∧ y = textF C) ∧ (acc.Nodup → (L.foldl (pageStep B) acc).Nodup) ∧ (∀ y ∈ acc, y ∈ L.foldl (pageStep B) acc) ∧ (∀ l ∈ L, ∀ C, joinF B l.data.toList = some C → textF C ∈ L.foldl (pageStep B) acc) := by
  intro L
  induction L with
  | nil => intro acc; exact ⟨fun y hy => Or.inl hy, fun h => h, fun y hy => hy, fun l hl => by cases hl⟩
  | cons x L ih =>
    intro acc
    obtain ⟨i1, i2, i3, i4⟩ := ih (pageStep B acc x)
    have hs : ∀ y, y ∈ pageStep B acc x → y ∈ acc ∨ ∃ C, joinF B x.data.toList = some C ∧ y = textF C := by
      intro y hy
      unfold pageStep at hy
      cases hj : joinF B x.data.toList with
      | none => rw [hj] at hy; exact Or.inl hy
      | some C =>
        rw [hj] at hy
        rcases put_mem.1 hy with h | h
        · exact Or.inl h
        · exact Or.inr ⟨C, rfl, h⟩
    have hk : ∀ y ∈ acc, y ∈ pageStep B acc x := by
      intro y hy
      unfold pageStep
      split
      · exact put_mem.2 (Or.inl hy)
      · exact hy
    refine ⟨?_, ?_, ?_, ?_⟩
    · intro y hy
      rcases i1 y hy with h | ⟨l, hl, C, h1, h2⟩
      · rcases hs y h with h | ⟨C, h1, h2⟩
        · exact Or.inl h
        · exact Or.inr ⟨x, by simp, C, h1, h2⟩
      · exact Or.inr ⟨l, by simp [hl], C, h1, h2⟩
    · intro h
      apply i2
      unfold pageStep
      split
      · exact put_nodup h
      · exact h
    · intro y hy; exact i3 y (hk y hy)
    · intro l hl C hC
      rcases List.mem_cons.1 hl with rfl | hl
      · apply i3
        unfold pageStep; rw [hC]; exact put_mem.2 (Or.inr rfl)
      · exact i4 l hl C hC
theorem page_each {A : Ad} {t : ByteArray} {y : ByteArray} (h : y ∈ pageF A t) : ∃ C, okB C = true ∧ y = textF C := by
  unfold pageF at h
  split at h
  · rcases (fold_each _ _ []).1 y h with h | ⟨l, _, C, h1, h2⟩
    · cases h
    · exact ⟨C, join_ok h1, h2⟩
  · cases h
theorem page_nodup (A : Ad) (t : ByteArray) : (pageF A t).Nodup := by
  unfold pageF
  split
  · exact (fold_each _ _ []).2.1 (by simp)
  · simp
theorem page_len (A : Ad) (t : ByteArray) : (pageF A t).length ≤ 300 := by
  unfold pageF
  split
  · have := pageL_len (fromF A t) (linksF t) []
    have h2 := links_len t
    unfold pageL
    simp at this; omega
  · simp

theorem once_take {L : List ByteArray} (h : L.Nodup) {k : Nat} (hk : k < L.length) : hasB L[k] (L.take k) = false := by
  apply hasB_no.2
  intro hm
  obtain ⟨i, hi, e⟩ := List.getElem_of_mem hm
  have hi' : i < k := by simp at hi; omega
  rw [List.getElem_take] at e
  have := (List.pairwise_iff_getElem.1 h) i k (by omega) hk hi'
  exact this e
theorem has_n (a0 : Option Addr) (cap n : Nat) (A : List ByteArray) (x : ByteArray) (w : World) (hn : A.length = n) (hA : IsStrs w a0 cap A) (hl : n ≤ 4194304) :
    Calls Tryz.prog 42 #[.slice a0 n cap, .string x] w fun e w' => e = .returned (.bool (hasB x A)) ∧ w' = w := by
  subst hn; exact has_any a0 cap A x w hA hl
set_option maxRecDepth 100000 in
set_option maxHeartbeats 1600000 in
theorem once_any (a0 : Option Addr) (cap : Nat) (L : List ByteArray) (w : World) (hA : IsStrs w a0 cap L) (hl : L.length ≤ 4194304) (hn : L.Nodup) :
    Calls Tryz.prog 15 #[.slice a0 L.length cap] w fun e w' => e = .returned (.bool true) ∧ ∃ n, w' = w.drewN n := by
  have HA : Hid (IsStrs w a0 cap L) := hA
  have HN : Hid _ := hn
  have hcp := hA.1
  have hcm := hA.2.1
  unfold maxLen at hcm
  clear hA hn
  go_enter Tryz.func15, Tryz.ntmps15
  go_wp2
  go_loopw [3] (fun i wr => ∃ k : Nat, k ≤ L.length ∧ i = .int .i64 (k : Int) ∧ Hid (∃ n, wr = w.drewN n)) (fun i _ => L.length - (intOf i).toNat)
  case atStart => exact ⟨0, Nat.zero_le _, rfl, ⟨0, rfl⟩⟩
  case round =>
    obtain ⟨k, hk, rfl, HW⟩ := hrel
    by_cases hlt : k < L.length
    · have hpw := HW.out
      obtain ⟨n, hn⟩ := hpw
      have hAr : IsStrs wr a0 cap L := by rw [hn]; exact IsStrs.drewN HA.out n
      obtain ⟨b1, o1, e1, c1⟩ := hAr.at hlt
      have HAr : Hid (IsStrs wr a0 cap (L.take k)) := hAr.cut k
      have HO : Hid _ := once_take HN.out hlt
      have hlk : (L.take k).length = k := by simp; omega
      have HLK : Hid _ := hlk
      clear hn hAr hlk
      subst e1
      have hkc : (k : Int) ≤ (cap : Int) := by omega
      have HPW : Hid (∃ n, wr.drew = w.drewN n) := by
        obtain ⟨n, hn⟩ := HW.out
        exact ⟨n + 1, by rw [hn]; rfl⟩
      go_wp2
      go_region_with (go_at_call 42; refine (has_n (some ⟨b1, o1, none⟩) cap k (L.take k) L[k] wr.drew HLK.out (IsStrs.keep HAr.out fun _ _ => rfl) (by omega)).mono ?_; rintro e w1 ⟨rfl, rfl⟩; rw [HO.out])
      all_goals
        go_wp2
        go_roundw
        case rel => exact ⟨k + 1, by omega, by go_num, HPW⟩
        case measure => simp [intOf]; omega
    · go_wp2
      go_ret
      exact ⟨rfl, HW.out⟩
end Go.Proofs.YtiennniclkbjlaaGreatDoor.PgA
/- Where one comes from an address of a world: what holds of it. -/
namespace Go.Proofs.YtiennniclkbjlaaGreatDoor.Wd
open Go.RowKit Go.Proofs.YtiennniclkbjlaaGreatDoor.EscM Go.Proofs.YtiennniclkbjlaaGreatDoor.AddrM Go.Proofs.YtiennniclkbjlaaGreatDoor.ReadM Go.Proofs.YtiennniclkbjlaaGreatDoor.St Go.Proofs.YtiennniclkbjlaaGreatDoor.EscL Go.Proofs.YtiennniclkbjlaaGreatDoor.PathM Go.Proofs.YtiennniclkbjlaaGreatDoor.Ad1 Go.Proofs.YtiennniclkbjlaaGreatDoor.Rd1 Go.Proofs.YtiennniclkbjlaaGreatDoor.LibM Go.Proofs.YtiennniclkbjlaaGreatDoor.Im Go.Proofs.YtiennniclkbjlaaGreatDoor.RdA Go.Proofs.YtiennniclkbjlaaGreatDoor.WdM Go.Proofs.YtiennniclkbjlaaGreatDoor.RR Go.Proofs.YtiennniclkbjlaaGreatDoor.RoPg Go.Proofs.YtiennniclkbjlaaGreatDoor.PgA Go.Proofs.YtiennniclkbjlaaGreatDoor.RB

theorem ok_mem {L : List Pg} (h : wOk L = true) {p : Pg} (hp : p ∈ L) : pgB p = true := by
  obtain ⟨i, hi, rfl⟩ := List.getElem_of_mem hp
  exact (((wOk_iff L).1 h).1 i hi).1
theorem found_norm {L : List Pg} {s : ByteArray} (h : wOk L = true) {p : Pg} (hf : L.find? (sameA s) = some p) : normT s = true := by
  have hp := ok_mem h (List.mem_of_find?_eq_some hf)
  have hs : sameA s p = true := by simpa using List.find?_some hf
  have he : p.addr.toList = s.toList := eq_of_beq hs
  have he2 : p.addr = s := by
    rw [ByteArray.toList_eq, ByteArray.toList_eq] at he
    exact ByteArray.ext (Array.ext' he)
  unfold pgB at hp
  simp only [Bool.and_eq_true] at hp
  rw [← he2]
  exact hp.1.1.1
theorem lead_norm {p : Pg} (h : pgB p = true) (h2 : p.lead.toList.isEmpty = false) : normT p.lead = true := by
  unfold pgB at h
  simp only [Bool.and_eq_true, Bool.or_eq_true] at h
  rcases h.2 with h | h
  · rw [h] at h2; cases h2
  · exact h.2
theorem kind_three {L : List Pg} {s : ByteArray} (h : wOk L = true) :
    ((kindF L s 2).1 = 1 ∧ ∃ A, readF s.data.toList = some A ∧ bulkA A ≤ 1000 ∧ fromW L s = pageF A (kindF L s 2).2) ∨ ((kindF L s 2).1 = 2 ∧ fromW L s = [(kindF L s 2).2]) ∨ ((¬ (kindF L s 2).1 = 1) ∧ (¬ (kindF L s 2).1 = 2) ∧ fromW L s = []) := by
  cases hn : normA s with
  | none =>
    refine Or.inr (Or.inr ?_)
    have hk : kindF L s 2 = (0, ⟨#[]⟩) := by
      unfold kindF
      cases hf : L.find? (sameA s) with
      | none => rfl
      | some p =>
        have := found_norm h hf
        rw [normT_eq, hn] at this; cases this
    rw [hk]
    exact ⟨by decide, by decide, fromW_none hn⟩
  | some A =>
    obtain ⟨h3, _⟩ := norm_some hn
    rw [fromW_ok h hn]
    by_cases h1 : (kindF L s 2).1 = 1
    · exact Or.inl ⟨h1, A, h3, read_le h3, by unfold leadF; rw [if_pos h1]⟩
    · by_cases h2 : (kindF L s 2).1 = 2
      · exact Or.inr (Or.inl ⟨h2, by unfold leadF; rw [if_neg h1, if_pos h2]⟩)
      · exact Or.inr (Or.inr ⟨h1, h2, by unfold leadF; rw [if_neg h1, if_neg h2]⟩)
theorem kind_lead {L : List Pg} {s : ByteArray} (h : wOk L = true) (h2 : (kindF L s 2).1 = 2) : normT (kindF L s 2).2 = true := by
  unfold kindF at h2 ⊢
  cases hf : L.find? (sameA s) with
  | none => rw [hf] at h2; cases h2
  | some p =>
    rw [hf] at h2
    have hp := ok_mem h (List.mem_of_find?_eq_some hf)
    dsimp only at h2 ⊢
    by_cases h0 : (2 : Int) < p.fails
    · rw [if_pos h0] at h2; cases h2
    · rw [if_neg h0] at h2 ⊢
      cases hl : p.lead.toList.isEmpty with
      | true => rw [hl] at h2; cases h2
      | false => exact lead_norm hp hl
/-- what is led to is an address, as it is written -/
theorem from_each {L : List Pg} {s y : ByteArray} (hy : y ∈ fromW L s) : ∃ C, readF y.data.toList = some C ∧ textF C = y ∧ bulkA C ≤ 1000 ∧ y.size ≤ 60 := by
  cases hw : wOk L with
  | false => rw [fromW_bad hw] at hy; cases hy
  | true =>
    rcases kind_three (s := s) hw with ⟨_, A, _, _, h3⟩ | ⟨h1, h3⟩ | ⟨_, _, h3⟩
    · rw [h3] at hy
      obtain ⟨C, hC, rfl⟩ := page_each hy
      refine ⟨C, ?_, rfl, (Door.ok_sum hC).2, Dr.textF_size C⟩
      rw [Door.text_data hC]; exact read_back hC
    · rw [h3] at hy
      simp only [List.mem_singleton] at hy
      have hn := kind_lead hw h1
      rw [← hy] at hn
      have hz := norm_short hn
      rw [normT_eq] at hn
      cases hc : normA y with
      | none => rw [hc] at hn; cases hn
      | some C =>
        obtain ⟨h4, h5⟩ := norm_some hc
        exact ⟨C, h4, h5, read_le h4, hz⟩
    · rw [h3] at hy; cases hy
theorem from_nodup (L : List Pg) (s : ByteArray) : (fromW L s).Nodup := by
  cases hw : wOk L with
  | false => rw [fromW_bad hw]; exact List.nodup_nil
  | true =>
    rcases kind_three (s := s) hw with ⟨_, A, _, _, h3⟩ | ⟨_, h3⟩ | ⟨_, _, h3⟩
    · rw [h3]; exact page_nodup _ _
    · rw [h3]; exact List.nodup_cons.2 ⟨(fun h => nomatch h), List.nodup_nil⟩
    · rw [h3]; exact List.nodup_nil
theorem from_len (L : List Pg) (s : ByteArray) : (fromW L s).length ≤ 300 := by
  cases hw : wOk L with
  | false => rw [fromW_bad hw]; exact Nat.zero_le _
  | true =>
    rcases kind_three (s := s) hw with ⟨_, A, _, _, h3⟩ | ⟨_, h3⟩ | ⟨_, _, h3⟩
    · rw [h3]; exact page_len _ _
    · rw [h3]; show 1 ≤ 300; omega
    · rw [h3]; exact Nat.zero_le _
end Go.Proofs.YtiennniclkbjlaaGreatDoor.Wd
/- What a house's notice says to a caller: of the program and of the model. -/
namespace Go.Proofs.YtiennniclkbjlaaGreatDoor.WdN
open Go.RowKit Go.Proofs.YtiennniclkbjlaaGreatDoor.EscM Go.Proofs.YtiennniclkbjlaaGreatDoor.AddrM Go.Proofs.YtiennniclkbjlaaGreatDoor.ReadM Go.Proofs.YtiennniclkbjlaaGreatDoor.St Go.Proofs.YtiennniclkbjlaaGreatDoor.EscL Go.Proofs.YtiennniclkbjlaaGreatDoor.Ad1 Go.Proofs.YtiennniclkbjlaaGreatDoor.Rd1 Go.Proofs.YtiennniclkbjlaaGreatDoor.RuleM Go.Proofs.YtiennniclkbjlaaGreatDoor.RdA Go.Proofs.YtiennniclkbjlaaGreatDoor.MkA Go.Proofs.YtiennniclkbjlaaGreatDoor.Mp Go.Proofs.YtiennniclkbjlaaGreatDoor.WdM Go.Proofs.YtiennniclkbjlaaGreatDoor.Wd Go.Proofs.YtiennniclkbjlaaGreatDoor.RR Go.Proofs.YtiennniclkbjlaaGreatDoor.LetM Go.Proofs.YtiennniclkbjlaaGreatDoor.Nm Go.Proofs.YtiennniclkbjlaaGreatDoor.GrM Go.Proofs.YtiennniclkbjlaaGreatDoor.Gf Go.Proofs.YtiennniclkbjlaaGreatDoor.Dr Go.Proofs.YtiennniclkbjlaaGreatDoor.RoPg Go.Proofs.YtiennniclkbjlaaGreatDoor.NrM Go.Proofs.YtiennniclkbjlaaGreatDoor.NrT Go.Proofs.YtiennniclkbjlaaGreatDoor.NrW

/-- groups as they are read, without where they lie -/
def withT (L : List (List ByteArray × List Ru × Int)) (s : ByteArray) : List (List ByteArray × List Ru × Int) := L.filter fun g => hasB s g.1
def toldT (L : List (List ByteArray × List Ru × Int)) (s : ByteArray) : List (List ByteArray × List Ru × Int) := if withT L s = [] then withT L star else withT L s
def rulesT (L : List (List ByteArray × List Ru × Int)) : List Ru := L.flatMap (·.2.1)
def waitT (L : List (List ByteArray × List Ru × Int)) : Int := L.foldl (fun m g => max m g.2.2) 0
theorem with_map (L : List Gr) (s : ByteArray) : (withL L s).map grp = withT (L.map grp) s := by
  unfold withL withT
  rw [List.filter_map]; rfl
theorem told_map (L : List Gr) (s : ByteArray) : (toldL L s).map grp = toldT (L.map grp) s := by
  unfold toldL toldT
  by_cases h : withL L s = []
  · rw [if_pos h, if_pos (by rw [← with_map, h]; rfl), with_map]
  · rw [if_neg h, if_neg (fun e => h (by rw [← with_map] at e; exact List.map_eq_nil_iff.1 e)), with_map]
theorem rules_map (L : List Gr) : rulesL L = rulesT (L.map grp) := by
  unfold rulesL rulesT
  rw [List.flatMap_map]; rfl
theorem wait_map (L : List Gr) : waitL L = waitT (L.map grp) := by
  unfold waitL waitT
  rw [List.foldl_map]; rfl
/-- what is said to a caller of what one got at a notice -/
def saysG (k : Int × ByteArray) (s : ByteArray) : List ByteArray × List Ru × Int :=
  if k.1 = 1 then ([s], rulesT (toldT (noticeF k.2) s), waitT (toldT (noticeF k.2) s)) else if k.1 = 3 then ([s], [⟨false, ⟨#[47]⟩⟩], 0) else ([s], [], 0)
theorem says_page (t s : ByteArray) : saysG (1, t) s = ([s], rulesT (toldT (noticeF t) s), waitT (toldT (noticeF t) s)) := rfl
theorem says_fail (t s : ByteArray) : saysG (3, t) s = ([s], [⟨false, ⟨#[47]⟩⟩], 0) := rfl
theorem says_else {k : Int} (t s : ByteArray) (h1 : ¬ k = 1) (h3 : ¬ k = 3) : saysG (k, t) s = ([s], [], 0) := by unfold saysG; rw [if_neg h1, if_neg h3]
/-- a group, and what it says -/
def SaidG (w w' : World) (T : List ByteArray × List Ru × Int) (e : Ending) : Prop :=
  ∃ g : Gr, e = .returned (.agg #[.slice g.na g.nm.length g.nc, .slice g.ra g.ru.length g.rc, .int .i64 g.wait]) ∧ grp g = T ∧ GrOwn w' w.heap.size g ∧ Below w.heap.size w w'
theorem said_of {w w' : World} {L : List Gr} {s : ByteArray} {e : Ending} {n : List (List ByteArray × List Ru × Int)} (h : Said w w' L s e) (hL : L.map grp = n) : SaidG w w' ([s], rulesT (toldT n s), waitT (toldT n s)) e := by
  obtain ⟨g, he, h1, h2, h3, h4, h5⟩ := h
  refine ⟨g, he, ?_, h4, h5⟩
  unfold grp
  rw [h1, h2, h3, rules_map, wait_map, told_map, hL]
theorem said_put {w wr w4 : World} {g : Gr} (hz : Bx 35 wr w.heap.size #[.slice none 0 0, .slice none 0 0, .int .i64 0]) (ho : GrOwn wr w.heap.size g) (hb : Below w.heap.size w wr) (e : w4 = ((wr.setCell ⟨w.heap.size, 0, none⟩ (.slice g.na g.nm.length g.nc)).setCell ⟨w.heap.size, 1, none⟩ (.slice g.ra g.ru.length g.rc)).setCell ⟨w.heap.size, 2, none⟩ (.int .i64 g.wait)) :
    GrOwn w4 w.heap.size g ∧ Below w.heap.size w w4 ∧ Bx 35 w4 w.heap.size #[.slice g.na g.nm.length g.nc, .slice g.ra g.ru.length g.rc, .int .i64 g.wait] := by
  have b1 := hz.set 0 (.slice g.na g.nm.length g.nc)
  have b2 := b1.set 1 (.slice g.ra g.ru.length g.rc)
  have b3 := b2.set 2 (.int .i64 g.wait)
  have g1 : wr.grownBy (wr.setCell ⟨w.heap.size, 0, none⟩ (.slice g.na g.nm.length g.nc)) (some w.heap.size) := grown_set 0 _
  have g2 := Dr.grown_trans g1 (grown_set 1 (.slice g.ra g.ru.length g.rc))
  have g3 := Dr.grown_trans g2 (grown_set 2 (.int .i64 g.wait))
  subst e
  exact ⟨⟨own_type ho.1 hz (by decide) g3, own_type ho.2 hz (by decide) g3⟩, hb.trans (grown_any _ g3 hb.size (fun k hk => by have := Option.some.inj hk; omega)), b3⟩
/-- what is read of a notice can be gone by -/
theorem notice_bd {s : ByteArray} {L : List Gr} (h : L.map grp = noticeF s) : L.length ≤ 40 ∧ ∀ g ∈ L, GrSz g ∧ (0 ≤ g.wait ∧ g.wait ≤ 1000000) ∧ g.ru.length ≤ 6 := by
  have hz := sz_mono (sz_read lineF (fun _ _ h => line_ok h) (splitS 10 s) (min 40 (splitS 10 s).length)) (Nat.min_le_left _ _)
  have h1 := hz.1
  have h2 := hz.2
  have e : (readTo lineF (splitS 10 s) (min 40 (splitS 10 s).length)).gs = L.map grp := h.symm
  rw [e] at h1 h2
  refine ⟨by simpa using h1, fun g hg => ?_⟩
  obtain ⟨h3, h4, h5, h6, h7, h8, _⟩ := h2 (grp g) (List.mem_map.2 ⟨g, hg, rfl⟩)
  have h7' : 0 ≤ g.wait := h7
  have h8' : g.wait ≤ 20 := h8
  have h3' : g.nm.length ≤ 40 := h3
  have h5' : g.ru.length ≤ 6 := h5
  exact ⟨⟨by omega, by omega, fun s hs => Nat.le_trans (h4 s hs) (by decide), fun r hr => Nat.le_trans (h6 r hr).1 (by decide)⟩, ⟨h7', by omega⟩, h5'⟩
/-- where a house's notice stands -/
def doorA (house : ByteArray) : Ad := ⟨house, [⟨#[110, 111, 116, 105, 99, 101]⟩], false, ⟨#[]⟩⟩
def doorS (house : ByteArray) : ByteArray := (⟨#[47, 47]⟩ : ByteArray) ++ house ++ (⟨#[47, 110, 111, 116, 105, 99, 101]⟩ : ByteArray)
theorem door_text {house : ByteArray} (h : houseB house = true) : textF (doorA house) = doorS house := by
  have hz : house.size ≤ 5 := by unfold houseB at h; simp at h; omega
  have h1 : ([⟨#[110, 111, 116, 105, 99, 101]⟩] : List ByteArray).all partB = true := by decide +kernel
  have h2 : normB ⟨#[]⟩ = true := by decide +kernel
  have h3 : (textL (doorA house)).length ≤ 60 := by
    unfold textL pathL doorA joinL
    have : house.data.toList.length = house.size := by simp
    simp; omega
  have hok : okB (doorA house) = true := by
    unfold okB
    show (houseB house && decide (([⟨#[110, 111, 116, 105, 99, 101]⟩] : List ByteArray).length ≤ 5) && ([⟨#[110, 111, 116, 105, 99, 101]⟩] : List ByteArray).all partB && (false || (⟨#[]⟩ : ByteArray).toList.isEmpty) && normB ⟨#[]⟩ && decide ((textL (doorA house)).length ≤ 60)) = true
    rw [h, h1, h2, decide_eq_true h3]
    have : (⟨#[]⟩ : ByteArray).toList.isEmpty = true := by rw [ByteArray.toList_eq]; rfl
    rw [this]; rfl
  unfold textF textS
  rw [if_pos hok]
  unfold textL pathL doorA doorS joinL
  apply ByteArray.ext
  apply Array.toList_inj.1
  simp

set_option maxRecDepth 100000 in
set_option maxHeartbeats 1600000 in
theorem noticeAddr_any (house : ByteArray) (w : World) (h : houseB house = true) :
    Calls Tryz.prog 53 #[.string house] w fun e w' => e = .returned (.string (doorS house)) ∧ Below w.heap.size w w' := by
  have hz : house.size ≤ 5 := by unfold houseB at h; simp at h; omega
  have HT : Hid (textF (doorA house) = doorS house) := door_text h
  have HS : Hid (IsStrs (w.alloc (.cells #[.string ⟨#[110, 111, 116, 105, 99, 101]⟩] 9)) (some ⟨w.heap.size, 0, none⟩) 1 (doorA house).parts) := by
    have := Owns.strsOf (Dr.Owns.lit1 w w.heap.size ⟨#[110, 111, 116, 105, 99, 101]⟩ (Nat.le_refl _))
    exact this
  have HA : Hid _ := fun W hW => implAddrText_any (doorA house) (some ⟨w.heap.size, 0, none⟩) 1 W hW (by
    have e : bulkA (doorA house) = house.size + 6 + 1 + 0 := by unfold bulkA doorA sumS; rfl
    rw [e]; omega)
  have HA2 : Hid (∀ W, IsStrs W (some ⟨w.heap.size, 0, none⟩) 1 (doorA house).parts → Calls Tryz.prog 79 #[.agg #[.string house, .slice (some ⟨w.heap.size, 0, none⟩) 1 1, .bool false, .string ⟨#[]⟩]] W fun e w' => e = .returned (.string (doorS house)) ∧ Below W.heap.size W w') := fun W hW => (HA.out W hW).mono (by rintro e w' ⟨rfl, hb⟩; exact ⟨by rw [HT.out], hb⟩)
  clear HA HT h
  go_enter Tryz.func53, Tryz.ntmps53
  go_wp2_with fail
  refine (HA2.out _ HS.out).mono ?_
  rintro e w1 ⟨rfl, hb1⟩
  have HB : Hid (Below w.heap.size w w1) := ((Below.refl _ w).alloc (Nat.le_refl _) _).trans (hb1.mono (by simp))
  clear hb1
  go_wp2
  go_ret
  exact ⟨rfl, HB.out⟩

set_option maxRecDepth 100000 in
set_option maxHeartbeats 3200000 in
theorem noticeAt_any (b : Nat) (L : List Pg) (house name : ByteArray) (w : World) (hM : Im.Mx w) (h : IsMap w b (entsL L)) (hh : houseB house = true) (ht : ∀ p ∈ L, p.text.size ≤ 1000000) :
    Calls Tryz.prog 125 #[.map (some b), .string house, .string name] w fun e w' => SaidG w w' (saysG (kindF L (doorS house) 2) name) e := by
  have HM : Hid (Im.Mx w) := hM
  have HMP : Hid (IsMap w b (entsL L)) := h
  have HNA : Hid _ := noticeAddr_any house (w.alloc (.cells #[.slice none 0 0, .slice none 0 0, .int .i64 0] 35)) hh
  have HGL : Hid _ := fun W hW => getAtLast_any b L (doorS house) W hW
  have hkt : (kindF L (doorS house) 2).1 = 1 → (kindF L (doorS house) 2).2.size ≤ 1000000 := by
    intro h1
    unfold kindF at h1 ⊢
    cases hf : L.find? (sameA (doorS house)) with
    | none => rw [hf] at h1; cases h1
    | some p =>
      rw [hf] at h1
      have hp := ht p (List.mem_of_find?_eq_some hf)
      dsimp only at h1 ⊢
      by_cases h0 : 2 < p.fails
      · rw [if_pos h0] at h1; cases h1
      · rw [if_neg h0] at h1 ⊢
        by_cases h2 : p.lead.toList.isEmpty = true
        · rw [if_pos h2]; exact hp
        · rw [if_neg h2] at h1; cases h1
  have HZ0 : Hid (Bx 35 (w.alloc (.cells #[.slice none 0 0, .slice none 0 0, .int .i64 0] 35)) w.heap.size #[.slice none 0 0, .slice none 0 0, .int .i64 0]) := Bx.new 35 w _
  have HB0 : Hid (Below w.heap.size w (w.alloc (.cells #[.slice none 0 0, .slice none 0 0, .int .i64 0] 35))) := (Below.refl _ w).alloc (Nat.le_refl _) _
  clear hM h ht
  generalize kindF L (doorS house) 2 = K at *
  generalize doorS house = da at *
  obtain ⟨k, t⟩ := K
  dsimp only at *
  go_enter Tryz.func125, Tryz.ntmps125
  go_wp2_with fail
  refine Calls.mono HNA.out ?_
  rintro e w1 ⟨rfl, hb1⟩
  have HB1 : Hid (Below w.heap.size w w1) := HB0.out.trans (hb1.mono HB0.out.size)
  have HZ1 : Hid (Bx 35 w1 w.heap.size #[.slice none 0 0, .slice none 0 0, .int .i64 0]) := HZ0.out.keep (fun k hk => hb1.block k hk)
  clear hb1 HNA HB0 HZ0
  go_wp2_with fail
  refine (HGL.out _ (HMP.out.below HB1.out)).mono ?_
  rintro e w2 ⟨rfl, hb2⟩
  have HB2 : Hid (Below w.heap.size w w2) := HB1.out.trans (hb2.mono HB1.out.size)
  have HZ2 : Hid (Bx 35 w2 w.heap.size #[.slice none 0 0, .slice none 0 0, .int .i64 0]) := HZ1.out.keep (fun k hk => hb2.block k hk)
  have HM2 : Hid (Im.Mx w2) := HM.out.below HB2.out
  have hw2 : w.heap.size ≤ w2.heap.size := HB2.out.size
  clear hb2 HGL HB1 HZ1 HMP HM
  by_cases h1 : k = 1
  · subst h1
    have htz := hkt rfl
    go_wp2_with fail
    refine (NiP.implRead_notice t _ HM2.out htz).mono ?_
    rintro e w3 ⟨v3, A, rfl, hgA, hmA, hb3⟩
    obtain ⟨aa, ca, hv3, hIA, hAA⟩ := hgA.at
    subst hv3
    obtain ⟨hl, hbd⟩ := notice_bd hmA
    have HMA : Hid (A.map grp = noticeF t) := hmA
    have HF : Hid _ := implFor_any aa ca A name w3 hIA hAA (fun g hg => (hbd g hg).1) (by omega) (fun g hg => (hbd g hg).2.1) (fun g hg => by have := (hbd g hg).2.2; omega)
    have HB3 : Hid (Below w.heap.size w w3) := HB2.out.trans (hb3.mono HB2.out.size)
    have HZ3 : Hid (Bx 35 w3 w.heap.size #[.slice none 0 0, .slice none 0 0, .int .i64 0]) := HZ2.out.keep (fun k hk => hb3.block k hk)
    clear hgA hmA hb3 hIA hAA hbd
    go_wp2_with fail
    refine Calls.mono HF.out ?_
    intro e w4 hs
    obtain ⟨g, rfl, hg, hgo, hb4⟩ := said_of hs HMA.out
    have HG : Hid (grp g = saysG (1, t) name) := hg.trans (says_page t name).symm
    have HO : Hid (GrOwn w4 w.heap.size g) := hgo.mono HB3.out.size
    have HBF : Hid (Below w.heap.size w w4) := HB3.out.trans (hb4.mono HB3.out.size)
    have HZF : Hid (Bx 35 w4 w.heap.size #[.slice none 0 0, .slice none 0 0, .int .i64 0]) := HZ3.out.keep (fun k hk => hb4.block k hk)
    clear hs hg hgo hb4
    have z0 : w4.cell? ⟨w.heap.size, 0, none⟩ = some (.slice none 0 0) := HZF.out.cell 0 rfl
    have z1 : w4.cell? ⟨w.heap.size, 1, none⟩ = some (.slice none 0 0) := HZF.out.cell 1 rfl
    have z2 : w4.cell? ⟨w.heap.size, 2, none⟩ = some (.int .i64 0) := HZF.out.cell 2 rfl
    have zf : ∀ j, w4.frozen? ⟨w.heap.size, j, none⟩ = false := HZF.out.free
    go_wp2
    obtain ⟨w9, hw9⟩ : ∃ w9, w9 = ((w4.setCell ⟨w.heap.size, 0, none⟩ (.slice g.na g.nm.length g.nc)).setCell ⟨w.heap.size, 1, none⟩ (.slice g.ra g.ru.length g.rc)).setCell ⟨w.heap.size, 2, none⟩ (.int .i64 g.wait) := ⟨_, rfl⟩
    rw [← hw9]
    obtain ⟨ho1, ho2, ho3⟩ := said_put HZF.out HO.out HBF.out hw9
    have r0 := ho3.cell 0 rfl
    have r1 := ho3.cell 1 rfl
    have r2 := ho3.cell 2 rfl
    clear hw9 ho3
    refine bodyPost_ret (v := .agg #[.slice g.na g.nm.length g.nc, .slice g.ra g.ru.length g.rc, .int .i64 g.wait]) (by simp [results, Tryz.results125, go_sem, r0, r1, r2]) rfl ?_
    exact ⟨g, rfl, HG.out, ho1, ho2⟩
  · have e1 : (k == 1) = false := by simpa using h1
    by_cases h3 : k = 3
    · subst h3
      have HO1 : Hid (Owns (w2.alloc (.cells #[.string name] 9)) w.heap.size (.slice (some ⟨w2.heap.size, 0, none⟩) 1 1) [name]) := Dr.Owns.lit1 w2 w.heap.size name hw2
      have HO2 : Hid (OwnsR FRu 135 ((w2.alloc (.cells #[.string name] 9)).alloc (.cells #[.bool false, .string ⟨#[47]⟩] 135)) w.heap.size (.slice (some ⟨w2.heap.size + 1, 0, none⟩) 1 1) [⟨false, ⟨#[47]⟩⟩]) := by
        refine ⟨rfl, Or.inr ⟨w2.heap.size + 1, 1, #[.bool false, .string ⟨#[47]⟩], rfl, by omega, ?_, Nat.le_refl _, by decide, rfl, rfl⟩⟩
        have := heap_new (w2.alloc (.cells #[.string name] 9)) (.cells #[.bool false, .string ⟨#[47]⟩] 135)
        rwa [show (w2.alloc (.cells #[.string name] 9)).heap.size = w2.heap.size + 1 by simp] at this
      have HO : Hid (GrOwn ((w2.alloc (.cells #[.string name] 9)).alloc (.cells #[.bool false, .string ⟨#[47]⟩] 135)) w.heap.size ⟨[name], some ⟨w2.heap.size, 0, none⟩, 1, [⟨false, ⟨#[47]⟩⟩], some ⟨w2.heap.size + 1, 0, none⟩, 1, 0⟩) := ⟨Owns.keep HO1.out (alloc_keep _ _), HO2.out⟩
      have HBF : Hid (Below w.heap.size w ((w2.alloc (.cells #[.string name] 9)).alloc (.cells #[.bool false, .string ⟨#[47]⟩] 135))) := (HB2.out.alloc hw2 _).alloc (by simp; omega) _
      have HZF : Hid (Bx 35 ((w2.alloc (.cells #[.string name] 9)).alloc (.cells #[.bool false, .string ⟨#[47]⟩] 135)) w.heap.size #[.slice none 0 0, .slice none 0 0, .int .i64 0]) := (HZ2.out.alloc _).alloc _
      clear HO1 HO2
      have z0 : ((w2.alloc (.cells #[.string name] 9)).alloc (.cells #[.bool false, .string ⟨#[47]⟩] 135)).cell? ⟨w.heap.size, 0, none⟩ = some (.slice none 0 0) := HZF.out.cell 0 rfl
      have z1 : ((w2.alloc (.cells #[.string name] 9)).alloc (.cells #[.bool false, .string ⟨#[47]⟩] 135)).cell? ⟨w.heap.size, 1, none⟩ = some (.slice none 0 0) := HZF.out.cell 1 rfl
      have z2 : ((w2.alloc (.cells #[.string name] 9)).alloc (.cells #[.bool false, .string ⟨#[47]⟩] 135)).cell? ⟨w.heap.size, 2, none⟩ = some (.int .i64 0) := HZF.out.cell 2 rfl
      have zf : ∀ j, ((w2.alloc (.cells #[.string name] 9)).alloc (.cells #[.bool false, .string ⟨#[47]⟩] 135)).frozen? ⟨w.heap.size, j, none⟩ = false := HZF.out.free
      go_wp2
      obtain ⟨w9, hw9⟩ : ∃ w9, w9 = ((((w2.alloc (.cells #[.string name] 9)).alloc (.cells #[.bool false, .string ⟨#[47]⟩] 135)).setCell ⟨w.heap.size, 0, none⟩ (.slice (some ⟨w2.heap.size, 0, none⟩) 1 1)).setCell ⟨w.heap.size, 1, none⟩ (.slice (some ⟨w2.heap.size + 1, 0, none⟩) 1 1)).setCell ⟨w.heap.size, 2, none⟩ (.int .i64 0) := ⟨_, rfl⟩
      rw [← hw9]
      obtain ⟨ho1, ho2, ho3⟩ := said_put (g := ⟨[name], some ⟨w2.heap.size, 0, none⟩, 1, [⟨false, ⟨#[47]⟩⟩], some ⟨w2.heap.size + 1, 0, none⟩, 1, 0⟩) HZF.out HO.out HBF.out hw9
      have r0 : w9.cell? ⟨w.heap.size, 0, none⟩ = some (.slice (some ⟨w2.heap.size, 0, none⟩) 1 1) := ho3.cell 0 rfl
      have r1 : w9.cell? ⟨w.heap.size, 1, none⟩ = some (.slice (some ⟨w2.heap.size + 1, 0, none⟩) 1 1) := ho3.cell 1 rfl
      have r2 : w9.cell? ⟨w.heap.size, 2, none⟩ = some (.int .i64 0) := ho3.cell 2 rfl
      clear hw9 ho3
      refine bodyPost_ret (v := .agg #[(.slice (some ⟨w2.heap.size, 0, none⟩) 1 1), (.slice (some ⟨w2.heap.size + 1, 0, none⟩) 1 1), .int .i64 0]) (by simp [results, Tryz.results125, go_sem, r0, r1, r2]) rfl ?_
      exact ⟨⟨[name], some ⟨w2.heap.size, 0, none⟩, 1, [⟨false, ⟨#[47]⟩⟩], some ⟨w2.heap.size + 1, 0, none⟩, 1, 0⟩, rfl, (says_fail t name).symm, ho1, ho2⟩
    · have e3 : (k == 3) = false := by simpa using h3
      have HF : Hid _ := implFor_any none 0 [] name w2 (IsRows.nil _ _) (fun g hg => by cases hg) (fun g hg => by cases hg) (by simp) (fun g hg => by cases hg) (fun g hg => by cases hg)
      go_wp2_with fail
      refine Calls.mono HF.out ?_
      intro e w4 hs
      obtain ⟨g, rfl, hg, hgo, hb4⟩ := said_of hs (n := []) rfl
      have HG : Hid (grp g = saysG (k, t) name) := hg.trans (says_else t name h1 h3).symm
      have HO : Hid (GrOwn w4 w.heap.size g) := hgo.mono hw2
      have HBF : Hid (Below w.heap.size w w4) := HB2.out.trans (hb4.mono hw2)
      have HZF : Hid (Bx 35 w4 w.heap.size #[.slice none 0 0, .slice none 0 0, .int .i64 0]) := HZ2.out.keep (fun k hk => hb4.block k hk)
      clear hs hg hgo hb4
      have z0 : w4.cell? ⟨w.heap.size, 0, none⟩ = some (.slice none 0 0) := HZF.out.cell 0 rfl
      have z1 : w4.cell? ⟨w.heap.size, 1, none⟩ = some (.slice none 0 0) := HZF.out.cell 1 rfl
      have z2 : w4.cell? ⟨w.heap.size, 2, none⟩ = some (.int .i64 0) := HZF.out.cell 2 rfl
      have zf : ∀ j, w4.frozen? ⟨w.heap.size, j, none⟩ = false := HZF.out.free
      go_wp2
      obtain ⟨w9, hw9⟩ : ∃ w9, w9 = ((w4.setCell ⟨w.heap.size, 0, none⟩ (.slice g.na g.nm.length g.nc)).setCell ⟨w.heap.size, 1, none⟩ (.slice g.ra g.ru.length g.rc)).setCell ⟨w.heap.size, 2, none⟩ (.int .i64 g.wait) := ⟨_, rfl⟩
      rw [← hw9]
      obtain ⟨ho1, ho2, ho3⟩ := said_put HZF.out HO.out HBF.out hw9
      have r0 := ho3.cell 0 rfl
      have r1 := ho3.cell 1 rfl
      have r2 := ho3.cell 2 rfl
      clear hw9 ho3
      refine bodyPost_ret (v := .agg #[.slice g.na g.nm.length g.nc, .slice g.ra g.ru.length g.rc, .int .i64 g.wait]) (by simp [results, Tryz.results125, go_sem, r0, r1, r2]) rfl ?_
      exact ⟨g, rfl, HG.out, ho1, ho2⟩

end Go.Proofs.YtiennniclkbjlaaGreatDoor.WdN
/- WorldNotice and WorldLets: of the program and of the model. -/
namespace Go.Proofs.YtiennniclkbjlaaGreatDoor.WdN
open Go.RowKit Go.Proofs.YtiennniclkbjlaaGreatDoor.EscM Go.Proofs.YtiennniclkbjlaaGreatDoor.AddrM Go.Proofs.YtiennniclkbjlaaGreatDoor.ReadM Go.Proofs.YtiennniclkbjlaaGreatDoor.St Go.Proofs.YtiennniclkbjlaaGreatDoor.EscL Go.Proofs.YtiennniclkbjlaaGreatDoor.Ad1 Go.Proofs.YtiennniclkbjlaaGreatDoor.Rd1 Go.Proofs.YtiennniclkbjlaaGreatDoor.RuleM Go.Proofs.YtiennniclkbjlaaGreatDoor.RdA Go.Proofs.YtiennniclkbjlaaGreatDoor.MkA Go.Proofs.YtiennniclkbjlaaGreatDoor.Mp Go.Proofs.YtiennniclkbjlaaGreatDoor.WdM Go.Proofs.YtiennniclkbjlaaGreatDoor.Wd Go.Proofs.YtiennniclkbjlaaGreatDoor.RR Go.Proofs.YtiennniclkbjlaaGreatDoor.LetM Go.Proofs.YtiennniclkbjlaaGreatDoor.Nm Go.Proofs.YtiennniclkbjlaaGreatDoor.GrM Go.Proofs.YtiennniclkbjlaaGreatDoor.Gf Go.Proofs.YtiennniclkbjlaaGreatDoor.Dr Go.Proofs.YtiennniclkbjlaaGreatDoor.RoPg Go.Proofs.YtiennniclkbjlaaGreatDoor.NrM Go.Proofs.YtiennniclkbjlaaGreatDoor.NrT Go.Proofs.YtiennniclkbjlaaGreatDoor.NrW

/-- no page's text is too long, or bears a bare word of waiting -/
def PgRd (L : List Pg) : Prop := ∀ p ∈ L, p.text.size ≤ 1000000 ∧ NwT p.text
/-- what a world's notice of a house says to a caller -/
def noticeW (L : List Pg) (house name : ByteArray) : List ByteArray × List Ru × Int := if wOk L && houseB house && nameB name then saysG (kindF L (doorS house) 2) name else ([], [], 0)
theorem notice_no {L : List Pg} {house name : ByteArray} (h : (wOk L && houseB house && nameB name) = false) : noticeW L house name = ([], [], 0) := by unfold noticeW; rw [h]; rfl
theorem notice_yes {L : List Pg} {house name : ByteArray} (h1 : wOk L = true) (h2 : houseB house = true) (h3 : nameB name = true) : noticeW L house name = saysG (kindF L (doorS house) 2) name := by unfold noticeW; rw [h1, h2, h3]; rfl
theorem kind_rd {L : List Pg} (h : PgRd L) (a : ByteArray) (t : Int) (hk : (kindF L a t).1 = 1) : (kindF L a t).2.size ≤ 1000000 ∧ NwT (kindF L a t).2 := by
  unfold kindF at hk ⊢
  cases hf : L.find? (sameA a) with
  | none => rw [hf] at hk; cases hk
  | some p =>
    rw [hf] at hk
    have hp := h p (List.mem_of_find?_eq_some hf)
    dsimp only at hk ⊢
    by_cases h0 : t < p.fails
    · rw [if_pos h0] at hk; cases hk
    · rw [if_neg h0] at hk ⊢
      by_cases h2 : p.lead.toList.isEmpty = true
      · rw [if_pos h2]; exact hp
      · rw [if_neg h2] at hk; cases hk


end Go.Proofs.YtiennniclkbjlaaGreatDoor.WdN
/- May a caller look at an address of a world: of the program and of the model. -/
namespace Go.Proofs.YtiennniclkbjlaaGreatDoor.WdN
open Go.RowKit Go.Proofs.YtiennniclkbjlaaGreatDoor.EscM Go.Proofs.YtiennniclkbjlaaGreatDoor.AddrM Go.Proofs.YtiennniclkbjlaaGreatDoor.ReadM Go.Proofs.YtiennniclkbjlaaGreatDoor.St Go.Proofs.YtiennniclkbjlaaGreatDoor.EscL Go.Proofs.YtiennniclkbjlaaGreatDoor.Ad1 Go.Proofs.YtiennniclkbjlaaGreatDoor.Rd1 Go.Proofs.YtiennniclkbjlaaGreatDoor.RuleM Go.Proofs.YtiennniclkbjlaaGreatDoor.RdA Go.Proofs.YtiennniclkbjlaaGreatDoor.MkA Go.Proofs.YtiennniclkbjlaaGreatDoor.Mp Go.Proofs.YtiennniclkbjlaaGreatDoor.WdM Go.Proofs.YtiennniclkbjlaaGreatDoor.Wd Go.Proofs.YtiennniclkbjlaaGreatDoor.RR Go.Proofs.YtiennniclkbjlaaGreatDoor.LetM Go.Proofs.YtiennniclkbjlaaGreatDoor.Nm Go.Proofs.YtiennniclkbjlaaGreatDoor.GrM Go.Proofs.YtiennniclkbjlaaGreatDoor.Gf Go.Proofs.YtiennniclkbjlaaGreatDoor.Dr Go.Proofs.YtiennniclkbjlaaGreatDoor.RoPg Go.Proofs.YtiennniclkbjlaaGreatDoor.NrM Go.Proofs.YtiennniclkbjlaaGreatDoor.NrT Go.Proofs.YtiennniclkbjlaaGreatDoor.NrW

theorem told_memT {L : List (List ByteArray × List Ru × Int)} {s : ByteArray} {g : List ByteArray × List Ru × Int} (h : g ∈ toldT L s) : g ∈ L := by
  unfold toldT withT at h
  split at h
  · exact (List.mem_filter.1 h).1
  · exact (List.mem_filter.1 h).1
theorem told_lenT (L : List (List ByteArray × List Ru × Int)) (s : ByteArray) : (toldT L s).length ≤ L.length := by
  unfold toldT withT
  split
  · exact List.length_filter_le _ _
  · exact List.length_filter_le _ _
theorem rules_leT (n : Nat) : ∀ L : List (List ByteArray × List Ru × Int), (∀ g ∈ L, g.2.1.length ≤ n) → (rulesT L).length ≤ L.length * n := by
  intro L
  induction L with
  | nil => intro _; simp [rulesT]
  | cons x r ih =>
    intro h
    have h1 := h x (by simp)
    have h2 := ih fun g hg => h g (List.mem_cons_of_mem _ hg)
    have e : (rulesT (x :: r)).length = x.2.1.length + (rulesT r).length := by simp [rulesT]
    rw [e, List.length_cons, Nat.add_mul]; omega
theorem notice_szT (t : ByteArray) : NrSz ⟨noticeF t, true⟩ 40 := by
  have hz := sz_mono (sz_read lineF (fun _ _ h => line_ok h) (splitS 10 t) (min 40 (splitS 10 t).length)) (Nat.min_le_left _ _)
  exact hz
/-- what is said can be gone by -/
theorem says_bd (k : Int × ByteArray) (s : ByteArray) : (saysG k s).2.1.length ≤ 240 ∧ ∀ r ∈ (saysG k s).2.1, r.path.size ≤ 16 := by
  unfold saysG
  split
  · have hz := notice_szT k.2
    have h1 : (noticeF k.2).length ≤ 40 := hz.1
    have h2 := told_lenT (noticeF k.2) s
    refine ⟨?_, fun r hr => ?_⟩
    · have := rules_leT 6 (toldT (noticeF k.2) s) fun g hg => (hz.2 g (told_memT hg)).2.2.1
      dsimp only
      omega
    · obtain ⟨g, hg, hm⟩ := List.mem_flatMap.1 hr
      exact ((hz.2 g (told_memT hg)).2.2.2.1 r hm).1
  · split
    · exact ⟨by simp, fun r hr => by simp at hr; subst hr; decide⟩
    · exact ⟨by simp, fun r hr => by cases hr⟩
theorem path_ok {A : Ad} (h : okB A = true) : pathF A = pathS A := by unfold pathF; rw [h]; rfl
theorem pathF_60 (A : Ad) : (pathF A).size ≤ 60 := by
  unfold pathF
  cases h : okB A with
  | false => exact Nat.zero_le _
  | true =>
    have := (Dr.ok_parts h).2.2.2.2.2
    show (pathL A).toArray.size ≤ 60
    unfold textL at this
    simp at this ⊢; omega

end Go.Proofs.YtiennniclkbjlaaGreatDoor.WdN
/- WorldLets: of the program and of the model. -/
namespace Go.Proofs.YtiennniclkbjlaaGreatDoor.WdN
open Go.RowKit Go.Proofs.YtiennniclkbjlaaGreatDoor.EscM Go.Proofs.YtiennniclkbjlaaGreatDoor.AddrM Go.Proofs.YtiennniclkbjlaaGreatDoor.ReadM Go.Proofs.YtiennniclkbjlaaGreatDoor.St Go.Proofs.YtiennniclkbjlaaGreatDoor.EscL Go.Proofs.YtiennniclkbjlaaGreatDoor.Ad1 Go.Proofs.YtiennniclkbjlaaGreatDoor.Rd1 Go.Proofs.YtiennniclkbjlaaGreatDoor.RuleM Go.Proofs.YtiennniclkbjlaaGreatDoor.RdA Go.Proofs.YtiennniclkbjlaaGreatDoor.MkA Go.Proofs.YtiennniclkbjlaaGreatDoor.Mp Go.Proofs.YtiennniclkbjlaaGreatDoor.WdM Go.Proofs.YtiennniclkbjlaaGreatDoor.Wd Go.Proofs.YtiennniclkbjlaaGreatDoor.RR Go.Proofs.YtiennniclkbjlaaGreatDoor.LetM Go.Proofs.YtiennniclkbjlaaGreatDoor.Nm Go.Proofs.YtiennniclkbjlaaGreatDoor.GrM Go.Proofs.YtiennniclkbjlaaGreatDoor.Gf Go.Proofs.YtiennniclkbjlaaGreatDoor.Dr Go.Proofs.YtiennniclkbjlaaGreatDoor.RoPg Go.Proofs.YtiennniclkbjlaaGreatDoor.NrM Go.Proofs.YtiennniclkbjlaaGreatDoor.NrT Go.Proofs.YtiennniclkbjlaaGreatDoor.NrW

/-- may a caller look there? -/
def letsW (L : List Pg) (name addr : ByteArray) : Bool :=
  match readF addr.data.toList with
  | none => false
  | some A => wOk L && nameB name && letsL (saysG (kindF L (doorS A.house) 2) name).2.1 (pathF A).data.toList
theorem lets_none {L : List Pg} {name addr : ByteArray} (h : readF addr.data.toList = none) : letsW L name addr = false := by unfold letsW; rw [h]
theorem lets_no {L : List Pg} {name addr : ByteArray} (h : (wOk L && nameB name) = false) : letsW L name addr = false := by
  unfold letsW
  cases readF addr.data.toList with
  | none => rfl
  | some A => show (wOk L && nameB name && _) = false; rw [h]; rfl
theorem lets_some {L : List Pg} {name addr : ByteArray} {A : Ad} (h : readF addr.data.toList = some A) (h1 : wOk L = true) (h2 : nameB name = true) : letsW L name addr = letsL (saysG (kindF L (doorS A.house) 2) name).2.1 (pathF A).data.toList := by
  unfold letsW; rw [h]; show (wOk L && nameB name && _) = _; rw [h1, h2]; rfl



end Go.Proofs.YtiennniclkbjlaaGreatDoor.WdN
/- What one comes to in a world. -/
namespace Go.Proofs.YtiennniclkbjlaaGreatDoor.ReM
open Go.Proofs.YtiennniclkbjlaaGreatDoor.AddrM Go.Proofs.YtiennniclkbjlaaGreatDoor.Ad1 Go.Proofs.YtiennniclkbjlaaGreatDoor.Rd1 Go.Proofs.YtiennniclkbjlaaGreatDoor.St Go.Proofs.YtiennniclkbjlaaGreatDoor.PgM Go.Proofs.YtiennniclkbjlaaGreatDoor.PgA Go.Proofs.YtiennniclkbjlaaGreatDoor.RoPg Go.Proofs.YtiennniclkbjlaaGreatDoor.WdM Go.Proofs.YtiennniclkbjlaaGreatDoor.Wd Go.Proofs.YtiennniclkbjlaaGreatDoor.WdN Go.Proofs.YtiennniclkbjlaaGreatDoor.Nm

/-- is a text an address as it is written? -/
def nR (s : ByteArray) : Bool := (normA s).isSome
/-- may a caller look there, and gets to look? -/
def okR (L : List Pg) (name x : ByteArray) : Bool := nR x && !(decide ((kindF L x 2).1 = 3)) && letsW L name x
/-- all that is ever heard of -/
def uR (L : List Pg) (S : List ByteArray) : List ByteArray := S ++ L.flatMap fun p => fromW L p.addr
/-- what one comes to -/
def reachW (L : List Pg) (name : ByteArray) (S : List ByteArray) : List ByteArray :=
  if wOk L && nameB name && decide (S.length ≤ 12) then lstR (okR L name) (fromW L) (uR L S).length 0 (putsL [] (S.filter nR)) [] else []
theorem ok_norm {L : List Pg} {name x : ByteArray} (h : okR L name x = true) : nR x = true := by
  unfold okR at h
  simp only [Bool.and_eq_true] at h
  exact h.1.1
theorem from_uni {L : List Pg} {S : List ByteArray} {x y : ByteArray} (h : y ∈ fromW L x) : y ∈ uR L S := by
  refine List.mem_append_right _ ?_
  cases hf : L.find? (sameA x) with
  | none =>
    exfalso
    have hk : kindF L x 2 = (0, ⟨#[]⟩) := by unfold kindF; rw [hf]
    unfold fromW at h
    split at h
    · split at h
      · rw [hk, lead_no (by decide) (by decide)] at h; cases h
      · cases h
    · cases h
  | some p =>
    have hs := List.find?_some hf
    unfold sameA at hs
    have e : p.addr = x := by
      have e1 : p.addr.toList = x.toList := by simpa using hs
      rw [ByteArray.toList_eq, ByteArray.toList_eq] at e1
      exact ByteArray.ext (Array.toList_inj.1 e1)
    exact List.mem_flatMap.2 ⟨p, List.mem_of_find?_eq_some hf, by rw [e]; exact h⟩
theorem from_norm {L : List Pg} {x y : ByteArray} (h : y ∈ fromW L x) : nR y = true := by
  obtain ⟨C, hC, ht, _⟩ := from_each h
  unfold nR
  rw [normA_yes hC (by rw [ht]; simp)]; rfl
theorem uni_len (L : List Pg) (S : List ByteArray) : (uR L S).length ≤ S.length + L.length * 300 := by
  unfold uR
  rw [List.length_append]
  have : ∀ M : List Pg, (M.flatMap fun p => fromW L p.addr).length ≤ M.length * 300 := by
    intro M
    induction M with
    | nil => simp
    | cons p r ih =>
      have := from_len L p.addr
      rw [List.flatMap_cons, List.length_append, List.length_cons]; omega
  have := this L
  omega
theorem qi_world (L : List Pg) (name : ByteArray) (S : List ByteArray) (h1 : wOk L = true) (h2 : nameB name = true) (h3 : S.length ≤ 12) : QI (okR L name) nR (fromW L) (reachW L name S) (uR L S) (uR L S) [] S [] := by
  have e : reachW L name S = lstR (okR L name) (fromW L) (uR L S).length 0 (putsL [] (S.filter nR)) [] := by unfold reachW; rw [h1, h2, decide_eq_true h3]; rfl
  rw [e]
  exact qi_new S (fun x hx _ => List.mem_append_left _ hx) (fun x hx => List.mem_append_left _ hx)
theorem li_world (L : List Pg) (name : ByteArray) (S : List ByteArray) (h1 : wOk L = true) (h2 : nameB name = true) (h3 : S.length ≤ 12) : LI (okR L name) (fromW L) (reachW L name S) (uR L S) (uR L S).length 0 (putsL [] (S.filter nR)) [] := by
  have e : reachW L name S = lstR (okR L name) (fromW L) (uR L S).length 0 (putsL [] (S.filter nR)) [] := by unfold reachW; rw [h1, h2, decide_eq_true h3]; rfl
  rw [e]
  refine li_new _ (puts_nodup List.nodup_nil) fun x hx => ?_
  rcases puts_mem.1 hx with hx | hx
  · cases hx
  · exact List.mem_append_left _ (List.mem_filter.1 hx).1
theorem reach_no {L : List Pg} {name : ByteArray} {S : List ByteArray} (h : (wOk L && nameB name && decide (S.length ≤ 12)) = false) : reachW L name S = [] := by unfold reachW; rw [h]; rfl
/-- one round more of the queue -/
theorem qi_on {L : List Pg} {name : ByteArray} {R S D q out : List ByteArray} {x : ByteArray} (h : QI (okR L name) nR (fromW L) R (uR L S) (uR L S) D (x :: q) out) (hx : x ∉ D) (hk : okR L name x = true) : QI (okR L name) nR (fromW L) R (uR L S) (uR L S) (putL D x) (q ++ fromW L x) (out ++ [x]) :=
  qi_take ok_norm h hx hk fun _ hy => ⟨from_norm hy, from_uni hy, from_uni hy⟩
theorem li_on {L : List Pg} {name : ByteArray} {R S T out : List ByteArray} {f i : Nat} (h : LI (okR L name) (fromW L) R (uR L S) f i T out) (hi : i < T.length) (hk : okR L name T[i] = true) : ∃ f', LI (okR L name) (fromW L) R (uR L S) f' (i + 1) (putsL T (fromW L T[i])) (out ++ [T[i]]) :=
  li_ok h hi hk fun _ hy => from_uni hy
end Go.Proofs.YtiennniclkbjlaaGreatDoor.ReM
/- Does a caller that comes to an address get to look at it: the program's. -/
namespace Go.Proofs.YtiennniclkbjlaaGreatDoor.ReM
open Go.RowKit Go.Proofs.YtiennniclkbjlaaGreatDoor.EscM Go.Proofs.YtiennniclkbjlaaGreatDoor.AddrM Go.Proofs.YtiennniclkbjlaaGreatDoor.ReadM Go.Proofs.YtiennniclkbjlaaGreatDoor.St Go.Proofs.YtiennniclkbjlaaGreatDoor.EscL Go.Proofs.YtiennniclkbjlaaGreatDoor.Ad1 Go.Proofs.YtiennniclkbjlaaGreatDoor.Rd1 Go.Proofs.YtiennniclkbjlaaGreatDoor.RuleM Go.Proofs.YtiennniclkbjlaaGreatDoor.RdA Go.Proofs.YtiennniclkbjlaaGreatDoor.MkA Go.Proofs.YtiennniclkbjlaaGreatDoor.Mp Go.Proofs.YtiennniclkbjlaaGreatDoor.WdM Go.Proofs.YtiennniclkbjlaaGreatDoor.Wd Go.Proofs.YtiennniclkbjlaaGreatDoor.WdN Go.Proofs.YtiennniclkbjlaaGreatDoor.RR Go.Proofs.YtiennniclkbjlaaGreatDoor.LetM Go.Proofs.YtiennniclkbjlaaGreatDoor.Nm Go.Proofs.YtiennniclkbjlaaGreatDoor.GrM Go.Proofs.YtiennniclkbjlaaGreatDoor.RoPg Go.Proofs.YtiennniclkbjlaaGreatDoor.PgM Go.Proofs.YtiennniclkbjlaaGreatDoor.PgA

end Go.Proofs.YtiennniclkbjlaaGreatDoor.ReM
/- What one comes to: what is said of it. -/
namespace Go.Proofs.YtiennniclkbjlaaGreatDoor.ReM
open Go.Proofs.YtiennniclkbjlaaGreatDoor.St Go.Proofs.YtiennniclkbjlaaGreatDoor.PgM Go.Proofs.YtiennniclkbjlaaGreatDoor.PgA

/-- T holds what is begun with and what is gone on to, each once, and nothing else -/
def Clo (ok : ByteArray → Bool) (next : ByteArray → List ByteArray) (S T : List ByteArray) (i : Nat) : Prop :=
  T.Nodup ∧ i ≤ T.length ∧ (∀ x ∈ S, x ∈ T) ∧ (∀ k (h : k < T.length), k < i → ok T[k] = true → ∀ y ∈ next T[k], y ∈ T) ∧
  ∀ j (h : j < T.length), T[j] ∈ S ∨ ∃ k, ∃ hk : k < T.length, k < j ∧ ok T[k] = true ∧ T[j] ∈ next T[k]
variable {ok : ByteArray → Bool} {next : ByteArray → List ByteArray} {U S : List ByteArray}
theorem pre_get {T T' : List ByteArray} (h : T <+: T') {k : Nat} (hk : k < T.length) : ∃ hk' : k < T'.length, T'[k] = T[k] := by
  obtain ⟨t, rfl⟩ := h
  exact ⟨by simp; omega, by rw [List.getElem_append_left hk]⟩
theorem clo_put {T : List ByteArray} {y : ByteArray} {i : Nat} (h : Clo ok next S T i) (hy : ∃ k, ∃ hk : k < T.length, ok T[k] = true ∧ y ∈ next T[k]) : Clo ok next S (putL T y) i := by
  by_cases hm : y ∈ T
  · rw [put_in hm]; exact h
  obtain ⟨h1, h0, h2, h3, h4⟩ := h
  refine ⟨put_nodup h1, Nat.le_trans h0 (put_pre T y).length_le, fun x hx => put_mem.2 (Or.inl (h2 x hx)), ?_, ?_⟩
  · rw [put_out hm]
    intro k hk hi hok z hz
    by_cases hkt : k < T.length
    · rw [List.getElem_append_left hkt] at hok hz
      exact List.mem_append_left _ (h3 k hkt hi hok z hz)
    · omega
  · rw [put_out hm]
    intro j hj
    by_cases hjt : j < T.length
    · rw [List.getElem_append_left hjt]
      rcases h4 j hjt with h | ⟨k, hk, hkj, hok, hm2⟩
      · exact Or.inl h
      · exact Or.inr ⟨k, by simp; omega, hkj, by rw [List.getElem_append_left hk]; exact hok, by rw [List.getElem_append_left hk]; exact hm2⟩
    · have e : j = T.length := by simp at hj; omega
      subst e
      obtain ⟨k, hk, hok, hy0⟩ := hy
      exact Or.inr ⟨k, by simp; omega, hk, by rw [List.getElem_append_left hk]; exact hok, by rw [List.getElem_append_left hk, List.getElem_append_right (Nat.le_refl _)]; simpa using hy0⟩
theorem clo_puts {i : Nat} {xs : List ByteArray} : ∀ {T : List ByteArray}, Clo ok next S T i → (∃ k, ∃ hk : k < T.length, ok T[k] = true ∧ ∀ y ∈ xs, y ∈ next T[k]) → Clo ok next S (putsL T xs) i := by
  induction xs with
  | nil => intro T h _; exact h
  | cons x r ih =>
    intro T h ⟨k, hk, hok, hy⟩
    refine ih (clo_put h ⟨k, hk, hok, hy x (List.mem_cons_self ..)⟩) ?_
    obtain ⟨hk', e⟩ := pre_get (put_pre T x) hk
    exact ⟨k, hk', by rw [e]; exact hok, by rw [e]; exact fun y hy2 => hy y (List.mem_cons_of_mem _ hy2)⟩
theorem take_pre {T T' : List ByteArray} (h : T <+: T') {i : Nat} (hi : i ≤ T.length) : T'.take i = T.take i := by
  obtain ⟨t, rfl⟩ := h
  exact List.take_append_of_le_length hi
/-- what comes out at the end: all of a closed list that may be looked at, in its order -/
theorem lst_spec : ∀ (f i : Nat) (T : List ByteArray), Clo ok next S T i → (∀ x ∈ T, x ∈ U) → (∀ x, ok x = true → ∀ y ∈ next x, y ∈ U) → U.length ≤ i + f → ∃ T', lstR ok next f i T ((T.take i).filter ok) = T'.filter ok ∧ Clo ok next S T' T'.length ∧ ∀ x ∈ T', x ∈ U := by
  intro f
  induction f with
  | zero =>
    intro i T h hU _ hl
    have hn := nodup_len h.1 hU
    have h0 := h.2.1
    have e : i = T.length := by omega
    subst e
    exact ⟨T, by rw [List.take_length]; rfl, h, hU⟩
  | succ f ih =>
    intro i T h hU hN hl
    by_cases hi : i < T.length
    · cases hk : ok T[i] with
      | true =>
        rw [lst_ok hi hk]
        have hp := puts_pre (xs := next T[i]) T
        obtain ⟨hi', e⟩ := pre_get hp hi
        have hc : Clo ok next S (putsL T (next T[i])) i := clo_puts h ⟨i, hi, hk, fun _ hy => hy⟩
        have hc2 : Clo ok next S (putsL T (next T[i])) (i + 1) := by
          obtain ⟨h1, _, h2, h3, h4⟩ := hc
          refine ⟨h1, hi', h2, fun k hkk hki hok y hy => ?_, h4⟩
          by_cases hki2 : k < i
          · exact h3 k hkk hki2 hok y hy
          · have ek : k = i := by omega
            subst ek
            rw [e] at hy
            exact puts_mem.2 (Or.inr hy)
        have et : ((putsL T (next T[i])).take (i + 1)).filter ok = (T.take i).filter ok ++ [T[i]] := by
          rw [take_pre hp hi, List.take_succ_eq_append_getElem hi, List.filter_append]; simp [hk]
        rw [← et]
        exact ih (i + 1) _ hc2 (fun x hx => (puts_mem.1 hx).elim (hU x) (hN _ hk x)) hN (by omega)
      | false =>
        rw [lst_no hi hk]
        have hc2 : Clo ok next S T (i + 1) := by
          obtain ⟨h1, _, h2, h3, h4⟩ := h
          refine ⟨h1, hi, h2, fun k hkk hki hok y hy => ?_, h4⟩
          by_cases hki2 : k < i
          · exact h3 k hkk hki2 hok y hy
          · have ek : k = i := by omega
            subst ek
            rw [hk] at hok; cases hok
        have et : (T.take (i + 1)).filter ok = (T.take i).filter ok := by
          rw [List.take_succ_eq_append_getElem hi, List.filter_append]; simp [hk]
        rw [← et]
        exact ih (i + 1) T hc2 hU hN (by omega)
    · have h0 := h.2.1
      have e : i = T.length := by omega
      subst e
      exact ⟨T, by rw [lst_end (Nat.le_refl _), List.take_length], h, hU⟩
theorem clo_in {T : List ByteArray} (h : Clo ok next S T T.length) {x y : ByteArray} (hx : x ∈ T) (hk : ok x = true) (hy : y ∈ next x) : y ∈ T := by
  obtain ⟨k, hkl, e⟩ := List.mem_iff_getElem.1 hx
  subst e
  exact h.2.2.2.1 k hkl hkl hk y hy
/-- what is closed and holds what is begun with holds all -/
theorem clo_sub {T T' : List ByteArray} (h : Clo ok next S T T.length) (h1 : ∀ x ∈ S, x ∈ T') (h2 : ∀ x ∈ T', ok x = true → ∀ y ∈ next x, y ∈ T') : ∀ x ∈ T, x ∈ T' := by
  have key : ∀ j, ∀ hj : j < T.length, T[j] ∈ T' := by
    intro j
    induction j using Nat.strongRecOn with
    | _ j ih =>
      intro hj
      rcases h.2.2.2.2 j hj with hs | ⟨k, hk, hkj, hok, hm⟩
      · exact h1 _ hs
      · exact h2 _ (ih k hkj hk) hok _ hm
  intro x hx
  obtain ⟨j, hj, e⟩ := List.mem_iff_getElem.1 hx
  subst e
  exact key j hj
/-- nothing is come to but from elsewhere, ahead of it -/
theorem clo_least {T : List ByteArray} (h : Clo ok next S T T.length) {i : Nat} (hi : i < (T.filter ok).length) : (T.filter ok)[i] ∈ S ∨ ∃ k, ∃ hk : k < (T.filter ok).length, k < i ∧ (T.filter ok)[i] ∈ next (T.filter ok)[k] := by
  have hm : (T.filter ok)[i] ∈ T.filter ok := List.getElem_mem hi
  obtain ⟨hmT, hmk⟩ := List.mem_filter.1 hm
  obtain ⟨j, hj, e⟩ := List.mem_iff_getElem.1 hmT
  have hsplit : T.filter ok = (T.take j).filter ok ++ T[j] :: (T.drop (j + 1)).filter ok := by
    have e1 : T = T.take j ++ T[j] :: T.drop (j + 1) := by rw [← List.drop_eq_getElem_cons hj, List.take_append_drop]
    have hk : ok T[j] = true := by rw [e]; exact hmk
    conv => lhs; rw [e1]
    rw [List.filter_append, List.filter_cons_of_pos hk]
  have hnd : (T.filter ok).Nodup := h.1.filter _
  have hij : i = ((T.take j).filter ok).length := by
    have hlt : ((T.take j).filter ok).length < (T.filter ok).length := by rw [hsplit]; simp
    have e2 : (T.filter ok)[((T.take j).filter ok).length] = T[j] := by
      simp only [hsplit]
      rw [List.getElem_append_right (Nat.le_refl _)]; simp
    have hpw := List.pairwise_iff_getElem.1 hnd
    rcases Nat.lt_trichotomy i ((T.take j).filter ok).length with hl | hl | hl
    · exact absurd (e.symm.trans e2.symm) (hpw _ _ hi hlt hl)
    · exact hl
    · exact absurd (e2.trans e) (hpw _ _ hlt hi hl)
  rcases h.2.2.2.2 j hj with hs | ⟨k, hk, hkj, hok, hm2⟩
  · rw [e] at hs; exact Or.inl hs
  · rw [e] at hm2
    have hkm : T[k] ∈ (T.take j).filter ok := List.mem_filter.2 ⟨by
      rw [List.mem_iff_getElem]
      exact ⟨k, by simp; omega, by simp⟩, hok⟩
    obtain ⟨k', hk', e3⟩ := List.mem_iff_getElem.1 hkm
    have hk2 : k' < (T.filter ok).length := by rw [hsplit]; simp; omega
    have e4 : (T.filter ok)[k'] = T[k] := by
      simp only [hsplit]
      rw [List.getElem_append_left hk', e3]
    exact Or.inr ⟨k', hk2, by omega, by rw [e4]; exact hm2⟩
end Go.Proofs.YtiennniclkbjlaaGreatDoor.ReM
/- What holds of what one comes to in a world. -/
namespace Go.Proofs.YtiennniclkbjlaaGreatDoor.ReM
open Go.Proofs.YtiennniclkbjlaaGreatDoor.LetM Go.Proofs.YtiennniclkbjlaaGreatDoor.RuleM Go.Proofs.YtiennniclkbjlaaGreatDoor.AddrM Go.Proofs.YtiennniclkbjlaaGreatDoor.Ad1 Go.Proofs.YtiennniclkbjlaaGreatDoor.Rd1 Go.Proofs.YtiennniclkbjlaaGreatDoor.St Go.Proofs.YtiennniclkbjlaaGreatDoor.PgM Go.Proofs.YtiennniclkbjlaaGreatDoor.PgA Go.Proofs.YtiennniclkbjlaaGreatDoor.RoPg Go.Proofs.YtiennniclkbjlaaGreatDoor.WdM Go.Proofs.YtiennniclkbjlaaGreatDoor.Wd Go.Proofs.YtiennniclkbjlaaGreatDoor.WdN Go.Proofs.YtiennniclkbjlaaGreatDoor.Nm

theorem clo_new {ok : ByteArray → Bool} {next : ByteArray → List ByteArray} (S : List ByteArray) : Clo ok next S (putsL [] S) 0 := by
  refine ⟨puts_nodup List.nodup_nil, Nat.zero_le _, fun x hx => puts_mem.2 (Or.inr hx), fun k _ h0 => by omega, fun j hj => Or.inl ?_⟩
  rcases puts_mem.1 (List.getElem_mem hj) with h | h
  · cases h
  · exact h
/-- what one comes to is what may be looked at of a closed list -/
theorem reach_clo (L : List Pg) (name : ByteArray) (S : List ByteArray) (h1 : wOk L = true) (h2 : nameB name = true) (h3 : S.length ≤ 12) : ∃ T, reachW L name S = T.filter (okR L name) ∧ Clo (okR L name) (fromW L) (S.filter nR) T T.length := by
  have e : reachW L name S = lstR (okR L name) (fromW L) (uR L S).length 0 (putsL [] (S.filter nR)) [] := by unfold reachW; rw [h1, h2, decide_eq_true h3]; rfl
  obtain ⟨T, hT, hc, _⟩ := lst_spec (U := uR L S) (uR L S).length 0 (putsL [] (S.filter nR)) (clo_new (ok := okR L name) (next := fromW L) (S.filter nR)) (fun x hx => by
    rcases puts_mem.1 hx with hx | hx
    · cases hx
    · exact List.mem_append_left _ (List.mem_filter.1 hx).1) (fun x _ y hy => from_uni hy) (by omega)
  exact ⟨T, e.trans (by simpa using hT), hc⟩
variable {L : List Pg} {name : ByteArray} {S : List ByteArray}
theorem reach_each {x : ByteArray} (h : x ∈ reachW L name S) : wOk L = true ∧ nameB name = true ∧ S.length ≤ 12 ∧ okR L name x = true := by
  cases hc : (wOk L && nameB name && decide (S.length ≤ 12)) with
  | false => rw [reach_no hc] at h; cases h
  | true =>
    simp only [Bool.and_eq_true, decide_eq_true_eq] at hc
    obtain ⟨T, hT, _⟩ := reach_clo L name S hc.1.1 hc.1.2 hc.2
    rw [hT] at h
    exact ⟨hc.1.1, hc.1.2, hc.2, (List.mem_filter.1 h).2⟩
theorem reach_nodup (L : List Pg) (name : ByteArray) (S : List ByteArray) : (reachW L name S).Nodup := by
  cases hc : (wOk L && nameB name && decide (S.length ≤ 12)) with
  | false => rw [reach_no hc]; exact List.nodup_nil
  | true =>
    simp only [Bool.and_eq_true, decide_eq_true_eq] at hc
    obtain ⟨T, hT, hcl⟩ := reach_clo L name S hc.1.1 hc.1.2 hc.2
    rw [hT]; exact hcl.1.filter _
theorem reach_seed {x : ByteArray} (h1 : wOk L = true) (h2 : nameB name = true) (h3 : S.length ≤ 12) (hx : x ∈ S) (hk : okR L name x = true) : x ∈ reachW L name S := by
  obtain ⟨T, hT, hcl⟩ := reach_clo L name S h1 h2 h3
  rw [hT]
  exact List.mem_filter.2 ⟨hcl.2.2.1 x (List.mem_filter.2 ⟨hx, ok_norm hk⟩), hk⟩
theorem reach_on {x y : ByteArray} (hx : x ∈ reachW L name S) (hy : y ∈ fromW L x) (hk : okR L name y = true) : y ∈ reachW L name S := by
  obtain ⟨h1, h2, h3, h4⟩ := reach_each hx
  obtain ⟨T, hT, hcl⟩ := reach_clo L name S h1 h2 h3
  rw [hT] at hx ⊢
  exact List.mem_filter.2 ⟨clo_in hcl (List.mem_filter.1 hx).1 h4 hy, hk⟩
theorem reach_least {i : Nat} (hi : i < (reachW L name S).length) : (reachW L name S)[i] ∈ S ∨ ∃ k, ∃ hk : k < (reachW L name S).length, k < i ∧ (reachW L name S)[i] ∈ fromW L (reachW L name S)[k] := by
  obtain ⟨h1, h2, h3, _⟩ := reach_each (List.getElem_mem hi)
  obtain ⟨T, hT, hcl⟩ := reach_clo L name S h1 h2 h3
  simp only [hT] at hi ⊢
  rcases clo_least hcl hi with h | h
  · exact Or.inl (List.mem_filter.1 h).1
  · exact Or.inr h
/-- from more one comes to more -/
theorem reach_more {S' : List ByteArray} (h3 : S'.length ≤ 12) (hs : ∀ x ∈ S, x ∈ S') {x : ByteArray} (hx : x ∈ reachW L name S) : x ∈ reachW L name S' := by
  obtain ⟨h1, h2, h0, h4⟩ := reach_each hx
  obtain ⟨T, hT, hcl⟩ := reach_clo L name S h1 h2 h0
  obtain ⟨T', hT', hcl'⟩ := reach_clo L name S' h1 h2 h3
  rw [hT] at hx
  rw [hT']
  exact List.mem_filter.2 ⟨clo_sub hcl (fun y hy => hcl'.2.2.1 y (List.mem_filter.2 ⟨hs y (List.mem_filter.1 hy).1, (List.mem_filter.1 hy).2⟩)) (fun y hy hk z hz => clo_in hcl' hy hk hz) x (List.mem_filter.1 hx).1, h4⟩
/-- and to nothing that one comes to from neither -/
theorem reach_both {S' : List ByteArray} (h3 : (S ++ S').length ≤ 12) {x : ByteArray} (hx : x ∈ reachW L name (S ++ S')) : x ∈ reachW L name S ∨ x ∈ reachW L name S' := by
  obtain ⟨h1, h2, h0, h4⟩ := reach_each hx
  simp only [List.length_append] at h3
  obtain ⟨T, hT, hcl⟩ := reach_clo L name (S ++ S') h1 h2 h0
  obtain ⟨A, hA, hca⟩ := reach_clo L name S h1 h2 (by omega)
  obtain ⟨B, hB, hcb⟩ := reach_clo L name S' h1 h2 (by omega)
  rw [hT] at hx
  rw [hA, hB]
  have := clo_sub (T' := A ++ B) hcl (fun y hy => by
    obtain ⟨hm, hn⟩ := List.mem_filter.1 hy
    rcases List.mem_append.1 hm with hm | hm
    · exact List.mem_append_left _ (hca.2.2.1 y (List.mem_filter.2 ⟨hm, hn⟩))
    · exact List.mem_append_right _ (hcb.2.2.1 y (List.mem_filter.2 ⟨hm, hn⟩))) (fun y hy hk z hz => by
    rcases List.mem_append.1 hy with hy | hy
    · exact List.mem_append_left _ (clo_in hca hy hk hz)
    · exact List.mem_append_right _ (clo_in hcb hy hk hz)) x (List.mem_filter.1 hx).1
  rcases List.mem_append.1 this with h | h
  · exact Or.inl (List.mem_filter.2 ⟨h, h4⟩)
  · exact Or.inr (List.mem_filter.2 ⟨h, h4⟩)
/-- as the program looks: at the address that was read -/
theorem ok_at {x : ByteArray} {A : Ad} (h : normA x = some A) (h1 : wOk L = true) (h2 : nameB name = true) : okR L name x = (!(decide ((kindF L (textF A) 2).1 = 3)) && letsL (saysG (kindF L (doorS A.house) 2) name).2.1 (pathF A).data.toList) := by
  obtain ⟨hr, ht⟩ := norm_some h
  unfold okR nR
  rw [h, lets_some hr h1 h2, ht]; rfl
theorem ok_none {x : ByteArray} (h : normA x = none) : okR L name x = false := by unfold okR nR; rw [h]; rfl
/-- as the model looks: at the text -/
theorem ok_text {x : ByteArray} (h : nR x = true) : okR L name x = (!(decide ((kindF L x 2).1 = 3)) && letsW L name x) := by unfold okR; rw [h]; rfl
end Go.Proofs.YtiennniclkbjlaaGreatDoor.ReM
/- How much is ever heard of in a world. -/
namespace Go.Proofs.YtiennniclkbjlaaGreatDoor.ReM
open Go.Proofs.YtiennniclkbjlaaGreatDoor.AddrM Go.Proofs.YtiennniclkbjlaaGreatDoor.Ad1 Go.Proofs.YtiennniclkbjlaaGreatDoor.Rd1 Go.Proofs.YtiennniclkbjlaaGreatDoor.St Go.Proofs.YtiennniclkbjlaaGreatDoor.PgM Go.Proofs.YtiennniclkbjlaaGreatDoor.PgA Go.Proofs.YtiennniclkbjlaaGreatDoor.RoPg Go.Proofs.YtiennniclkbjlaaGreatDoor.WdM Go.Proofs.YtiennniclkbjlaaGreatDoor.Wd Go.Proofs.YtiennniclkbjlaaGreatDoor.WdN Go.Proofs.YtiennniclkbjlaaGreatDoor.Nm

theorem wOk_len {L : List Pg} (h : wOk L = true) : L.length ≤ 12 := ((wOk_iff L).1 h).2
theorem uni_bd {L : List Pg} {S : List ByteArray} (h : wOk L = true) (hs : S.length ≤ 12) : (uR L S).length ≤ 4000 := by
  have := uni_len L S
  have := wOk_len h
  omega
end Go.Proofs.YtiennniclkbjlaaGreatDoor.ReM
/- Where pages lead: the model's PageAddrs. -/
namespace Go.Proofs.YtiennniclkbjlaaGreatDoor.PgA
open Go.RowKit Go.Proofs.YtiennniclkbjlaaGreatDoor.EscM Go.Proofs.YtiennniclkbjlaaGreatDoor.St Go.Proofs.YtiennniclkbjlaaGreatDoor.AddrM Go.Proofs.YtiennniclkbjlaaGreatDoor.ReadM Go.Proofs.YtiennniclkbjlaaGreatDoor.EscL Go.Proofs.YtiennniclkbjlaaGreatDoor.Ad1 Go.Proofs.YtiennniclkbjlaaGreatDoor.Dr Go.Proofs.YtiennniclkbjlaaGreatDoor.Im Go.Proofs.YtiennniclkbjlaaGreatDoor.Rd1 Go.Proofs.YtiennniclkbjlaaGreatDoor.Door Go.Proofs.YtiennniclkbjlaaGreatDoor.JnM Go.Proofs.YtiennniclkbjlaaGreatDoor.Jn Go.Proofs.YtiennniclkbjlaaGreatDoor.PgM Go.Proofs.YtiennniclkbjlaaGreatDoor.RB Go.Proofs.YtiennniclkbjlaaGreatDoor.Pg

theorem from_no {A : Ad} {t : ByteArray} (h : (baseF t).2 = false) : fromF A t = A := by unfold fromF; rw [h]; rfl
theorem from_none {A : Ad} {t : ByteArray} (h : joinF A (baseF t).1.data.toList = none) : fromF A t = A := by unfold fromF; rw [h]; split <;> rfl
theorem from_some {A B : Ad} {t : ByteArray} (h0 : (baseF t).2 = true) (h : joinF A (baseF t).1.data.toList = some B) : fromF A t = B := by unfold fromF; rw [h0, h]; rfl
theorem box_grown_row {w w' : World} {F : Nat} {x0 x1 x2 x3 : Value} {row : Option Nat} (h : Box w F x0 x1 x2 x3) (hg : w.grownBy w' row) (hne : row ≠ some F) : Box w' F x0 x1 x2 x3 := h.grown hg hne

end Go.Proofs.YtiennniclkbjlaaGreatDoor.PgA
/- Where one comes from an address of a world, of the model. -/
namespace Go.Proofs.YtiennniclkbjlaaGreatDoor.Wd
open Go.RowKit Go.Proofs.YtiennniclkbjlaaGreatDoor.EscM Go.Proofs.YtiennniclkbjlaaGreatDoor.AddrM Go.Proofs.YtiennniclkbjlaaGreatDoor.ReadM Go.Proofs.YtiennniclkbjlaaGreatDoor.St Go.Proofs.YtiennniclkbjlaaGreatDoor.EscL Go.Proofs.YtiennniclkbjlaaGreatDoor.PathM Go.Proofs.YtiennniclkbjlaaGreatDoor.Ad1 Go.Proofs.YtiennniclkbjlaaGreatDoor.Rd1 Go.Proofs.YtiennniclkbjlaaGreatDoor.LibM Go.Proofs.YtiennniclkbjlaaGreatDoor.Im Go.Proofs.YtiennniclkbjlaaGreatDoor.RdA Go.Proofs.YtiennniclkbjlaaGreatDoor.MkA Go.Proofs.YtiennniclkbjlaaGreatDoor.Mp Go.Proofs.YtiennniclkbjlaaGreatDoor.WdM Go.Proofs.YtiennniclkbjlaaGreatDoor.RR Go.Proofs.YtiennniclkbjlaaGreatDoor.RoPg Go.Proofs.YtiennniclkbjlaaGreatDoor.PgA Go.Proofs.YtiennniclkbjlaaGreatDoor.RB



end Go.Proofs.YtiennniclkbjlaaGreatDoor.Wd
/- The model's WorldReach. -/
namespace Go.Proofs.YtiennniclkbjlaaGreatDoor.ReM
open Go.RowKit Go.Proofs.YtiennniclkbjlaaGreatDoor.EscM Go.Proofs.YtiennniclkbjlaaGreatDoor.AddrM Go.Proofs.YtiennniclkbjlaaGreatDoor.ReadM Go.Proofs.YtiennniclkbjlaaGreatDoor.St Go.Proofs.YtiennniclkbjlaaGreatDoor.EscL Go.Proofs.YtiennniclkbjlaaGreatDoor.Ad1 Go.Proofs.YtiennniclkbjlaaGreatDoor.Rd1 Go.Proofs.YtiennniclkbjlaaGreatDoor.RuleM Go.Proofs.YtiennniclkbjlaaGreatDoor.WdM Go.Proofs.YtiennniclkbjlaaGreatDoor.Wd Go.Proofs.YtiennniclkbjlaaGreatDoor.WdN Go.Proofs.YtiennniclkbjlaaGreatDoor.RR Go.Proofs.YtiennniclkbjlaaGreatDoor.LetM Go.Proofs.YtiennniclkbjlaaGreatDoor.Nm Go.Proofs.YtiennniclkbjlaaGreatDoor.GrM Go.Proofs.YtiennniclkbjlaaGreatDoor.RoPg Go.Proofs.YtiennniclkbjlaaGreatDoor.PgM Go.Proofs.YtiennniclkbjlaaGreatDoor.PgA

theorem filter_snoc {S : List ByteArray} {k : Nat} (hk : k < S.length) : putsL [] ((S.take (k + 1)).filter nR) = if nR S[k] then putL (putsL [] ((S.take k).filter nR)) S[k] else putsL [] ((S.take k).filter nR) := by
  rw [List.take_succ_eq_append_getElem hk, List.filter_append]
  split
  · next h => rw [List.filter_cons_of_pos h, List.filter_nil, puts_snoc]
  · next h => rw [List.filter_cons_of_neg h, List.filter_nil, List.append_nil]
theorem puts_len {xs : List ByteArray} : ∀ {T : List ByteArray}, (putsL T xs).length ≤ T.length + xs.length := by
  induction xs with
  | nil => intro T; exact Nat.le_refl _
  | cons x r ih =>
    intro T
    have h1 : (putsL (putL T x) r).length ≤ (putL T x).length + r.length := ih
    have h2 : (putL T x).length ≤ T.length + 1 := by unfold putL; split; omega; simp
    show (putsL (putL T x) r).length ≤ _
    simp only [List.length_cons]; omega
theorem TwoL.cell {w : World} {base n c b o : Nat} {v1 : Value} {L1 L2 : List ByteArray} (h : TwoL w base v1 L1 (.slice (some ⟨b, o, none⟩) n c) L2) {k : Nat} (hk : k < L2.length) : w.cell? ⟨b, o + k, none⟩ = some (.string L2[k]) := by
  obtain ⟨b', o', e, hc⟩ := (Owns.strsOf h.2.1).at hk
  injection e with e
  injection e with e1 e2
  subst e1; subst e2; exact hc
theorem TwoL.form {w : World} {base : Nat} {v1 v2 : Value} {L1 L2 : List ByteArray} (h : TwoL w base v1 L1 v2 L2) : ∃ a c, v2 = .slice a L2.length c := by
  obtain ⟨a, c, e, _⟩ := h.2.1.strs
  exact ⟨a, c, e⟩
/-- one that was made anew is apart from what was there -/
theorem TwoL.fresh {w w' : World} {base : Nat} {v v2 : Value} {L L2 : List ByteArray} (h : Owns w base v L) (h2 : Owns w' w.heap.size v2 L2) (hb : Below w.heap.size w w') (hz : base ≤ w.heap.size) : TwoL w' base v2 L2 v L := by
  refine ⟨Owns.mono h2 hz, Owns.below h hb, fun k hk hk2 => ?_⟩
  have := owns_lt h k hk2
  have := Owns.block h2 k hk
  omega
theorem below_row {b : Nat} {u w w' : World} {row : Option Nat} (h : Below b u w) (hg : w.grownBy w' row) (hz : b ≤ w.heap.size) (hr : ∀ k, row = some k → b ≤ k) : Below b u w' := h.trans (Dr.grown_any b hg hz hr)
theorem puts_take {T F : List ByteArray} {j : Nat} (hj : j < F.length) : putL (putsL T (F.take j)) F[j] = putsL T (F.take (j + 1)) := by
  rw [List.take_succ_eq_append_getElem hj, puts_snoc]

end Go.Proofs.YtiennniclkbjlaaGreatDoor.ReM
/- When a trip is ok, of the program: what was heard of. -/
namespace Go.Proofs.YtiennniclkbjlaaGreatDoor.Tp
open Go.RowKit Go.Proofs.YtiennniclkbjlaaGreatDoor.EscM Go.Proofs.YtiennniclkbjlaaGreatDoor.AddrM Go.Proofs.YtiennniclkbjlaaGreatDoor.ReadM Go.Proofs.YtiennniclkbjlaaGreatDoor.Rd1 Go.Proofs.YtiennniclkbjlaaGreatDoor.St Go.Proofs.YtiennniclkbjlaaGreatDoor.EscL Go.Proofs.YtiennniclkbjlaaGreatDoor.RR Go.Proofs.YtiennniclkbjlaaGreatDoor.WdM Go.Proofs.YtiennniclkbjlaaGreatDoor.Wd Go.Proofs.YtiennniclkbjlaaGreatDoor.TpM Go.Proofs.YtiennniclkbjlaaGreatDoor.Im Go.Proofs.YtiennniclkbjlaaGreatDoor.PgA Go.Proofs.YtiennniclkbjlaaGreatDoor.MkA

set_option maxRecDepth 100000 in
set_option maxHeartbeats 2000000 in
theorem seenOk_any (a0 : Option Addr) (cap : Nat) (L : List ByteArray) (w : World) (hM : Mx w) (h : IsStrs w a0 cap L) (hz : ∀ s ∈ L, s.size ≤ 4194304) (ha : ∀ s ∈ L, ascii s) :
    Calls Tryz.prog 39 #[.slice a0 L.length cap] w fun e w' => e = .returned (.bool (decide (L.length ≤ 60) && seenTo L L.length)) ∧ Below w.heap.size w w' := by
  have hc1 := h.1
  have hc2 := h.2.1
  unfold maxLen at hc2
  have HM : Hid (Mx w) := hM
  have HL : Hid (IsStrs w a0 cap L) := h
  have HZ : Hid (∀ s ∈ L, s.size ≤ 4194304) := hz
  have HA : Hid (∀ s ∈ L, ascii s) := ha
  clear hM h hz ha
  obtain ⟨R, hR⟩ : ∃ R, (decide (L.length ≤ 60) && seenTo L L.length) = R := ⟨_, rfl⟩
  have HR : Hid (R = (decide (L.length ≤ 60) && seenTo L L.length)) := hR.symm
  rw [hR]
  clear hR
  by_cases hlen : 60 < L.length
  · have HF : Hid (R = false) := by show _ = _; rw [HR.out, decide_eq_false (by omega)]; rfl
    go_enter Tryz.func39, Tryz.ntmps39
    go_wp2
    go_ret
    exact ⟨ret_bool HF.out.symm, Below.refl _ _⟩
  have HQ : Hid (R = seenTo L L.length) := by show _ = _; rw [HR.out, decide_eq_true (by omega)]; rfl
  clear HR
  go_enter Tryz.func39, Tryz.ntmps39
  go_wp2
  go_loopw [10] (fun i wr => ∃ k : Nat, k ≤ L.length ∧ i = .int .i64 (k : Int) ∧ Hid (seenTo L k = true) ∧ Hid (Below w.heap.size w wr)) (fun i _ => L.length - (intOf i).toNat)
  case atStart => exact ⟨0, Nat.zero_le _, rfl, rfl, Below.refl _ _⟩
  case round =>
    obtain ⟨k, hk, rfl, HS, HB⟩ := hrel
    by_cases hlt : k < L.length
    · obtain ⟨lb, lo, e1, cl⟩ := (HL.out.below HB.out).at hlt
      subst e1
      have HST : Hid _ := seen_step (L := L) hlt
      have hkz := HZ.out L[k] (List.getElem_mem _)
      have hka : Hid (ascii L[k]) := HA.out L[k] (List.getElem_mem _)
      have HNO : Hid (seenTo L (k + 1) = false → R = false) := fun h => by rw [HQ.out]; exact seen_no h _ hlt
      have HC : Hid (IsStrs w (some ⟨lb, lo, none⟩) cap (L.take k)) := HL.out.cut k
      have hlk : (L.take k).length = k := by simp; omega
      go_wp2_with fail
      refine (isAddress_any L[k] _ (HM.out.below HB.out) hkz hka.out).mono ?_
      rintro e w1 ⟨rfl, hb1⟩
      have HB1 : Hid (Below w.heap.size w w1) := HB.out.trans (hb1.mono HB.out.size)
      clear hb1 HB cl
      cases hn : normT L[k] with
      | false =>
        have HF : Hid (R = false) := HNO.out (by rw [HST.out, hn]; simp)
        clear hn
        go_wp2
        go_ret
        exact ⟨ret_bool HF.out.symm, HB1.out⟩
      | true =>
        have HCA : Hid _ := fun W hW => contains_any (some ⟨lb, lo, none⟩) cap (L.take k) L[k] W hW (by omega)
        rw [hlk] at HCA
        have HST2 : Hid (seenTo L (k + 1) = !(hasB L[k] (L.take k))) := by show _ = _; rw [HST.out, HS.out, hn]; simp
        clear hn HST
        generalize hasB L[k] (L.take k) = T at *
        go_wp2_with fail
        refine (HCA.out _ (HC.out.below HB1.out)).mono ?_
        rintro e w2 ⟨rfl, n2, rfl⟩
        have HB2 : Hid (Below w.heap.size w (w1.drewN n2)) := below_drewN HB1.out n2
        cases T with
        | true =>
          have HF : Hid (R = false) := HNO.out HST2.out
          go_wp2
          go_ret
          exact ⟨ret_bool HF.out.symm, HB2.out⟩
        | false =>
          have HS2 : Hid (seenTo L (k + 1) = true) := HST2.out
          go_wp2
          go_roundw
          case rel => exact ⟨k + 1, by omega, by go_num, HS2, HB2⟩
          case measure => simp [intOf]; omega
    · have e1 : k = L.length := by omega
      subst e1
      have HF : Hid (R = true) := HQ.out.trans HS.out
      go_wp2
      go_ret
      exact ⟨ret_bool HF.out.symm, HB.out⟩

set_option maxRecDepth 100000 in
set_option maxHeartbeats 2000000 in
theorem looksOk_any (a0 : Option Addr) (cap : Nat) (L : List RoLk.Lk) (now : Int) (w : World) (hM : Mx w) (h : IsRows RoLk.FLk w a0 cap L) (hz : ∀ s ∈ L, s.addr.size ≤ 4194304) (ha : ∀ s ∈ L, ascii s.addr) :
    Calls Tryz.prog 40 #[.slice a0 L.length cap, .int .i64 now] w fun e w' => e = .returned (.bool (decide (L.length ≤ 400) && lookTo now L L.length)) ∧ Below w.heap.size w w' := by
  have hc1 := h.1
  have hc2 := h.2.1
  unfold maxLen at hc2
  have HM : Hid (Mx w) := hM
  have HL : Hid (IsRows RoLk.FLk w a0 cap L) := h
  have HZ : Hid (∀ s ∈ L, s.addr.size ≤ 4194304) := hz
  have HA : Hid (∀ s ∈ L, ascii s.addr) := ha
  clear hM h hz ha
  obtain ⟨R, hR⟩ : ∃ R, (decide (L.length ≤ 400) && lookTo now L L.length) = R := ⟨_, rfl⟩
  have HR : Hid (R = (decide (L.length ≤ 400) && lookTo now L L.length)) := hR.symm
  rw [hR]
  clear hR
  by_cases hlen : 400 < L.length
  · have HF : Hid (R = false) := by show _ = _; rw [HR.out, decide_eq_false (by omega)]; rfl
    go_enter Tryz.func40, Tryz.ntmps40
    go_wp2
    go_ret
    exact ⟨ret_bool HF.out.symm, Below.refl _ _⟩
  have HQ : Hid (R = lookTo now L L.length) := by show _ = _; rw [HR.out, decide_eq_true (by omega)]; rfl
  clear HR
  go_enter Tryz.func40, Tryz.ntmps40
  go_wp2
  go_loopw [5, 13] (fun x i wr => ∃ (k : Nat) (q : Int), k ≤ L.length ∧ i = .int .i64 (k : Int) ∧ x = .int .i64 q ∧ Hid (q = lastT L k ∧ 0 ≤ q) ∧ Hid (lookTo now L k = true) ∧ Hid (Below w.heap.size w wr)) (fun _ i _ => L.length - (intOf i).toNat)
  case atStart => exact ⟨0, 0, Nat.zero_le _, rfl, rfl, ⟨rfl, Int.le_refl _⟩, rfl, Below.refl _ _⟩
  case round =>
    obtain ⟨k, q, hk, rfl, rfl, HLQ, HS, HB⟩ := hrel
    by_cases hlt : k < L.length
    · obtain ⟨lb, lo, e1, c0, c1, c2⟩ := RoLk.lk_at (HL.out.below HB.out) hlt
      subst e1
      have HST : Hid (lookTo now L (k + 1) = (decide (q ≤ L[k].time) && decide (L[k].time ≤ now) && normT L[k].addr && decide (0 ≤ L[k].kind ∧ L[k].kind ≤ 3))) := by
        show _ = _
        have h1 := HLQ.out
        rw [look_step hlt HS.out (by rw [← h1.1]; exact h1.2), ← h1.1]
      have HLA : Hid (lastT L (k + 1) = L[k].time) := last_at hlt
      have hkz := HZ.out L[k] (List.getElem_mem _)
      have hka : Hid (ascii L[k].addr) := HA.out L[k] (List.getElem_mem _)
      have HNO : Hid (lookTo now L (k + 1) = false → R = false) := fun h => by rw [HQ.out]; exact look_no h _ hlt
      generalize L[k] = p at *
      by_cases h1 : p.time < q
      · have HF : Hid (R = false) := HNO.out (by rw [HST.out, decide_eq_false (by omega)]; rfl)
        go_wp2
        go_ret
        exact ⟨ret_bool HF.out.symm, HB.out.alloc HB.out.size _⟩
      by_cases h2 : now < p.time
      · have HF : Hid (R = false) := HNO.out (by rw [HST.out, decide_eq_false (show ¬ p.time ≤ now by omega)]; simp)
        go_wp2
        go_ret
        exact ⟨ret_bool HF.out.symm, HB.out.alloc HB.out.size _⟩
      by_cases h3 : p.kind < 0
      · have HF : Hid (R = false) := HNO.out (by rw [HST.out, decide_eq_false (show ¬ (0 ≤ p.kind ∧ p.kind ≤ 3) by omega)]; simp)
        go_wp2
        go_ret
        exact ⟨ret_bool HF.out.symm, HB.out.alloc HB.out.size _⟩
      by_cases h4 : 3 < p.kind
      · have HF : Hid (R = false) := HNO.out (by rw [HST.out, decide_eq_false (show ¬ (0 ≤ p.kind ∧ p.kind ≤ 3) by omega)]; simp)
        go_wp2
        go_ret
        exact ⟨ret_bool HF.out.symm, HB.out.alloc HB.out.size _⟩
      have HST2 : Hid (lookTo now L (k + 1) = normT p.addr) := by
        show _ = _
        rw [HST.out, decide_eq_true (show q ≤ p.time by omega), decide_eq_true (show p.time ≤ now by omega), decide_eq_true (show 0 ≤ p.kind ∧ p.kind ≤ 3 by omega)]; simp
      have hq0 : 0 ≤ p.time := by have := HLQ.out.2; omega
      clear HST
      go_wp2_with fail
      refine (isAddress_any p.addr _ ((HM.out.below HB.out).alloc _) hkz hka.out).mono ?_
      rintro e w1 ⟨rfl, hb1⟩
      have HB1 : Hid (Below w.heap.size w w1) := (HB.out.alloc HB.out.size _).trans (hb1.mono (by simp; exact Nat.le_succ_of_le HB.out.size))
      have HX1 : Hid (Bs 57 w1 wr.heap.size #[.int .i64 p.time, .string p.addr, .int .i64 p.kind]) := (Bs.new _ _ _).below hb1
      clear hb1 c0 c1 c2
      have d0 : w1.cell? ⟨wr.heap.size, 0, none⟩ = some (.int .i64 p.time) := HX1.out.cell 0 rfl
      cases hn : normT p.addr with
      | false =>
        have HF : Hid (R = false) := HNO.out (by rw [HST2.out, hn])
        clear hn
        go_wp2
        go_ret
        exact ⟨ret_bool HF.out.symm, HB1.out⟩
      | true =>
        have HS2 : Hid (lookTo now L (k + 1) = true) := by show _ = _; rw [HST2.out, hn]
        clear hn
        go_wp2
        go_roundw
        case rel => exact ⟨k + 1, p.time, by omega, by go_num, rfl, ⟨HLA.out.symm, hq0⟩, HS2, HB1⟩
        case measure => simp [intOf]; omega
    · have e1 : k = L.length := by omega
      subst e1
      have HF : Hid (R = true) := HQ.out.trans HS.out
      go_wp2
      go_ret
      exact ⟨ret_bool HF.out.symm, HB.out⟩
end Go.Proofs.YtiennniclkbjlaaGreatDoor.Tp
/- When a trip is ok, of the program: houses. -/
namespace Go.Proofs.YtiennniclkbjlaaGreatDoor.Tp
open Go.RowKit Go.Proofs.YtiennniclkbjlaaGreatDoor.EscM Go.Proofs.YtiennniclkbjlaaGreatDoor.AddrM Go.Proofs.YtiennniclkbjlaaGreatDoor.ReadM Go.Proofs.YtiennniclkbjlaaGreatDoor.Rd1 Go.Proofs.YtiennniclkbjlaaGreatDoor.RuleM Go.Proofs.YtiennniclkbjlaaGreatDoor.St Go.Proofs.YtiennniclkbjlaaGreatDoor.EscL Go.Proofs.YtiennniclkbjlaaGreatDoor.RR Go.Proofs.YtiennniclkbjlaaGreatDoor.LetM Go.Proofs.YtiennniclkbjlaaGreatDoor.GrM Go.Proofs.YtiennniclkbjlaaGreatDoor.WdM Go.Proofs.YtiennniclkbjlaaGreatDoor.Wd Go.Proofs.YtiennniclkbjlaaGreatDoor.TpM Go.Proofs.YtiennniclkbjlaaGreatDoor.Im Go.Proofs.YtiennniclkbjlaaGreatDoor.PgA Go.Proofs.YtiennniclkbjlaaGreatDoor.MkA

theorem implTries_any (n : Int) (w : World) :
    Calls Tryz.prog 90 #[.int .i64 n] w fun e w' => e = .returned (.bool (decide (0 ≤ n ∧ n ≤ 2))) ∧ w' = w := by
  by_cases h1 : n < 0
  · go_enter Tryz.func90, Tryz.ntmps90
    go_wp2
    go_ret
    exact ⟨ret_bool (by first | (simp; omega) | simp), rfl⟩
  by_cases h2 : 2 < n
  · go_enter Tryz.func90, Tryz.ntmps90
    go_wp2
    go_ret
    exact ⟨ret_bool (by first | (simp; omega) | simp [h1, h2]), rfl⟩
  · go_enter Tryz.func90, Tryz.ntmps90
    go_wp2
    go_ret
    exact ⟨ret_bool (by first | (simp; omega) | simp), rfl⟩
end Go.Proofs.YtiennniclkbjlaaGreatDoor.Tp
/- Trips, as lists and numbers: what is heard of, which house is next, what a call does. -/
namespace Go.Proofs.YtiennniclkbjlaaGreatDoor.TrM
open Go.Proofs.YtiennniclkbjlaaGreatDoor.EscM Go.Proofs.YtiennniclkbjlaaGreatDoor.AddrM Go.Proofs.YtiennniclkbjlaaGreatDoor.ReadM Go.Proofs.YtiennniclkbjlaaGreatDoor.Ad1 Go.Proofs.YtiennniclkbjlaaGreatDoor.Rd1 Go.Proofs.YtiennniclkbjlaaGreatDoor.RuleM Go.Proofs.YtiennniclkbjlaaGreatDoor.St Go.Proofs.YtiennniclkbjlaaGreatDoor.PgM Go.Proofs.YtiennniclkbjlaaGreatDoor.PgA Go.Proofs.YtiennniclkbjlaaGreatDoor.RoPg Go.Proofs.YtiennniclkbjlaaGreatDoor.LetM Go.Proofs.YtiennniclkbjlaaGreatDoor.Nm Go.Proofs.YtiennniclkbjlaaGreatDoor.GrM Go.Proofs.YtiennniclkbjlaaGreatDoor.RoIt Go.Proofs.YtiennniclkbjlaaGreatDoor.RoLk Go.Proofs.YtiennniclkbjlaaGreatDoor.WdM Go.Proofs.YtiennniclkbjlaaGreatDoor.Wd Go.Proofs.YtiennniclkbjlaaGreatDoor.WdN Go.Proofs.YtiennniclkbjlaaGreatDoor.TpM Go.Proofs.YtiennniclkbjlaaGreatDoor.ReM

/-- a house: its name, when one may call there again, whether its notice is known, what it says (names, rules, waiting), how often one called for it, what is still to be looked at -/
structure Hm where
  name : ByteArray
  ready : Int
  known : Bool
  gp : List ByteArray × List Ru × Int
  tries : Int
  todo : List It
/-- a trip -/
structure Tm where
  name : ByteArray
  now : Int
  hs : List Hm
  seen : List ByteArray
  lk : List Lk

/-- what is heard of is put to what is left, if the house lets it -/
def addIt (A : Ad) (x : ByteArray) (h : Hm) : Hm := if letsL h.gp.2.1 (pathF A).data.toList then { h with todo := h.todo ++ [⟨x, 0⟩] } else h
/-- a house of which one hears for the first time -/
def newH (nm house : ByteArray) : Hm := ⟨house, 0, false, ([nm], [], 0), 0, []⟩
/-- .. at the house of that name, put behind all others, if it is new -/
def putH (nm : ByteArray) (A : Ad) (x : ByteArray) : List Hm → List Hm
  | [] => [addIt A x (newH nm A.house)]
  | h :: r => if h.name = A.house then addIt A x h :: r else h :: putH nm A x r
/-- one hears of a text -/
def hearT (t : Tm) (x : ByteArray) : Tm := match normA x with
  | none => t
  | some A => if decide (60 ≤ t.seen.length) || hasB x t.seen then t else { t with seen := t.seen ++ [x], hs := putH t.name A x t.hs }
def newT (name : ByteArray) (S : List ByteArray) : Tm := S.foldl hearT ⟨name, 0, [], [], []⟩
/-- of the first k: the first of those that count whose measure is least -/
def firstTo {α : Type} (f : α → Option Int) (L : List α) : Nat → Option (Nat × Int)
  | 0 => none
  | k + 1 => match L[k]? with
    | none => firstTo f L k
    | some h => match f h with
      | none => firstTo f L k
      | some v => match firstTo f L k with
        | none => some (k, v)
        | some (i, m) => if v < m then some (k, v) else some (i, m)
/-- when one can call at a house, if something is left there -/
def due (now : Int) (h : Hm) : Option Int := if h.todo.length = 0 then none else some (max h.ready now)
def nextT (t : Tm) : Option (Nat × Int) := match firstTo (due t.now) t.hs t.hs.length with
  | none => none
  | some (i, m) => if 5000 < m then none else some (i, m)
/-- how long one waits behind so many calls that failed -/
def backF (n : Int) : Int := if n < 1 ∨ 3 < n then 0 else 2 ^ n.toNat
/-- a call at a house: it is left alone for a while then -/
def lookH (h : Hm) (now kd tries : Int) : Hm := { h with ready := now + max h.gp.2.2 1 + (if kd = 3 then backF (tries + 1) else 0) }
/-- does its notice let an item? -/
def letIt (g : List ByteArray × List Ru × Int) (y : It) : Bool := match normA y.addr with
  | some A => letsL g.2.1 (pathF A).data.toList
  | none => letsL g.2.1 (pathF zeroAd).data.toList
/-- the call for a house's notice -/
def askH (L : List Pg) (nm : ByteArray) (now : Int) (h : Hm) : Hm :=
  let kd := (kindF L (doorS h.name) h.tries).1
  let h1 := lookH h now kd h.tries
  if kd = 3 ∧ h.tries + 1 < 3 then { h1 with tries := h.tries + 1 }
  else let g := saysG (kindF L (doorS h.name) 2) nm
    { h1 with known := true, gp := g, ready := max h1.ready (now + g.2.2), todo := h.todo.filter (letIt g) }
def askT (L : List Pg) (t : Tm) (i : Nat) (h : Hm) : Tm := { t with lk := t.lk ++ [⟨t.now, doorS h.name, (kindF L (doorS h.name) h.tries).1⟩], hs := t.hs.set i (askH L t.name t.now h) }
/-- the call at the first address that is left -/
def firstH (L : List Pg) (now : Int) (h : Hm) (it : It) (rest : List It) : Hm :=
  let kd := (kindF L it.addr it.tries).1
  let h1 := lookH { h with todo := rest } now kd it.tries
  if kd = 3 ∧ it.tries + 1 < 3 then { h1 with todo := rest ++ [⟨it.addr, it.tries + 1⟩] } else h1
/-- where one comes from there -/
def leadT (L : List Pg) (it : It) : List ByteArray := match normA it.addr with
  | some A => leadF A (kindF L it.addr it.tries)
  | none => []
def firstT (L : List Pg) (t : Tm) (i : Nat) (h : Hm) : Tm := match h.todo with
  | [] => t
  | it :: rest => (leadT L it).foldl hearT { t with lk := t.lk ++ [⟨t.now, it.addr, (kindF L it.addr it.tries).1⟩], hs := t.hs.set i (firstH L t.now h it rest) }
/-- the next call -/
def stepT (L : List Pg) (t : Tm) : Option Tm := match nextT t with
  | none => none
  | some (i, m) => if 400 ≤ t.lk.length then none else match t.hs[i]? with
    | none => none
    | some h => some (if h.known then firstT L { t with now := m } i h else askT L { t with now := m } i h)
/-- so many calls at most -/
def runT (L : List Pg) : Nat → Tm → Tm
  | 0, t => t
  | n + 1, t => match stepT L t with
    | none => t
    | some t' => runT L n t'

/-! ### when one is ok -/
structure HmOk (name : ByteArray) (seen : List ByteArray) (h : Hm) : Prop where
  nm : houseB h.name = true
  rd : 0 ≤ h.ready ∧ h.ready ≤ 5100
  gn : h.gp.1 = [name]
  wt : 0 ≤ h.gp.2.2 ∧ h.gp.2.2 ≤ 20
  rl : h.gp.2.1.length ≤ 40
  ro : ∀ r ∈ h.gp.2.1, ruleL r.path.data.toList = true
  kn : h.known = true ∨ (h.gp.2.1 = [] ∧ h.gp.2.2 = 0)
  tr : 0 ≤ h.tries ∧ h.tries ≤ 2
  td : ∀ y ∈ h.todo, (∃ A, normA y.addr = some A ∧ A.house = h.name) ∧ y.addr ∈ seen ∧ 0 ≤ y.tries ∧ y.tries ≤ 2
  on : (h.todo.map It.addr).Nodup
structure TmOk (t : Tm) : Prop where
  nm : nameB t.name = true
  nw : 0 ≤ t.now ∧ t.now ≤ 5000
  sl : t.seen.length ≤ 60
  sn : t.seen.Nodup
  sr : ∀ x ∈ t.seen, ∃ A, normA x = some A
  hh : ∀ h ∈ t.hs, HmOk t.name t.seen h
  hn : (t.hs.map Hm.name).Nodup
  ll : t.lk.length ≤ 400
  lt : ∀ x ∈ t.lk, 0 ≤ x.time ∧ x.time ≤ t.now ∧ (∃ A, normA x.addr = some A) ∧ 0 ≤ x.kind ∧ x.kind ≤ 3
  ls : t.lk.Pairwise (fun a b => a.time ≤ b.time)

/-! ### the first of the least -/
section
variable {α : Type} {f : α → Option Int} {L : List α}
theorem first_spec : ∀ k, k ≤ L.length → (firstTo f L k = none ∧ ∀ j (hj : j < L.length), j < k → f L[j] = none) ∨ ∃ i m, firstTo f L k = some (i, m) ∧ i < k ∧ (∃ hi : i < L.length, f L[i] = some m) ∧ ∀ j (hj : j < L.length), j < k → ∀ v, f L[j] = some v → m ≤ v ∧ (j < i → m < v) := by
  intro k
  induction k with
  | zero => intro _; exact Or.inl ⟨rfl, fun j _ h => by omega⟩
  | succ k ih =>
    intro hk
    have hlt : k < L.length := by omega
    have e : firstTo f L (k + 1) = (match f L[k] with
      | none => firstTo f L k
      | some v => match firstTo f L k with
        | none => some (k, v)
        | some (i, m) => if v < m then some (k, v) else some (i, m)) := by
      show (match L[k]? with | none => _ | some h => _) = _
      rw [List.getElem?_eq_getElem hlt]
    rw [e]
    rcases ih (by omega) with ⟨h1, h2⟩ | ⟨i, m, h1, h2, ⟨h3, h4⟩, h5⟩
    · cases hf : f L[k] with
      | none =>
        refine Or.inl ⟨h1, fun j hj hjk => ?_⟩
        by_cases ej : j = k
        · subst ej; exact hf
        · exact h2 j hj (by omega)
      | some v =>
        refine Or.inr ⟨k, v, by rw [h1], by omega, ⟨hlt, hf⟩, fun j hj hjk u hu => ?_⟩
        by_cases ej : j = k
        · subst ej; rw [hf] at hu; injection hu with hu; omega
        · rw [h2 j hj (by omega)] at hu; cases hu
    · cases hf : f L[k] with
      | none =>
        refine Or.inr ⟨i, m, h1, by omega, ⟨h3, h4⟩, fun j hj hjk u hu => ?_⟩
        by_cases ej : j = k
        · subst ej; rw [hf] at hu; cases hu
        · exact h5 j hj (by omega) u hu
      | some v =>
        by_cases hv : v < m
        · refine Or.inr ⟨k, v, by rw [h1]; dsimp only; rw [if_pos hv], by omega, ⟨hlt, hf⟩, fun j hj hjk u hu => ?_⟩
          by_cases ej : j = k
          · subst ej; rw [hf] at hu; injection hu with hu; omega
          · have := h5 j hj (by omega) u hu; omega
        · refine Or.inr ⟨i, m, by rw [h1]; dsimp only; rw [if_neg hv], by omega, ⟨h3, h4⟩, fun j hj hjk u hu => ?_⟩
          by_cases ej : j = k
          · subst ej; rw [hf] at hu; injection hu with hu; omega
          · exact h5 j hj (by omega) u hu
end
/-- at which house one calls next -/
theorem next_spec {t : Tm} {i : Nat} {m : Int} (h : nextT t = some (i, m)) : ∃ hi : i < t.hs.length, t.hs[i].todo ≠ [] ∧ m = max t.hs[i].ready t.now ∧ m ≤ 5000 ∧ ∀ j (hj : j < t.hs.length), t.hs[j].todo ≠ [] → m ≤ max t.hs[j].ready t.now := by
  unfold nextT at h
  rcases first_spec (f := due t.now) (L := t.hs) t.hs.length (Nat.le_refl _) with ⟨h1, _⟩ | ⟨i', m', h1, _, ⟨h3, h4⟩, h5⟩
  · rw [h1] at h; cases h
  · rw [h1] at h
    dsimp only at h
    split at h
    · cases h
    · next hm =>
      injection h with h
      injection h with e1 e2
      subst e1; subst e2
      have hd : ∀ (g : Hm) (v : Int), due t.now g = some v ↔ g.todo ≠ [] ∧ v = max g.ready t.now := by
        intro g v
        unfold due
        constructor
        · intro hv
          split at hv
          · cases hv
          · next hne => injection hv with hv; exact ⟨fun e => hne (by rw [e]; rfl), hv.symm⟩
        · rintro ⟨h1, h2⟩
          rw [if_neg (fun e => h1 (List.eq_nil_of_length_eq_zero e)), h2]
      obtain ⟨h6, h7⟩ := (hd _ _).1 h4
      exact ⟨h3, h6, h7, by omega, fun j hj hne => (h5 j hj hj _ ((hd _ _).2 ⟨hne, rfl⟩)).1⟩
theorem next_none {t : Tm} (h : nextT t = none) : (∀ g ∈ t.hs, g.todo = []) ∨ ∀ g ∈ t.hs, g.todo ≠ [] → 5000 < max g.ready t.now := by
  unfold nextT at h
  have hd : ∀ (g : Hm), due t.now g = none ↔ g.todo = [] := by
    intro g
    unfold due
    constructor
    · intro hv
      split at hv
      · next he => exact List.eq_nil_of_length_eq_zero he
      · cases hv
    · intro he; rw [he]; rfl
  rcases first_spec (f := due t.now) (L := t.hs) t.hs.length (Nat.le_refl _) with ⟨_, h2⟩ | ⟨i', m', h1, _, ⟨h3, h4⟩, h5⟩
  · left
    intro g hg
    obtain ⟨j, hj, rfl⟩ := List.getElem_of_mem hg
    exact (hd _).1 (h2 j hj hj)
  · right
    rw [h1] at h
    dsimp only at h
    split at h
    · next hm =>
      intro g hg hne
      obtain ⟨j, hj, rfl⟩ := List.getElem_of_mem hg
      have hv : due t.now t.hs[j] = some (max t.hs[j].ready t.now) := by
        unfold due
        rw [if_neg (fun e => hne (List.eq_nil_of_length_eq_zero e))]
      have := (h5 j hj hj _ hv).1
      omega
    · cases h
end Go.Proofs.YtiennniclkbjlaaGreatDoor.TrM
/- Of the program: that an ok trip is found ok: a house, and what is left there. -/
namespace Go.Proofs.YtiennniclkbjlaaGreatDoor.Tq
open Go.RowKit Go.Proofs.YtiennniclkbjlaaGreatDoor.EscM Go.Proofs.YtiennniclkbjlaaGreatDoor.AddrM Go.Proofs.YtiennniclkbjlaaGreatDoor.ReadM Go.Proofs.YtiennniclkbjlaaGreatDoor.Rd1 Go.Proofs.YtiennniclkbjlaaGreatDoor.Ad1 Go.Proofs.YtiennniclkbjlaaGreatDoor.RuleM Go.Proofs.YtiennniclkbjlaaGreatDoor.St Go.Proofs.YtiennniclkbjlaaGreatDoor.EscL Go.Proofs.YtiennniclkbjlaaGreatDoor.RR Go.Proofs.YtiennniclkbjlaaGreatDoor.LetM Go.Proofs.YtiennniclkbjlaaGreatDoor.GrM Go.Proofs.YtiennniclkbjlaaGreatDoor.RoIt Go.Proofs.YtiennniclkbjlaaGreatDoor.RoLk Go.Proofs.YtiennniclkbjlaaGreatDoor.WdM Go.Proofs.YtiennniclkbjlaaGreatDoor.Wd Go.Proofs.YtiennniclkbjlaaGreatDoor.TpM Go.Proofs.YtiennniclkbjlaaGreatDoor.TrM Go.Proofs.YtiennniclkbjlaaGreatDoor.PgA Go.Proofs.YtiennniclkbjlaaGreatDoor.MkA Go.Proofs.YtiennniclkbjlaaGreatDoor.Im Go.Proofs.YtiennniclkbjlaaGreatDoor.Gp

def hmS (h : Hs) : Hm := ⟨h.name, h.ready, h.known, grp h.gr, h.tries, h.todo⟩
/-- a house's cells stand there -/
def HsC (w : World) (b o : Nat) (h : Hs) : Prop := ∀ j u, (FHs.enc h)[j]? = some u → w.cell? ⟨b, o + j, none⟩ = some u
theorem HsC.keep {w w' : World} {b o : Nat} {h : Hs} (hc : HsC w b o h) (hb : ∀ k, k < w.heap.size → w'.heap[k]? = w.heap[k]?) : HsC w' b o h := fun j u hj => by
  have := hc j u hj
  rw [World.cell?_of_block (w := w) (hb _ (cell_block this))]; exact this
theorem HsC.below {w w' : World} {b o : Nat} {h : Hs} (hc : HsC w b o h) (hb : Below w.heap.size w w') : HsC w' b o h := hc.keep fun k hk => hb.block k hk
theorem rule_size {l : List UInt8} (h : ruleL l = true) : l.length ≤ 16 := by
  unfold ruleL at h
  simp only [Bool.and_eq_true, decide_eq_true_eq] at h
  omega

set_option maxRecDepth 100000 in
set_option maxHeartbeats 2000000 in
theorem houseOk_true (b o : Nat) (h : Hs) (name : ByteArray) (seen : List ByteArray) (w : World) (hc : HsC w b o h) (hn : IsStrs w h.gr.na h.gr.nc h.gr.nm) (hr : IsRows FRu w h.gr.ra h.gr.rc h.gr.ru) (hk : HmOk name seen (hmS h)) :
    Calls Tryz.prog 67 #[.pointer (some ⟨b, o, none⟩), .string name] w fun e w' => e = .returned (.bool true) ∧ Below w.heap.size w w' := by
  have hnm : h.gr.nm = [name] := hk.gn
  obtain ⟨b1, o1, e1, q0⟩ := hn.at (k := 0) (by simp [hnm])
  have k0 : w.cell? ⟨b, o, none⟩ = some (.string h.name) := hc 0 _ rfl
  have k1 := hc 1 _ rfl
  have k2 := hc 2 _ rfl
  have k3 := hc 3 _ rfl
  have k4 := hc 4 _ rfl
  have k5 := hc 5 _ rfl
  have k6 := hc 6 _ rfl
  have hnl : h.gr.nm.length = 1 := by rw [hnm]; rfl
  have q1 : w.cell? ⟨b1, o1, none⟩ = some (.string name) := by
    have e : h.gr.nm[0]'(by simp [hnm]) = name := by simp [hnm]
    rw [e, Nat.add_zero] at q0; exact q0
  rw [e1, hnl] at k3
  have hrl : h.gr.ru.length ≤ 40 := hk.rl
  have HRA : Hid ((h.gr.ru.all fun r => ruleL r.path.data.toList) = true) := List.all_eq_true.2 fun r hr => hk.ro r hr
  have HRZ : Hid (∀ r ∈ h.gr.ru, r.path.size ≤ maxLen) := fun r hr => by
    have := rule_size (hk.ro r hr)
    have e : r.path.data.toList.length = r.path.size := by simp
    unfold maxLen; omega
  have HHN : Hid (houseB h.name = true) := hk.nm
  have hhz : h.name.size ≤ maxLen := by
    have h1 : houseB h.name = true := hk.nm
    unfold houseB at h1; simp at h1; unfold maxLen; omega
  have hrd : 0 ≤ h.ready ∧ h.ready ≤ 5100 := hk.rd
  have htr : 0 ≤ h.tries ∧ h.tries ≤ 2 := hk.tr
  have hwt : 0 ≤ h.gr.wait ∧ h.gr.wait ≤ 20 := hk.wt
  have d1 : decide (h.ready < 0) = false := decide_eq_false (by omega)
  have d2 : decide ((5100 : Int) < h.ready) = false := decide_eq_false (by omega)
  have HTR : Hid (decide (0 ≤ h.tries ∧ h.tries ≤ 2) = true) := decide_eq_true htr
  have HWT : Hid (decide (0 ≤ h.gr.wait ∧ h.gr.wait ≤ 20) = true) := decide_eq_true hwt
  have HKN : Hid (h.known = true ∨ (h.gr.ru = [] ∧ h.gr.wait = 0)) := hk.kn
  have HR : Hid (IsRows FRu w h.gr.ra h.gr.rc h.gr.ru) := hr
  clear hc hn hr hk hnm q0 hnl hrd htr hwt e1
  cases hu : h.known with
  | false =>
    rw [hu] at k2
    have hz : h.gr.ru.length = 0 ∧ h.gr.wait = 0 := by
      rcases HKN.out with h1 | ⟨h1, h2⟩
      · rw [hu] at h1; cases h1
      · exact ⟨by rw [h1]; rfl, h2⟩
    rw [hz.1] at k4
    rw [hz.2] at k5
    clear hz hu HRA HRZ HWT HKN HR hrl
    go_enter Tryz.func67, Tryz.ntmps67
    go_wp2_with (first
      | (go_at_call 61; refine (implSmall_any h.name _ hhz).mono ?_; rintro e w1 ⟨rfl, e2⟩; have e3 := e2.symm; subst e3; rw [HHN.out])
      | (go_at_call 90; refine (Tp.implTries_any h.tries _).mono ?_; rintro e w1 ⟨rfl, e2⟩; have e3 := e2.symm; subst e3; rw [HTR.out]))
    go_ret
    exact ⟨rfl, Below.refl _ _⟩
  | true =>
    rw [hu] at k2
    have d3 : decide ((h.gr.ru.length : Int) ≤ 40) = true := decide_eq_true (by omega)
    clear hu HKN
    go_enter Tryz.func67, Tryz.ntmps67
    go_wp2_with (first
      | (go_at_call 61; refine (implSmall_any h.name _ hhz).mono ?_; rintro e w1 ⟨rfl, e2⟩; have e3 := e2.symm; subst e3; rw [HHN.out])
      | (go_at_call 90; refine (Tp.implTries_any h.tries _).mono ?_; rintro e w1 ⟨rfl, e2⟩; have e3 := e2.symm; subst e3; rw [HTR.out])
      | (go_at_call 91; refine (implRules_any h.gr.ra h.gr.rc h.gr.ru _ HR.out (by omega) HRZ.out).mono ?_; rintro e w2 ⟨rfl, hb2⟩; rw [HRA.out]; have HB2 : Hid _ := hb2; have r5 := (hb2.cell (St.cell_block k5)).trans k5; clear hb2)
      | (go_at_call 92; refine (implWait_any h.gr.wait _).mono ?_; rintro e w3 ⟨rfl, e4⟩; have e5 := e4.symm; subst e5; rw [HWT.out]))
    go_ret
    exact ⟨rfl, HB2.out⟩
end Go.Proofs.YtiennniclkbjlaaGreatDoor.Tq
/- What a notice says to a caller is in form: for trips. -/
namespace Go.Proofs.YtiennniclkbjlaaGreatDoor.TrM
open Go.Proofs.YtiennniclkbjlaaGreatDoor.EscM Go.Proofs.YtiennniclkbjlaaGreatDoor.AddrM Go.Proofs.YtiennniclkbjlaaGreatDoor.ReadM Go.Proofs.YtiennniclkbjlaaGreatDoor.RuleM Go.Proofs.YtiennniclkbjlaaGreatDoor.St Go.Proofs.YtiennniclkbjlaaGreatDoor.RoPg Go.Proofs.YtiennniclkbjlaaGreatDoor.LetM Go.Proofs.YtiennniclkbjlaaGreatDoor.Nm Go.Proofs.YtiennniclkbjlaaGreatDoor.GrM Go.Proofs.YtiennniclkbjlaaGreatDoor.WdM Go.Proofs.YtiennniclkbjlaaGreatDoor.Wd Go.Proofs.YtiennniclkbjlaaGreatDoor.WdN Go.Proofs.YtiennniclkbjlaaGreatDoor.NrM

def totR (gs : List (List ByteArray × List Ru × Int)) : Nat := (rulesT gs).length
theorem tot_app (a b : List (List ByteArray × List Ru × Int)) : totR (a ++ b) = totR a + totR b := by unfold totR rulesT; rw [List.flatMap_append, List.length_append]
theorem tot_one (g : List ByteArray × List Ru × Int) : totR [g] = g.2.1.length := by unfold totR rulesT; simp
theorem last_split {gs : List (List ByteArray × List Ru × Int)} (h : gs ≠ []) : gs = gs.dropLast ++ [lastG gs] := by
  unfold lastG
  rw [List.getLast?_eq_some_getLast h]
  exact (List.dropLast_concat_getLast h).symm
theorem tot_add (S : Nr) (x : NrM.Lk) : totR (addF S x).gs ≤ totR S.gs + 1 := by
  cases x with
  | c s =>
    rw [add_c]
    split
    · show totR (S.gs ++ _) ≤ _
      rw [tot_app, tot_one]
      show _ + 0 ≤ _
      omega
    · next h =>
      have hne : S.gs ≠ [] := fun e => h (Or.inl e)
      show totR (S.gs.dropLast ++ _) ≤ _
      conv => rhs; rw [last_split hne]
      rw [tot_app, tot_app, tot_one, tot_one]
      exact Nat.le_succ _
  | r x =>
    rw [add_r]
    split
    · exact Nat.le_succ _
    · next hne =>
      split
      · show totR (S.gs.dropLast ++ _) ≤ _
        conv => rhs; rw [last_split hne]
        rw [tot_app, tot_app, tot_one, tot_one]
        simp; omega
      · exact Nat.le_succ _
  | t n =>
    rw [add_t]
    split
    · exact Nat.le_succ _
    · next hne =>
      show totR (S.gs.dropLast ++ _) ≤ _
      conv => rhs; rw [last_split hne]
      rw [tot_app, tot_app, tot_one, tot_one]
      exact Nat.le_succ _
theorem tot_read (f : ByteArray → Option NrM.Lk) (L : List ByteArray) : ∀ k, totR (readTo f L k).gs ≤ k := by
  intro k
  induction k with
  | zero => exact Nat.le_refl _
  | succ k ih =>
    by_cases h : k < L.length
    · rw [read_step h]
      unfold stepF
      split
      · next x _ => exact Nat.le_trans (tot_add _ x) (by omega)
      · omega
    · show totR (match L[k]? with | some s => _ | none => _ : Nr).gs ≤ _
      rw [List.getElem?_eq_none (by omega)]
      dsimp only; omega
theorem tot_cons (x : List ByteArray × List Ru × Int) (l : List (List ByteArray × List Ru × Int)) : totR (x :: l) = totR [x] + totR l := tot_app [x] l
theorem tot_sub {a b : List (List ByteArray × List Ru × Int)} (h : List.Sublist a b) : totR a ≤ totR b := by
  induction h with
  | slnil => exact Nat.le_refl _
  | cons x _ ih => rw [tot_cons]; exact Nat.le_trans ih (Nat.le_add_left _ _)
  | cons_cons x _ ih =>
    have h1 := tot_cons x
    exact Nat.le_trans (Nat.le_of_eq (h1 _)) (Nat.le_trans (Nat.add_le_add_left ih _) (Nat.le_of_eq (h1 _).symm))
theorem tot_told (L : List (List ByteArray × List Ru × Int)) (s : ByteArray) : totR (toldT L s) ≤ totR L := by
  unfold toldT
  split <;> exact tot_sub List.filter_sublist
theorem wait_in {L : List (List ByteArray × List Ru × Int)} (h : ∀ g ∈ L, 0 ≤ g.2.2 ∧ g.2.2 ≤ 20) : 0 ≤ waitT L ∧ waitT L ≤ 20 := by
  unfold waitT
  have : ∀ (m : Int), 0 ≤ m → m ≤ 20 → 0 ≤ L.foldl (fun m g => max m g.2.2) m ∧ L.foldl (fun m g => max m g.2.2) m ≤ 20 := by
    induction L with
    | nil => intro m h1 h2; exact ⟨h1, h2⟩
    | cons g r ih =>
      intro m h1 h2
      have hg := h g (List.mem_cons_self ..)
      exact ih (fun x hx => h x (List.mem_cons_of_mem _ hx)) (max m g.2.2) (by omega) (by omega)
  exact this 0 (by decide) (by decide)
/-- what is said is in form -/
theorem says_fine (k : Int × ByteArray) (s : ByteArray) : (saysG k s).1 = [s] ∧ (0 ≤ (saysG k s).2.2 ∧ (saysG k s).2.2 ≤ 20) ∧ (saysG k s).2.1.length ≤ 40 ∧ ∀ r ∈ (saysG k s).2.1, ruleL r.path.data.toList = true := by
  unfold saysG
  split
  · have hz := notice_szT k.2
    refine ⟨rfl, wait_in fun g hg => (hz.2 g (told_memT hg)).2.2.2.2.imp id (fun h => h.1), ?_, fun r hr => ?_⟩
    · exact Nat.le_trans (tot_told (noticeF k.2) s) (Nat.le_trans (tot_read _ _ _) (Nat.min_le_left _ _))
    · obtain ⟨g, hg, hm⟩ := List.mem_flatMap.1 hr
      exact ((hz.2 g (told_memT hg)).2.2.2.1 r hm).2
  · split
    · exact ⟨rfl, ⟨Int.le_refl _, show (0 : Int) ≤ 20 by decide⟩, (show 1 ≤ 40 by decide), fun r hr => by simp at hr; subst hr; decide +kernel⟩
    · exact ⟨rfl, ⟨Int.le_refl _, show (0 : Int) ≤ 20 by decide⟩, Nat.zero_le _, fun r hr => by cases hr⟩
end Go.Proofs.YtiennniclkbjlaaGreatDoor.TrM
/- What is not come to changes nothing: of the lists. -/
namespace Go.Proofs.YtiennniclkbjlaaGreatDoor.ReM
open Go.Proofs.YtiennniclkbjlaaGreatDoor.St Go.Proofs.YtiennniclkbjlaaGreatDoor.PgM Go.Proofs.YtiennniclkbjlaaGreatDoor.PgA

variable {ok : ByteArray → Bool} {next next' : ByteArray → List ByteArray} {U : List ByteArray}
theorem lst_pre : ∀ (f i : Nat) (T out : List ByteArray), out <+: lstR ok next f i T out := by
  intro f
  induction f with
  | zero => intro i T out; exact List.prefix_refl _
  | succ f ih =>
    intro i T out
    by_cases hi : i < T.length
    · cases hk : ok T[i] with
      | true => rw [lst_ok hi hk]; exact (List.prefix_append out [T[i]]).trans (ih _ _ _)
      | false => rw [lst_no hi hk]; exact ih _ _ _
    · rw [lst_end (by omega)]; exact List.prefix_refl _
/-- where only what is not come to leads elsewhere, one comes to the same -/
theorem lst_same (z : ByteArray) (hn : ∀ x, x ≠ z → next x = next' x) : ∀ (f i : Nat) (T out : List ByteArray), z ∉ lstR ok next f i T out → lstR ok next' f i T out = lstR ok next f i T out := by
  intro f
  induction f with
  | zero => intro i T out _; rfl
  | succ f ih =>
    intro i T out hz
    by_cases hi : i < T.length
    · cases hk : ok T[i] with
      | true =>
        rw [lst_ok hi hk] at hz ⊢
        rw [lst_ok hi hk]
        have hx : T[i] ≠ z := by
          intro e
          refine hz ?_
          have hp := lst_pre (ok := ok) (next := next) f (i + 1) (putsL T (next T[i])) (out ++ [T[i]])
          exact hp.subset (by rw [← e]; simp)
        rw [← hn _ hx]
        exact ih _ _ _ hz
      | false =>
        rw [lst_no hi hk] at hz ⊢
        rw [lst_no hi hk]
        exact ih _ _ _ hz
    · rw [lst_end (by omega), lst_end (by omega)]
/-- more rounds than enough change nothing -/
theorem lst_enough (hN : ∀ x, ok x = true → ∀ y ∈ next x, y ∈ U) : ∀ (f g i : Nat) (T out : List ByteArray), T.Nodup → (∀ x ∈ T, x ∈ U) → U.length ≤ i + f → U.length ≤ i + g → lstR ok next f i T out = lstR ok next g i T out := by
  intro f
  induction f with
  | zero =>
    intro g i T out h1 h2 h3 _
    have := nodup_len h1 h2
    rw [lst_end (by omega), lst_end (by omega)]
  | succ f ih =>
    intro g i T out h1 h2 h3 h4
    have hl := nodup_len h1 h2
    by_cases hi : i < T.length
    · cases g with
      | zero => omega
      | succ g =>
        cases hk : ok T[i] with
        | true =>
          rw [lst_ok hi hk, lst_ok hi hk]
          exact ih g (i + 1) _ _ (puts_nodup h1) (fun x hx => (puts_mem.1 hx).elim (h2 x) (hN _ hk x)) (by omega) (by omega)
        | false =>
          rw [lst_no hi hk, lst_no hi hk]
          exact ih g (i + 1) _ _ h1 h2 (by omega) (by omega)
    · rw [lst_end (by omega), lst_end (by omega)]
end Go.Proofs.YtiennniclkbjlaaGreatDoor.ReM
/- What is not come to changes nothing: of worlds. -/
namespace Go.Proofs.YtiennniclkbjlaaGreatDoor.ReM
open Go.RowKit Go.Proofs.YtiennniclkbjlaaGreatDoor.EscM Go.Proofs.YtiennniclkbjlaaGreatDoor.ReadM Go.Proofs.YtiennniclkbjlaaGreatDoor.LetM Go.Proofs.YtiennniclkbjlaaGreatDoor.RuleM Go.Proofs.YtiennniclkbjlaaGreatDoor.AddrM Go.Proofs.YtiennniclkbjlaaGreatDoor.Ad1 Go.Proofs.YtiennniclkbjlaaGreatDoor.Rd1 Go.Proofs.YtiennniclkbjlaaGreatDoor.EscL Go.Proofs.YtiennniclkbjlaaGreatDoor.St Go.Proofs.YtiennniclkbjlaaGreatDoor.PgM Go.Proofs.YtiennniclkbjlaaGreatDoor.PgA Go.Proofs.YtiennniclkbjlaaGreatDoor.RoPg Go.Proofs.YtiennniclkbjlaaGreatDoor.WdM Go.Proofs.YtiennniclkbjlaaGreatDoor.Wd Go.Proofs.YtiennniclkbjlaaGreatDoor.WdN Go.Proofs.YtiennniclkbjlaaGreatDoor.Nm Go.Proofs.YtiennniclkbjlaaGreatDoor.RB

/-- a world without one of its pages -/
def fewL (L : List Pg) (k : Nat) : List Pg := L.take k ++ L.drop (k + 1)
theorem few_split {L : List Pg} {k : Nat} (hk : k < L.length) : L = L.take k ++ L[k] :: L.drop (k + 1) := by
  rw [← List.drop_eq_getElem_cons hk, List.take_append_drop]
theorem find_few {L : List Pg} {k : Nat} (hk : k < L.length) {s : ByteArray} (h : sameA s L[k] = false) : (fewL L k).find? (sameA s) = L.find? (sameA s) := by
  unfold fewL
  conv => rhs; rw [few_split hk]
  rw [List.find?_append, List.find?_append, List.find?_cons_of_neg (by rw [h]; decide)]
theorem kind_few {L : List Pg} {k : Nat} (hk : k < L.length) {s : ByteArray} (h : sameA s L[k] = false) (t : Int) : kindF (fewL L k) s t = kindF L s t := by unfold kindF; rw [find_few hk h]
theorem same_addr {s : ByteArray} {p : Pg} : sameA s p = true ↔ p.addr = s := by
  unfold sameA
  constructor
  · intro h
    have e1 : p.addr.toList = s.toList := by simpa using h
    rw [ByteArray.toList_eq, ByteArray.toList_eq] at e1
    exact ByteArray.ext (Array.toList_inj.1 e1)
  · intro h; rw [h]; simp
theorem same_not {s : ByteArray} {p : Pg} (h : s ≠ p.addr) : sameA s p = false := by
  cases hq : sameA s p with
  | false => rfl
  | true => exact absurd (same_addr.1 hq).symm h
theorem door_ok {house : ByteArray} (h : houseB house = true) : okB (doorA house) = true := by
  have hz : house.size ≤ 5 := by unfold houseB at h; simp at h; omega
  have h1 : ([⟨#[110, 111, 116, 105, 99, 101]⟩] : List ByteArray).all partB = true := by decide +kernel
  have h2 : normB ⟨#[]⟩ = true := by decide +kernel
  have h3 : (textL (doorA house)).length ≤ 60 := by
    unfold textL pathL doorA joinL
    have : house.data.toList.length = house.size := by simp
    simp; omega
  unfold okB
  show (houseB house && decide (([⟨#[110, 111, 116, 105, 99, 101]⟩] : List ByteArray).length ≤ 5) && ([⟨#[110, 111, 116, 105, 99, 101]⟩] : List ByteArray).all partB && (false || (⟨#[]⟩ : ByteArray).toList.isEmpty) && normB ⟨#[]⟩ && decide ((textL (doorA house)).length ≤ 60)) = true
  rw [h, h1, h2, decide_eq_true h3]
  have : (⟨#[]⟩ : ByteArray).toList.isEmpty = true := by rw [ByteArray.toList_eq]; rfl
  rw [this]; rfl
theorem wOk_pw {L : List Pg} : wOk L = true ↔ (∀ p ∈ L, pgB p = true) ∧ L.Pairwise (fun p q => sameA q.addr p = false) ∧ L.length ≤ 12 := by
  rw [wOk_iff]
  constructor
  · rintro ⟨h, hl⟩
    refine ⟨fun p hp => ?_, List.pairwise_iff_getElem.2 (fun i j hi hj hij => ?_), hl⟩
    · obtain ⟨i, hi, rfl⟩ := List.mem_iff_getElem.1 hp
      exact (h i hi).1
    · have := (h j hj).2
      rw [List.any_eq_false] at this
      have hm : L[i] ∈ L.take j := by rw [List.mem_iff_getElem]; exact ⟨i, by simp; omega, by simp⟩
      simpa using this _ hm
  · rintro ⟨h1, h2, hl⟩
    refine ⟨fun i hi => ⟨h1 _ (List.getElem_mem hi), ?_⟩, hl⟩
    rw [List.any_eq_false]
    intro p hp
    obtain ⟨j, hj, e⟩ := List.mem_iff_getElem.1 hp
    have hji : j < i := by simp at hj; omega
    have := List.pairwise_iff_getElem.1 h2 j i (by omega) hi hji
    rw [← e]; simpa using this
theorem wOk_few {L : List Pg} (h : wOk L = true) (k : Nat) (hk : k < L.length) : wOk (fewL L k) = true := by
  rw [wOk_pw] at h ⊢
  have hs : List.Sublist (fewL L k) L := by
    conv => rhs; rw [few_split hk]
    exact List.Sublist.append_left (List.sublist_cons_self _ _) _
  exact ⟨fun p hp => h.1 p (hs.subset hp), h.2.1.sublist hs, Nat.le_trans hs.length_le h.2.2⟩
theorem door_other {L : List Pg} {k : Nat} {hk : k < L.length} {B : Ad} {house : ByteArray} (hh : houseB house = true) (hB : normA L[k].addr = some B) (hp : pathF B ≠ ⟨#[47, 110, 111, 116, 105, 99, 101]⟩) : doorS house ≠ L[k].addr := by
  intro e
  have hr := (norm_some hB).1
  have hd := door_ok hh
  have h1 : readF (doorS house).data.toList = some (doorA house) := by
    rw [← door_text hh, Door.text_data hd]; exact read_back hd
  rw [← e, h1] at hr
  have e2 : doorA house = B := Option.some.inj hr
  refine hp ?_
  rw [← e2, path_ok hd]
  unfold pathS pathL doorA joinL
  rfl
theorem kind_own {L : List Pg} (h : wOk L = true) {k : Nat} (hk : k < L.length) (hf : L[k].fails < 3) : ¬ (kindF L L[k].addr 2).1 = 3 := by
  have hpw := (wOk_pw.1 h).2.1
  have hs : L.find? (sameA L[k].addr) = some L[k] := by
    rw [List.find?_eq_some_iff_getElem]
    refine ⟨same_addr.2 rfl, k, hk, rfl, fun j hj => ?_⟩
    have := List.pairwise_iff_getElem.1 hpw j k (by omega) hk hj
    simpa using this
  unfold kindF
  rw [hs]
  dsimp only
  rw [if_neg (by omega)]
  split <;> simp
theorem kind_gone {L : List Pg} (h : wOk L = true) {k : Nat} (hk : k < L.length) : (kindF (fewL L k) L[k].addr 2).1 = 0 := by
  have hpw := (wOk_pw.1 h).2.1
  have hs : (fewL L k).find? (sameA L[k].addr) = none := by
    rw [List.find?_eq_none]
    intro p hp
    have hq : sameA L[k].addr p = false := by
      rcases List.mem_append.1 hp with hp | hp
      · obtain ⟨j, hj, e⟩ := List.mem_iff_getElem.1 hp
        have hjk : j < k := by simp at hj; omega
        have := List.pairwise_iff_getElem.1 hpw j k (by omega) hk hjk
        rw [← e]; simpa using this
      · obtain ⟨j, hj, e⟩ := List.mem_iff_getElem.1 hp
        have hjl : k + 1 + j < L.length := by simp at hj; omega
        have := List.pairwise_iff_getElem.1 hpw k (k + 1 + j) hk hjl (by omega)
        have e2 : p = L[k + 1 + j] := by rw [← e]; simp
        refine same_not fun e3 => ?_
        rw [← e2] at this
        rw [same_addr.2 e3] at this
        cases this
    rw [hq]; decide
  unfold kindF
  rw [hs]
theorem from_few {L : List Pg} (h : wOk L = true) {k : Nat} (hk : k < L.length) {x : ByteArray} (hx : x ≠ L[k].addr) : fromW L x = fromW (fewL L k) x := by
  unfold fromW
  rw [h, wOk_few h k hk, kind_few hk (same_not hx)]
theorem ok_few {L : List Pg} (h : wOk L = true) {k : Nat} (hk : k < L.length) {B : Ad} (hB : normA L[k].addr = some B) (hp : pathF B ≠ ⟨#[47, 110, 111, 116, 105, 99, 101]⟩) (hf : L[k].fails < 3) (name x : ByteArray) : okR (fewL L k) name x = okR L name x := by
  have hl : letsW (fewL L k) name x = letsW L name x := by
    unfold letsW
    cases hr : readF x.data.toList with
    | none => rfl
    | some A =>
      dsimp only
      have hh := (Dr.ok_parts (OB.read_ok hr)).1
      rw [h, wOk_few h k hk, kind_few hk (same_not (door_other hh hB hp))]
  unfold okR
  rw [hl]
  by_cases hx : x = L[k].addr
  · subst hx
    rw [decide_eq_false (kind_own h hk hf), decide_eq_false (by rw [kind_gone h hk]; decide)]
  · rw [kind_few hk (same_not hx)]
/-- what is not come to changes nothing -/
theorem reach_few {L : List Pg} (h : wOk L = true) {k : Nat} (hk : k < L.length) {B : Ad} (hB : normA L[k].addr = some B) (hp : pathF B ≠ ⟨#[47, 110, 111, 116, 105, 99, 101]⟩) (hf : L[k].fails < 3) (name : ByteArray) (S : List ByteArray) (hz : L[k].addr ∉ reachW L name S) : reachW (fewL L k) name S = reachW L name S := by
  have hok : okR (fewL L k) name = okR L name := funext fun x => ok_few h hk hB hp hf name x
  unfold reachW at hz ⊢
  rw [wOk_few h k hk]
  rw [h] at hz ⊢
  split at hz
  · next hc =>
    rw [if_pos hc, if_pos hc, hok]
    have e1 := lst_enough (ok := okR L name) (next := fromW (fewL L k)) (U := uR (fewL L k) S) (fun x _ y hy => from_uni hy) (uR (fewL L k) S).length ((uR (fewL L k) S).length + (uR L S).length) 0 (putsL [] (S.filter nR)) [] (puts_nodup List.nodup_nil) (fun x hx => by
      rcases puts_mem.1 hx with hx | hx
      · cases hx
      · exact List.mem_append_left _ (List.mem_filter.1 hx).1) (by omega) (by omega)
    have e2 := lst_enough (ok := okR L name) (next := fromW L) (U := uR L S) (fun x _ y hy => from_uni hy) (uR L S).length ((uR (fewL L k) S).length + (uR L S).length) 0 (putsL [] (S.filter nR)) [] (puts_nodup List.nodup_nil) (fun x hx => by
      rcases puts_mem.1 hx with hx | hx
      · cases hx
      · exact List.mem_append_left _ (List.mem_filter.1 hx).1) (by omega) (by omega)
    rw [e2] at hz
    rw [e1, e2]
    exact lst_same L[k].addr (fun x hx => from_few h hk hx) _ _ _ _ hz
  · next hc => rw [if_neg hc, if_neg hc]
end Go.Proofs.YtiennniclkbjlaaGreatDoor.ReM
/- Trips stay ok. -/
namespace Go.Proofs.YtiennniclkbjlaaGreatDoor.TrM
open Go.Proofs.YtiennniclkbjlaaGreatDoor.EscM Go.Proofs.YtiennniclkbjlaaGreatDoor.AddrM Go.Proofs.YtiennniclkbjlaaGreatDoor.ReadM Go.Proofs.YtiennniclkbjlaaGreatDoor.Ad1 Go.Proofs.YtiennniclkbjlaaGreatDoor.Rd1 Go.Proofs.YtiennniclkbjlaaGreatDoor.RuleM Go.Proofs.YtiennniclkbjlaaGreatDoor.St Go.Proofs.YtiennniclkbjlaaGreatDoor.PgM Go.Proofs.YtiennniclkbjlaaGreatDoor.PgA Go.Proofs.YtiennniclkbjlaaGreatDoor.RoPg Go.Proofs.YtiennniclkbjlaaGreatDoor.LetM Go.Proofs.YtiennniclkbjlaaGreatDoor.Nm Go.Proofs.YtiennniclkbjlaaGreatDoor.GrM Go.Proofs.YtiennniclkbjlaaGreatDoor.RoIt Go.Proofs.YtiennniclkbjlaaGreatDoor.RoLk Go.Proofs.YtiennniclkbjlaaGreatDoor.WdM Go.Proofs.YtiennniclkbjlaaGreatDoor.Wd Go.Proofs.YtiennniclkbjlaaGreatDoor.WdN Go.Proofs.YtiennniclkbjlaaGreatDoor.TpM Go.Proofs.YtiennniclkbjlaaGreatDoor.ReM

/-! ### one hears of a text -/
theorem add_name (A : Ad) (x : ByteArray) (h : Hm) : (addIt A x h).name = h.name := by unfold addIt; split <;> rfl
/-- what becomes of houses: each is one that was, or the one that hears -/
theorem put_each (nm : ByteArray) (A : Ad) (x : ByteArray) : ∀ (H : List Hm), ∀ g ∈ putH nm A x H, g ∈ H ∨ (∃ h ∈ H, h.name = A.house ∧ g = addIt A x h) ∨ ((∀ h ∈ H, h.name ≠ A.house) ∧ g = addIt A x (newH nm A.house)) := by
  intro H
  induction H with
  | nil =>
    intro g hg
    have e : g = addIt A x (newH nm A.house) := by
      have : g ∈ [addIt A x (newH nm A.house)] := hg
      simpa using this
    exact Or.inr (Or.inr ⟨fun h hh => (by cases hh), e⟩)
  | cons h r ih =>
    intro g hg
    unfold putH at hg
    split at hg
    · next hn =>
      rcases List.mem_cons.1 hg with e | e
      · exact Or.inr (Or.inl ⟨h, List.mem_cons_self .., hn, e⟩)
      · exact Or.inl (List.mem_cons_of_mem _ e)
    · next hn =>
      rcases List.mem_cons.1 hg with e | e
      · exact Or.inl (e ▸ List.mem_cons_self ..)
      · rcases ih g e with h1 | ⟨h', h1, h2⟩ | ⟨h1, h2⟩
        · exact Or.inl (List.mem_cons_of_mem _ h1)
        · exact Or.inr (Or.inl ⟨h', List.mem_cons_of_mem _ h1, h2⟩)
        · refine Or.inr (Or.inr ⟨fun h' hh => ?_, h2⟩)
          rcases List.mem_cons.1 hh with e' | e'
          · rw [e']; exact hn
          · exact h1 h' e'
theorem put_names_in {nm : ByteArray} {A : Ad} {x : ByteArray} : ∀ {H : List Hm}, A.house ∈ H.map Hm.name → (putH nm A x H).map Hm.name = H.map Hm.name := by
  intro H
  induction H with
  | nil => intro h; cases h
  | cons h r ih =>
    intro hm
    unfold putH
    by_cases hn : h.name = A.house
    · rw [if_pos hn, List.map_cons, List.map_cons, add_name]
    · rw [if_neg hn, List.map_cons, List.map_cons]
      rw [List.map_cons] at hm
      rcases List.mem_cons.1 hm with e | e
      · exact absurd e.symm hn
      · rw [ih e]
theorem put_new {nm : ByteArray} {A : Ad} {x : ByteArray} : ∀ {H : List Hm}, A.house ∉ H.map Hm.name → putH nm A x H = H ++ [addIt A x (newH nm A.house)] := by
  intro H
  induction H with
  | nil => intro _; rfl
  | cons h r ih =>
    intro hm
    rw [List.map_cons] at hm
    have hn : ¬ h.name = A.house := fun e => hm (by rw [e]; exact List.mem_cons_self ..)
    unfold putH
    rw [if_neg hn, ih (fun e => hm (List.mem_cons_of_mem _ e))]; rfl
theorem put_names_new {nm : ByteArray} {A : Ad} {x : ByteArray} {H : List Hm} (h : A.house ∉ H.map Hm.name) : (putH nm A x H).map Hm.name = H.map Hm.name ++ [A.house] := by
  rw [put_new h, List.map_append]
  show _ ++ [(addIt A x (newH nm A.house)).name] = _
  rw [add_name]; rfl
theorem put_names_nodup {nm : ByteArray} {A : Ad} {x : ByteArray} {H : List Hm} (h : (H.map Hm.name).Nodup) : ((putH nm A x H).map Hm.name).Nodup := by
  by_cases hm : A.house ∈ H.map Hm.name
  · rw [put_names_in hm]; exact h
  · rw [put_names_new hm]
    exact List.nodup_append.2 ⟨h, by simp, fun a ha b hb => by simp at hb; subst hb; exact fun e => hm (e ▸ ha)⟩
theorem HmOk.more {name : ByteArray} {seen : List ByteArray} {h : Hm} (hk : HmOk name seen h) (x : ByteArray) : HmOk name (seen ++ [x]) h :=
  ⟨hk.nm, hk.rd, hk.gn, hk.wt, hk.rl, hk.ro, hk.kn, hk.tr, fun y hy => by obtain ⟨h1, h2, h3⟩ := hk.td y hy; exact ⟨h1, List.mem_append_left _ h2, h3⟩, hk.on⟩
theorem HmOk.add {name : ByteArray} {seen : List ByteArray} {h : Hm} (hk : HmOk name seen h) {A : Ad} {x : ByteArray} (hA : normA x = some A) (hh : h.name = A.house) (hx : x ∉ seen) : HmOk name (seen ++ [x]) (addIt A x h) := by
  unfold addIt
  split
  · refine ⟨hk.nm, hk.rd, hk.gn, hk.wt, hk.rl, hk.ro, hk.kn, hk.tr, fun y hy => ?_, ?_⟩
    · rcases List.mem_append.1 hy with hy | hy
      · obtain ⟨h1, h2, h3⟩ := hk.td y hy; exact ⟨h1, List.mem_append_left _ h2, h3⟩
      · have e : y = ⟨x, 0⟩ := by simpa using hy
        subst e
        exact ⟨⟨A, hA, hh.symm⟩, by simp, Int.le_refl _, show (0 : Int) ≤ 2 by decide⟩
    · show ((h.todo ++ ([⟨x, 0⟩] : List It)).map It.addr).Nodup
      rw [List.map_append]
      refine List.nodup_append.2 ⟨hk.on, by simp, fun a ha b hb => ?_⟩
      have e : b = x := by simpa using hb
      subst e
      obtain ⟨y, hy, rfl⟩ := List.mem_map.1 ha
      exact fun e => hx (e ▸ (hk.td y hy).2.1)
  · exact hk.more x
theorem HmOk.new {name : ByteArray} {seen : List ByteArray} {house : ByteArray} (hh : houseB house = true) : HmOk name seen (newH name house) :=
  ⟨hh, ⟨Int.le_refl _, show (0 : Int) ≤ 5100 by decide⟩, rfl, ⟨Int.le_refl _, show (0 : Int) ≤ 20 by decide⟩, Nat.zero_le _, (fun r hr => by cases hr), Or.inr ⟨rfl, rfl⟩, ⟨Int.le_refl _, show (0 : Int) ≤ 2 by decide⟩, (fun y hy => by cases hy), List.nodup_nil⟩
theorem norm_house {x : ByteArray} {A : Ad} (h : normA x = some A) : houseB A.house = true := (Dr.ok_parts (OB.read_ok (norm_some h).1)).1
theorem hear_ok {t : Tm} (h : TmOk t) (x : ByteArray) : TmOk (hearT t x) := by
  unfold hearT
  cases hA : normA x with
  | none => exact h
  | some A =>
    dsimp only
    split
    · exact h
    · next hc =>
      rw [Bool.or_eq_true, decide_eq_true_eq, has_mem] at hc
      have h60 : t.seen.length < 60 := by have := fun e => hc (Or.inl e); omega
      have hx : x ∉ t.seen := fun e => hc (Or.inr e)
      refine ⟨h.nm, h.nw, by simp; omega, ?_, ?_, ?_, put_names_nodup h.hn, h.ll, h.lt, h.ls⟩
      · exact List.nodup_append.2 ⟨h.sn, by simp, fun a ha b hb => by simp at hb; subst hb; exact fun e => hx (e ▸ ha)⟩
      · intro y hy
        rcases List.mem_append.1 hy with hy | hy
        · exact h.sr y hy
        · have e : y = x := by simpa using hy
          subst e; exact ⟨A, hA⟩
      · intro g hg
        rcases put_each _ _ _ _ g hg with h1 | ⟨h', h1, h2, h3⟩ | ⟨_, h3⟩
        · exact (h.hh g h1).more x
        · rw [h3]; exact (h.hh h' h1).add hA h2 hx
        · rw [h3]; exact (HmOk.new (norm_house hA)).add hA rfl hx
theorem hears_ok (S : List ByteArray) : ∀ {t : Tm}, TmOk t → TmOk (S.foldl hearT t) := by
  induction S with
  | nil => intro t h; exact h
  | cons x r ih => intro t h; exact ih (hear_ok h x)
theorem empty_ok {name : ByteArray} (h : nameB name = true) : TmOk ⟨name, 0, [], [], []⟩ :=
  ⟨h, ⟨Int.le_refl _, show (0 : Int) ≤ 5000 by decide⟩, Nat.zero_le _, List.nodup_nil, (fun x hx => by cases hx), (fun x hx => by cases hx), List.nodup_nil, Nat.zero_le _, (fun x hx => by cases hx), List.Pairwise.nil⟩
theorem new_ok {name : ByteArray} (h : nameB name = true) (S : List ByteArray) : TmOk (newT name S) := hears_ok S (empty_ok h)

/-! ### a call -/
theorem back_in (n : Int) : 0 ≤ backF n ∧ backF n ≤ 8 := by
  unfold backF
  split
  · exact ⟨by decide, by decide⟩
  · next h =>
    have : n = 1 ∨ n = 2 ∨ n = 3 := by omega
    rcases this with rfl | rfl | rfl <;> decide
theorem set_names {H : List Hm} {i : Nat} {h g : Hm} (hi : H[i]? = some h) (hn : g.name = h.name) : (H.set i g).map Hm.name = H.map Hm.name := by
  rw [List.map_set]
  obtain ⟨hlt, e⟩ := List.getElem?_eq_some_iff.1 hi
  refine List.ext_getElem (by simp) fun j h1 h2 => ?_
  by_cases ej : i = j
  · subst ej
    simp [hn, ← e]
  · simp [List.getElem_set_ne ej]
theorem look_in {h : Hm} {now : Int} {kd tries : Int} (hw : 0 ≤ h.gp.2.2 ∧ h.gp.2.2 ≤ 20) (hn : 0 ≤ now ∧ now ≤ 5000) : now + 1 ≤ (lookH h now kd tries).ready ∧ (lookH h now kd tries).ready ≤ 5028 := by
  have hb := back_in (tries + 1)
  unfold lookH
  dsimp only
  split <;> omega
theorem kind_in {L : List Pg} {a : ByteArray} {n : Int} : 0 ≤ (kindF L a n).1 ∧ (kindF L a n).1 ≤ 3 := by
  unfold kindF
  split
  · exact ⟨Int.le_refl _, show (0 : Int) ≤ 3 by decide⟩
  · split
    · exact ⟨show (0 : Int) ≤ 3 by decide, Int.le_refl _⟩
    · split
      · exact ⟨show (0 : Int) ≤ 1 by decide, show (1 : Int) ≤ 3 by decide⟩
      · exact ⟨show (0 : Int) ≤ 2 by decide, show (2 : Int) ≤ 3 by decide⟩
theorem door_norm {house : ByteArray} (h : houseB house = true) : normA (doorS house) = some (doorA house) := by
  have hd := door_ok h
  have h1 : readF (doorS house).data.toList = some (doorA house) := by
    rw [← door_text h, Door.text_data hd]; exact RB.read_back hd
  exact normA_yes h1 (by rw [door_text h]; simp)
theorem ask_house {L : List Pg} {t : Tm} {m : Int} {h : Hm} (hk : HmOk t.name t.seen h) (hm : 0 ≤ m ∧ m ≤ 5000) : HmOk t.name t.seen (askH L t.name m h) ∧ (askH L t.name m h).name = h.name := by
  have hr := look_in (kd := (kindF L (doorS h.name) h.tries).1) (tries := h.tries) hk.wt hm
  unfold askH
  dsimp only
  split
  · next hc => exact ⟨⟨hk.nm, ⟨by dsimp only; omega, by dsimp only; omega⟩, hk.gn, hk.wt, hk.rl, hk.ro, hk.kn, ⟨by have := hk.tr; dsimp only; omega, by dsimp only; omega⟩, hk.td, hk.on⟩, rfl⟩
  · obtain ⟨g1, g2, g3, g4⟩ := says_fine (kindF L (doorS h.name) 2) t.name
    exact ⟨⟨hk.nm, ⟨by dsimp only; omega, by dsimp only; omega⟩, g1, g2, g3, g4, Or.inl rfl, hk.tr, fun y hy => hk.td y (List.mem_filter.1 hy).1, (hk.on).sublist ((List.filter_sublist).map _)⟩, rfl⟩
theorem first_house {L : List Pg} {t : Tm} {m : Int} {h : Hm} {it : It} {rest : List It} (hk : HmOk t.name t.seen h) (hm : 0 ≤ m ∧ m ≤ 5000) (ht : h.todo = it :: rest) : HmOk t.name t.seen (firstH L m h it rest) ∧ (firstH L m h it rest).name = h.name := by
  have hr := look_in (h := { h with todo := rest }) (kd := (kindF L it.addr it.tries).1) (tries := it.tries) hk.wt hm
  have htd := hk.td
  have hon := hk.on
  rw [ht] at htd hon
  have hit := htd it (List.mem_cons_self ..)
  have hre : ∀ y ∈ rest, (∃ A, normA y.addr = some A ∧ A.house = h.name) ∧ y.addr ∈ t.seen ∧ 0 ≤ y.tries ∧ y.tries ≤ 2 := fun y hy => htd y (List.mem_cons_of_mem _ hy)
  rw [List.map_cons, List.nodup_cons] at hon
  unfold firstH
  dsimp only
  split
  · next hc =>
    refine ⟨⟨hk.nm, ⟨by dsimp only; omega, by dsimp only; omega⟩, hk.gn, hk.wt, hk.rl, hk.ro, hk.kn, hk.tr, fun y hy => ?_, ?_⟩, rfl⟩
    · rcases List.mem_append.1 hy with hy | hy
      · exact hre y hy
      · have e : y = ⟨it.addr, it.tries + 1⟩ := by simpa using hy
        subst e
        exact ⟨hit.1, hit.2.1, by have := hit.2.2; dsimp only; omega, by dsimp only; omega⟩
    · show ((rest ++ ([⟨it.addr, it.tries + 1⟩] : List It)).map It.addr).Nodup
      rw [List.map_append]
      refine List.nodup_append.2 ⟨hon.2, by simp, fun a ha b hb => ?_⟩
      have e : b = it.addr := by simpa using hb
      subst e
      exact fun e => hon.1 (e ▸ ha)
  · exact ⟨⟨hk.nm, ⟨by omega, by omega⟩, hk.gn, hk.wt, hk.rl, hk.ro, hk.kn, hk.tr, hre, hon.2⟩, rfl⟩
/-- what a call leaves is ok -/
theorem call_ok {t : Tm} (h : TmOk t) {i : Nat} {m : Int} {g g' : Hm} {a : ByteArray} {k : Int} (hi : t.hs[i]? = some g) (hm : t.now ≤ m ∧ m ≤ 5000) (hl : t.lk.length < 400) (hg : HmOk t.name t.seen g') (hn : g'.name = g.name) (ha : ∃ A, normA a = some A) (hk : 0 ≤ k ∧ k ≤ 3) :
    TmOk ⟨t.name, m, t.hs.set i g', t.seen, t.lk ++ [⟨m, a, k⟩]⟩ := by
  have hnw := h.nw
  refine ⟨h.nm, ⟨by dsimp only; omega, hm.2⟩, h.sl, h.sn, h.sr, fun x hx => ?_, by rw [set_names hi hn]; exact h.hn, by simp; omega, fun x hx => ?_, ?_⟩
  · rcases List.mem_or_eq_of_mem_set hx with hx | hx
    · exact h.hh x hx
    · rw [hx]; exact hg
  · rcases List.mem_append.1 hx with hx | hx
    · obtain ⟨h1, h2, h3⟩ := h.lt x hx
      exact ⟨h1, by dsimp only; omega, h3⟩
    · have e : x = ⟨m, a, k⟩ := by simpa using hx
      subst e
      exact ⟨by dsimp only; omega, Int.le_refl _, ha, hk⟩
  · refine List.pairwise_append.2 ⟨h.ls, by simp, fun x hx y hy => ?_⟩
    have e : y = ⟨m, a, k⟩ := by simpa using hy
    subst e
    have := (h.lt x hx).2.1
    dsimp only; omega
/-- the next call: of what, and that it leaves an ok trip -/
theorem step_cases {L : List Pg} {t t' : Tm} (h : stepT L t = some t') : ∃ i m g, nextT t = some (i, m) ∧ t.lk.length < 400 ∧ t.hs[i]? = some g ∧ t' = if g.known then firstT L { t with now := m } i g else askT L { t with now := m } i g := by
  unfold stepT at h
  split at h
  · cases h
  · next i m hn =>
    split at h
    · cases h
    · next hl =>
      split at h
      · cases h
      · next g hg =>
        injection h with h
        exact ⟨i, m, g, hn, by omega, hg, h.symm⟩
theorem step_ok {L : List Pg} {t t' : Tm} (h : TmOk t) (hs : stepT L t = some t') : TmOk t' := by
  obtain ⟨i, m, g, hn, hl, hg, rfl⟩ := step_cases hs
  obtain ⟨hi, hne, hmx, h5, _⟩ := next_spec hn
  have hgm : g ∈ t.hs := List.mem_of_getElem? hg
  have hgk := h.hh g hgm
  have hnw := h.nw
  have hm : t.now ≤ m ∧ m ≤ 5000 := ⟨by omega, h5⟩
  have hm0 : 0 ≤ m ∧ m ≤ 5000 := ⟨by omega, h5⟩
  cases hu : g.known with
  | false =>
    rw [if_neg (by decide)]
    obtain ⟨h1, h2⟩ := ask_house (L := L) (t := t) hgk hm0
    exact call_ok h hg hm hl h1 h2 ⟨_, door_norm hgk.nm⟩ kind_in
  | true =>
    rw [if_pos rfl]
    have e : t.hs[i] = g := by
      obtain ⟨_, e⟩ := List.getElem?_eq_some_iff.1 hg
      exact e
    rw [e] at hne
    unfold firstT
    cases ht : g.todo with
    | nil => exact absurd ht hne
    | cons it rest =>
      dsimp only
      obtain ⟨h1, h2⟩ := first_house (L := L) (t := t) hgk hm0 ht
      obtain ⟨⟨A, hA, _⟩, _⟩ := hgk.td it (by rw [ht]; exact List.mem_cons_self ..)
      exact hears_ok _ (call_ok h hg hm hl h1 h2 ⟨A, hA⟩ kind_in)
theorem run_ok {L : List Pg} : ∀ (n : Nat) {t : Tm}, TmOk t → TmOk (runT L n t) := by
  intro n
  induction n with
  | zero => intro t h; exact h
  | succ n ih =>
    intro t h
    unfold runT
    split
    · exact h
    · next t' hs => exact ih (step_ok h hs)
end Go.Proofs.YtiennniclkbjlaaGreatDoor.TrM
/- Of the program: that an ok trip is found ok: what is left at a house. -/
namespace Go.Proofs.YtiennniclkbjlaaGreatDoor.Tq
open Go.RowKit Go.Proofs.YtiennniclkbjlaaGreatDoor.EscM Go.Proofs.YtiennniclkbjlaaGreatDoor.AddrM Go.Proofs.YtiennniclkbjlaaGreatDoor.ReadM Go.Proofs.YtiennniclkbjlaaGreatDoor.Rd1 Go.Proofs.YtiennniclkbjlaaGreatDoor.Ad1 Go.Proofs.YtiennniclkbjlaaGreatDoor.RuleM Go.Proofs.YtiennniclkbjlaaGreatDoor.St Go.Proofs.YtiennniclkbjlaaGreatDoor.EscL Go.Proofs.YtiennniclkbjlaaGreatDoor.RR Go.Proofs.YtiennniclkbjlaaGreatDoor.LetM Go.Proofs.YtiennniclkbjlaaGreatDoor.GrM Go.Proofs.YtiennniclkbjlaaGreatDoor.RoIt Go.Proofs.YtiennniclkbjlaaGreatDoor.RoLk Go.Proofs.YtiennniclkbjlaaGreatDoor.WdM Go.Proofs.YtiennniclkbjlaaGreatDoor.Wd Go.Proofs.YtiennniclkbjlaaGreatDoor.TpM Go.Proofs.YtiennniclkbjlaaGreatDoor.TrM Go.Proofs.YtiennniclkbjlaaGreatDoor.PgA Go.Proofs.YtiennniclkbjlaaGreatDoor.MkA Go.Proofs.YtiennniclkbjlaaGreatDoor.Im Go.Proofs.YtiennniclkbjlaaGreatDoor.ReM

theorem norm_size {x : ByteArray} {A : Ad} (h : normA x = some A) : x.size ≤ 60 := by
  obtain ⟨h1, h2⟩ := norm_some h
  have hok := OB.read_ok h1
  have hz := (Dr.ok_parts hok).2.2.2.2.2
  rw [← h2]
  unfold textF
  rw [hok]
  show (textL A).toArray.size ≤ 60
  simpa using hz
theorem todoC_any (it : It) (P : Nat) (x : ByteArray) (w : World) (hx : w.cell? ⟨P, 0, none⟩ = some (.string x)) :
    Calls Tryz.prog 94 #[.agg #[.string it.addr, .int .i64 it.tries], .pointer (some ⟨P, 0, none⟩)] w fun e w' => e = .returned (.bool (it.addr.toList == x.toList)) ∧ Below w.heap.size w w' := by
  have hb : Below w.heap.size w (w.alloc (.cells #[.string it.addr, .int .i64 it.tries] 103)) := (Below.refl _ w).alloc (Nat.le_refl _) _
  have hx2 := (hb.cell (St.cell_block hx)).trans hx
  have HB : Hid _ := hb
  clear hb
  go_enter Tryz.func94, Tryz.ntmps94
  go_wp2
  go_ret
  exact ⟨rfl, HB.out⟩
set_option maxRecDepth 100000 in
set_option maxHeartbeats 1600000 in
theorem idxI_any (a0 : Option Addr) (cap n : Nat) (L : List It) (P : Nat) (x : ByteArray) (w : World) (hn : L.length = n) (hI : IsRows FIt w a0 cap L) (hx : w.cell? ⟨P, 0, none⟩ = some (.string x)) (hl : n ≤ 4194304) (hno : ∀ y ∈ L, (y.addr.toList == x.toList) = false) :
    Calls Tryz.prog 119 #[.slice a0 n cap, .func (.func 94) #[] #[.pointer (some ⟨P, 0, none⟩)]] w fun e w' => e = .returned (.int .i64 (-1)) ∧ Below w.heap.size w w' := by
  subst hn
  have HI : Hid (IsRows FIt w a0 cap L) := hI
  have HX : Hid (w.cell? ⟨P, 0, none⟩ = some (.string x)) := hx
  have HNO : Hid (∀ y ∈ L, (y.addr.toList == x.toList) = false) := hno
  clear hI hx hno
  go_enter Tryz.func119, Tryz.ntmps119
  go_wp2
  go_loopw [8] (fun i wr => ∃ k : Nat, k ≤ L.length ∧ i = .int .i64 (k : Int) ∧ Hid (Below w.heap.size w wr)) (fun i _ => L.length - (intOf i).toNat)
  case atStart => exact ⟨0, Nat.zero_le _, rfl, Below.refl _ _⟩
  case round =>
    obtain ⟨k, hk, rfl, HB⟩ := hrel
    by_cases hlt : k < L.length
    · obtain ⟨b, off, e1, c0, c1⟩ := it_at (HI.out.below HB.out) hlt
      have hne := HNO.out _ (List.getElem_mem hlt)
      subst e1
      have hx2 : wr.cell? ⟨P, 0, none⟩ = some (.string x) := (HB.out.cell (St.cell_block HX.out)).trans HX.out
      have HX2 : Hid (wr.cell? ⟨P, 0, none⟩ = some (.string x)) := hx2
      clear hx2
      generalize L[k] = y at *
      go_wp2_with (go_at_call 94; refine (todoC_any y P x _ HX2.out).mono ?_; rintro e w2 ⟨rfl, hb2⟩; rw [hne]; have HB2 : Hid (Below w.heap.size w w2) := HB.out.trans (hb2.mono HB.out.size))
      go_roundw
      case rel => exact ⟨k + 1, by omega, by go_num, HB2⟩
      case measure => simp [intOf]; omega
    · go_wp2
      go_ret
      exact ⟨rfl, HB.out⟩
theorem hasI_any (a0 : Option Addr) (cap n : Nat) (L : List It) (P : Nat) (x : ByteArray) (w : World) (hn : L.length = n) (hI : IsRows FIt w a0 cap L) (hx : w.cell? ⟨P, 0, none⟩ = some (.string x)) (hl : n ≤ 4194304) (hno : ∀ y ∈ L, (y.addr.toList == x.toList) = false) :
    Calls Tryz.prog 93 #[.slice a0 n cap, .func (.func 94) #[] #[.pointer (some ⟨P, 0, none⟩)]] w fun e w' => e = .returned (.bool false) ∧ Below w.heap.size w w' := by
  have HC : Hid _ := idxI_any a0 cap n L P x w hn hI hx hl hno
  clear hI hx hno
  go_enter Tryz.func93, Tryz.ntmps93
  go_wp2_with fail
  refine Calls.mono HC.out ?_
  rintro e w1 ⟨rfl, hb⟩
  have HB : Hid _ := hb
  clear hb
  go_wp2
  go_ret
  exact ⟨rfl, HB.out⟩
set_option maxRecDepth 100000 in
set_option maxHeartbeats 6400000 in
theorem todoOk_true (b o : Nat) (h : Hs) (sa : Option Addr) (sc : Nat) (name : ByteArray) (seen : List ByteArray) (w : World) (hM : Mx w) (hc : HsC w b o h) (hI : IsRows FIt w h.ta h.tc h.todo) (hS : IsStrs w sa sc seen) (hl : seen.length ≤ 60) (hl2 : h.todo.length ≤ 1000) (hk : HmOk name seen (hmS h)) :
    Calls Tryz.prog 68 #[.pointer (some ⟨b, o, none⟩), .slice sa seen.length sc] w fun e w' => e = .returned (.bool true) ∧ Below w.heap.size w w' := by
  have HM : Hid (Mx w) := hM
  have HI : Hid (IsRows FIt w h.ta h.tc h.todo) := hI
  have HS : Hid (IsStrs w sa sc seen) := hS
  have HC : Hid (HsC w b o h) := hc
  have HTD : Hid (∀ y ∈ h.todo, (∃ A, normA y.addr = some A ∧ A.house = h.name) ∧ y.addr ∈ seen ∧ 0 ≤ y.tries ∧ y.tries ≤ 2) := hk.td
  have HON : Hid ((h.todo.map It.addr).Nodup) := hk.on
  have k7 := hc 7 _ rfl
  have hmf : ∀ (fn : Fn) (first cap : Array Value) (w : World), (Instr.makeFunc fn first cap).run Tryz.prog w = .ok (.func fn first cap) w := fun _ _ _ _ => rfl
  clear hM hI hS hc hk
  go_enter Tryz.func68, Tryz.ntmps68
  go_wp2
  go_loopw [14] (fun i wr => ∃ k : Nat, k ≤ h.todo.length ∧ i = .int .i64 (k : Int) ∧ Hid (Below w.heap.size w wr)) (fun i _ => h.todo.length - (intOf i).toNat)
  case atStart => exact ⟨0, Nat.zero_le _, rfl, Below.refl _ _⟩
  case round =>
    obtain ⟨k, hkl, rfl, HB⟩ := hrel
    clear k7
    by_cases hlt : k < h.todo.length
    · obtain ⟨tb, to_, e1, c0, c1⟩ := it_at (HI.out.below HB.out) hlt
      obtain ⟨⟨A0, hA0, hAh0⟩, hsn, ht0, ht2⟩ := HTD.out _ (List.getElem_mem hlt)
      have HNA : Hid (normA h.todo[k].addr = some A0) := hA0
      have HAH : Hid (A0.house = h.name) := hAh0
      have HHB : Hid (hasB h.todo[k].addr seen = true) := has_mem.2 hsn
      have HTR : Hid (decide (0 ≤ h.todo[k].tries ∧ h.todo[k].tries ≤ 2) = true) := decide_eq_true ⟨ht0, ht2⟩
      have hyz : h.todo[k].addr.size ≤ 1000 := by
        have := norm_size hA0
        omega
      have HNE : Hid (∀ y ∈ h.todo.take k, (y.addr.toList == h.todo[k].addr.toList) = false) := fun y hy => by
        obtain ⟨j, hj, rfl⟩ := List.getElem_of_mem hy
        have hjk : j < k := by simp at hj; omega
        rw [List.getElem_take, str_eq_iff]
        refine decide_eq_false fun e => ?_
        have := (List.pairwise_iff_getElem.1 HON.out) j k (by simp; omega) (by simpa using hlt) hjk
        simp only [List.getElem_map] at this
        exact this e
      have hlk : (h.todo.take k).length = k := by simp; omega
      have hcap := (HI.out).1
      have hcm := (HI.out).2.1
      have HTK : Hid (IsRows FIt w (some ⟨tb, to_, none⟩) h.tc (h.todo.take k)) := by rw [← e1]; exact HI.out.cut k
      have q7 : (FHs.enc h)[7]? = some (.slice (some ⟨tb, to_, none⟩) h.todo.length h.tc) := by rw [← e1]; rfl
      have HQ7 : Hid ((FHs.enc h)[7]? = some (.slice (some ⟨tb, to_, none⟩) h.todo.length h.tc)) := q7
      have HE1 : Hid (h.ta = some ⟨tb, to_, none⟩) := e1
      have hk0 : (0 : Int) ≤ (k : Int) := by omega
      have hk1 : (k : Int) ≤ (h.tc : Int) := by omega
      clear hA0 hAh0 hsn ht0 ht2 q7
      generalize h.todo[k] = y at *
      have HX1 : Hid (Bs 103 (wr.alloc (.cells #[.string y.addr, .int .i64 y.tries] 103)) wr.heap.size #[.string y.addr, .int .i64 y.tries]) := Bs.new _ _ _
      have HB1 : Hid (Below w.heap.size w (wr.alloc (.cells #[.string y.addr, .int .i64 y.tries] 103))) := HB.out.alloc HB.out.size _
      obtain ⟨G1, hG1⟩ : ∃ G, wr.heap.size = G := ⟨_, rfl⟩
      have HG1 : Hid (wr.heap.size = G1) := hG1
      rw [hG1] at HX1
      clear hG1
      rw [e1]
      clear e1
      go_wp2_with fail
      rw [HG1.out]
      generalize wr.alloc (.cells #[.string y.addr, .int .i64 y.tries] 103) = w1 at *
      refine (readAddress_any y.addr _ (HM.out.below HB1.out) (by omega) trivial).mono ?_
      rintro e w2 ⟨A, ok, a2, c2, rfl, hans, hO2, hb2⟩
      have hAB : A = A0 ∧ ok = true := by
        rw [HNA.out] at hans
        rcases hans with ⟨h1, h2⟩ | ⟨_, h2, _⟩
        · exact ⟨(Option.some.inj h2).symm, h1⟩
        · cases h2
      obtain ⟨rfl, rfl⟩ := hAB
      have HB2 : Hid (Below w.heap.size w w2) := HB1.out.trans (hb2.mono HB1.out.size)
      have HX2 : Hid (Bs 103 w2 G1 #[.string y.addr, .int .i64 y.tries]) := HX1.out.below hb2
      rw [HAH.out]
      have HB3 : Hid (Below w.heap.size w (w2.alloc (.cells #[.string h.name, .slice a2 A.parts.length c2, .bool A.asks, .string A.ask] 97))) := HB2.out.alloc HB2.out.size _
      have HX3 : Hid (Bs 103 (w2.alloc (.cells #[.string h.name, .slice a2 A.parts.length c2, .bool A.asks, .string A.ask] 97)) G1 #[.string y.addr, .int .i64 y.tries]) := HX2.out.keep (alloc_keep _ _)
      have HY3 : Hid (Bs 97 (w2.alloc (.cells #[.string h.name, .slice a2 A.parts.length c2, .bool A.asks, .string A.ask] 97)) w2.heap.size #[.string h.name, .slice a2 A.parts.length c2, .bool A.asks, .string A.ask]) := Bs.new _ _ _
      obtain ⟨G2, hG2⟩ : ∃ G, w2.heap.size = G := ⟨_, rfl⟩
      rw [hG2] at HY3
      have HG2 : Hid (w2.heap.size = G2) := hG2
      obtain ⟨w3, hw3⟩ : ∃ w3, w2.alloc (.cells #[.string h.name, .slice a2 A.parts.length c2, .bool A.asks, .string A.ask] 97) = w3 := ⟨_, rfl⟩
      have HW3 : Hid (w2.alloc (.cells #[.string h.name, .slice a2 A.parts.length c2, .bool A.asks, .string A.ask] 97) = w3) := hw3
      rw [hw3] at HB3 HX3 HY3
      clear hans hO2 hb2 HB1 HB2 HX1 HX2 hG2 hw3 HB HG1
      go_wp2_with fail
      rw [HG2.out, HW3.out]
      have d0 := HY3.out.cell 0 rfl
      have i0 := HX3.out.cell 0 rfl
      have i1 := HX3.out.cell 1 rfl
      have k0 : w3.cell? ⟨b, o, none⟩ = some (.string h.name) := (HC.out.below HB3.out) 0 _ rfl
      go_region_held_law (fun w' => w'.cell? ⟨G2, 0, none⟩ = some (.string h.name) ∧ w'.cell? ⟨G1, 0, none⟩ = some (.string y.addr) ∧ w'.cell? ⟨G1, 1, none⟩ = some (.int .i64 y.tries) ∧ w'.cell? ⟨b, o, none⟩ = some (.string h.name)) (first | go_keep | exact hS5)
        ((first
        | (go_at_call 54
           refine (contains_any sa sc seen y.addr w3.drew ((HS.out.below HB3.out).keep fun _ _ => rfl) (by omega)).mono ?_
           rintro e w5 ⟨rfl, n5, hw5⟩
           have hb5 : Below w3.heap.size w3 w5 := by rw [hw5]; exact ⟨rfl, rfl, rfl, Nat.le_refl _, fun _ _ => rfl⟩
           rw [HHB.out]
           have HB5 : Hid (Below w.heap.size w w5) := HB3.out.trans (hb5.mono HB3.out.size)
           have HX5 : Hid (Bs 103 w5 G1 #[.string y.addr, .int .i64 y.tries]) := HX3.out.below hb5
           have hS5 : w5.cell? ⟨G2, 0, none⟩ = some (.string h.name) ∧ w5.cell? ⟨G1, 0, none⟩ = some (.string y.addr) ∧ w5.cell? ⟨G1, 1, none⟩ = some (.int .i64 y.tries) ∧ w5.cell? ⟨b, o, none⟩ = some (.string h.name) := ⟨(HY3.out.below hb5).cell 0 rfl, HX5.out.cell 0 rfl, HX5.out.cell 1 rfl, (HC.out.below HB5.out) 0 _ rfl⟩
           have k7 := (HC.out.below HB5.out) 7 _ HQ7.out
           have i5 := HX5.out.cell 0 rfl
           clear hw5 hb5)
        | (go_at_call 90
           refine (Tp.implTries_any y.tries _).mono ?_
           rintro e w6 ⟨rfl, e6⟩
           have e7 := e6.symm
           subst e7
           rw [HTR.out])
        | fail))
      all_goals
        go_wp2_with (go_at_call 93; refine (hasI_any (some ⟨tb, to_, none⟩) h.tc k (h.todo.take k) G1 y.addr _ hlk (HTK.out.below HB5.out) i5 (by omega) HNE.out).mono ?_; rintro e w7 ⟨rfl, hb7⟩; have HB7 : Hid (Below w.heap.size w w7) := HB5.out.trans (hb7.mono HB5.out.size))
        go_roundw
        case rel => exact ⟨k + 1, by omega, by go_num, HB7⟩
        case measure => simp [intOf]; omega
    · go_wp2
      go_ret
      exact ⟨rfl, HB.out⟩
end Go.Proofs.YtiennniclkbjlaaGreatDoor.Tq
/- Mathematics of trips: what is heard of, put at a house's place. -/
namespace Go.Proofs.YtiennniclkbjlaaGreatDoor.TrM
open Go.Proofs.YtiennniclkbjlaaGreatDoor.AddrM Go.Proofs.YtiennniclkbjlaaGreatDoor.ReadM Go.Proofs.YtiennniclkbjlaaGreatDoor.Ad1 Go.Proofs.YtiennniclkbjlaaGreatDoor.Rd1 Go.Proofs.YtiennniclkbjlaaGreatDoor.St Go.Proofs.YtiennniclkbjlaaGreatDoor.LetM Go.Proofs.YtiennniclkbjlaaGreatDoor.GrM Go.Proofs.YtiennniclkbjlaaGreatDoor.RuleM Go.Proofs.YtiennniclkbjlaaGreatDoor.TpM Go.Proofs.YtiennniclkbjlaaGreatDoor.Wd Go.Proofs.YtiennniclkbjlaaGreatDoor.RR Go.Proofs.YtiennniclkbjlaaGreatDoor.RoLk

variable {nm x : ByteArray} {A : Ad}
theorem putAt_old : ∀ {hs : List Hm} {i : Nat} (hi : i < hs.length), hs[i].name = A.house → (∀ y ∈ hs.take i, y.name ≠ A.house) → putH nm A x hs = hs.set i (addIt A x hs[i]) := by
  intro hs
  induction hs with
  | nil => intro i hi; exact absurd hi (Nat.not_lt_zero _)
  | cons h r ih =>
    intro i hi he hn
    cases i with
    | zero =>
      have e : h.name = A.house := he
      unfold putH
      rw [if_pos e]; rfl
    | succ i =>
      have e : h.name ≠ A.house := hn h (by simp)
      have e2 := ih (i := i) (by simpa using hi) (by simpa using he) (fun y hy => hn y (by simp [hy]))
      unfold putH
      rw [if_neg e, e2]
      simp
theorem putAt_new : ∀ {hs : List Hm}, (∀ y ∈ hs, y.name ≠ A.house) → putH nm A x hs = (hs ++ [newH nm A.house]).set hs.length (addIt A x (newH nm A.house)) := by
  intro hs
  induction hs with
  | nil => intro _; rfl
  | cons h r ih =>
    intro hn
    unfold putH
    rw [if_neg (hn h (by simp)), ih (fun y hy => hn y (by simp [hy]))]
    rfl
theorem add1_yes {h : Hm} (hl : letsL h.gp.2.1 (pathF A).data.toList = true) : addIt A x h = { h with todo := h.todo ++ [⟨x, 0⟩] } := by unfold addIt; rw [if_pos hl]
theorem add1_no {h : Hm} (hl : letsL h.gp.2.1 (pathF A).data.toList = false) : addIt A x h = h := by unfold addIt; rw [hl]; rfl
theorem hear1_yes {t : Tm} (hA : normA x = some A) (h1 : t.seen.length < 60) (h2 : hasB x t.seen = false) : hearT t x = { t with seen := t.seen ++ [x], hs := putH t.name A x t.hs } := by
  unfold hearT
  rw [hA]
  dsimp only
  rw [show decide (60 ≤ t.seen.length) = false from decide_eq_false (by omega), h2]; rfl
theorem hear1_bad {t : Tm} (hA : normA x = none) : hearT t x = t := by unfold hearT; rw [hA]
theorem hear1_full {t : Tm} (h1 : 60 ≤ t.seen.length) : hearT t x = t := by
  unfold hearT
  cases normA x with
  | none => rfl
  | some A => dsimp only; rw [decide_eq_true h1]; rfl
theorem hear1_had {t : Tm} (h2 : hasB x t.seen = true) : hearT t x = t := by
  unfold hearT
  cases normA x with
  | none => rfl
  | some A => dsimp only; rw [h2, Bool.or_true]; rfl
end Go.Proofs.YtiennniclkbjlaaGreatDoor.TrM
/- What holds along a trip: what was looked at, what is left, where it was heard of. -/
namespace Go.Proofs.YtiennniclkbjlaaGreatDoor.TrM
open Go.Proofs.YtiennniclkbjlaaGreatDoor.EscM Go.Proofs.YtiennniclkbjlaaGreatDoor.AddrM Go.Proofs.YtiennniclkbjlaaGreatDoor.ReadM Go.Proofs.YtiennniclkbjlaaGreatDoor.Ad1 Go.Proofs.YtiennniclkbjlaaGreatDoor.Rd1 Go.Proofs.YtiennniclkbjlaaGreatDoor.RuleM Go.Proofs.YtiennniclkbjlaaGreatDoor.St Go.Proofs.YtiennniclkbjlaaGreatDoor.PgM Go.Proofs.YtiennniclkbjlaaGreatDoor.PgA Go.Proofs.YtiennniclkbjlaaGreatDoor.RoPg Go.Proofs.YtiennniclkbjlaaGreatDoor.LetM Go.Proofs.YtiennniclkbjlaaGreatDoor.Nm Go.Proofs.YtiennniclkbjlaaGreatDoor.GrM Go.Proofs.YtiennniclkbjlaaGreatDoor.RoIt Go.Proofs.YtiennniclkbjlaaGreatDoor.RoLk Go.Proofs.YtiennniclkbjlaaGreatDoor.WdM Go.Proofs.YtiennniclkbjlaaGreatDoor.Wd Go.Proofs.YtiennniclkbjlaaGreatDoor.WdN Go.Proofs.YtiennniclkbjlaaGreatDoor.TpM Go.Proofs.YtiennniclkbjlaaGreatDoor.ReM

/-- at which house an address is -/
def houseX (x : ByteArray) : ByteArray := match normA x with
  | some A => A.house
  | none => ⟨#[]⟩
/-- what is told of calls so far: how often one asked for each house's notice in vain, and what was looked at -/
structure LS where
  asked : ByteArray → Int
  out : List ByteArray
def lsStep (s : LS) (x : Lk) : LS :=
  let asks := decide (x.addr = doorS (houseX x.addr)) && decide (s.asked (houseX x.addr) < 3)
  ⟨fun y => if y = houseX x.addr then (if asks && decide (x.kind = 3) then s.asked (houseX x.addr) + 1 else 3) else s.asked y, if !asks && !(decide (x.kind = 3)) then putL s.out x.addr else s.out⟩
def lsF (lk : List Lk) : LS := lk.foldl lsStep ⟨fun _ => 0, []⟩
theorem ls_snoc (lk : List Lk) (x : Lk) : lsF (lk ++ [x]) = lsStep (lsF lk) x := by unfold lsF; rw [List.foldl_append]; rfl
theorem house_norm {x : ByteArray} {A : Ad} (h : normA x = some A) : houseX x = A.house := by unfold houseX; rw [h]
theorem house_door {house : ByteArray} (h : houseB house = true) : houseX (doorS house) = house := house_norm (door_norm h)

/-! ### what one gets -/
theorem kind_same {L : List Pg} {a : ByteArray} {n m : Int} (hn : n ≤ m) (h : ¬ (kindF L a n).1 = 3) : kindF L a m = kindF L a n := by
  unfold kindF at h ⊢
  split
  · rfl
  · next p hp =>
    rw [hp] at h
    dsimp only at h
    by_cases hf : n < p.fails
    · rw [if_pos hf] at h; exact absurd rfl h
    · rw [if_neg hf, if_neg (show ¬ m < p.fails by omega)]
theorem kind_fail {L : List Pg} {a : ByteArray} {n m : Int} (hn : m ≤ n) (h : (kindF L a n).1 = 3) : (kindF L a m).1 = 3 := by
  by_cases hm : (kindF L a m).1 = 3
  · exact hm
  · rw [kind_same hn hm] at h; exact absurd h hm
theorem lead_from {L : List Pg} {y : It} {A : Ad} (hw : wOk L = true) (hA : normA y.addr = some A) (hn : y.tries ≤ 2) (h : ¬ (kindF L y.addr y.tries).1 = 3) : leadT L y = fromW L y.addr := by
  unfold leadT
  rw [hA, fromW_ok hw hA, kind_same hn h]
theorem lead_fail {L : List Pg} {y : It} (h : (kindF L y.addr y.tries).1 = 3) : leadT L y = [] := by
  unfold leadT
  split
  · generalize kindF L y.addr y.tries = K at h ⊢
    obtain ⟨k, tx⟩ := K
    dsimp only at h
    subst h
    exact lead_no (by decide) (by decide)
  · rfl
theorem let_says {L : List Pg} {name x : ByteArray} {A : Ad} (hw : wOk L = true) (hn : nameB name = true) (hA : normA x = some A) (n : Int) : letIt (saysG (kindF L (doorS A.house) 2) name) ⟨x, n⟩ = letsW L name x := by
  unfold letIt
  rw [hA, lets_some (norm_some hA).1 hw hn]
theorem let_addr (g : List ByteArray × List Ru × Int) (y : It) (n : Int) : letIt g y = letIt g ⟨y.addr, n⟩ := rfl
theorem let_new (nm : ByteArray) (y : It) : letIt ([nm], [], 0) y = true := by
  unfold letIt
  split <;> rfl

/-! ### members of changed lists -/
theorem name_at {H : List Hm} (h : (H.map Hm.name).Nodup) {i j : Nat} (hi : i < H.length) (hj : j < H.length) (e : H[i].name = H[j].name) : i = j := by
  rcases Nat.lt_trichotomy i j with hlt | he | hlt
  · have := (List.pairwise_iff_getElem.1 h) i j (by simpa using hi) (by simpa using hj) hlt
    simp only [List.getElem_map] at this
    exact absurd e this
  · exact he
  · have := (List.pairwise_iff_getElem.1 h) j i (by simpa using hj) (by simpa using hi) hlt
    simp only [List.getElem_map] at this
    exact absurd e.symm this
theorem one_name {H : List Hm} (h : (H.map Hm.name).Nodup) {a b : Hm} (ha : a ∈ H) (hb : b ∈ H) (e : a.name = b.name) : a = b := by
  obtain ⟨i, hi, rfl⟩ := List.getElem_of_mem ha
  obtain ⟨j, hj, rfl⟩ := List.getElem_of_mem hb
  have := name_at h hi hj e
  subst this; rfl
theorem set_mem {H : List Hm} (h : (H.map Hm.name).Nodup) {i : Nat} {g g' x : Hm} (hi : H[i]? = some g) (hx : x ∈ H.set i g') : x = g' ∨ (x ∈ H ∧ x.name ≠ g.name) := by
  obtain ⟨hlt, e⟩ := List.getElem?_eq_some_iff.1 hi
  obtain ⟨j, hj, hxj⟩ := List.getElem_of_mem hx
  have hjl : j < H.length := by simpa using hj
  by_cases ej : i = j
  · subst ej
    left
    rw [← hxj]; simp
  · right
    rw [List.getElem_set_ne ej] at hxj
    refine ⟨hxj ▸ List.getElem_mem hjl, fun en => ej ?_⟩
    exact (name_at h hjl hlt (by rw [hxj, e]; exact en)).symm
theorem put_in_mem {nm : ByteArray} {A : Ad} {x : ByteArray} : ∀ {H : List Hm}, (H.map Hm.name).Nodup → ∀ {g : Hm}, g ∈ putH nm A x H → (g ∈ H ∧ g.name ≠ A.house) ∨ (∃ h ∈ H, h.name = A.house ∧ g = addIt A x h) ∨ (A.house ∉ H.map Hm.name ∧ g = addIt A x (newH nm A.house)) := by
  intro H
  induction H with
  | nil =>
    intro _ g hg
    have : g ∈ [addIt A x (newH nm A.house)] := hg
    exact Or.inr (Or.inr ⟨(fun e => by cases e), by simpa using this⟩)
  | cons h r ih =>
    intro hn g hg
    rw [List.map_cons, List.nodup_cons] at hn
    unfold putH at hg
    split at hg
    · next he =>
      rcases List.mem_cons.1 hg with e | e
      · exact Or.inr (Or.inl ⟨h, List.mem_cons_self .., he, e⟩)
      · exact Or.inl ⟨List.mem_cons_of_mem _ e, fun en => hn.1 (by rw [he, ← en]; exact List.mem_map_of_mem e)⟩
    · next he =>
      rcases List.mem_cons.1 hg with e | e
      · exact Or.inl ⟨e ▸ List.mem_cons_self .., by rw [e]; exact he⟩
      · rcases ih hn.2 e with ⟨h1, h2⟩ | ⟨h', h1, h2⟩ | ⟨h1, h2⟩
        · exact Or.inl ⟨List.mem_cons_of_mem _ h1, h2⟩
        · exact Or.inr (Or.inl ⟨h', List.mem_cons_of_mem _ h1, h2⟩)
        · refine Or.inr (Or.inr ⟨fun e' => ?_, h2⟩)
          rw [List.map_cons] at e'
          rcases List.mem_cons.1 e' with e' | e'
          · exact he e'.symm
          · exact h1 e'
theorem put_has {nm : ByteArray} {A : Ad} {x : ByteArray} {H : List Hm} : A.house ∈ (putH nm A x H).map Hm.name := by
  by_cases hm : A.house ∈ H.map Hm.name
  · rw [put_names_in hm]; exact hm
  · rw [put_names_new hm]; simp
theorem put_keeps {nm : ByteArray} {A : Ad} {x : ByteArray} {H : List Hm} {y : ByteArray} (h : y ∈ H.map Hm.name) : y ∈ (putH nm A x H).map Hm.name := by
  by_cases hm : A.house ∈ H.map Hm.name
  · rw [put_names_in hm]; exact h
  · rw [put_names_new hm]; exact List.mem_append_left _ h
theorem put_back {nm : ByteArray} {A : Ad} {x : ByteArray} {H : List Hm} {y : ByteArray} (h : y ∈ (putH nm A x H).map Hm.name) : y ∈ H.map Hm.name ∨ y = A.house := by
  by_cases hm : A.house ∈ H.map Hm.name
  · rw [put_names_in hm] at h; exact Or.inl h
  · rw [put_names_new hm] at h
    rcases List.mem_append.1 h with h | h
    · exact Or.inl h
    · exact Or.inr (by simpa using h)

/-! ### what holds along a trip -/
structure GoI (L : List Pg) (name : ByteArray) (S : List ByteArray) (t : Tm) : Prop where
  ok : TmOk t
  nm : t.name = name
  gk : ∀ h ∈ t.hs, h.known = true → h.gp = saysG (kindF L (doorS h.name) 2) name
  gu : ∀ h ∈ t.hs, h.known = false → h.gp = ([name], [], 0)
  tl : ∀ h ∈ t.hs, h.known = true → ∀ y ∈ h.todo, letIt h.gp y = true
  tf : ∀ h ∈ t.hs, ∀ y ∈ h.todo, 0 < y.tries → (kindF L y.addr (y.tries - 1)).1 = 3
  asd : ∀ h ∈ t.hs, (lsF t.lk).asked h.name = if h.known then 3 else h.tries
  an : ∀ x, x ∉ t.hs.map Hm.name → (lsF t.lk).asked x = 0
  sh : ∀ x ∈ t.seen, houseX x ∈ t.hs.map Hm.name
  lh : ∀ x ∈ t.lk, houseX x.addr ∈ t.hs.map Hm.name
  lo : ∀ x ∈ (lsF t.lk).out, x ∈ t.seen ∧ okR L name x = true
  so : ∀ x ∈ t.seen, x ∈ S ∨ ∃ y ∈ (lsF t.lk).out, x ∈ fromW L y
  led : ∀ x ∈ t.seen, ∀ h ∈ t.hs, h.name = houseX x → x ∈ h.todo.map It.addr ∨ x ∈ (lsF t.lk).out ∨ (kindF L x 2).1 = 3 ∨ (h.known = true ∧ letIt h.gp ⟨x, 0⟩ = false)
  kd : ∀ x ∈ t.lk, ∃ n, x.kind = (kindF L x.addr n).1
variable {L : List Pg} {name : ByteArray} {S : List ByteArray}
theorem add_fields (A : Ad) (x : ByteArray) (h : Hm) : (addIt A x h).known = h.known ∧ (addIt A x h).gp = h.gp ∧ (addIt A x h).tries = h.tries ∧ (addIt A x h).ready = h.ready := by unfold addIt; split <;> exact ⟨rfl, rfl, rfl, rfl⟩
theorem add_todo {A : Ad} {x : ByteArray} {h : Hm} {y : It} (hy : y ∈ (addIt A x h).todo) : y ∈ h.todo ∨ (y = ⟨x, 0⟩ ∧ letsL h.gp.2.1 (pathF A).data.toList = true) := by
  unfold addIt at hy
  split at hy
  · next hl =>
    rcases List.mem_append.1 hy with hy | hy
    · exact Or.inl hy
    · exact Or.inr ⟨by simpa using hy, hl⟩
  · exact Or.inl hy
theorem add_sub {A : Ad} {x : ByteArray} {h : Hm} {y : ByteArray} (hy : y ∈ h.todo.map It.addr) : y ∈ (addIt A x h).todo.map It.addr := by
  unfold addIt
  split
  · rw [List.map_append]; exact List.mem_append_left _ hy
  · exact hy
theorem add_done {A : Ad} {x : ByteArray} {h : Hm} (hA : normA x = some A) : x ∈ (addIt A x h).todo.map It.addr ∨ letIt h.gp ⟨x, 0⟩ = false := by
  unfold addIt
  split
  · left; rw [List.map_append]; simp
  · next hl =>
    right
    unfold letIt
    rw [hA]; simpa using hl
theorem go_hear {t : Tm} (h : GoI L name S t) {x : ByteArray} (hx : x ∈ S ∨ ∃ y ∈ (lsF t.lk).out, x ∈ fromW L y) : GoI L name S (hearT t x) := by
  have hok := hear_ok h.ok x
  unfold hearT at hok ⊢
  cases hA : normA x with
  | none => exact h
  | some A =>
    rw [hA] at hok
    dsimp only at hok ⊢
    split
    · exact h
    · next hc =>
      rw [if_neg hc] at hok
      have hhn := h.ok.hn
      have hxA : houseX x = A.house := house_norm hA
      refine ⟨hok, h.nm, ?_, ?_, ?_, ?_, ?_, ?_, ?_, ?_, ?_, ?_, ?_, h.kd⟩
      · intro g hg hkn
        rcases put_in_mem hhn hg with ⟨h1, _⟩ | ⟨h', h1, _, rfl⟩ | ⟨_, rfl⟩
        · exact h.gk g h1 hkn
        · rw [(add_fields A x h').1] at hkn
          rw [(add_fields A x h').2.1, add_name]; exact h.gk h' h1 hkn
        · rw [(add_fields A x _).1] at hkn; cases hkn
      · intro g hg hkn
        rcases put_in_mem hhn hg with ⟨h1, _⟩ | ⟨h', h1, _, rfl⟩ | ⟨_, rfl⟩
        · exact h.gu g h1 hkn
        · rw [(add_fields A x h').1] at hkn
          rw [(add_fields A x h').2.1]; exact h.gu h' h1 hkn
        · rw [(add_fields A x _).2.1]
          show ([t.name], _, _) = _
          rw [h.nm]
      · intro g hg hkn y hy
        rcases put_in_mem hhn hg with ⟨h1, _⟩ | ⟨h', h1, _, rfl⟩ | ⟨_, rfl⟩
        · exact h.tl g h1 hkn y hy
        · rw [(add_fields A x h').1] at hkn
          rw [(add_fields A x h').2.1]
          rcases add_todo hy with hy | ⟨rfl, hl⟩
          · exact h.tl h' h1 hkn y hy
          · unfold letIt; rw [hA]; exact hl
        · rw [(add_fields A x _).1] at hkn; cases hkn
      · intro g hg y hy hty
        rcases put_in_mem hhn hg with ⟨h1, _⟩ | ⟨h', h1, _, rfl⟩ | ⟨_, rfl⟩
        · exact h.tf g h1 y hy hty
        · rcases add_todo hy with hy | ⟨rfl, _⟩
          · exact h.tf h' h1 y hy hty
          · exact absurd hty (Int.lt_irrefl 0)
        · rcases add_todo hy with hy | ⟨rfl, _⟩
          · cases hy
          · exact absurd hty (Int.lt_irrefl 0)
      · intro g hg
        rcases put_in_mem hhn hg with ⟨h1, _⟩ | ⟨h', h1, _, rfl⟩ | ⟨h1, rfl⟩
        · exact h.asd g h1
        · rw [(add_fields A x h').1, (add_fields A x h').2.2.1, add_name]; exact h.asd h' h1
        · rw [(add_fields A x _).1, (add_fields A x _).2.2.1, add_name]
          exact h.an A.house h1
      · intro y hy
        exact h.an y fun e => hy (put_keeps e)
      · intro y hy
        rcases List.mem_append.1 hy with hy | hy
        · exact put_keeps (h.sh y hy)
        · have e : y = x := by simpa using hy
          subst e
          rw [hxA]; exact put_has
      · intro y hy
        exact put_keeps (h.lh y hy)
      · intro y hy
        obtain ⟨h1, h2⟩ := h.lo y hy
        exact ⟨List.mem_append_left _ h1, h2⟩
      · intro y hy
        rcases List.mem_append.1 hy with hy | hy
        · exact h.so y hy
        · have e : y = x := by simpa using hy
          subst e; exact hx
      · intro y hy g hg hgy
        rcases List.mem_append.1 hy with hy | hy
        · rcases put_in_mem hhn hg with ⟨h1, _⟩ | ⟨h', h1, _, rfl⟩ | ⟨h1, rfl⟩
          · exact h.led y hy g h1 hgy
          · rw [add_name] at hgy
            rw [(add_fields A x h').1, (add_fields A x h').2.1]
            exact (h.led y hy h' h1 hgy).imp add_sub id
          · rw [add_name] at hgy
            exact absurd (show A.house ∈ t.hs.map Hm.name by rw [show A.house = houseX y from hgy]; exact h.sh y hy) h1
        · have e : y = x := by simpa using hy
          subst e
          rcases put_in_mem hhn hg with ⟨h1, h2⟩ | ⟨h', h1, _, rfl⟩ | ⟨_, rfl⟩
          · exact absurd (hgy.trans hxA) h2
          · rw [(add_fields A y h').1, (add_fields A y h').2.1]
            cases hkn : h'.known with
            | true => exact (add_done hA).imp id fun hl => Or.inr (Or.inr ⟨rfl, hl⟩)
            | false =>
              rcases add_done (h := h') hA with hd | hd
              · exact Or.inl hd
              · rw [h.gu h' h1 hkn, let_new] at hd; cases hd
          · rcases add_done (h := newH t.name A.house) hA with hd | hd
            · exact Or.inl hd
            · rw [show (newH t.name A.house).gp = ([t.name], [], 0) from rfl, let_new] at hd; cases hd
theorem go_hears : ∀ (F : List ByteArray) {t : Tm}, GoI L name S t → (∀ x ∈ F, x ∈ S ∨ ∃ y ∈ (lsF t.lk).out, x ∈ fromW L y) → GoI L name S (F.foldl hearT t) := by
  intro F
  induction F with
  | nil => intro t h _; exact h
  | cons x r ih =>
    intro t h hF
    refine ih (go_hear h (hF x (List.mem_cons_self ..))) fun y hy => ?_
    have e : (hearT t x).lk = t.lk := by
      unfold hearT
      split
      · rfl
      · split <;> rfl
    rw [e]; exact hF y (List.mem_cons_of_mem _ hy)
end Go.Proofs.YtiennniclkbjlaaGreatDoor.TrM
/- What holds along a trip: each call keeps it. -/
namespace Go.Proofs.YtiennniclkbjlaaGreatDoor.TrM
open Go.Proofs.YtiennniclkbjlaaGreatDoor.EscM Go.Proofs.YtiennniclkbjlaaGreatDoor.AddrM Go.Proofs.YtiennniclkbjlaaGreatDoor.ReadM Go.Proofs.YtiennniclkbjlaaGreatDoor.Ad1 Go.Proofs.YtiennniclkbjlaaGreatDoor.Rd1 Go.Proofs.YtiennniclkbjlaaGreatDoor.RuleM Go.Proofs.YtiennniclkbjlaaGreatDoor.St Go.Proofs.YtiennniclkbjlaaGreatDoor.PgM Go.Proofs.YtiennniclkbjlaaGreatDoor.PgA Go.Proofs.YtiennniclkbjlaaGreatDoor.RoPg Go.Proofs.YtiennniclkbjlaaGreatDoor.LetM Go.Proofs.YtiennniclkbjlaaGreatDoor.Nm Go.Proofs.YtiennniclkbjlaaGreatDoor.GrM Go.Proofs.YtiennniclkbjlaaGreatDoor.RoIt Go.Proofs.YtiennniclkbjlaaGreatDoor.RoLk Go.Proofs.YtiennniclkbjlaaGreatDoor.WdM Go.Proofs.YtiennniclkbjlaaGreatDoor.Wd Go.Proofs.YtiennniclkbjlaaGreatDoor.WdN Go.Proofs.YtiennniclkbjlaaGreatDoor.TpM Go.Proofs.YtiennniclkbjlaaGreatDoor.ReM

variable {L : List Pg} {name : ByteArray} {S : List ByteArray}
/-- behind a call for a notice -/
theorem ls_ask {lk : List Lk} {house : ByteArray} {m k : Int} (hh : houseB house = true) (ha : (lsF lk).asked house < 3) : lsF (lk ++ [⟨m, doorS house, k⟩]) = ⟨fun y => if y = house then (if k = 3 then (lsF lk).asked house + 1 else 3) else (lsF lk).asked y, (lsF lk).out⟩ := by
  rw [ls_snoc]
  unfold lsStep
  dsimp only
  rw [house_door hh, decide_eq_true rfl, decide_eq_true ha]
  by_cases hk : k = 3
  · simp [hk]
  · simp [hk]
/-- behind a call at an address, the notice being known -/
theorem ls_page {lk : List Lk} {x : ByteArray} {m k : Int} (ha : (lsF lk).asked (houseX x) = 3) : lsF (lk ++ [⟨m, x, k⟩]) = ⟨fun y => if y = houseX x then 3 else (lsF lk).asked y, if k = 3 then (lsF lk).out else putL (lsF lk).out x⟩ := by
  rw [ls_snoc]
  unfold lsStep
  dsimp only
  have hd : decide ((lsF lk).asked (houseX x) < 3) = false := decide_eq_false (by rw [ha]; decide)
  rw [hd]
  by_cases hk : k = 3
  · simp [hk]
  · simp [hk]
theorem ask_name (L : List Pg) (nm : ByteArray) (m : Int) (h : Hm) : (askH L nm m h).name = h.name := by
  unfold askH
  dsimp only
  split <;> rfl
theorem ask_again {L : List Pg} {nm : ByteArray} {m : Int} {h : Hm} (hc : (kindF L (doorS h.name) h.tries).1 = 3 ∧ h.tries + 1 < 3) : (askH L nm m h).known = h.known ∧ (askH L nm m h).tries = h.tries + 1 ∧ (askH L nm m h).gp = h.gp ∧ (askH L nm m h).todo = h.todo := by
  unfold askH
  dsimp only
  rw [if_pos hc]
  exact ⟨rfl, rfl, rfl, rfl⟩
theorem ask_known {L : List Pg} {nm : ByteArray} {m : Int} {h : Hm} (hc : ¬ ((kindF L (doorS h.name) h.tries).1 = 3 ∧ h.tries + 1 < 3)) : (askH L nm m h).known = true := by
  unfold askH
  dsimp only
  rw [if_neg hc]
theorem firstH_name (L : List Pg) (m : Int) (h : Hm) (it : It) (rest : List It) : (firstH L m h it rest).name = h.name := by
  unfold firstH
  dsimp only
  split <;> rfl
theorem firstH_same (L : List Pg) (m : Int) (h : Hm) (it : It) (rest : List It) : (firstH L m h it rest).known = h.known ∧ (firstH L m h it rest).gp = h.gp ∧ (firstH L m h it rest).tries = h.tries := by
  unfold firstH
  dsimp only
  split <;> exact ⟨rfl, rfl, rfl⟩
theorem firstH_todo {L : List Pg} {m : Int} {h : Hm} {it y : It} {rest : List It} (hy : y ∈ (firstH L m h it rest).todo) : y ∈ rest ∨ (y = ⟨it.addr, it.tries + 1⟩ ∧ (kindF L it.addr it.tries).1 = 3 ∧ it.tries + 1 < 3) := by
  unfold firstH at hy
  dsimp only at hy
  split at hy
  · next hc =>
    rcases List.mem_append.1 hy with hy | hy
    · exact Or.inl hy
    · exact Or.inr ⟨by simpa using hy, hc⟩
  · exact Or.inl hy
theorem firstH_rest {L : List Pg} {m : Int} {h : Hm} {it : It} {rest : List It} {x : ByteArray} (hx : x ∈ rest.map It.addr) : x ∈ (firstH L m h it rest).todo.map It.addr := by
  unfold firstH
  dsimp only
  split
  · rw [List.map_append]; exact List.mem_append_left _ hx
  · exact hx
theorem firstH_again {L : List Pg} {m : Int} {h : Hm} {it : It} {rest : List It} (hc : (kindF L it.addr it.tries).1 = 3 ∧ it.tries + 1 < 3) : it.addr ∈ (firstH L m h it rest).todo.map It.addr := by
  unfold firstH
  dsimp only
  rw [if_pos hc, List.map_append]; simp
theorem go_ask {t : Tm} (h : GoI L name S t) {i : Nat} {m : Int} {g : Hm} (hg : t.hs[i]? = some g) (hu : g.known = false) (hok : TmOk ⟨t.name, m, t.hs.set i (askH L t.name m g), t.seen, t.lk ++ [⟨m, doorS g.name, (kindF L (doorS g.name) g.tries).1⟩]⟩) : GoI L name S ⟨t.name, m, t.hs.set i (askH L t.name m g), t.seen, t.lk ++ [⟨m, doorS g.name, (kindF L (doorS g.name) g.tries).1⟩]⟩ := by
  have hgm : g ∈ t.hs := List.mem_of_getElem? hg
  have hgk := h.ok.hh g hgm
  have hhn := h.ok.hn
  have has : (lsF t.lk).asked g.name = g.tries := by rw [h.asd g hgm, hu]; rfl
  have hls := ls_ask (lk := t.lk) (m := m) (k := (kindF L (doorS g.name) g.tries).1) hgk.nm (by rw [has]; have := hgk.tr; omega)
  have hnames : ((t.hs.set i (askH L t.name m g)).map Hm.name) = t.hs.map Hm.name := set_names hg (ask_name ..)
  have hout : (lsF (t.lk ++ [⟨m, doorS g.name, (kindF L (doorS g.name) g.tries).1⟩])).out = (lsF t.lk).out := by rw [hls]
  have hset : ∀ x, x ∈ t.hs.set i (askH L t.name m g) → x = askH L t.name m g ∨ (x ∈ t.hs ∧ x.name ≠ g.name) := fun x hx => set_mem hhn hg hx
  refine ⟨hok, h.nm, ?_, ?_, ?_, ?_, ?_, ?_, ?_, ?_, ?_, ?_, ?_, ?_⟩
  · intro x hx hkn
    rcases hset x hx with rfl | ⟨h1, _⟩
    · unfold askH at hkn ⊢
      dsimp only at hkn ⊢
      split at hkn
      · next hc => exact absurd hkn (by rw [show (lookH g m (kindF L (doorS g.name) g.tries).1 g.tries).known = g.known from rfl, hu]; decide)
      · next hc => rw [if_neg hc, h.nm]; rfl
    · exact h.gk x h1 hkn
  · intro x hx hkn
    rcases hset x hx with rfl | ⟨h1, _⟩
    · unfold askH at hkn ⊢
      dsimp only at hkn ⊢
      split at hkn
      · next hc => rw [if_pos hc]; exact h.gu g hgm hu
      · cases hkn
    · exact h.gu x h1 hkn
  · intro x hx hkn y hy
    rcases hset x hx with rfl | ⟨h1, _⟩
    · unfold askH at hkn hy ⊢
      dsimp only at hkn hy ⊢
      split at hkn
      · next hc => exact absurd hkn (by rw [show (lookH g m (kindF L (doorS g.name) g.tries).1 g.tries).known = g.known from rfl, hu]; decide)
      · next hc =>
        rw [if_neg hc] at hy ⊢
        exact (List.mem_filter.1 hy).2
    · exact h.tl x h1 hkn y hy
  · intro x hx y hy hty
    rcases hset x hx with rfl | ⟨h1, _⟩
    · have hyg : y ∈ g.todo := by
        unfold askH at hy
        dsimp only at hy
        split at hy
        · exact hy
        · exact (List.mem_filter.1 hy).1
      exact h.tf g hgm y hyg hty
    · exact h.tf x h1 y hy hty
  · intro x hx
    show (lsF (t.lk ++ [⟨m, doorS g.name, (kindF L (doorS g.name) g.tries).1⟩])).asked x.name = _
    rw [hls]
    dsimp only
    rcases hset x hx with rfl | ⟨h1, h2⟩
    · rw [ask_name, if_pos rfl, has]
      by_cases hk : (kindF L (doorS g.name) g.tries).1 = 3
      · rw [if_pos hk]
        by_cases ht : g.tries + 1 < 3
        · obtain ⟨q1, q2, _⟩ := ask_again (nm := t.name) (m := m) ⟨hk, ht⟩
          rw [q1, q2, hu]; rfl
        · have q1 := ask_known (nm := t.name) (m := m) (L := L) (h := g) (fun e => ht e.2)
          have := hgk.tr
          rw [q1, if_pos rfl]
          omega
      · have q1 := ask_known (nm := t.name) (m := m) (L := L) (h := g) (fun e => hk e.1)
        rw [if_neg hk, q1, if_pos rfl]
    · rw [if_neg h2]; exact h.asd x h1
  · intro x hx
    show (lsF (t.lk ++ [⟨m, doorS g.name, (kindF L (doorS g.name) g.tries).1⟩])).asked x = _
    rw [hls]
    dsimp only
    have hx' : x ∉ t.hs.map Hm.name := by
      rw [← hnames]; exact hx
    rw [if_neg (fun e => hx' (by rw [e]; exact List.mem_map_of_mem hgm))]
    exact h.an x hx'
  · intro x hx
    show houseX x ∈ (t.hs.set i (askH L t.name m g)).map Hm.name
    rw [hnames]; exact h.sh x hx
  · intro x hx
    show houseX x.addr ∈ (t.hs.set i (askH L t.name m g)).map Hm.name
    rw [hnames]
    rcases List.mem_append.1 hx with hx | hx
    · exact h.lh x hx
    · have e : x = ⟨m, doorS g.name, (kindF L (doorS g.name) g.tries).1⟩ := by simpa using hx
      subst e
      dsimp only
      rw [house_door hgk.nm]; exact List.mem_map_of_mem hgm
  · intro x hx
    exact h.lo x (hout ▸ hx)
  · intro x hx
    rcases h.so x hx with h1 | ⟨y, hy, h2⟩
    · exact Or.inl h1
    · exact Or.inr ⟨y, hout.symm ▸ hy, h2⟩
  · intro x hx y hy hyx
    show _ ∨ x ∈ (lsF (t.lk ++ [⟨m, doorS g.name, (kindF L (doorS g.name) g.tries).1⟩])).out ∨ _
    rw [hout]
    rcases hset y hy with rfl | ⟨h1, _⟩
    · rw [ask_name] at hyx
      rcases h.led x hx g hgm hyx with hd | hd | hd | ⟨hd, _⟩
      · unfold askH
        dsimp only
        split
        · exact Or.inl hd
        · obtain ⟨z, hz, rfl⟩ := List.mem_map.1 hd
          cases hl : letIt (saysG (kindF L (doorS g.name) 2) t.name) z with
          | true => exact Or.inl (List.mem_map_of_mem (List.mem_filter.2 ⟨hz, hl⟩))
          | false => exact Or.inr (Or.inr (Or.inr ⟨rfl, by rw [← let_addr]; exact hl⟩))
      · exact Or.inr (Or.inl hd)
      · exact Or.inr (Or.inr (Or.inl hd))
      · rw [hu] at hd; cases hd
    · exact h.led x hx y h1 hyx
  · intro x hx
    rcases List.mem_append.1 hx with hx | hx
    · exact h.kd x hx
    · have e : x = ⟨m, doorS g.name, (kindF L (doorS g.name) g.tries).1⟩ := by simpa using hx
      subst e
      exact ⟨_, rfl⟩
/-- the call at the first address, ahead of hearing where it leads -/
theorem go_first0 (hw : wOk L = true) (hnm : nameB name = true) {t : Tm} (h : GoI L name S t) {i : Nat} {m : Int} {g : Hm} {it : It} {rest : List It} (hg : t.hs[i]? = some g) (hu : g.known = true) (ht : g.todo = it :: rest)
    (hok : TmOk ⟨t.name, m, t.hs.set i (firstH L m g it rest), t.seen, t.lk ++ [⟨m, it.addr, (kindF L it.addr it.tries).1⟩]⟩) :
    GoI L name S ⟨t.name, m, t.hs.set i (firstH L m g it rest), t.seen, t.lk ++ [⟨m, it.addr, (kindF L it.addr it.tries).1⟩]⟩ ∧ (¬ (kindF L it.addr it.tries).1 = 3 → it.addr ∈ (lsF (t.lk ++ [⟨m, it.addr, (kindF L it.addr it.tries).1⟩])).out) := by
  have hgm : g ∈ t.hs := List.mem_of_getElem? hg
  have hgk := h.ok.hh g hgm
  have hhn := h.ok.hn
  have hitm : it ∈ g.todo := by rw [ht]; exact List.mem_cons_self ..
  obtain ⟨⟨A, hA, hAh⟩, hsn, ht0, ht2⟩ := hgk.td it hitm
  have hhx : houseX it.addr = g.name := (house_norm hA).trans hAh
  have has : (lsF t.lk).asked g.name = 3 := by rw [h.asd g hgm, hu]; rfl
  have hls := ls_page (lk := t.lk) (x := it.addr) (m := m) (k := (kindF L it.addr it.tries).1) (by rw [hhx]; exact has)
  rw [hhx] at hls
  have hnames : ((t.hs.set i (firstH L m g it rest)).map Hm.name) = t.hs.map Hm.name := set_names hg (firstH_name ..)
  have hset : ∀ x, x ∈ t.hs.set i (firstH L m g it rest) → x = firstH L m g it rest ∨ (x ∈ t.hs ∧ x.name ≠ g.name) := fun x hx => set_mem hhn hg hx
  have hout : (lsF (t.lk ++ [⟨m, it.addr, (kindF L it.addr it.tries).1⟩])).out = if (kindF L it.addr it.tries).1 = 3 then (lsF t.lk).out else putL (lsF t.lk).out it.addr := by rw [hls]
  have hsub : ∀ x, x ∈ (lsF t.lk).out → x ∈ (lsF (t.lk ++ [⟨m, it.addr, (kindF L it.addr it.tries).1⟩])).out := fun x hx => by
    rw [hout]
    split
    · exact hx
    · exact ReM.put_mem.2 (Or.inl hx)
  have hin : ¬ (kindF L it.addr it.tries).1 = 3 → it.addr ∈ (lsF (t.lk ++ [⟨m, it.addr, (kindF L it.addr it.tries).1⟩])).out := fun hk => by
    rw [hout, if_neg hk]; exact ReM.put_mem.2 (Or.inr rfl)
  obtain ⟨f1, f2, f3⟩ := firstH_same L m g it rest
  have hre : ∀ y ∈ rest, y ∈ g.todo := fun y hy => by rw [ht]; exact List.mem_cons_of_mem _ hy
  have hlet : letsW L name it.addr = true := by
    have h1 := h.tl g hgm hu it hitm
    rw [h.gk g hgm hu, ← hAh] at h1
    rw [← let_says hw hnm hA it.tries]; exact h1
  refine ⟨⟨hok, h.nm, ?_, ?_, ?_, ?_, ?_, ?_, ?_, ?_, ?_, ?_, ?_, ?_⟩, hin⟩
  · intro x hx hkn
    rcases hset x hx with rfl | ⟨h1, _⟩
    · rw [f2, firstH_name]; exact h.gk g hgm hu
    · exact h.gk x h1 hkn
  · intro x hx hkn
    rcases hset x hx with rfl | ⟨h1, _⟩
    · rw [f1, hu] at hkn; cases hkn
    · exact h.gu x h1 hkn
  · intro x hx hkn y hy
    rcases hset x hx with rfl | ⟨h1, _⟩
    · rw [f2]
      rcases firstH_todo hy with hy | ⟨rfl, _⟩
      · exact h.tl g hgm hu y (hre y hy)
      · exact h.tl g hgm hu it hitm
    · exact h.tl x h1 hkn y hy
  · intro x hx y hy hty
    rcases hset x hx with rfl | ⟨h1, _⟩
    · rcases firstH_todo hy with hy | ⟨rfl, hk, _⟩
      · exact h.tf g hgm y (hre y hy) hty
      · rw [show it.tries + 1 - 1 = it.tries by omega]; exact hk
    · exact h.tf x h1 y hy hty
  · intro x hx
    show (lsF (t.lk ++ [⟨m, it.addr, (kindF L it.addr it.tries).1⟩])).asked x.name = _
    rw [hls]
    dsimp only
    rcases hset x hx with rfl | ⟨h1, h2⟩
    · rw [firstH_name, if_pos rfl, f1, hu]; rfl
    · rw [if_neg h2]; exact h.asd x h1
  · intro x hx
    show (lsF (t.lk ++ [⟨m, it.addr, (kindF L it.addr it.tries).1⟩])).asked x = _
    rw [hls]
    dsimp only
    have hx' : x ∉ t.hs.map Hm.name := by
      rw [← hnames]; exact hx
    rw [if_neg (fun e => hx' (by rw [e]; exact List.mem_map_of_mem hgm))]
    exact h.an x hx'
  · intro x hx
    show houseX x ∈ (t.hs.set i (firstH L m g it rest)).map Hm.name
    rw [hnames]; exact h.sh x hx
  · intro x hx
    show houseX x.addr ∈ (t.hs.set i (firstH L m g it rest)).map Hm.name
    rw [hnames]
    rcases List.mem_append.1 hx with hx | hx
    · exact h.lh x hx
    · have e : x = ⟨m, it.addr, (kindF L it.addr it.tries).1⟩ := by simpa using hx
      subst e
      dsimp only
      rw [hhx]; exact List.mem_map_of_mem hgm
  · intro x hx
    have hx' : x ∈ (lsF t.lk).out ∨ (x = it.addr ∧ ¬ (kindF L it.addr it.tries).1 = 3) := by
      have hx2 : x ∈ (lsF (t.lk ++ [⟨m, it.addr, (kindF L it.addr it.tries).1⟩])).out := hx
      rw [hout] at hx2
      split at hx2
      · exact Or.inl hx2
      · next hk => exact (ReM.put_mem.1 hx2).imp id fun e => ⟨e, hk⟩
    rcases hx' with hx' | ⟨rfl, hk⟩
    · exact h.lo x hx'
    · refine ⟨hsn, ?_⟩
      have hk2 : ¬ (kindF L it.addr 2).1 = 3 := by rw [kind_same (m := 2) ht2 hk]; exact hk
      unfold okR nR
      rw [hA, hlet, decide_eq_false hk2]; rfl
  · intro x hx
    rcases h.so x hx with h1 | ⟨y, hy, h2⟩
    · exact Or.inl h1
    · exact Or.inr ⟨y, hsub y hy, h2⟩
  · intro x hx y hy hyx
    rcases hset y hy with rfl | ⟨h1, _⟩
    · rw [firstH_name] at hyx
      rw [f1, f2]
      rcases h.led x hx g hgm hyx with hd | hd | hd | hd
      · rw [ht, List.map_cons] at hd
        rcases List.mem_cons.1 hd with e | hd
        · subst e
          by_cases hk : (kindF L it.addr it.tries).1 = 3
          · by_cases h3 : it.tries + 1 < 3
            · exact Or.inl (firstH_again ⟨hk, h3⟩)
            · refine Or.inr (Or.inr (Or.inl ?_))
              have : it.tries = 2 := by omega
              rw [this] at hk; exact hk
          · exact Or.inr (Or.inl (hin hk))
        · exact Or.inl (firstH_rest hd)
      · exact Or.inr (Or.inl (hsub x hd))
      · exact Or.inr (Or.inr (Or.inl hd))
      · exact Or.inr (Or.inr (Or.inr hd))
    · rcases h.led x hx y h1 hyx with hd | hd | hd | hd
      · exact Or.inl hd
      · exact Or.inr (Or.inl (hsub x hd))
      · exact Or.inr (Or.inr (Or.inl hd))
      · exact Or.inr (Or.inr (Or.inr hd))
  · intro x hx
    rcases List.mem_append.1 hx with hx | hx
    · exact h.kd x hx
    · have e : x = ⟨m, it.addr, (kindF L it.addr it.tries).1⟩ := by simpa using hx
      subst e
      exact ⟨_, rfl⟩
/-- a call, in parts: the houses and the calls behind it, and what is heard -/
theorem step_parts {t t' : Tm} (h : TmOk t) (hs : stepT L t = some t') : ∃ i m g g' a k F, nextT t = some (i, m) ∧ t.lk.length < 400 ∧ t.hs[i]? = some g ∧ t.now ≤ m ∧ m ≤ 5000 ∧ m = max g.ready t.now ∧ g.todo ≠ [] ∧ t' = F.foldl hearT ⟨t.name, m, t.hs.set i g', t.seen, t.lk ++ [⟨m, a, k⟩]⟩ ∧ TmOk ⟨t.name, m, t.hs.set i g', t.seen, t.lk ++ [⟨m, a, k⟩]⟩ ∧
    ((g.known = false ∧ F = [] ∧ a = doorS g.name ∧ k = (kindF L a g.tries).1 ∧ g' = askH L t.name m g) ∨
     (g.known = true ∧ ∃ it rest, g.todo = it :: rest ∧ a = it.addr ∧ k = (kindF L it.addr it.tries).1 ∧ g' = firstH L m g it rest ∧ F = leadT L it)) := by
  obtain ⟨i, m, g, hn, hl, hg, rfl⟩ := step_cases hs
  obtain ⟨hi, hne, hmx, h5, _⟩ := next_spec hn
  have hgm : g ∈ t.hs := List.mem_of_getElem? hg
  have hgk := h.hh g hgm
  have hnw := h.nw
  have hm : t.now ≤ m ∧ m ≤ 5000 := ⟨by omega, h5⟩
  have hm0 : 0 ≤ m ∧ m ≤ 5000 := ⟨by omega, h5⟩
  have e : t.hs[i] = g := by
    obtain ⟨_, e⟩ := List.getElem?_eq_some_iff.1 hg
    exact e
  rw [e] at hne hmx
  cases hu : g.known with
  | false =>
    rw [if_neg (by decide)]
    obtain ⟨h1, h2⟩ := ask_house (L := L) (t := t) hgk hm0
    exact ⟨i, m, g, askH L t.name m g, doorS g.name, _, [], hn, hl, hg, hm.1, hm.2, hmx, hne, rfl, call_ok h hg hm hl h1 h2 ⟨_, door_norm hgk.nm⟩ kind_in, Or.inl ⟨hu, rfl, rfl, rfl, rfl⟩⟩
  | true =>
    rw [if_pos rfl]
    cases ht : g.todo with
    | nil => exact absurd ht hne
    | cons it rest =>
      obtain ⟨h1, h2⟩ := first_house (L := L) (t := t) hgk hm0 ht
      obtain ⟨⟨A, hA, _⟩, _⟩ := hgk.td it (by rw [ht]; exact List.mem_cons_self ..)
      refine ⟨i, m, g, firstH L m g it rest, it.addr, _, leadT L it, hn, hl, hg, hm.1, hm.2, hmx, by rw [ht]; simp, ?_, call_ok h hg hm hl h1 h2 ⟨A, hA⟩ kind_in, Or.inr ⟨hu, it, rest, ht, rfl, rfl, rfl, rfl⟩⟩
      unfold firstT
      rw [ht]
theorem go_step (hw : wOk L = true) (hnm : nameB name = true) {t t' : Tm} (h : GoI L name S t) (hs : stepT L t = some t') : GoI L name S t' := by
  obtain ⟨i, m, g, g', a, k, F, _, _, hg, _, _, _, _, rfl, hok, ⟨hu, rfl, rfl, rfl, rfl⟩ | ⟨hu, it, rest, ht, rfl, rfl, rfl, rfl⟩⟩ := step_parts h.ok hs
  · exact go_ask h hg hu hok
  · obtain ⟨h1, h2⟩ := go_first0 hw hnm h hg hu ht hok
    refine go_hears _ h1 fun x hx => Or.inr ?_
    have hgm : g ∈ t.hs := List.mem_of_getElem? hg
    obtain ⟨⟨A, hA, _⟩, _, _, ht2⟩ := (h.ok.hh g hgm).td it (by rw [ht]; exact List.mem_cons_self ..)
    by_cases hk : (kindF L it.addr it.tries).1 = 3
    · rw [lead_fail hk] at hx; cases hx
    · rw [lead_from hw hA ht2 hk] at hx
      exact ⟨it.addr, h2 hk, hx⟩
theorem go_run (hw : wOk L = true) (hnm : nameB name = true) : ∀ (n : Nat) {t : Tm}, GoI L name S t → GoI L name S (runT L n t) := by
  intro n
  induction n with
  | zero => intro t h; exact h
  | succ n ih =>
    intro t h
    unfold runT
    split
    · exact h
    · next t' hs => exact ih (go_step hw hnm h hs)
theorem go_empty (hnm : nameB name = true) : GoI L name S ⟨name, 0, [], [], []⟩ :=
  ⟨empty_ok hnm, rfl, (fun h hh => by cases hh), (fun h hh => by cases hh), (fun h hh => by cases hh), (fun h hh => by cases hh), (fun h hh => by cases hh), (fun _ _ => rfl), (fun x hx => by cases hx), (fun x hx => by cases hx), (fun x hx => by cases hx), (fun x hx => by cases hx), (fun x hx => by cases hx), (fun x hx => by cases hx)⟩
theorem go_new (hnm : nameB name = true) : GoI L name S (newT name S) := go_hears S (go_empty hnm) fun _ hx => Or.inl hx
/-- so far as one likes -/
theorem go_all (hw : wOk L = true) (hnm : nameB name = true) (n : Nat) : GoI L name S (runT L n (newT name S)) := go_run hw hnm n (go_new hnm)
end Go.Proofs.YtiennniclkbjlaaGreatDoor.TrM
/- In the end all is looked at that may be, and can be come to. -/
namespace Go.Proofs.YtiennniclkbjlaaGreatDoor.TrM
open Go.Proofs.YtiennniclkbjlaaGreatDoor.EscM Go.Proofs.YtiennniclkbjlaaGreatDoor.AddrM Go.Proofs.YtiennniclkbjlaaGreatDoor.ReadM Go.Proofs.YtiennniclkbjlaaGreatDoor.Ad1 Go.Proofs.YtiennniclkbjlaaGreatDoor.Rd1 Go.Proofs.YtiennniclkbjlaaGreatDoor.RuleM Go.Proofs.YtiennniclkbjlaaGreatDoor.St Go.Proofs.YtiennniclkbjlaaGreatDoor.PgM Go.Proofs.YtiennniclkbjlaaGreatDoor.PgA Go.Proofs.YtiennniclkbjlaaGreatDoor.RoPg Go.Proofs.YtiennniclkbjlaaGreatDoor.LetM Go.Proofs.YtiennniclkbjlaaGreatDoor.Nm Go.Proofs.YtiennniclkbjlaaGreatDoor.GrM Go.Proofs.YtiennniclkbjlaaGreatDoor.RoIt Go.Proofs.YtiennniclkbjlaaGreatDoor.RoLk Go.Proofs.YtiennniclkbjlaaGreatDoor.WdM Go.Proofs.YtiennniclkbjlaaGreatDoor.Wd Go.Proofs.YtiennniclkbjlaaGreatDoor.WdN Go.Proofs.YtiennniclkbjlaaGreatDoor.TpM Go.Proofs.YtiennniclkbjlaaGreatDoor.ReM

variable {L : List Pg} {name : ByteArray} {S : List ByteArray}
theorem hear_lk (t : Tm) (x : ByteArray) : (hearT t x).lk = t.lk := by
  unfold hearT
  split
  · rfl
  · split <;> rfl
theorem hears_lk : ∀ (F : List ByteArray) (t : Tm), (F.foldl hearT t).lk = t.lk := by
  intro F
  induction F with
  | nil => intro t; rfl
  | cons x r ih => intro t; exact (ih _).trans (hear_lk t x)
theorem hear_now (t : Tm) (x : ByteArray) : (hearT t x).now = t.now ∧ (hearT t x).name = t.name := by
  unfold hearT
  split
  · exact ⟨rfl, rfl⟩
  · split <;> exact ⟨rfl, rfl⟩
theorem hears_now : ∀ (F : List ByteArray) (t : Tm), (F.foldl hearT t).now = t.now ∧ (F.foldl hearT t).name = t.name := by
  intro F
  induction F with
  | nil => intro t; exact ⟨rfl, rfl⟩
  | cons x r ih =>
    intro t
    obtain ⟨h1, h2⟩ := ih (hearT t x)
    obtain ⟨h3, h4⟩ := hear_now t x
    exact ⟨h1.trans h3, h2.trans h4⟩
theorem hear_seen (t : Tm) (x : ByteArray) : t.seen <+: (hearT t x).seen := by
  unfold hearT
  split
  · exact List.prefix_refl _
  · split
    · exact List.prefix_refl _
    · exact List.prefix_append _ _
theorem hears_seen : ∀ (F : List ByteArray) (t : Tm), t.seen <+: (F.foldl hearT t).seen := by
  intro F
  induction F with
  | nil => intro t; exact List.prefix_refl _
  | cons x r ih => intro t; exact (hear_seen t x).trans (ih _)
theorem hear_has {t : Tm} {x : ByteArray} (hn : nR x = true) (hl : (hearT t x).seen.length < 60) : x ∈ (hearT t x).seen := by
  unfold nR at hn
  unfold hearT at hl ⊢
  cases hA : normA x with
  | none => rw [hA] at hn; cases hn
  | some A =>
    rw [hA] at hl
    dsimp only at hl ⊢
    split
    · next hc =>
      rw [if_pos hc] at hl
      rw [Bool.or_eq_true, decide_eq_true_eq, has_mem] at hc
      rcases hc with hc | hc
      · omega
      · exact hc
    · simp
theorem hears_all : ∀ (F : List ByteArray) {t : Tm}, (F.foldl hearT t).seen.length < 60 → ∀ x ∈ F, nR x = true → x ∈ (F.foldl hearT t).seen := by
  intro F
  induction F with
  | nil => intro t _ x hx; cases hx
  | cons y r ih =>
    intro t hl x hx hn
    have hp := hears_seen r (hearT t y)
    rcases List.mem_cons.1 hx with e | hx
    · subst e
      exact hp.subset (hear_has hn (Nat.lt_of_le_of_lt hp.length_le hl))
    · exact ih hl x hx hn

/-- all that one begins with, and where what was looked at leads, was heard of, if there was room -/
structure GoC (L : List Pg) (S : List ByteArray) (t : Tm) : Prop where
  ss : t.seen.length < 60 → ∀ x ∈ S, nR x = true → x ∈ t.seen
  sc : t.seen.length < 60 → ∀ y ∈ (lsF t.lk).out, ∀ x ∈ fromW L y, x ∈ t.seen
theorem c_new : GoC L S (newT name S) := by
  refine ⟨fun hl x hx hn => hears_all S hl x hx hn, fun _ y hy => ?_⟩
  have e : (newT name S).lk = [] := hears_lk S _
  rw [e] at hy; cases hy
theorem out_step {t : Tm} {g : Hm} (h : GoI L name S t) (hgm : g ∈ t.hs) {m k : Int} {a : ByteArray} (hc : (g.known = false ∧ a = doorS g.name) ∨ (g.known = true ∧ ∃ it ∈ g.todo, a = it.addr)) : ∀ x ∈ (lsF (t.lk ++ [⟨m, a, k⟩])).out, x ∈ (lsF t.lk).out ∨ (x = a ∧ ¬ k = 3 ∧ g.known = true) := by
  intro x hx
  rcases hc with ⟨hu, rfl⟩ | ⟨hu, it, hit, rfl⟩
  · have has : (lsF t.lk).asked g.name = g.tries := by rw [h.asd g hgm, hu]; rfl
    rw [ls_ask (h.ok.hh g hgm).nm (by rw [has]; have := (h.ok.hh g hgm).tr; omega)] at hx
    exact Or.inl hx
  · obtain ⟨⟨A, hA, hAh⟩, _⟩ := (h.ok.hh g hgm).td it hit
    have hhx : houseX it.addr = g.name := (house_norm hA).trans hAh
    rw [ls_page (by rw [hhx, h.asd g hgm, hu]; rfl)] at hx
    dsimp only at hx
    split at hx
    · exact Or.inl hx
    · next hk => exact (ReM.put_mem.1 hx).imp id fun e => ⟨e, hk, hu⟩
theorem step_of {g : Hm} {a : ByteArray} {k : Int} {g' : Hm} {F : List ByteArray} {nm : ByteArray} {m : Int}
    (h : (g.known = false ∧ F = [] ∧ a = doorS g.name ∧ k = (kindF L a g.tries).1 ∧ g' = askH L nm m g) ∨ (g.known = true ∧ ∃ it rest, g.todo = it :: rest ∧ a = it.addr ∧ k = (kindF L it.addr it.tries).1 ∧ g' = firstH L m g it rest ∧ F = leadT L it)) : (g.known = false ∧ a = doorS g.name) ∨ (g.known = true ∧ ∃ it ∈ g.todo, a = it.addr) := by
  rcases h with ⟨h1, _, h2, _⟩ | ⟨h1, it, rest, h2, h3, _⟩
  · exact Or.inl ⟨h1, h2⟩
  · exact Or.inr ⟨h1, it, by rw [h2]; exact List.mem_cons_self .., h3⟩
theorem c_step (hw : wOk L = true) {t t' : Tm} (h : GoI L name S t) (hc : GoC L S t) (hs : stepT L t = some t') : GoC L S t' := by
  obtain ⟨i, m, g, g', a, k, F, _, _, hg, _, _, _, _, rfl, hok, hcase⟩ := step_parts h.ok hs
  have hgm : g ∈ t.hs := List.mem_of_getElem? hg
  have hp := hears_seen F ⟨t.name, m, t.hs.set i g', t.seen, t.lk ++ [⟨m, a, k⟩]⟩
  refine ⟨fun hl x hx hn => hp.subset (hc.ss (Nat.lt_of_le_of_lt hp.length_le hl) x hx hn), fun hl y hy x hx => ?_⟩
  rw [hears_lk] at hy
  rcases out_step h hgm (step_of hcase) y hy with hy | ⟨rfl, hk, hu⟩
  · exact hp.subset (hc.sc (Nat.lt_of_le_of_lt hp.length_le hl) y hy x hx)
  · rcases hcase with ⟨h1, _⟩ | ⟨_, it, rest, ht, rfl, rfl, rfl, rfl⟩
    · rw [hu] at h1; cases h1
    · obtain ⟨⟨A, hA, _⟩, _, _, ht2⟩ := (h.ok.hh g hgm).td it (by rw [ht]; exact List.mem_cons_self ..)
      rw [← lead_from hw hA ht2 hk] at hx
      refine hears_all _ hl x hx ?_
      rw [lead_from hw hA ht2 hk] at hx
      exact from_norm hx
theorem c_run (hw : wOk L = true) (hnm : nameB name = true) : ∀ (n : Nat) {t : Tm}, GoI L name S t → GoC L S t → GoC L S (runT L n t) := by
  intro n
  induction n with
  | zero => intro t _ h; exact h
  | succ n ih =>
    intro t h hc
    unfold runT
    split
    · exact hc
    · next t' hs => exact ih (go_step hw hnm h hs) (c_step hw h hc hs)

/-- what was looked at can be come to -/
theorem top_in (hw : wOk L = true) (hnm : nameB name = true) (hS : S.length ≤ 12) : ∀ (n : Nat) {t : Tm}, GoI L name S t → (∀ x ∈ (lsF t.lk).out, x ∈ reachW L name S) → ∀ x ∈ (lsF (runT L n t).lk).out, x ∈ reachW L name S := by
  intro n
  induction n with
  | zero => intro t _ h; exact h
  | succ n ih =>
    intro t h hr
    unfold runT
    split
    · exact hr
    · next t' hs =>
      refine ih (go_step hw hnm h hs) fun x hx => ?_
      have h' := go_step hw hnm h hs
      obtain ⟨_, hxo⟩ := h'.lo x hx
      obtain ⟨i, m, g, g', a, k, F, _, _, hg, _, _, _, _, rfl, hok, hcase⟩ := step_parts h.ok hs
      have hgm : g ∈ t.hs := List.mem_of_getElem? hg
      rw [hears_lk] at hx
      rcases out_step h hgm (step_of hcase) x hx with hx | ⟨rfl, hk, hu⟩
      · exact hr x hx
      · rcases hcase with ⟨h1, _⟩ | ⟨_, it, rest, ht, rfl, rfl, rfl, rfl⟩
        · rw [hu] at h1; cases h1
        · have hsn := ((h.ok.hh g hgm).td it (by rw [ht]; exact List.mem_cons_self ..)).2.1
          rcases h.so _ hsn with h1 | ⟨y, hy, h2⟩
          · exact reach_seed hw hnm hS h1 hxo
          · exact reach_on (hr y hy) h2 hxo
/-- and what can be come to was looked at, if nothing is left and there was room -/
theorem top_all (hw : wOk L = true) (hnm : nameB name = true) {t : Tm} (h : GoI L name S t) (hc : GoC L S t) (hd : ∀ g ∈ t.hs, g.todo = []) (hl : t.seen.length < 60) : ∀ x ∈ reachW L name S, x ∈ (lsF t.lk).out := by
  have key : ∀ i, ∀ hi : i < (reachW L name S).length, (reachW L name S)[i] ∈ (lsF t.lk).out := by
    intro i
    induction i using Nat.strongRecOn with
    | _ i ih =>
      intro hi
      obtain ⟨_, _, _, hk⟩ := reach_each (List.getElem_mem hi)
      have hn := ok_norm hk
      have hseen : (reachW L name S)[i] ∈ t.seen := by
        rcases reach_least hi with h1 | ⟨j, hj, hji, h1⟩
        · exact hc.ss hl _ h1 hn
        · exact hc.sc hl _ (ih j hji hj) _ h1
      generalize (reachW L name S)[i] = x at *
      obtain ⟨g, hg, hgn⟩ := List.mem_map.1 (h.sh x hseen)
      unfold okR at hk
      simp only [Bool.and_eq_true, Bool.not_eq_true', decide_eq_false_iff_not] at hk
      rcases h.led x hseen g hg hgn with h1 | h1 | h1 | ⟨h1, h2⟩
      · rw [hd g hg] at h1; cases h1
      · exact h1
      · exact absurd h1 hk.1.2
      · obtain ⟨A, hA⟩ := h.ok.sr x hseen
        rw [h.gk g hg h1, hgn, house_norm hA, let_says hw hnm hA, hk.2] at h2; cases h2
  intro x hx
  obtain ⟨i, hi, rfl⟩ := List.getElem_of_mem hx
  exact key i hi
theorem go_c (hw : wOk L = true) (hnm : nameB name = true) (n : Nat) : GoC L S (runT L n (newT name S)) := c_run hw hnm n (go_new hnm) c_new
theorem out_new : (lsF (newT name S).lk).out = [] := by
  have e : (newT name S).lk = [] := hears_lk S _
  rw [e]; rfl
theorem go_in (hw : wOk L = true) (hnm : nameB name = true) (hS : S.length ≤ 12) (n : Nat) : ∀ x ∈ (lsF (runT L n (newT name S)).lk).out, x ∈ reachW L name S :=
  top_in hw hnm hS n (go_new hnm) fun x hx => by rw [out_new] at hx; cases hx
end Go.Proofs.YtiennniclkbjlaaGreatDoor.TrM
