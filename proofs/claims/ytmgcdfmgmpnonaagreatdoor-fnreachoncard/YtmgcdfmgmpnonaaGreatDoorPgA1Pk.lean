/- Several texts in one: PgA1, ReMath, ReCn, ReInv, PgA2, PgAsc, PgA3, PgA4, Wd4, PgLaws, WdF, WdN, WdN2, WdN3, WdN4, ReW, ReA, ReCl, ReLaws, ReU. -/
import Derived.Test.YtmgcdfmgmpnonaaGreatDoorJoin1Pk
import Derived.Test.YtmgcdfmgmpnonaaGreatDoorPage4
import Derived.Test.YtmgcdfmgmpnonaaGreatDoorDraw5Pk
import Derived.Test.YtmgcdfmgmpnonaaGreatDoorStrsPk
import Derived.Test.YtmgcdfmgmpnonaaGreatDoorStep
import Derived.Deep.AppendLies
import Derived.Test.YtmgcdfmgmpnonaaGreatDoorRead3Pk
import Derived.Test.YtmgcdfmgmpnonaaGreatDoorDraw14Pk
import Derived.Test.YtmgcdfmgmpnonaaGreatDoorGrpMathPk
import Derived.Test.YtmgcdfmgmpnonaaGreatDoorLets1
import Derived.Test.YtmgcdfmgmpnonaaGreatDoorLets2Pk
import Derived.Deep.RegionHeldLaw
/- Where pages lead: mathematics, and joins by texts of any length. -/
namespace Go.Proofs.YtmgcdfmgmpnonaaGreatDoor.PgA
open Go.RowKit Go.Proofs.YtmgcdfmgmpnonaaGreatDoor.EscM Go.Proofs.YtmgcdfmgmpnonaaGreatDoor.St Go.Proofs.YtmgcdfmgmpnonaaGreatDoor.AddrM Go.Proofs.YtmgcdfmgmpnonaaGreatDoor.ReadM Go.Proofs.YtmgcdfmgmpnonaaGreatDoor.EscL Go.Proofs.YtmgcdfmgmpnonaaGreatDoor.Ad1 Go.Proofs.YtmgcdfmgmpnonaaGreatDoor.Dr Go.Proofs.YtmgcdfmgmpnonaaGreatDoor.Im Go.Proofs.YtmgcdfmgmpnonaaGreatDoor.Rd1 Go.Proofs.YtmgcdfmgmpnonaaGreatDoor.Door Go.Proofs.YtmgcdfmgmpnonaaGreatDoor.JnM Go.Proofs.YtmgcdfmgmpnonaaGreatDoor.Jn Go.Proofs.YtmgcdfmgmpnonaaGreatDoor.PgM Go.Proofs.YtmgcdfmgmpnonaaGreatDoor.RB

theorem join_long {A : Ad} {l : List UInt8} (h : 60 < l.length) : joinF A l = none := by
  unfold joinF
  cases okB A with
  | false => rfl
  | true => rw [if_pos h]; rfl

set_option maxRecDepth 100000 in
set_option maxHeartbeats 3200000 in
theorem implJoin_long (A : Ad) (ref : ByteArray) (a0 : Option Addr) (cap : Nat) (w : World) (hS : IsStrs w a0 cap A.parts) (hB : bulkA A ≤ 1000) (hr : 60 < ref.size) (hm : ref.size ≤ 1000000) :
    Calls Tryz.prog 167 #[.agg #[.string A.house, .slice a0 A.parts.length cap, .bool A.asks, .string A.ask], .string ref] w fun e w' => Reads (joinF A ref.data.toList) w e w' := by
  have HN : Hid (joinF A ref.data.toList = none) := join_long (by simp; exact hr)
  have HS : Hid (IsStrs w a0 cap A.parts) := hS
  have hb4 : bulkA A ≤ 4194304 := by omega
  clear hS
  generalize joinF A ref.data.toList = R at *
  go_enter Tryz.func167, Tryz.ntmps167
  go_wp2_with fail
  refine (implOk_any A a0 cap _ (HS.out.keep (fun k hk => by rw [alloc_keep _ _ k (by simp; omega), alloc_keep _ _ k hk])) hb4).mono ?_
  rintro e w1 ⟨rfl, hb1⟩
  have HB1 : Hid (Below (w.heap.size + 1 + 1) ((w.alloc (.cells #[.string A.house, .slice a0 A.parts.length cap, .bool A.asks, .string A.ask] 41)).alloc (.cells #[.string ⟨#[]⟩, .slice none 0 0, .bool false, .string ⟨#[]⟩] 41)) w1) := hb1.mono (by simp)
  have hb1' := HB1.out
  obtain ⟨⟨c0, c1, c2, c3⟩, ⟨d0, d1, d2, d3⟩, dz⟩ := two_cells hb1'
  clear hb1 hb1'
  cases hok : okB A with
  | false =>
    go_wp2
    refine bodyPost_ret (v := .tuple #[.agg #[.string ⟨#[]⟩, .slice none 0 0, .bool false, .string ⟨#[]⟩], .bool false]) (by simp [results, Tryz.results167, go_sem, d0, d1, d2, d3]) rfl ?_
    refine ⟨zeroAd, false, none, 0, rfl, Or.inr ⟨rfl, HN.out, rfl⟩, Owns.nil _ _, ?_⟩
    have hbw := two_below HB1.out
    iterate 4 refine Below.setCell ?_ (by dsimp only; omega) _
    exact hbw
  | true =>
    go_wp2
    refine bodyPost_ret (v := .tuple #[.agg #[.string ⟨#[]⟩, .slice none 0 0, .bool false, .string ⟨#[]⟩], .bool false]) (by simp [results, Tryz.results167, go_sem, d0, d1, d2, d3]) rfl ?_
    refine ⟨zeroAd, false, none, 0, rfl, Or.inr ⟨rfl, HN.out, rfl⟩, Owns.nil _ _, ?_⟩
    have hbw := two_below HB1.out
    iterate 4 refine Below.setCell ?_ (by dsimp only; omega) _
    exact hbw

set_option maxRecDepth 100000 in
set_option maxHeartbeats 3200000 in
theorem specJoin_long (A : Ad) (ref : ByteArray) (a0 : Option Addr) (cap : Nat) (w : World) (hS : IsStrs w a0 cap A.parts) (hB : bulkA A ≤ 1000) (hr : 60 < ref.size) (hm : ref.size ≤ 1000000) :
    Calls Tryz.prog 169 #[.agg #[.string A.house, .slice a0 A.parts.length cap, .bool A.asks, .string A.ask], .string ref] w fun e w' => Reads (joinF A ref.data.toList) w e w' := by
  have HN : Hid (joinF A ref.data.toList = none) := join_long (by simp; exact hr)
  have HS : Hid (IsStrs w a0 cap A.parts) := hS
  have hb4 : bulkA A ≤ 4194304 := by omega
  have HC : Hid _ := fun W => specCut_any ref 35 W (by omega) (by omega) (by omega)
  clear hS
  generalize bs (cutL 35 ref.data.toList).1 = t at *
  generalize bs (cutL 35 ref.data.toList).2.1 = u at *
  generalize (cutL 35 ref.data.toList).2.2 = z at *
  generalize joinF A ref.data.toList = R at *
  go_enter Tryz.func169, Tryz.ntmps169
  go_wp2_with fail
  refine (HC.out _).mono ?_
  rintro e w0 ⟨rfl, nq, hw0⟩
  have HB0 : Hid (Below (w.heap.size + 1 + 1) ((w.alloc (.cells #[.string A.house, .slice a0 A.parts.length cap, .bool A.asks, .string A.ask] 41)).alloc (.cells #[.string ⟨#[]⟩, .slice none 0 0, .bool false, .string ⟨#[]⟩] 41)) w0) := by subst hw0; exact below_drewN (Below.refl _ _) nq
  have hb0' := HB0.out
  obtain ⟨⟨c0, c1, c2, c3⟩, ⟨d0, d1, d2, d3⟩, dz⟩ := two_cells hb0'
  clear hw0 hb0' HC
  go_wp2_with fail
  refine (specOk_any A a0 cap _ (HS.out.below (two_below HB0.out)) hb4).mono ?_
  rintro e w2 ⟨rfl, hb2⟩
  have HB2 : Hid _ := two_next HB0.out hb2
  clear hb2 HB0 c0 c1 c2 c3 d0 d1 d2 d3 dz
  have hb2' := HB2.out
  obtain ⟨⟨c0, c1, c2, c3⟩, ⟨d0, d1, d2, d3⟩, dz⟩ := two_cells hb2'
  clear hb2'
  cases hok : okB A with
  | false =>
    go_wp2
    refine bodyPost_ret (v := .tuple #[.agg #[.string ⟨#[]⟩, .slice none 0 0, .bool false, .string ⟨#[]⟩], .bool false]) (by simp [results, Tryz.results169, go_sem, d0, d1, d2, d3]) rfl ?_
    refine ⟨zeroAd, false, none, 0, rfl, Or.inr ⟨rfl, HN.out, rfl⟩, Owns.nil _ _, ?_⟩
    have hbw := two_below HB2.out
    iterate 4 refine Below.setCell ?_ (by dsimp only; omega) _
    exact hbw
  | true =>
    go_wp2
    refine bodyPost_ret (v := .tuple #[.agg #[.string ⟨#[]⟩, .slice none 0 0, .bool false, .string ⟨#[]⟩], .bool false]) (by simp [results, Tryz.results169, go_sem, d0, d1, d2, d3]) rfl ?_
    refine ⟨zeroAd, false, none, 0, rfl, Or.inr ⟨rfl, HN.out, rfl⟩, Owns.nil _ _, ?_⟩
    have hbw := two_below HB2.out
    iterate 4 refine Below.setCell ?_ (by dsimp only; omega) _
    exact hbw

theorem implJoin_page (A : Ad) (ref : ByteArray) (a0 : Option Addr) (cap : Nat) (w : World) (hM : Mx w) (hS : IsStrs w a0 cap A.parts) (hB : bulkA A ≤ 1000) (hr : ref.size ≤ 300) (ha : ascii ref) :
    Calls Tryz.prog 167 #[.agg #[.string A.house, .slice a0 A.parts.length cap, .bool A.asks, .string A.ask], .string ref] w fun e w' => Reads (joinF A ref.data.toList) w e w' := by
  by_cases h : ref.size ≤ 60
  · exact implJoin_ascii A ref a0 cap w hM hS hB h ha
  · exact implJoin_long A ref a0 cap w hS hB (by omega) (by omega)
theorem specJoin_page (A : Ad) (ref : ByteArray) (a0 : Option Addr) (cap : Nat) (w : World) (hS : IsStrs w a0 cap A.parts) (hB : bulkA A ≤ 1000) (hr : ref.size ≤ 300) :
    Calls Tryz.prog 169 #[.agg #[.string A.house, .slice a0 A.parts.length cap, .bool A.asks, .string A.ask], .string ref] w fun e w' => Reads (joinF A ref.data.toList) w e w' := by
  by_cases h : ref.size ≤ 60
  · exact specJoin_any A ref a0 cap w hS hB h
  · exact specJoin_long A ref a0 cap w hS hB (by omega) (by omega)

/-- from where links of a page lead -/
def fromF (A : Ad) (t : ByteArray) : Ad := if (baseF t).2 then (match joinF A (baseF t).1.data.toList with | some B => B | none => A) else A
def putL (L : List ByteArray) (x : ByteArray) : List ByteArray := if hasB x L then L else L ++ [x]
def pageStep (B : Ad) (acc : List ByteArray) (l : ByteArray) : List ByteArray := match joinF B l.data.toList with | some C => putL acc (textF C) | none => acc
def pageL (B : Ad) (links : List ByteArray) : List ByteArray := links.foldl (pageStep B) []
/-- where one comes from a page -/
def pageF (A : Ad) (t : ByteArray) : List ByteArray := if okB A then pageL (fromF A t) (linksF t) else []
theorem page_bad {A : Ad} {t : ByteArray} (h : okB A = false) : pageF A t = [] := by unfold pageF; rw [h]; rfl
theorem page_ok {A : Ad} {t : ByteArray} (h : okB A = true) : pageF A t = pageL (fromF A t) (linksF t) := by unfold pageF; rw [h]; rfl
theorem from_ok {A : Ad} {t : ByteArray} (h : okB A = true) : okB (fromF A t) = true := by
  unfold fromF
  split
  · split
    · rename_i B hj; exact join_ok hj
    · exact h
  · exact h
theorem from_bulk {A : Ad} {t : ByteArray} (h : okB A = true) : bulkA (fromF A t) ≤ 1000 := (ok_sum (from_ok h)).2
theorem page_snoc {B : Ad} {L : List ByteArray} {k : Nat} (h : k < L.length) : pageL B (L.take (k + 1)) = pageStep B (pageL B (L.take k)) L[k] := by
  unfold pageL
  rw [List.take_succ_eq_append_getElem h, List.foldl_append]; rfl
theorem put_len (L : List ByteArray) (x : ByteArray) : (putL L x).length ≤ L.length + 1 := by unfold putL; split <;> simp
theorem step_len (B : Ad) (L : List ByteArray) (x : ByteArray) : (pageStep B L x).length ≤ L.length + 1 := by
  unfold pageStep; split
  · exact put_len _ _
  · omega
theorem pageL_len (B : Ad) : ∀ (L acc : List ByteArray), (L.foldl (pageStep B) acc).length ≤ acc.length + L.length := by
  intro L
  induction L with
  | nil => intro acc; simp
  | cons x L ih => intro acc; have := ih (pageStep B acc x); have := step_len B acc x; simp only [List.foldl_cons, List.length_cons]; omega
end Go.Proofs.YtmgcdfmgmpnonaaGreatDoor.PgA
/- What one comes to: by a growing list, and that a queue with copies comes to the same. -/
namespace Go.Proofs.YtmgcdfmgmpnonaaGreatDoor.ReM
open Go.Proofs.YtmgcdfmgmpnonaaGreatDoor.St Go.Proofs.YtmgcdfmgmpnonaaGreatDoor.PgM Go.Proofs.YtmgcdfmgmpnonaaGreatDoor.PgA

/-- as many are put, each once -/
def putsL (T xs : List ByteArray) : List ByteArray := xs.foldl putL T
/-- by a growing list: i of T are done, out is what one came to -/
def lstR (ok : ByteArray → Bool) (next : ByteArray → List ByteArray) : Nat → Nat → List ByteArray → List ByteArray → List ByteArray
  | 0, _, _, out => out
  | f + 1, i, T, out => match T[i]? with
    | none => out
    | some x => if ok x then lstR ok next f (i + 1) (putsL T (next x)) (out ++ [x]) else lstR ok next f (i + 1) T out
variable {ok : ByteArray → Bool} {next : ByteArray → List ByteArray}
theorem lst_end {f i : Nat} {T out : List ByteArray} (h : T.length ≤ i) : lstR ok next f i T out = out := by
  cases f with
  | zero => rfl
  | succ f => simp [lstR, List.getElem?_eq_none h]
theorem lst_ok {f i : Nat} {T out : List ByteArray} (h : i < T.length) (hk : ok T[i] = true) : lstR ok next (f + 1) i T out = lstR ok next f (i + 1) (putsL T (next T[i])) (out ++ [T[i]]) := by
  simp [lstR, List.getElem?_eq_getElem h, hk]
theorem lst_no {f i : Nat} {T out : List ByteArray} (h : i < T.length) (hk : ok T[i] = false) : lstR ok next (f + 1) i T out = lstR ok next f (i + 1) T out := by
  simp [lstR, List.getElem?_eq_getElem h, hk]

theorem has_mem {x : ByteArray} {L : List ByteArray} : hasB x L = true ↔ x ∈ L := by
  unfold hasB; simp
theorem put_in {x : ByteArray} {L : List ByteArray} (h : x ∈ L) : putL L x = L := by unfold putL; rw [if_pos (has_mem.2 h)]
theorem put_out {x : ByteArray} {L : List ByteArray} (h : x ∉ L) : putL L x = L ++ [x] := by unfold putL; rw [if_neg (fun e => h (has_mem.1 e))]
theorem put_mem {x y : ByteArray} {L : List ByteArray} : y ∈ putL L x ↔ y ∈ L ∨ y = x := by
  by_cases h : x ∈ L
  · rw [put_in h]; exact ⟨Or.inl, fun e => e.elim id fun e => e ▸ h⟩
  · rw [put_out h]; simp
theorem puts_mem {xs : List ByteArray} : ∀ {T : List ByteArray} {y : ByteArray}, y ∈ putsL T xs ↔ y ∈ T ∨ y ∈ xs := by
  induction xs with
  | nil => intro T y; simp [putsL]
  | cons x r ih =>
    intro T y
    show y ∈ putsL (putL T x) r ↔ _
    rw [ih, put_mem]; simp [or_assoc]
theorem put_nodup {x : ByteArray} {L : List ByteArray} (h : L.Nodup) : (putL L x).Nodup := by
  by_cases hx : x ∈ L
  · rw [put_in hx]; exact h
  · rw [put_out hx]
    exact List.nodup_append.2 ⟨h, by simp, fun a ha b hb => by simp at hb; subst hb; exact fun e => hx (e ▸ ha)⟩
theorem puts_nodup {xs : List ByteArray} : ∀ {T : List ByteArray}, T.Nodup → (putsL T xs).Nodup := by
  induction xs with
  | nil => intro T h; exact h
  | cons x r ih => intro T h; exact ih (put_nodup h)
theorem put_pre (L : List ByteArray) (x : ByteArray) : L <+: putL L x := by
  by_cases hx : x ∈ L
  · rw [put_in hx]; exact List.prefix_refl _
  · rw [put_out hx]; exact List.prefix_append _ _
theorem puts_pre {xs : List ByteArray} : ∀ T : List ByteArray, T <+: putsL T xs := by
  induction xs with
  | nil => intro T; exact List.prefix_refl _
  | cons x r ih => intro T; exact (put_pre T x).trans (ih _)
theorem puts_app (T xs ys : List ByteArray) : putsL T (xs ++ ys) = putsL (putsL T xs) ys := by unfold putsL; rw [List.foldl_append]
theorem puts_snoc (T xs : List ByteArray) (y : ByteArray) : putsL T (xs ++ [y]) = putL (putsL T xs) y := puts_app T xs [y]
/-- what stands once in a list is no longer than what it is drawn from -/
theorem nodup_len {T U : List ByteArray} (h : T.Nodup) (hs : ∀ x ∈ T, x ∈ U) : T.length ≤ U.length := by
  induction T generalizing U with
  | nil => exact Nat.zero_le _
  | cons x r ih =>
    have hx := hs x (List.mem_cons_self ..)
    obtain ⟨h1, h2⟩ := List.nodup_cons.1 h
    have : r.length ≤ (U.filter fun y => decide (y ≠ x)).length := ih h2 fun y hy => by
      have hne : y ≠ x := fun e => h1 (e ▸ hy)
      exact List.mem_filter.2 ⟨hs y (List.mem_cons_of_mem _ hy), decide_eq_true hne⟩
    have hlt : (U.filter fun y => decide (y ≠ x)).length < U.length := List.length_filter_lt_length_iff_exists.2 ⟨x, hx, by simp⟩
    simp only [List.length_cons]; omega

/-- D is what the queue let go by, q what stands in it: what is to be done by the growing list -/
def todoR (n : ByteArray → Bool) (D q : List ByteArray) : List ByteArray := putsL (D.filter n) (q.filter n)
variable {n : ByteArray → Bool}
theorem put_filter (D : List ByteArray) (x : ByteArray) : (putL D x).filter n = if n x then putL (D.filter n) x else D.filter n := by
  by_cases h : x ∈ D
  · rw [put_in h]
    split
    · next hn => rw [put_in (List.mem_filter.2 ⟨h, hn⟩)]
    · rfl
  · rw [put_out h, List.filter_append]
    split
    · next hn => rw [put_out (fun e => h (List.mem_filter.1 e).1)]; simp [hn]
    · next hn => simp [hn]
/-- the head is let go by: the growing list stays -/
theorem todo_pop (D q : List ByteArray) (x : ByteArray) : todoR n (putL D x) q = todoR n D (x :: q) := by
  unfold todoR
  rw [put_filter]
  by_cases hn : n x = true
  · rw [if_pos hn, List.filter_cons_of_pos hn]; rfl
  · rw [if_neg hn, List.filter_cons_of_neg hn]
/-- what is found is put behind -/
theorem todo_more (D q xs : List ByteArray) (h : ∀ x ∈ xs, n x = true) : todoR n D (q ++ xs) = putsL (todoR n D q) xs := by
  unfold todoR
  rw [List.filter_append, puts_app, List.filter_eq_self.2 h]
/-- the head, if it is new, is the next of the growing list -/
theorem todo_head {D q : List ByteArray} {x : ByteArray} (hx : x ∉ D) (hn : n x = true) : (todoR n D (x :: q))[(D.filter n).length]? = some x := by
  have h : (D.filter n) ++ [x] <+: todoR n D (x :: q) := by
    unfold todoR
    rw [List.filter_cons_of_pos hn]
    have e : putsL (D.filter n) (x :: q.filter n) = putsL (putL (D.filter n) x) (q.filter n) := rfl
    rw [e, put_out (fun e => hx (List.mem_filter.1 e).1)]
    exact puts_pre _
  obtain ⟨t, ht⟩ := h
  rw [← ht]
  simp
theorem todo_len_new {D : List ByteArray} {x : ByteArray} (hx : x ∉ D) (hn : n x = true) : ((putL D x).filter n).length = (D.filter n).length + 1 := by
  rw [put_out hx, List.filter_append]; simp [hn]
theorem todo_len_old {D : List ByteArray} {x : ByteArray} (h : x ∈ D ∨ n x = false) : ((putL D x).filter n).length = (D.filter n).length := by
  rcases h with h | h
  · rw [put_in h]
  · rw [put_filter, if_neg (by rw [h]; decide)]
theorem todo_nil (D : List ByteArray) : todoR n D [] = D.filter n := rfl
end Go.Proofs.YtmgcdfmgmpnonaaGreatDoor.ReM
/- How often each was heard of: the counts that the program keeps, beside the list of what was heard of. -/
namespace Go.Proofs.YtmgcdfmgmpnonaaGreatDoor.ReM
open Go.RowKit Go.Proofs.YtmgcdfmgmpnonaaGreatDoor.St Go.Proofs.YtmgcdfmgmpnonaaGreatDoor.PgM Go.Proofs.YtmgcdfmgmpnonaaGreatDoor.PgA Go.Proofs.YtmgcdfmgmpnonaaGreatDoor.Mp

/-- each of D was heard of, at most N times; nothing else was -/
def Cn (M : List (ByteArray × Value)) (D : List ByteArray) (N : Nat) : Prop := (∀ x, x ∉ D → getM M x = none) ∧ ∀ x ∈ D, ∃ n : Nat, getM M x = some (.int .i64 n) ∧ 1 ≤ n ∧ n ≤ N
variable {M : List (ByteArray × Value)} {D : List ByteArray} {N : Nat}
theorem cn_new : Cn [] [] 0 := ⟨fun _ _ => rfl, fun x hx => by cases hx⟩
theorem cn_put {x : ByteArray} {n : Nat} (h : Cn M D N) (h1 : 1 ≤ n) (h2 : n ≤ N + 1) : Cn (putM M x (.int .i64 n)) (putL D x) (N + 1) := by
  refine ⟨fun y hy => ?_, fun y hy => ?_⟩
  · have hyx : ¬ y = x := fun e => hy (put_mem.2 (Or.inr e))
    rw [get_put_other hyx]
    exact h.1 y fun e => hy (put_mem.2 (Or.inl e))
  · by_cases e : y = x
    · subst e
      exact ⟨n, get_put_same _ _ _, h1, h2⟩
    · rw [get_put_other e]
      rcases put_mem.1 hy with hy | hy
      · obtain ⟨k, h3, h4, h5⟩ := h.2 y hy
        exact ⟨k, h3, h4, by omega⟩
      · exact absurd hy e
theorem cn_first {x : ByteArray} (h : Cn M D N) : Cn (putM M x (.int .i64 1)) (putL D x) (N + 1) := cn_put (n := 1) h (Nat.le_refl _) (by omega)
/-- what is looked up: how often so far -/
theorem cn_get (h : Cn M D N) (x : ByteArray) : ∃ n : Nat, (getM M x).getD (.int .i64 0) = .int .i64 (n : Int) ∧ n ≤ N ∧ (x ∉ D → n = 0) ∧ (x ∈ D → 1 ≤ n) := by
  by_cases hx : x ∈ D
  · obtain ⟨n, h1, h2, h3⟩ := h.2 x hx
    exact ⟨n, by rw [h1]; rfl, h3, fun e => absurd hx e, fun _ => h2⟩
  · exact ⟨0, by rw [h.1 x hx]; rfl, Nat.zero_le _, fun _ => rfl, fun e => absurd e hx⟩
end Go.Proofs.YtmgcdfmgmpnonaaGreatDoor.ReM
/- What one comes to: what holds at each round of either side's loop. -/
namespace Go.Proofs.YtmgcdfmgmpnonaaGreatDoor.ReM
open Go.Proofs.YtmgcdfmgmpnonaaGreatDoor.St Go.Proofs.YtmgcdfmgmpnonaaGreatDoor.PgM Go.Proofs.YtmgcdfmgmpnonaaGreatDoor.PgA

/-- at a round of the growing list: R is what comes out at the end, U holds all that is ever heard of -/
def LI (ok : ByteArray → Bool) (next : ByteArray → List ByteArray) (R U : List ByteArray) (f i : Nat) (T out : List ByteArray) : Prop :=
  R = lstR ok next f i T out ∧ T.Nodup ∧ (∀ x ∈ T, x ∈ U) ∧ U.length ≤ i + f ∧ i ≤ T.length
variable {ok n : ByteArray → Bool} {next : ByteArray → List ByteArray} {R U : List ByteArray}
theorem li_new (T : List ByteArray) (h1 : T.Nodup) (h2 : ∀ x ∈ T, x ∈ U) : LI ok next (lstR ok next U.length 0 T []) U U.length 0 T [] := ⟨rfl, h1, h2, by omega, Nat.zero_le _⟩
theorem li_len {f i : Nat} {T out : List ByteArray} (h : LI ok next R U f i T out) : T.length ≤ U.length := nodup_len h.2.1 h.2.2.1
theorem li_end {f i : Nat} {T out : List ByteArray} (h : LI ok next R U f i T out) (hi : T.length ≤ i) : R = out := h.1.trans (lst_end hi)
theorem li_ok {f i : Nat} {T out : List ByteArray} (h : LI ok next R U f i T out) (hi : i < T.length) (hk : ok T[i] = true) (hn : ∀ y ∈ next T[i], y ∈ U) : ∃ f', LI ok next R U f' (i + 1) (putsL T (next T[i])) (out ++ [T[i]]) := by
  have hl := li_len h
  obtain ⟨h1, h2, h3, h4, h5⟩ := h
  cases f with
  | zero => omega
  | succ f =>
    refine ⟨f, h1.trans (lst_ok hi hk), puts_nodup h2, fun x hx => ?_, by omega, ?_⟩
    · rcases puts_mem.1 hx with hx | hx
      · exact h3 x hx
      · exact hn x hx
    · have := (puts_pre (xs := next T[i]) T).length_le; omega
theorem li_no {f i : Nat} {T out : List ByteArray} (h : LI ok next R U f i T out) (hi : i < T.length) (hk : ok T[i] = false) : ∃ f', LI ok next R U f' (i + 1) T out := by
  have hl := li_len h
  obtain ⟨h1, h2, h3, h4, h5⟩ := h
  cases f with
  | zero => omega
  | succ f => exact ⟨f, h1.trans (lst_no hi hk), h2, h3, by omega, by omega⟩

/-- at a round of the queue: D it let go by, q stands in it; V holds all that ever stands in it -/
def QI (ok n : ByteArray → Bool) (next : ByteArray → List ByteArray) (R U V : List ByteArray) (D q out : List ByteArray) : Prop :=
  (∃ f, LI ok next R U f (D.filter n).length (todoR n D q) out) ∧ D.Nodup ∧ (∀ x ∈ D, x ∈ V) ∧ (∀ x ∈ q, x ∈ V)
variable {V : List ByteArray}
theorem qi_len {D q out : List ByteArray} (h : QI ok n next R U V D q out) : D.length ≤ V.length := nodup_len h.2.1 h.2.2.1
theorem qi_end {D out : List ByteArray} (h : QI ok n next R U V D [] out) : R = out := by
  obtain ⟨⟨f, h⟩, _⟩ := h
  exact li_end h (by rw [todo_nil]; exact Nat.le_refl _)
theorem qi_put {D q : List ByteArray} {x : ByteArray} (h1 : D.Nodup) (h2 : ∀ y ∈ D, y ∈ V) (h3 : ∀ y ∈ x :: q, y ∈ V) : (putL D x).Nodup ∧ (∀ y ∈ putL D x, y ∈ V) ∧ ∀ y ∈ q, y ∈ V :=
  ⟨put_nodup h1, fun y hy => by
    rcases put_mem.1 hy with hy | hy
    · exact h2 y hy
    · subst hy; exact h3 y (List.mem_cons_self ..), fun y hy => h3 y (List.mem_cons_of_mem _ hy)⟩
theorem qi_new (S : List ByteArray) (h2 : ∀ x ∈ S, n x = true → x ∈ U) (h3 : ∀ x ∈ S, x ∈ V) : QI ok n next (lstR ok next U.length 0 (putsL [] (S.filter n)) []) U V [] S [] := by
  refine ⟨⟨U.length, ?_⟩, List.nodup_nil, (fun x hx => by cases hx), h3⟩
  exact li_new _ (puts_nodup List.nodup_nil) fun x hx => by
    rcases puts_mem.1 hx with hx | hx
    · cases hx
    · exact h2 x (List.mem_filter.1 hx).1 (List.mem_filter.1 hx).2
/-- a copy, or one that may not be looked at, goes by -/
theorem qi_skip {D q out : List ByteArray} {x : ByteArray} (h : QI ok n next R U V D (x :: q) out) (hx : x ∈ D ∨ ok x = false) : QI ok n next R U V (putL D x) q out := by
  obtain ⟨⟨f, h⟩, h1, h2, h3⟩ := h
  refine ⟨?_, qi_put h1 h2 h3⟩
  by_cases ho : x ∈ D ∨ n x = false
  · rw [todo_pop, todo_len_old ho]; exact ⟨f, h⟩
  · have hxD : x ∉ D := fun e => ho (Or.inl e)
    have hn : n x = true := by
      cases hq : n x with
      | true => rfl
      | false => exact absurd (Or.inr hq) ho
    have hk : ok x = false := hx.resolve_left hxD
    obtain ⟨hlt, he⟩ := List.getElem?_eq_some_iff.1 (todo_head (q := q) hxD hn)
    rw [todo_pop, todo_len_new hxD hn]
    exact li_no h hlt (by rw [he]; exact hk)
/-- one that may be looked at, and was not yet, is taken -/
theorem qi_take {D q out : List ByteArray} {x : ByteArray} (hok : ok x = true → n x = true) (h : QI ok n next R U V D (x :: q) out) (hx : x ∉ D) (hk : ok x = true) (hn : ∀ y ∈ next x, n y = true ∧ y ∈ U ∧ y ∈ V) : QI ok n next R U V (putL D x) (q ++ next x) (out ++ [x]) := by
  obtain ⟨⟨f, h⟩, h1, h2, h3⟩ := h
  obtain ⟨hlt, he⟩ := List.getElem?_eq_some_iff.1 (todo_head (q := q) hx (hok hk))
  obtain ⟨f', h'⟩ := li_ok h hlt (by rw [he]; exact hk) (by rw [he]; exact fun y hy => (hn y hy).2.1)
  rw [he] at h'
  obtain ⟨p1, p2, p3⟩ := qi_put h1 h2 h3
  refine ⟨⟨f', ?_⟩, p1, p2, fun y hy => ?_⟩
  · rw [todo_more _ _ _ fun y hy => (hn y hy).1, todo_pop, todo_len_new hx (hok hk)]; exact h'
  · rcases List.mem_append.1 hy with hy | hy
    · exact p3 y hy
    · exact (hn y hy).2.2
end Go.Proofs.YtmgcdfmgmpnonaaGreatDoor.ReM
/- Where pages lead: lists in which each stands once. -/
namespace Go.Proofs.YtmgcdfmgmpnonaaGreatDoor.PgA
open Go.RowKit Go.Proofs.YtmgcdfmgmpnonaaGreatDoor.EscM Go.Proofs.YtmgcdfmgmpnonaaGreatDoor.St Go.Proofs.YtmgcdfmgmpnonaaGreatDoor.AddrM Go.Proofs.YtmgcdfmgmpnonaaGreatDoor.ReadM Go.Proofs.YtmgcdfmgmpnonaaGreatDoor.EscL Go.Proofs.YtmgcdfmgmpnonaaGreatDoor.Ad1 Go.Proofs.YtmgcdfmgmpnonaaGreatDoor.Dr Go.Proofs.YtmgcdfmgmpnonaaGreatDoor.Im Go.Proofs.YtmgcdfmgmpnonaaGreatDoor.Rd1 Go.Proofs.YtmgcdfmgmpnonaaGreatDoor.Door Go.Proofs.YtmgcdfmgmpnonaaGreatDoor.JnM Go.Proofs.YtmgcdfmgmpnonaaGreatDoor.Jn Go.Proofs.YtmgcdfmgmpnonaaGreatDoor.PgM Go.Proofs.YtmgcdfmgmpnonaaGreatDoor.RB

theorem has_take {L : List ByteArray} {k : Nat} {x : ByteArray} (h : k < L.length) (hn : x ∉ L.take k) (he : ¬ L[k] = x) : x ∉ L.take (k + 1) := by
  rw [List.take_succ_eq_append_getElem h, List.mem_append]
  rintro (h' | h')
  · exact hn h'
  · simp at h'; exact he h'.symm

set_option maxRecDepth 100000 in
set_option maxHeartbeats 1600000 in
theorem index_any (a0 : Option Addr) (cap : Nat) (L : List ByteArray) (x : ByteArray) (w : World) (hA : IsStrs w a0 cap L) (hl : L.length ≤ 4194304) :
    Calls Tryz.prog 115 #[.slice a0 L.length cap, .string x] w fun e w' => (∃ z : Int, e = .returned (.int .i64 z) ∧ (0 ≤ z ↔ hasB x L = true)) ∧ ∃ n, w' = w.drewN n := by
  have HA : Hid (IsStrs w a0 cap L) := hA
  clear hA
  go_enter Tryz.func115, Tryz.ntmps115
  go_wp2
  go_loopw [8] (fun i wr => ∃ k : Nat, k ≤ L.length ∧ i = .int .i64 (k : Int) ∧ Hid (x ∉ L.take k) ∧ Hid (∃ n, wr = w.drewN n)) (fun i _ => L.length - (intOf i).toNat)
  case atStart => exact ⟨0, Nat.zero_le _, rfl, by show x ∉ _; simp, ⟨0, rfl⟩⟩
  case round =>
    obtain ⟨k, hk, rfl, HN, HW⟩ := hrel
    by_cases hlt : k < L.length
    · have hpw := HW.out
      obtain ⟨n, hn⟩ := hpw
      obtain ⟨b1, o1, e1, c1⟩ := (IsStrs.drewN HA.out n).at hlt
      rw [← hn] at c1
      clear hn
      subst e1
      cases he : (x.toList == L[k].toList) with
      | true =>
        have HE : Hid (hasB x L = true) := by
          apply hasB_iff.2
          rw [str_eq_iff] at he
          have := of_decide_eq_true he
          rw [this]; exact List.getElem_mem hlt
        go_wp2
        go_ret
        exact ⟨⟨_, rfl, by rw [HE.out]; simp⟩, HW.out⟩
      | false =>
        have HE : Hid (x ∉ L.take (k + 1)) := by
          rw [str_eq_iff] at he
          exact has_take hlt HN.out (fun e => of_decide_eq_false he e.symm)
        go_wp2
        go_roundw
        case rel => exact ⟨k + 1, by omega, by go_num, HE, HW⟩
        case measure => simp [intOf]; omega
    · have HE : Hid (hasB x L = false) := by
        apply hasB_no.2
        have e1 : L.take k = L := List.take_of_length_le (by omega)
        rw [← e1]; exact HN.out
      go_wp2
      go_ret
      exact ⟨⟨-1, rfl, by rw [HE.out]; simp⟩, HW.out⟩
theorem contains_any (a0 : Option Addr) (cap : Nat) (L : List ByteArray) (x : ByteArray) (w : World) (hA : IsStrs w a0 cap L) (hl : L.length ≤ 4194304) :
    Calls Tryz.prog 82 #[.slice a0 L.length cap, .string x] w fun e w' => e = .returned (.bool (hasB x L)) ∧ ∃ n, w' = w.drewN n := by
  have HA : Hid (IsStrs w a0 cap L) := hA
  clear hA
  go_enter Tryz.func82, Tryz.ntmps82
  go_wp2_with fail
  refine (index_any a0 cap L x _ HA.out hl).mono ?_
  rintro e w1 ⟨⟨z, rfl, hz⟩, n, rfl⟩
  have HZ : Hid (decide (0 ≤ z) = hasB x L) := by
    show _ = _
    rw [Bool.eq_iff_iff, decide_eq_true_eq]; exact hz
  clear hz
  go_wp2
  go_ret
  exact ⟨ret_bool HZ.out, n, rfl⟩

set_option maxRecDepth 100000 in
set_option maxHeartbeats 1600000 in
theorem put_any (base : Nat) (v : Value) (L : List ByteArray) (x : ByteArray) (w : World) (hO : Owns w base v L) (hb : base ≤ w.heap.size) (hl : L.length ≤ 100000) :
    Calls Tryz.prog 69 #[v, .string x] w fun e w' => ∃ v', e = .returned v' ∧ Owns w' base v' (putL L x) ∧ w.grownBy w' v.ownBlock ∧ (v'.ownBlock = v.ownBlock ∨ ∃ g, v'.ownBlock = some g ∧ w.heap.size ≤ g) := by
  obtain ⟨i0, hi, hz0, hz1, hz2⟩ := info_parts Tryz.infoS
  obtain ⟨a0, cap, hv, hS⟩ := hO.strs
  subst hv
  have HO : Hid (Owns w base (.slice a0 L.length cap) L) := hO
  have HA : Hid (IsStrs w a0 cap L) := hS
  clear hO hS
  go_enter Tryz.func69, Tryz.ntmps69
  go_wp2
  go_loop [5] (fun i => ∃ k : Nat, k ≤ L.length ∧ i = .int .i64 (k : Int) ∧ Hid (x ∉ L.take k)) (fun i => L.length - (intOf i).toNat)
  case atStart => exact ⟨0, Nat.zero_le _, rfl, by show x ∉ _; simp⟩
  case round =>
    obtain ⟨k, hk, rfl, HN⟩ := hrel
    by_cases hlt : k < L.length
    · obtain ⟨b1, o1, e1, c1⟩ := HA.out.at hlt
      subst e1
      cases he : (L[k].toList == x.toList) with
      | true =>
        have HE : Hid (putL L x = L) := by
          show _ = _
          rw [str_eq_iff] at he
          have := of_decide_eq_true he
          unfold putL
          rw [hasB_iff.2 (by rw [← this]; exact List.getElem_mem hlt)]; rfl
        go_wp2
        go_ret
        exact ⟨_, rfl, by rw [HE.out]; exact HO.out, Dr.grown_refl _ _, Or.inl rfl⟩
      | false =>
        have HE : Hid (x ∉ L.take (k + 1)) := by
          rw [str_eq_iff] at he
          exact has_take hlt HN.out (of_decide_eq_false he)
        go_wp2
        go_round
        case rel => exact ⟨k + 1, by omega, by go_num, HE⟩
        case measure => simp [intOf]; omega
    · have HE : Hid (putL L x = L ++ [x]) := by
        show _ = _
        have e1 : L.take k = L := List.take_of_length_le (by omega)
        have hn := HN.out
        rw [e1] at hn
        unfold putL
        rw [hasB_no.2 hn]; rfl
      go_wp2_with (at_builtin; refine wpList_append_lies _ rfl _ _ 26 rfl base 9 i0 (.string ⟨#[]⟩) 1 16 Tryz.underlying26 hi hz0 hz1 hz2 rfl (by decide) _ _ _ rfl (World.ownsRow.alloc HO.out _) ⟨w.heap.size, 0, none⟩ 1 1 [.string x] rfl rfl (cell_one_new _ _ _) ?c2 (by omega) ?c3 ?c4 ?c5 (w.heap.size + 1) ?c6 ?_)
      case c2 => first | rfl | (intro u hu; simp at hu; subst hu; rfl)
      case c3 => unfold maxLen; omega
      case c4 => omega
      case c5 => first | omega | (simp; omega)
      intro g c2 w2 hown' hgrow hat _
      have HO' : Hid _ := hown'
      have HG : Hid (w.grownBy w2 (Value.slice a0 L.length cap).ownBlock) := Dr.grown_trans (grown_alloc w _ _) hgrow
      have HAT : Hid ((Value.slice (some ⟨g, 0, none⟩) (L.length + 1) c2).ownBlock = (Value.slice a0 L.length cap).ownBlock ∨ ∃ g', (Value.slice (some ⟨g, 0, none⟩) (L.length + 1) c2).ownBlock = some g' ∧ w.heap.size ≤ g') := by
        rcases hat with h | h
        · exact Or.inl h.symm
        · exact Or.inr ⟨g, rfl, by omega⟩
      clear hown' hgrow hat
      go_wp2
      go_ret
      exact ⟨_, rfl, by rw [HE.out]; exact Owns.append HO'.out, HG.out, HAT.out⟩
theorem strs_apart {w w' : World} {a0 : Option Addr} {cap : Nat} {L : List ByteArray} {row : Option Nat} (h : IsStrs w a0 cap L) (hg : w.grownBy w' row) (hne : ∀ a, a0 = some a → row ≠ some a.block) : IsStrs w' a0 cap L := by
  obtain ⟨h1, h2, h3, h4⟩ := h
  refine ⟨h1, h2, h3, fun hn => ?_⟩
  obtain ⟨b, off, e, hc⟩ := h4 hn
  refine ⟨b, off, e, fun i hi => ?_⟩
  have hb := St.cell_block (hc i hi)
  rw [World.cell?_of_block (w := w) (hg.block _ hb (fun e' => hne _ e e'.symm))]; exact hc i hi
end Go.Proofs.YtmgcdfmgmpnonaaGreatDoor.PgA
/- Which bytes a page's marks have: any. -/
namespace Go.Proofs.YtmgcdfmgmpnonaaGreatDoor.PgA
open Go.RowKit Go.Proofs.YtmgcdfmgmpnonaaGreatDoor.EscM Go.Proofs.YtmgcdfmgmpnonaaGreatDoor.St Go.Proofs.YtmgcdfmgmpnonaaGreatDoor.AddrM Go.Proofs.YtmgcdfmgmpnonaaGreatDoor.ReadM Go.Proofs.YtmgcdfmgmpnonaaGreatDoor.EscL Go.Proofs.YtmgcdfmgmpnonaaGreatDoor.Ad1 Go.Proofs.YtmgcdfmgmpnonaaGreatDoor.Dr Go.Proofs.YtmgcdfmgmpnonaaGreatDoor.Im Go.Proofs.YtmgcdfmgmpnonaaGreatDoor.Rd1 Go.Proofs.YtmgcdfmgmpnonaaGreatDoor.Door Go.Proofs.YtmgcdfmgmpnonaaGreatDoor.JnM Go.Proofs.YtmgcdfmgmpnonaaGreatDoor.Jn Go.Proofs.YtmgcdfmgmpnonaaGreatDoor.PgM Go.Proofs.YtmgcdfmgmpnonaaGreatDoor.RB

def asc (_ : ByteArray) : Prop := True
theorem marks_ascii {t : ByteArray} (_ : asc t) : ∀ x ∈ marksF t, ascii x := fun _ _ => trivial
theorem links_ascii {t : ByteArray} (_ : asc t) : ∀ x ∈ linksF t, ascii x := fun _ _ => trivial
theorem base_ascii {t : ByteArray} (_ : asc t) : ascii (baseF t).1 := trivial
end Go.Proofs.YtmgcdfmgmpnonaaGreatDoor.PgA
/- Where pages lead: the program's. -/
namespace Go.Proofs.YtmgcdfmgmpnonaaGreatDoor.PgA
open Go.RowKit Go.Proofs.YtmgcdfmgmpnonaaGreatDoor.EscM Go.Proofs.YtmgcdfmgmpnonaaGreatDoor.St Go.Proofs.YtmgcdfmgmpnonaaGreatDoor.AddrM Go.Proofs.YtmgcdfmgmpnonaaGreatDoor.ReadM Go.Proofs.YtmgcdfmgmpnonaaGreatDoor.EscL Go.Proofs.YtmgcdfmgmpnonaaGreatDoor.Ad1 Go.Proofs.YtmgcdfmgmpnonaaGreatDoor.Dr Go.Proofs.YtmgcdfmgmpnonaaGreatDoor.Im Go.Proofs.YtmgcdfmgmpnonaaGreatDoor.Rd1 Go.Proofs.YtmgcdfmgmpnonaaGreatDoor.Door Go.Proofs.YtmgcdfmgmpnonaaGreatDoor.JnM Go.Proofs.YtmgcdfmgmpnonaaGreatDoor.Jn Go.Proofs.YtmgcdfmgmpnonaaGreatDoor.PgM Go.Proofs.YtmgcdfmgmpnonaaGreatDoor.RB Go.Proofs.YtmgcdfmgmpnonaaGreatDoor.Pg

set_option maxRecDepth 100000 in
set_option maxHeartbeats 3200000 in
theorem from_any (A : Ad) (t : ByteArray) (a0 : Option Addr) (cap : Nat) (w : World) (hM : Mx w) (hS : IsStrs w a0 cap A.parts) (hB : bulkA A ≤ 1000) (ht : t.size ≤ 4194304) (ha : asc t) :
    Calls Tryz.prog 165 #[.agg #[.string A.house, .slice a0 A.parts.length cap, .bool A.asks, .string A.ask], .string t] w fun e w' => ∃ a1 c1, e = .returned (.agg #[.string (fromF A t).house, .slice a1 (fromF A t).parts.length c1, .bool (fromF A t).asks, .string (fromF A t).ask]) ∧ IsStrs w' a1 c1 (fromF A t).parts ∧ Below w.heap.size w w' := by
  have HS : Hid (IsStrs w a0 cap A.parts) := hS
  have HM : Hid (Mx w) := hM
  have HBA : Hid (ascii (baseF t).1) := base_ascii ha
  have hbs := base_size t
  have HF : Hid (fromF A t = if (baseF t).2 then (match joinF A (baseF t).1.data.toList with | some B => B | none => A) else A) := rfl
  have htm : t.size ≤ maxLen := by unfold maxLen; omega
  have HIB : Hid _ := fun W => implBase_any t W htm
  clear hS hM ha
  generalize (baseF t).1 = ref at *
  generalize (baseF t).2 = told at *
  generalize fromF A t = R at *
  go_enter Tryz.func165, Tryz.ntmps165
  go_wp2_with fail
  refine (HIB.out _).mono ?_
  rintro e w1 ⟨rfl, hb1⟩
  have HB1 : Hid (Below (w.heap.size + 1 + 1) ((w.alloc (.cells #[.string A.house, .slice a0 A.parts.length cap, .bool A.asks, .string A.ask] 41)).alloc (.cells #[.string ⟨#[]⟩, .slice none 0 0, .bool false, .string ⟨#[]⟩] 41)) w1) := hb1.mono (by simp)
  have hb1' := HB1.out
  obtain ⟨⟨c0, c1, c2, c3⟩, ⟨d0, d1, d2, d3⟩, dz⟩ := two_cells hb1'
  clear hb1 hb1'
  cases told with
  | false =>
    have HR : Hid (R = A) := by show _ = _; rw [HF.out]; rfl
    clear HF
    go_wp2
    refine bodyPost_ret (v := .agg #[.string A.house, .slice a0 A.parts.length cap, .bool A.asks, .string A.ask]) (by simp [results, Tryz.results165, go_sem, d0, d1, d2, d3]) rfl ?_
    rw [HR.out]
    have hbw : Below w.heap.size w ((((w1.setCell ⟨w.heap.size + 1, 0, none⟩ (.string A.house)).setCell ⟨w.heap.size + 1, 1, none⟩ (.slice a0 A.parts.length cap)).setCell ⟨w.heap.size + 1, 2, none⟩ (.bool A.asks)).setCell ⟨w.heap.size + 1, 3, none⟩ (.string A.ask)) := by
      iterate 4 refine Below.setCell ?_ (by dsimp only; omega) _
      exact two_below HB1.out
    exact ⟨a0, cap, rfl, HS.out.below hbw, hbw⟩
  | true =>
    have HM1 : Hid (Mx w1) := HM.out.keep fun k hk => (two_below HB1.out).block k hk
    have HS1 : Hid (IsStrs w1 a0 cap A.parts) := HS.out.below (two_below HB1.out)
    go_wp2_with fail
    refine (implJoin_page A ref a0 cap _ HM1.out HS1.out hB hbs HBA.out).mono ?_
    rintro e w2 ⟨B, ok, x1, y1, rfl, hans, hO, hb2⟩
    have HB2 : Hid _ := two_next HB1.out hb2
    have HB3 : Hid _ := two_next HB2.out ((Below.refl _ w2).alloc (Nat.le_refl _) (.cells #[.string B.house, .slice x1 B.parts.length y1, .bool B.asks, .string B.ask] 41))
    have HO2 : Hid (Owns w2 w1.heap.size (.slice x1 B.parts.length y1) B.parts) := hO
    have hz1 : w.heap.size + 1 + 1 ≤ w1.heap.size := by have := HB1.out.size; simp at this; omega
    have hz2 : w.heap.size + 1 + 1 ≤ w2.heap.size := by have := HB2.out.size; simp at this; omega
    clear hO hb2 c0 c1 c2 c3 d0 d1 d2 d3 dz HB1
    have hb2' := HB3.out
    obtain ⟨⟨c0, c1, c2, c3⟩, ⟨d0, d1, d2, d3⟩, dz⟩ := two_cells hb2'
    clear hb2'
    rcases hans with ⟨rfl, hj⟩ | ⟨rfl, hj, rfl⟩
    · have HR : Hid (R = B) := by show _ = _; rw [HF.out, hj]; rfl
      clear HF hj
      go_wp2
      refine bodyPost_ret (v := .agg #[.string B.house, .slice x1 B.parts.length y1, .bool B.asks, .string B.ask]) (by simp [results, Tryz.results165, go_sem, d0, d1, d2, d3]) rfl ?_
      rw [HR.out]
      refine ⟨x1, y1, rfl, Owns.strsOf (base := w1.heap.size) (n := B.parts.length) ?_, ?_⟩
      · have hO := Owns.keep HO2.out (alloc_keep w2 (.cells #[.string B.house, .slice x1 B.parts.length y1, .bool B.asks, .string B.ask] 41))
        iterate 4 refine ownsRow_setCell_below ?_ (by dsimp only; omega) _
        exact hO
      · have hbw := two_below HB3.out
        iterate 4 refine Below.setCell ?_ (by dsimp only; omega) _
        exact hbw
    · have HR : Hid (R = A) := by show _ = _; rw [HF.out, hj]; rfl
      clear HF hj
      go_wp2
      refine bodyPost_ret (v := .agg #[.string A.house, .slice a0 A.parts.length cap, .bool A.asks, .string A.ask]) (by simp [results, Tryz.results165, go_sem, d0, d1, d2, d3]) rfl ?_
      rw [HR.out]
      have hbw := two_below HB3.out
      refine ⟨a0, cap, rfl, HS.out.below ?_, ?_⟩
      · iterate 4 refine Below.setCell ?_ (by dsimp only; omega) _
        exact hbw
      · iterate 4 refine Below.setCell ?_ (by dsimp only; omega) _
        exact hbw
end Go.Proofs.YtmgcdfmgmpnonaaGreatDoor.PgA
/- Where pages lead: the program's PageAddrs. -/
namespace Go.Proofs.YtmgcdfmgmpnonaaGreatDoor.PgA
open Go.RowKit Go.Proofs.YtmgcdfmgmpnonaaGreatDoor.EscM Go.Proofs.YtmgcdfmgmpnonaaGreatDoor.St Go.Proofs.YtmgcdfmgmpnonaaGreatDoor.AddrM Go.Proofs.YtmgcdfmgmpnonaaGreatDoor.ReadM Go.Proofs.YtmgcdfmgmpnonaaGreatDoor.EscL Go.Proofs.YtmgcdfmgmpnonaaGreatDoor.Ad1 Go.Proofs.YtmgcdfmgmpnonaaGreatDoor.Dr Go.Proofs.YtmgcdfmgmpnonaaGreatDoor.Im Go.Proofs.YtmgcdfmgmpnonaaGreatDoor.Rd1 Go.Proofs.YtmgcdfmgmpnonaaGreatDoor.Door Go.Proofs.YtmgcdfmgmpnonaaGreatDoor.JnM Go.Proofs.YtmgcdfmgmpnonaaGreatDoor.Jn Go.Proofs.YtmgcdfmgmpnonaaGreatDoor.PgM Go.Proofs.YtmgcdfmgmpnonaaGreatDoor.RB Go.Proofs.YtmgcdfmgmpnonaaGreatDoor.Pg

set_option maxRecDepth 100000 in
set_option maxHeartbeats 6400000 in
theorem implPage_any (A : Ad) (t : ByteArray) (a0 : Option Addr) (cap : Nat) (w : World) (hM : Mx w) (hS : IsStrs w a0 cap A.parts) (hB : bulkA A ≤ 1000) (ht : t.size ≤ 4194304) (ha : asc t) :
    Calls Tryz.prog 139 #[.agg #[.string A.house, .slice a0 A.parts.length cap, .bool A.asks, .string A.ask], .string t] w fun e w' => ∃ v, e = .returned v ∧ Owns w' w.heap.size v (pageF A t) ∧ Below w.heap.size w w' := by
  obtain ⟨i0, hi, hz0, hz1, hz2⟩ := info_parts Tryz.infoS
  have hb4 : bulkA A ≤ 4194304 := by omega
  have HS : Hid (IsStrs (w.alloc (.cells #[.string A.house, .slice a0 A.parts.length cap, .bool A.asks, .string A.ask] 41)) a0 cap A.parts) := hS.keep (alloc_keep _ _)
  have HM : Hid (Mx (w.alloc (.cells #[.string A.house, .slice a0 A.parts.length cap, .bool A.asks, .string A.ask] 41))) := hM.alloc _
  have HB0 : Hid (Below w.heap.size w (w.alloc (.cells #[.string A.house, .slice a0 A.parts.length cap, .bool A.asks, .string A.ask] 41))) := (Below.refl _ w).alloc (Nat.le_refl _) _
  have HX0 : Hid (Box (w.alloc (.cells #[.string A.house, .slice a0 A.parts.length cap, .bool A.asks, .string A.ask] 41)) w.heap.size (.string A.house) (.slice a0 A.parts.length cap) (.bool A.asks) (.string A.ask)) := heap_new w _
  have htm : t.size ≤ maxLen := by unfold maxLen; omega
  have HAS : Hid (asc t) := ha
  clear hS hM ha
  go_enter Tryz.func139, Tryz.ntmps139
  go_wp2_with fail
  refine (implOk_any A a0 cap _ HS.out hb4).mono ?_
  rintro e w1 ⟨rfl, hb1⟩
  have HS1 : Hid (IsStrs w1 a0 cap A.parts) := HS.out.below hb1
  have HM1 : Hid (Mx w1) := HM.out.below hb1
  have HB1 : Hid (Below w.heap.size w w1) := HB0.out.trans (hb1.mono HB0.out.size)
  have HX1 : Hid (Box w1 w.heap.size (.string A.house) (.slice a0 A.parts.length cap) (.bool A.asks) (.string A.ask)) := HX0.out.grown (grown_of_below none hb1) (by simp)
  clear hb1 HS HM HB0 HX0
  have hx := HX1.out
  obtain ⟨⟨c0, c1, c2, c3⟩, _⟩ := hx.cells
  clear hx
  cases hok : okB A with
  | false =>
    have HF : Hid _ := page_bad (t := t) hok
    clear hok
    go_wp2
    go_ret
    exact ⟨_, rfl, by rw [HF.out]; exact Owns.nil _ _, HB1.out⟩
  | true =>
    have HF : Hid _ := page_ok (t := t) hok
    have HBK : Hid _ := from_bulk (t := t) hok
    clear hok
    go_wp2_with fail
    refine (from_any A t a0 cap _ HM1.out HS1.out hB ht HAS.out).mono ?_
    rintro e w2 ⟨f1, g1, rfl, hS2, hb2⟩
    have HMK : Hid (∀ x ∈ linksF t, ascii x) := links_ascii HAS.out
    have HLS : Hid _ := links_size t
    have hll := links_len t
    generalize fromF A t = B at *
    have HS2 : Hid (IsStrs (w2.alloc (.cells #[.string B.house, .slice f1 B.parts.length g1, .bool B.asks, .string B.ask] 41)) f1 g1 B.parts) := hS2.keep (alloc_keep _ _)
    have hba := hb2.alloc hb2.size (.cells #[.string B.house, .slice f1 B.parts.length g1, .bool B.asks, .string B.ask] 41)
    have HM2 : Hid (Mx (w2.alloc (.cells #[.string B.house, .slice f1 B.parts.length g1, .bool B.asks, .string B.ask] 41))) := HM1.out.below hba
    have HB2 : Hid (Below w.heap.size w (w2.alloc (.cells #[.string B.house, .slice f1 B.parts.length g1, .bool B.asks, .string B.ask] 41))) := HB1.out.trans (hba.mono HB1.out.size)
    have HX2 : Hid (Box (w2.alloc (.cells #[.string B.house, .slice f1 B.parts.length g1, .bool B.asks, .string B.ask] 41)) w2.heap.size (.string B.house) (.slice f1 B.parts.length g1) (.bool B.asks) (.string B.ask)) := heap_new w2 _
    have hw2 : w.heap.size ≤ w2.heap.size := Nat.le_trans HB1.out.size hb2.size
    obtain ⟨G, hG⟩ : ∃ G, w2.heap.size = G := ⟨_, rfl⟩
    rw [hG] at HX2 hw2
    clear hS2 hb2 hba c0 c1 c2 c3 HX1 HS1 HM1 HB1
    go_wp2_with fail
    refine (implLinks_any t _ htm).mono ?_
    rintro e w3 ⟨v3, rfl, hO3, hb3⟩
    obtain ⟨l1, m1, hv3, hS3⟩ := hO3.strs
    subst hv3
    have HL3 : Hid (IsStrs w3 l1 m1 (linksF t)) := hS3
    have HS3 : Hid (IsStrs w3 f1 g1 B.parts) := HS2.out.below hb3
    have HM3 : Hid (Mx w3) := HM2.out.below hb3
    have HB3 : Hid (Below w.heap.size w w3) := HB2.out.trans (hb3.mono HB2.out.size)
    have HX3 : Hid (Box w3 G (.string B.house) (.slice f1 B.parts.length g1) (.bool B.asks) (.string B.ask)) := HX2.out.grown (grown_of_below none hb3) (by simp)
    have hGw : G < w3.heap.size := HX3.out.lt
    clear hO3 hS3 hb3 HS2 HM2 HB2 HX2
    generalize linksF t = K at *
    go_wp2
    go_loopw [6, 21] (fun v i wr => ∃ k : Nat, k ≤ K.length ∧ i = .int .i64 (k : Int) ∧ Hid (Owns wr w3.heap.size v (pageL B (K.take k))) ∧ Hid (Below w3.heap.size w3 wr)) (fun _ i _ => K.length - (intOf i).toNat)
    case atStart => exact ⟨0, Nat.zero_le _, rfl, Owns.nil _ _, Below.refl _ _⟩
    case round =>
      obtain ⟨k, hk, rfl, HO, HB⟩ := hrel
      by_cases hlt : k < K.length
      · obtain ⟨lb, lo, e1, cl⟩ := (HL3.out.below HB.out).at hlt
        subst e1
        have HXr : Hid (Box wr G (.string B.house) (.slice f1 B.parts.length g1) (.bool B.asks) (.string B.ask)) := HX3.out.grown (grown_of_below none HB.out) (by simp)
        have hx := HXr.out
        obtain ⟨⟨c0, c1, c2, c3⟩, _⟩ := hx.cells
        clear hx
        have hks := HLS.out K[k] (List.getElem_mem _)
        have HKA : Hid (ascii K[k]) := HMK.out K[k] (List.getElem_mem _)
        have HSN : Hid _ := page_snoc (B := B) hlt
        have hacc : (pageL B (K.take k)).length ≤ 300 := by
          have := pageL_len B (K.take k) []
          unfold pageL
          simp at this ⊢; omega
        obtain ⟨ao, co, hv, hso⟩ := HO.out.strs
        subst hv
        clear hso
        obtain ⟨acc, hac⟩ : ∃ acc, pageL B (K.take k) = acc := ⟨_, rfl⟩
        rw [hac] at HO HSN hacc
        simp only [hac]
        clear hac
        go_wp2_with fail
        refine (implJoin_page B K[k] f1 g1 _ (HM3.out.below HB.out) (HS3.out.below HB.out) HBK.out hks HKA.out).mono ?_
        rintro e w4 ⟨C, ok, x1, y1, rfl, hans, hOC, hb4'⟩
        have HO4 : Hid (Owns (w4.alloc (.cells #[.string C.house, .slice x1 C.parts.length y1, .bool C.asks, .string C.ask] 41)) w3.heap.size (.slice ao acc.length co) acc) := Owns.keep (Owns.below HO.out hb4') (alloc_keep _ _)
        have HB4 : Hid (Below w3.heap.size w3 (w4.alloc (.cells #[.string C.house, .slice x1 C.parts.length y1, .bool C.asks, .string C.ask] 41))) := (HB.out.trans (hb4'.mono HB.out.size)).alloc (HB.out.trans (hb4'.mono HB.out.size)).size _
        have HSC : Hid (IsStrs (w4.alloc (.cells #[.string C.house, .slice x1 C.parts.length y1, .bool C.asks, .string C.ask] 41)) x1 y1 C.parts) := (Owns.strsOf hOC).keep (alloc_keep _ _)
        clear hOC hb4' c0 c1 c2 c3 cl HXr
        rcases hans with ⟨rfl, hj⟩ | ⟨rfl, hj, rfl⟩
        · have HN : Hid (pageL B (K.take (k + 1)) = putL acc (textF C)) := by show _ = _; rw [HSN.out]; unfold pageStep; rw [hj]
          have hCb : bulkA C ≤ 4194304 := Nat.le_trans (ok_sum (join_ok hj)).2 (by decide)
          clear hj HSN
          go_wp2_with fail
          refine (implAddrText_any C x1 y1 _ HSC.out hCb).mono ?_
          rintro e w5 ⟨rfl, hb5⟩
          have HO5 : Hid (Owns w5 w3.heap.size (.slice ao acc.length co) acc) := Owns.below HO4.out hb5
          have HB5 : Hid (Below w3.heap.size w3 w5) := HB4.out.trans (hb5.mono HB4.out.size)
          clear hb5 HO4 HB4 HSC
          generalize textF C = tx at *
          go_wp2_with fail
          refine (contains_any ao co acc tx _ (Owns.strsOf HO5.out) (by omega)).mono ?_
          rintro e w6 ⟨rfl, n6, hw6⟩
          have HO6 : Hid (Owns w6 w3.heap.size (.slice ao acc.length co) acc) := by rw [hw6]; exact Owns.keep HO5.out fun _ _ => rfl
          have HB6 : Hid (Below w3.heap.size w3 w6) := by rw [hw6]; exact below_drewN HB5.out n6
          clear hw6 HO5 HB5
          cases hh : hasB tx acc with
          | true =>
            have HP : Hid (putL acc tx = acc) := by show _ = _; unfold putL; rw [hh]; rfl
            clear hh
            go_wp2
            go_roundw
            case rel => exact ⟨k + 1, by omega, by go_num, by rw [HN.out, HP.out]; exact HO6, HB6⟩
            case measure => simp [intOf]; omega
          | false =>
            have HP : Hid (putL acc tx = acc ++ [tx]) := by show _ = _; unfold putL; rw [hh]; rfl
            clear hh
            go_wp2_with (at_builtin; refine wpList_append_own _ rfl _ _ 26 rfl w3.heap.size 9 i0 (.string ⟨#[]⟩) 1 16 Tryz.underlying26 hi hz0 hz1 hz2 rfl (by decide) _ _ _ rfl (World.ownsRow.alloc HO6.out _) ⟨w6.heap.size, 0, none⟩ 1 1 [.string tx] rfl rfl (cell_one_new _ _ _) ?c2 ?c3 ?c4 ?c5 ?_)
            case c2 => first | rfl | (intro u hu; simp at hu; subst hu; rfl)
            case c3 => unfold maxLen; omega
            case c4 => omega
            case c5 => have := HB6.out.size; first | omega | (simp; omega)
            intro v' w7 hown' hgrow _
            have HO' : Hid (Owns w7 w3.heap.size v' (acc ++ [tx])) := Owns.append hown'
            have HB7 : Hid (Below w3.heap.size w3 w7) := Below.grown (HB6.out.alloc HB6.out.size _) hgrow (by have := HB6.out.size; simp; omega) (Owns.block HO6.out)
            clear hown' hgrow
            go_wp2
            go_roundw
            case rel => exact ⟨k + 1, by omega, by go_num, by rw [HN.out, HP.out]; exact HO', HB7⟩
            case measure => simp [intOf]; omega
        · have HN : Hid (pageL B (K.take (k + 1)) = acc) := by show _ = _; rw [HSN.out]; unfold pageStep; rw [hj]
          clear hj HSN
          go_wp2
          go_roundw
          case rel => exact ⟨k + 1, by omega, by go_num, by rw [HN.out]; exact HO4, HB4⟩
          case measure => simp [intOf]; omega
      · have HR : Hid (pageF A t = pageL B (K.take k)) := by show _ = _; rw [List.take_of_length_le (by omega)]; exact HF.out
        go_wp2
        go_ret
        exact ⟨_, rfl, by rw [HR.out]; exact Owns.mono HO.out HB3.out.size, HB3.out.trans (HB.out.mono HB3.out.size)⟩
end Go.Proofs.YtmgcdfmgmpnonaaGreatDoor.PgA
/- Where one comes from an address of a world. -/
namespace Go.Proofs.YtmgcdfmgmpnonaaGreatDoor.Wd
open Go.RowKit Go.Proofs.YtmgcdfmgmpnonaaGreatDoor.EscM Go.Proofs.YtmgcdfmgmpnonaaGreatDoor.AddrM Go.Proofs.YtmgcdfmgmpnonaaGreatDoor.ReadM Go.Proofs.YtmgcdfmgmpnonaaGreatDoor.St Go.Proofs.YtmgcdfmgmpnonaaGreatDoor.EscL Go.Proofs.YtmgcdfmgmpnonaaGreatDoor.PathM Go.Proofs.YtmgcdfmgmpnonaaGreatDoor.Ad1 Go.Proofs.YtmgcdfmgmpnonaaGreatDoor.Rd1 Go.Proofs.YtmgcdfmgmpnonaaGreatDoor.LibM Go.Proofs.YtmgcdfmgmpnonaaGreatDoor.Im Go.Proofs.YtmgcdfmgmpnonaaGreatDoor.RdA Go.Proofs.YtmgcdfmgmpnonaaGreatDoor.MkA Go.Proofs.YtmgcdfmgmpnonaaGreatDoor.Mp Go.Proofs.YtmgcdfmgmpnonaaGreatDoor.WdM Go.Proofs.YtmgcdfmgmpnonaaGreatDoor.RR Go.Proofs.YtmgcdfmgmpnonaaGreatDoor.RoPg Go.Proofs.YtmgcdfmgmpnonaaGreatDoor.PgA Go.Proofs.YtmgcdfmgmpnonaaGreatDoor.RB

/-- where what one got at A leads -/
def leadF (A : Ad) (k : Int × ByteArray) : List ByteArray := if k.1 = 1 then pageF A k.2 else if k.1 = 2 then [k.2] else []
theorem lead_one (A : Ad) (t : ByteArray) : leadF A (1, t) = pageF A t := rfl
theorem lead_two (A : Ad) (t : ByteArray) : leadF A (2, t) = [t] := rfl
theorem lead_no {A : Ad} {k : Int} {t : ByteArray} (h1 : ¬ k = 1) (h2 : ¬ k = 2) : leadF A (k, t) = [] := by unfold leadF; rw [if_neg h1, if_neg h2]
def fromW (L : List Pg) (a : ByteArray) : List ByteArray := if wOk L then (match normA a with | some A => leadF A (kindF L a 2) | none => []) else []
theorem fromW_bad {L : List Pg} {a : ByteArray} (h : wOk L = false) : fromW L a = [] := by unfold fromW; rw [h]; rfl
theorem fromW_none {L : List Pg} {a : ByteArray} (h : normA a = none) : fromW L a = [] := by unfold fromW; rw [h]; split <;> rfl
theorem fromW_ok {L : List Pg} {a : ByteArray} {A : Ad} (h : wOk L = true) (h2 : normA a = some A) : fromW L a = leadF A (kindF L a 2) := by unfold fromW; rw [h, h2]; rfl
def PgTx (L : List Pg) : Prop := ∀ p ∈ L, asc p.text
theorem norm_some {s : ByteArray} {A : Ad} (h : normA s = some A) : readF s.data.toList = some A ∧ textF A = s := by
  unfold normA at h
  cases hr : readF s.data.toList with
  | none => rw [hr] at h; cases h
  | some B =>
    rw [hr] at h
    dsimp only at h
    split at h
    · rename_i he
      injection h with e
      subst e
      refine ⟨rfl, ?_⟩
      have := eq_of_beq he
      rw [ByteArray.toList_eq, ByteArray.toList_eq] at this
      exact ByteArray.ext (Array.ext' this)
    · cases h
theorem read_le {s : ByteArray} {A : Ad} (h : readF s.data.toList = some A) : bulkA A ≤ 1000 := by
  have := OB.reads_bulk (A := A) (ok := true) (Or.inl ⟨rfl, h⟩)
  omega
theorem kind_text {L : List Pg} (hS : PgSz L) (a : ByteArray) (t : Int) : (kindF L a t).2.size ≤ 4194304 := by
  unfold kindF
  cases hf : L.find? (sameA a) with
  | none => exact Nat.zero_le _
  | some p =>
    have := hS p (List.mem_of_find?_eq_some hf)
    dsimp only
    split
    · exact Nat.zero_le _
    · split
      · exact this.2.1
      · exact this.2.2
theorem kind_asc {L : List Pg} (hT : PgTx L) (a : ByteArray) (t : Int) (h : (kindF L a t).1 = 1) : asc (kindF L a t).2 := by
  unfold kindF at h ⊢
  cases hf : L.find? (sameA a) with
  | none => rw [hf] at h; cases h
  | some p =>
    rw [hf] at h
    have := hT p (List.mem_of_find?_eq_some hf)
    dsimp only at h ⊢
    by_cases h0 : t < p.fails
    · rw [if_pos h0] at h; cases h
    · rw [if_neg h0] at h ⊢
      by_cases h1 : p.lead.toList.isEmpty = true
      · rw [if_pos h1]; exact this
      · rw [if_neg h1] at h; cases h
theorem lit_one (w : World) (base : Nat) (s : ByteArray) (hb : base ≤ w.heap.size) : Owns (w.alloc (.cells #[.string s] 9)) base (.slice (some ⟨w.heap.size, 0, none⟩) 1 1) [s] := by
  refine ⟨by simp [cellsS], Or.inr ⟨w.heap.size, 1, #[.string s], rfl, hb, ?_, Nat.le_refl _, by decide, rfl, by simp [cellsS]⟩⟩
  show (w.heap.push _)[w.heap.size]? = _
  simp

set_option maxRecDepth 100000 in
set_option maxHeartbeats 2000000 in
theorem leadsTo_any (A : Ad) (t : ByteArray) (k : Int) (a0 : Option Addr) (cap : Nat) (w : World) (hM : Mx w) (hS : IsStrs w a0 cap A.parts) (hB : bulkA A ≤ 1000) (ht : t.size ≤ 4194304) (ha : k = 1 → asc t) :
    Calls Tryz.prog 104 #[.agg #[.string A.house, .slice a0 A.parts.length cap, .bool A.asks, .string A.ask], .int .i64 k, .string t] w fun e w' => ∃ v, e = .returned v ∧ Owns w' w.heap.size v (leadF A (k, t)) ∧ Below w.heap.size w w' := by
  have HS : Hid (IsStrs w a0 cap A.parts) := hS
  have HM : Hid (Mx w) := hM
  clear hS hM
  by_cases h1 : k = 1
  · subst h1
    have HA : Hid (asc t) := ha rfl
    clear ha
    rw [lead_one]
    go_enter Tryz.func104, Tryz.ntmps104
    go_wp2_with fail
    refine (implPage_any A t a0 cap _ (HM.out.alloc _) (HS.out.keep (alloc_keep _ _)) hB ht HA.out).mono ?_
    rintro e w1 ⟨v, rfl, hO, hb⟩
    have HO : Hid (Owns w1 w.heap.size v (pageF A t)) := Owns.mono hO (by simp)
    have HB : Hid (Below w.heap.size w w1) := ((Below.refl _ w).alloc (Nat.le_refl _) _).trans (hb.mono (by simp))
    clear hO hb
    go_wp2
    go_ret
    exact ⟨_, rfl, HO.out, HB.out⟩
  · by_cases h2 : k = 2
    · subst h2
      rw [lead_two]
      go_enter Tryz.func104, Tryz.ntmps104
      go_wp2
      go_ret
      refine ⟨_, rfl, ?_, ?_⟩
      · have := lit_one (w.alloc (.cells #[.string A.house, .slice a0 A.parts.length cap, .bool A.asks, .string A.ask] 41)) w.heap.size t (by simp)
        rw [show (w.alloc (.cells #[.string A.house, .slice a0 A.parts.length cap, .bool A.asks, .string A.ask] 41)).heap.size = w.heap.size + 1 by simp] at this
        exact this
      · exact ((Below.refl _ w).alloc (Nat.le_refl _) _).alloc (by simp) _
    · rw [lead_no h1 h2]
      have hk1 : (k == 1) = false := by simpa using h1
      have hk2 : (k == 2) = false := by simpa using h2
      go_enter Tryz.func104, Tryz.ntmps104
      go_wp2
      go_ret
      exact ⟨_, rfl, Owns.nil _ _, (Below.refl _ w).alloc (Nat.le_refl _) _⟩

set_option maxRecDepth 100000 in
set_option maxHeartbeats 2000000 in
theorem getAtLast_any (b : Nat) (L : List Pg) (a : ByteArray) (w : World) (h : IsMap w b (entsL L)) :
    Calls Tryz.prog 76 #[.map (some b), .string a] w fun e w' => e = .returned (.tuple #[.int .i64 (kindF L a 2).1, .string (kindF L a 2).2]) ∧ Below w.heap.size w w' := by
  have HG : Hid _ := getAt_any b L a 2 w h
  generalize kindF L a 2 = R at *
  go_enter Tryz.func76, Tryz.ntmps76
  go_wp2_with fail
  refine Calls.mono HG.out ?_
  rintro e w1 ⟨rfl, hb⟩
  go_wp2
  go_ret2
  exact ⟨rfl, hb⟩

set_option maxRecDepth 100000 in
set_option maxHeartbeats 2000000 in
theorem fromAt_any (A : Ad) (b : Nat) (L : List Pg) (a0 : Option Addr) (cap : Nat) (w : World) (hM : Mx w) (hS : IsStrs w a0 cap A.parts) (hB : bulkA A ≤ 1000) (h : IsMap w b (entsL L)) (hz : PgSz L) (hT : PgTx L) :
    Calls Tryz.prog 68 #[.map (some b), .agg #[.string A.house, .slice a0 A.parts.length cap, .bool A.asks, .string A.ask]] w fun e w' => ∃ v, e = .returned v ∧ Owns w' w.heap.size v (leadF A (kindF L (textF A) 2)) ∧ Below w.heap.size w w' := by
  have HS : Hid (IsStrs (w.alloc (.cells #[.string A.house, .slice a0 A.parts.length cap, .bool A.asks, .string A.ask] 41)) a0 cap A.parts) := hS.keep (alloc_keep _ _)
  have HM : Hid (Mx (w.alloc (.cells #[.string A.house, .slice a0 A.parts.length cap, .bool A.asks, .string A.ask] 41))) := hM.alloc _
  have HP : Hid (IsMap (w.alloc (.cells #[.string A.house, .slice a0 A.parts.length cap, .bool A.asks, .string A.ask] 41)) b (entsL L)) := h.alloc _
  have HX : Hid (Bs 41 (w.alloc (.cells #[.string A.house, .slice a0 A.parts.length cap, .bool A.asks, .string A.ask] 41)) w.heap.size #[.string A.house, .slice a0 A.parts.length cap, .bool A.asks, .string A.ask]) := Bs.new _ _ _
  have HKT : Hid _ := kind_text hz (textF A) 2
  have HKA : Hid _ := kind_asc hT (textF A) 2
  have HB0 : Hid (Below w.heap.size w (w.alloc (.cells #[.string A.house, .slice a0 A.parts.length cap, .bool A.asks, .string A.ask] 41))) := (Below.refl _ w).alloc (Nat.le_refl _) _
  have HGL : Hid _ := fun W hW => getAtLast_any b L (textF A) W hW
  have HTX : Hid _ := fun W hW => implAddrText_any A a0 cap W hW (by omega)
  clear hS hM h hz hT
  generalize kindF L (textF A) 2 = R at *
  generalize textF A = t at *
  go_enter Tryz.func68, Tryz.ntmps68
  go_wp2_with fail
  refine (HTX.out _ HS.out).mono ?_
  rintro e w1 ⟨rfl, hb1⟩
  have HB1 : Hid (Below w.heap.size w w1) := HB0.out.trans (hb1.mono (by simp))
  have HS1 : Hid (IsStrs w1 a0 cap A.parts) := HS.out.below hb1
  have HM1 : Hid (Mx w1) := HM.out.below hb1
  have HP1 : Hid (IsMap w1 b (entsL L)) := HP.out.below hb1
  have HX1 : Hid (Bs 41 w1 w.heap.size #[.string A.house, .slice a0 A.parts.length cap, .bool A.asks, .string A.ask]) := HX.out.below hb1
  clear hb1 HS HM HP HX HB0
  go_wp2_with fail
  refine (HGL.out _ HP1.out).mono ?_
  rintro e w2 ⟨rfl, hb2⟩
  have HB2 : Hid (Below w.heap.size w w2) := HB1.out.trans (hb2.mono HB1.out.size)
  have HS2 : Hid (IsStrs w2 a0 cap A.parts) := HS1.out.below hb2
  have HM2 : Hid (Mx w2) := HM1.out.below hb2
  have HX2 : Hid (Bs 41 w2 w.heap.size #[.string A.house, .slice a0 A.parts.length cap, .bool A.asks, .string A.ask]) := HX1.out.below hb2
  clear hb2 HS1 HM1 HP1 HX1 HB1
  have c0 : w2.cell? ⟨w.heap.size, 0, none⟩ = some (.string A.house) := HX2.out.cell 0 rfl
  have c1 : w2.cell? ⟨w.heap.size, 1, none⟩ = some (.slice a0 A.parts.length cap) := HX2.out.cell 1 rfl
  have c2 : w2.cell? ⟨w.heap.size, 2, none⟩ = some (.bool A.asks) := HX2.out.cell 2 rfl
  have c3 : w2.cell? ⟨w.heap.size, 3, none⟩ = some (.string A.ask) := HX2.out.cell 3 rfl
  go_wp2_with fail
  refine (leadsTo_any A R.2 R.1 a0 cap _ HM2.out HS2.out hB HKT.out HKA.out).mono ?_
  rintro e w3 ⟨v, rfl, hO, hb3⟩
  have HO3 : Hid (Owns w3 w.heap.size v (leadF A R)) := Owns.mono hO HB2.out.size
  have HB3 : Hid (Below w.heap.size w w3) := HB2.out.trans (hb3.mono HB2.out.size)
  clear hO hb3 c0 c1 c2 c3
  go_wp2
  go_ret
  exact ⟨_, rfl, HO3.out, HB3.out⟩

set_option maxRecDepth 100000 in
set_option maxHeartbeats 2000000 in
theorem implFrom_any (a0 : Option Addr) (cap : Nat) (L : List Pg) (a : ByteArray) (w : World) (hM : Mx w) (hI : IsRows FPg w a0 cap L) (hz : PgSz L) (hA : PgAs L) (hT : PgTx L) (hs : a.size ≤ 4194304) (ha : ascii a) :
    Calls Tryz.prog 32 #[.slice a0 L.length cap, .string a] w fun e w' => ∃ v, e = .returned v ∧ Owns w' w.heap.size v (fromW L a) ∧ Below w.heap.size w w' := by
  have HM : Hid (Mx w) := hM
  have HWP : Hid _ := worldPages_any a0 cap L w hM hI hz hA
  have HRA : Hid _ := fun W hW => readAddress_any a W hW hs ha
  have HBD : Hid (wOk L = false → fromW L a = []) := fun h => fromW_bad h
  have HNN : Hid (normA a = none → fromW L a = []) := fun h => fromW_none h
  have HOK : Hid (∀ A, wOk L = true → normA a = some A → fromW L a = leadF A (kindF L (textF A) 2) ∧ bulkA A ≤ 1000) := fun A h h2 => by
    obtain ⟨h3, h4⟩ := norm_some h2
    rw [h4]
    exact ⟨fromW_ok h h2, read_le h3⟩
  have HFA : Hid _ := fun A b a1 c1 W hW hS hB h => fromAt_any A b L a1 c1 W hW hS hB h hz hT
  clear hM hI hz hA hT hs ha
  generalize normA a = N at *
  generalize fromW L a = R at *
  go_enter Tryz.func32, Tryz.ntmps32
  go_wp2_with fail
  refine Calls.mono HWP.out ?_
  rintro e w1 ⟨⟨hw, b, rfl, hbb, hm⟩ | ⟨hw, rfl⟩, hb1⟩
  · have HW : Hid (wOk L = true) := hw
    have HMP : Hid (IsMap w1 b (entsL L)) := hm
    have HB1 : Hid (Below w.heap.size w w1) := hb1
    clear hw hm hb1 HBD HWP
    go_wp2_with fail
    refine (HRA.out _ (HM.out.below HB1.out)).mono ?_
    rintro e w2 ⟨A, ok, a1, c1, rfl, hans, hO, hb2⟩
    have HANS : Hid _ := hans
    have HB2 : Hid (Below w.heap.size w w2) := HB1.out.trans (hb2.mono HB1.out.size)
    have HMP2 : Hid (IsMap w2 b (entsL L)) := HMP.out.below hb2
    have HS2 : Hid (IsStrs w2 a1 c1 A.parts) := hO.strsOf
    clear hans hO hb2 HMP HB1
    cases ok with
    | false =>
      have HR : Hid (R = []) := by
        rcases HANS.out with ⟨h, _⟩ | ⟨_, h, _⟩
        · cases h
        · exact HNN.out h
      clear HANS HNN HOK
      go_wp2
      go_ret
      exact ⟨_, rfl, by rw [HR.out]; exact Owns.nil _ _, HB2.out.alloc HB2.out.size _⟩
    | true =>
      have HR : Hid (R = leadF A (kindF L (textF A) 2) ∧ bulkA A ≤ 1000) := by
        rcases HANS.out with ⟨_, h⟩ | ⟨h, _⟩
        · exact HOK.out A HW.out h
        · cases h
      clear HANS HNN HOK
      go_wp2_with fail
      refine (HFA.out A b a1 c1 _ ((HM.out.below HB2.out).alloc _) (HS2.out.keep (alloc_keep _ _)) HR.out.2 (HMP2.out.alloc _)).mono ?_
      rintro e w3 ⟨v, rfl, hO, hb3⟩
      have HB3 : Hid (Below w.heap.size w w3) := (HB2.out.alloc HB2.out.size _).trans (hb3.mono (by simp; exact Nat.le_succ_of_le HB2.out.size))
      have HO3 : Hid (Owns w3 w.heap.size v R) := by
        show Owns _ _ _ _
        rw [HR.out.1]
        exact Owns.mono hO (by simp; exact Nat.le_succ_of_le HB2.out.size)
      clear hO hb3
      go_wp2
      go_ret
      exact ⟨_, rfl, HO3.out, HB3.out⟩
  · have HR : Hid (R = []) := HBD.out hw
    have HB1 : Hid (Below w.heap.size w w1) := hb1
    clear hw hb1 HBD HWP HNN HOK
    go_wp2_with fail
    refine (HRA.out _ (HM.out.below HB1.out)).mono ?_
    rintro e w2 ⟨A, ok, a1, c1, rfl, hans, hO, hb2⟩
    have HB2 : Hid (Below w.heap.size w w2) := HB1.out.trans (hb2.mono HB1.out.size)
    clear hans hO hb2
    go_wp2
    go_ret
    exact ⟨_, rfl, by rw [HR.out]; exact Owns.nil _ _, HB2.out.alloc HB2.out.size _⟩
end Go.Proofs.YtmgcdfmgmpnonaaGreatDoor.Wd
/- What holds of where pages lead: mathematics; once, within. -/
namespace Go.Proofs.YtmgcdfmgmpnonaaGreatDoor.PgA
open Go.RowKit Go.Proofs.YtmgcdfmgmpnonaaGreatDoor.EscM Go.Proofs.YtmgcdfmgmpnonaaGreatDoor.St Go.Proofs.YtmgcdfmgmpnonaaGreatDoor.AddrM Go.Proofs.YtmgcdfmgmpnonaaGreatDoor.ReadM Go.Proofs.YtmgcdfmgmpnonaaGreatDoor.EscL Go.Proofs.YtmgcdfmgmpnonaaGreatDoor.Ad1 Go.Proofs.YtmgcdfmgmpnonaaGreatDoor.Dr Go.Proofs.YtmgcdfmgmpnonaaGreatDoor.Im Go.Proofs.YtmgcdfmgmpnonaaGreatDoor.Rd1 Go.Proofs.YtmgcdfmgmpnonaaGreatDoor.Door Go.Proofs.YtmgcdfmgmpnonaaGreatDoor.JnM Go.Proofs.YtmgcdfmgmpnonaaGreatDoor.Jn Go.Proofs.YtmgcdfmgmpnonaaGreatDoor.PgM Go.Proofs.YtmgcdfmgmpnonaaGreatDoor.RB

theorem put_mem {L : List ByteArray} {x y : ByteArray} : y ∈ putL L x ↔ y ∈ L ∨ y = x := by
  unfold putL
  cases h : hasB x L with
  | true =>
    rw [if_pos rfl]
    constructor
    · exact Or.inl
    · rintro (h' | rfl)
      · exact h'
      · exact hasB_iff.1 h
  | false => simp
theorem put_nodup {L : List ByteArray} {x : ByteArray} (h : L.Nodup) : (putL L x).Nodup := by
  unfold putL
  cases hh : hasB x L with
  | true => exact h
  | false =>
    show (L ++ [x]).Nodup
    rw [List.nodup_append]
    refine ⟨h, by simp, ?_⟩
    intro a ha b hb
    simp at hb; subst hb
    rintro rfl
    exact hasB_no.1 hh ha
/-- each is where a link leads -/
theorem fold_each (B : Ad) : ∀ (L acc : List ByteArray), (∀ y ∈ L.foldl (pageStep B) acc, y ∈ acc ∨ ∃ l ∈ L, ∃ C, joinF B l.data.toList = some C ∧ y = textF C) ∧ (acc.Nodup → (L.foldl (pageStep B) acc).Nodup) ∧ (∀ y ∈ acc, y ∈ L.foldl (pageStep B) acc) ∧ (∀ l ∈ L, ∀ C, joinF B l.data.toList = some C → textF C ∈ L.foldl (pageStep B) acc) := by
  intro L
  induction L with
  | nil => intro acc; exact ⟨fun y hy => Or.inl hy, fun h => h, fun y hy => hy, fun l hl => by cases hl⟩
  | cons x L ih =>
    intro acc
    obtain ⟨i1, i2, i3, i4⟩ := ih (pageStep B acc x)
    have hs : ∀ y, y ∈ pageStep B acc x → y ∈ acc ∨ ∃ C, joinF B x.data.toList = some C ∧ y = textF C := by
      intro y hy
      unfold pageStep at hy
      cases hj : joinF B x.data.toList with
      | none => rw [hj] at hy; exact Or.inl hy
      | some C =>
        rw [hj] at hy
        rcases put_mem.1 hy with h | h
        · exact Or.inl h
        · exact Or.inr ⟨C, rfl, h⟩
    have hk : ∀ y ∈ acc, y ∈ pageStep B acc x := by
      intro y hy
      unfold pageStep
      split
      · exact put_mem.2 (Or.inl hy)
      · exact hy
    refine ⟨?_, ?_, ?_, ?_⟩
    · intro y hy
      rcases i1 y hy with h | ⟨l, hl, C, h1, h2⟩
      · rcases hs y h with h | ⟨C, h1, h2⟩
        · exact Or.inl h
        · exact Or.inr ⟨x, by simp, C, h1, h2⟩
      · exact Or.inr ⟨l, by simp [hl], C, h1, h2⟩
    · intro h
      apply i2
      unfold pageStep
      split
      · exact put_nodup h
      · exact h
    · intro y hy; exact i3 y (hk y hy)
    · intro l hl C hC
      rcases List.mem_cons.1 hl with rfl | hl
      · apply i3
        unfold pageStep; rw [hC]; exact put_mem.2 (Or.inr rfl)
      · exact i4 l hl C hC
theorem page_each {A : Ad} {t : ByteArray} {y : ByteArray} (h : y ∈ pageF A t) : ∃ C, okB C = true ∧ y = textF C := by
  unfold pageF at h
  split at h
  · rcases (fold_each _ _ []).1 y h with h | ⟨l, _, C, h1, h2⟩
    · cases h
    · exact ⟨C, join_ok h1, h2⟩
  · cases h
theorem page_nodup (A : Ad) (t : ByteArray) : (pageF A t).Nodup := by
  unfold pageF
  split
  · exact (fold_each _ _ []).2.1 (by simp)
  · simp
theorem page_len (A : Ad) (t : ByteArray) : (pageF A t).length ≤ 300 := by
  unfold pageF
  split
  · have := pageL_len (fromF A t) (linksF t) []
    have h2 := links_len t
    unfold pageL
    simp at this; omega
  · simp

theorem once_take {L : List ByteArray} (h : L.Nodup) {k : Nat} (hk : k < L.length) : hasB L[k] (L.take k) = false := by
  apply hasB_no.2
  intro hm
  obtain ⟨i, hi, e⟩ := List.getElem_of_mem hm
  have hi' : i < k := by simp at hi; omega
  rw [List.getElem_take] at e
  have := (List.pairwise_iff_getElem.1 h) i k (by omega) hk hi'
  exact this e
theorem has_n (a0 : Option Addr) (cap n : Nat) (A : List ByteArray) (x : ByteArray) (w : World) (hn : A.length = n) (hA : IsStrs w a0 cap A) (hl : n ≤ 4194304) :
    Calls Tryz.prog 31 #[.slice a0 n cap, .string x] w fun e w' => e = .returned (.bool (hasB x A)) ∧ w' = w := by
  subst hn; exact has_any a0 cap A x w hA hl
set_option maxRecDepth 100000 in
set_option maxHeartbeats 1600000 in
theorem once_any (a0 : Option Addr) (cap : Nat) (L : List ByteArray) (w : World) (hA : IsStrs w a0 cap L) (hl : L.length ≤ 4194304) (hn : L.Nodup) :
    Calls Tryz.prog 29 #[.slice a0 L.length cap] w fun e w' => e = .returned (.bool true) ∧ ∃ n, w' = w.drewN n := by
  have HA : Hid (IsStrs w a0 cap L) := hA
  have HN : Hid _ := hn
  have hcp := hA.1
  have hcm := hA.2.1
  unfold maxLen at hcm
  clear hA hn
  go_enter Tryz.func29, Tryz.ntmps29
  go_wp2
  go_loopw [3] (fun i wr => ∃ k : Nat, k ≤ L.length ∧ i = .int .i64 (k : Int) ∧ Hid (∃ n, wr = w.drewN n)) (fun i _ => L.length - (intOf i).toNat)
  case atStart => exact ⟨0, Nat.zero_le _, rfl, ⟨0, rfl⟩⟩
  case round =>
    obtain ⟨k, hk, rfl, HW⟩ := hrel
    by_cases hlt : k < L.length
    · have hpw := HW.out
      obtain ⟨n, hn⟩ := hpw
      have hAr : IsStrs wr a0 cap L := by rw [hn]; exact IsStrs.drewN HA.out n
      obtain ⟨b1, o1, e1, c1⟩ := hAr.at hlt
      have HAr : Hid (IsStrs wr a0 cap (L.take k)) := hAr.cut k
      have HO : Hid _ := once_take HN.out hlt
      have hlk : (L.take k).length = k := by simp; omega
      have HLK : Hid _ := hlk
      clear hn hAr hlk
      subst e1
      have hkc : (k : Int) ≤ (cap : Int) := by omega
      have HPW : Hid (∃ n, wr.drew = w.drewN n) := by
        obtain ⟨n, hn⟩ := HW.out
        exact ⟨n + 1, by rw [hn]; rfl⟩
      go_wp2
      go_region_with (go_at_call 31; refine (has_n (some ⟨b1, o1, none⟩) cap k (L.take k) L[k] wr.drew HLK.out (IsStrs.keep HAr.out fun _ _ => rfl) (by omega)).mono ?_; rintro e w1 ⟨rfl, rfl⟩; rw [HO.out])
      all_goals
        go_wp2
        go_roundw
        case rel => exact ⟨k + 1, by omega, by go_num, HPW⟩
        case measure => simp [intOf]; omega
    · go_wp2
      go_ret
      exact ⟨rfl, HW.out⟩
end Go.Proofs.YtmgcdfmgmpnonaaGreatDoor.PgA
/- Where one comes from an address of a world: what holds of it. -/
namespace Go.Proofs.YtmgcdfmgmpnonaaGreatDoor.Wd
open Go.RowKit Go.Proofs.YtmgcdfmgmpnonaaGreatDoor.EscM Go.Proofs.YtmgcdfmgmpnonaaGreatDoor.AddrM Go.Proofs.YtmgcdfmgmpnonaaGreatDoor.ReadM Go.Proofs.YtmgcdfmgmpnonaaGreatDoor.St Go.Proofs.YtmgcdfmgmpnonaaGreatDoor.EscL Go.Proofs.YtmgcdfmgmpnonaaGreatDoor.PathM Go.Proofs.YtmgcdfmgmpnonaaGreatDoor.Ad1 Go.Proofs.YtmgcdfmgmpnonaaGreatDoor.Rd1 Go.Proofs.YtmgcdfmgmpnonaaGreatDoor.LibM Go.Proofs.YtmgcdfmgmpnonaaGreatDoor.Im Go.Proofs.YtmgcdfmgmpnonaaGreatDoor.RdA Go.Proofs.YtmgcdfmgmpnonaaGreatDoor.WdM Go.Proofs.YtmgcdfmgmpnonaaGreatDoor.RR Go.Proofs.YtmgcdfmgmpnonaaGreatDoor.RoPg Go.Proofs.YtmgcdfmgmpnonaaGreatDoor.PgA Go.Proofs.YtmgcdfmgmpnonaaGreatDoor.RB

theorem ok_mem {L : List Pg} (h : wOk L = true) {p : Pg} (hp : p ∈ L) : pgB p = true := by
  obtain ⟨i, hi, rfl⟩ := List.getElem_of_mem hp
  exact (((wOk_iff L).1 h).1 i hi).1
theorem found_norm {L : List Pg} {s : ByteArray} (h : wOk L = true) {p : Pg} (hf : L.find? (sameA s) = some p) : normT s = true := by
  have hp := ok_mem h (List.mem_of_find?_eq_some hf)
  have hs : sameA s p = true := by simpa using List.find?_some hf
  have he : p.addr.toList = s.toList := eq_of_beq hs
  have he2 : p.addr = s := by
    rw [ByteArray.toList_eq, ByteArray.toList_eq] at he
    exact ByteArray.ext (Array.ext' he)
  unfold pgB at hp
  simp only [Bool.and_eq_true] at hp
  rw [← he2]
  exact hp.1.1.1
theorem lead_norm {p : Pg} (h : pgB p = true) (h2 : p.lead.toList.isEmpty = false) : normT p.lead = true := by
  unfold pgB at h
  simp only [Bool.and_eq_true, Bool.or_eq_true] at h
  rcases h.2 with h | h
  · rw [h] at h2; cases h2
  · exact h.2
theorem kind_three {L : List Pg} {s : ByteArray} (h : wOk L = true) :
    ((kindF L s 2).1 = 1 ∧ ∃ A, readF s.data.toList = some A ∧ bulkA A ≤ 1000 ∧ fromW L s = pageF A (kindF L s 2).2) ∨ ((kindF L s 2).1 = 2 ∧ fromW L s = [(kindF L s 2).2]) ∨ ((¬ (kindF L s 2).1 = 1) ∧ (¬ (kindF L s 2).1 = 2) ∧ fromW L s = []) := by
  cases hn : normA s with
  | none =>
    refine Or.inr (Or.inr ?_)
    have hk : kindF L s 2 = (0, ⟨#[]⟩) := by
      unfold kindF
      cases hf : L.find? (sameA s) with
      | none => rfl
      | some p =>
        have := found_norm h hf
        rw [normT_eq, hn] at this; cases this
    rw [hk]
    exact ⟨by decide, by decide, fromW_none hn⟩
  | some A =>
    obtain ⟨h3, _⟩ := norm_some hn
    rw [fromW_ok h hn]
    by_cases h1 : (kindF L s 2).1 = 1
    · exact Or.inl ⟨h1, A, h3, read_le h3, by unfold leadF; rw [if_pos h1]⟩
    · by_cases h2 : (kindF L s 2).1 = 2
      · exact Or.inr (Or.inl ⟨h2, by unfold leadF; rw [if_neg h1, if_pos h2]⟩)
      · exact Or.inr (Or.inr ⟨h1, h2, by unfold leadF; rw [if_neg h1, if_neg h2]⟩)
theorem kind_lead {L : List Pg} {s : ByteArray} (h : wOk L = true) (h2 : (kindF L s 2).1 = 2) : normT (kindF L s 2).2 = true := by
  unfold kindF at h2 ⊢
  cases hf : L.find? (sameA s) with
  | none => rw [hf] at h2; cases h2
  | some p =>
    rw [hf] at h2
    have hp := ok_mem h (List.mem_of_find?_eq_some hf)
    dsimp only at h2 ⊢
    by_cases h0 : (2 : Int) < p.fails
    · rw [if_pos h0] at h2; cases h2
    · rw [if_neg h0] at h2 ⊢
      cases hl : p.lead.toList.isEmpty with
      | true => rw [hl] at h2; cases h2
      | false => exact lead_norm hp hl
/-- what is led to is an address, as it is written -/
theorem from_each {L : List Pg} {s y : ByteArray} (hy : y ∈ fromW L s) : ∃ C, readF y.data.toList = some C ∧ textF C = y ∧ bulkA C ≤ 1000 ∧ y.size ≤ 60 := by
  cases hw : wOk L with
  | false => rw [fromW_bad hw] at hy; cases hy
  | true =>
    rcases kind_three (s := s) hw with ⟨_, A, _, _, h3⟩ | ⟨h1, h3⟩ | ⟨_, _, h3⟩
    · rw [h3] at hy
      obtain ⟨C, hC, rfl⟩ := page_each hy
      refine ⟨C, ?_, rfl, (Door.ok_sum hC).2, Dr.textF_size C⟩
      rw [Door.text_data hC]; exact read_back hC
    · rw [h3] at hy
      simp only [List.mem_singleton] at hy
      have hn := kind_lead hw h1
      rw [← hy] at hn
      have hz := norm_short hn
      rw [normT_eq] at hn
      cases hc : normA y with
      | none => rw [hc] at hn; cases hn
      | some C =>
        obtain ⟨h4, h5⟩ := norm_some hc
        exact ⟨C, h4, h5, read_le h4, hz⟩
    · rw [h3] at hy; cases hy
theorem from_nodup (L : List Pg) (s : ByteArray) : (fromW L s).Nodup := by
  cases hw : wOk L with
  | false => rw [fromW_bad hw]; exact List.nodup_nil
  | true =>
    rcases kind_three (s := s) hw with ⟨_, A, _, _, h3⟩ | ⟨_, h3⟩ | ⟨_, _, h3⟩
    · rw [h3]; exact page_nodup _ _
    · rw [h3]; exact List.nodup_cons.2 ⟨(fun h => nomatch h), List.nodup_nil⟩
    · rw [h3]; exact List.nodup_nil
theorem from_len (L : List Pg) (s : ByteArray) : (fromW L s).length ≤ 300 := by
  cases hw : wOk L with
  | false => rw [fromW_bad hw]; exact Nat.zero_le _
  | true =>
    rcases kind_three (s := s) hw with ⟨_, A, _, _, h3⟩ | ⟨_, h3⟩ | ⟨_, _, h3⟩
    · rw [h3]; exact page_len _ _
    · rw [h3]; show 1 ≤ 300; omega
    · rw [h3]; exact Nat.zero_le _
end Go.Proofs.YtmgcdfmgmpnonaaGreatDoor.Wd
/- What a house's notice says to a caller: of the program and of the model. -/
namespace Go.Proofs.YtmgcdfmgmpnonaaGreatDoor.WdN
open Go.RowKit Go.Proofs.YtmgcdfmgmpnonaaGreatDoor.EscM Go.Proofs.YtmgcdfmgmpnonaaGreatDoor.AddrM Go.Proofs.YtmgcdfmgmpnonaaGreatDoor.ReadM Go.Proofs.YtmgcdfmgmpnonaaGreatDoor.St Go.Proofs.YtmgcdfmgmpnonaaGreatDoor.EscL Go.Proofs.YtmgcdfmgmpnonaaGreatDoor.Ad1 Go.Proofs.YtmgcdfmgmpnonaaGreatDoor.Rd1 Go.Proofs.YtmgcdfmgmpnonaaGreatDoor.RuleM Go.Proofs.YtmgcdfmgmpnonaaGreatDoor.RdA Go.Proofs.YtmgcdfmgmpnonaaGreatDoor.MkA Go.Proofs.YtmgcdfmgmpnonaaGreatDoor.Mp Go.Proofs.YtmgcdfmgmpnonaaGreatDoor.WdM Go.Proofs.YtmgcdfmgmpnonaaGreatDoor.Wd Go.Proofs.YtmgcdfmgmpnonaaGreatDoor.RR Go.Proofs.YtmgcdfmgmpnonaaGreatDoor.LetM Go.Proofs.YtmgcdfmgmpnonaaGreatDoor.Nm Go.Proofs.YtmgcdfmgmpnonaaGreatDoor.GrM Go.Proofs.YtmgcdfmgmpnonaaGreatDoor.Gf Go.Proofs.YtmgcdfmgmpnonaaGreatDoor.Dr Go.Proofs.YtmgcdfmgmpnonaaGreatDoor.RoPg Go.Proofs.YtmgcdfmgmpnonaaGreatDoor.NrM Go.Proofs.YtmgcdfmgmpnonaaGreatDoor.NrT Go.Proofs.YtmgcdfmgmpnonaaGreatDoor.NrW

/-- groups as they are read, without where they lie -/
def withT (L : List (List ByteArray × List Ru × Int)) (s : ByteArray) : List (List ByteArray × List Ru × Int) := L.filter fun g => hasB s g.1
def toldT (L : List (List ByteArray × List Ru × Int)) (s : ByteArray) : List (List ByteArray × List Ru × Int) := if withT L s = [] then withT L star else withT L s
def rulesT (L : List (List ByteArray × List Ru × Int)) : List Ru := L.flatMap (·.2.1)
def waitT (L : List (List ByteArray × List Ru × Int)) : Int := L.foldl (fun m g => max m g.2.2) 0
theorem with_map (L : List Gr) (s : ByteArray) : (withL L s).map grp = withT (L.map grp) s := by
  unfold withL withT
  rw [List.filter_map]; rfl
theorem told_map (L : List Gr) (s : ByteArray) : (toldL L s).map grp = toldT (L.map grp) s := by
  unfold toldL toldT
  by_cases h : withL L s = []
  · rw [if_pos h, if_pos (by rw [← with_map, h]; rfl), with_map]
  · rw [if_neg h, if_neg (fun e => h (by rw [← with_map] at e; exact List.map_eq_nil_iff.1 e)), with_map]
theorem rules_map (L : List Gr) : rulesL L = rulesT (L.map grp) := by
  unfold rulesL rulesT
  rw [List.flatMap_map]; rfl
theorem wait_map (L : List Gr) : waitL L = waitT (L.map grp) := by
  unfold waitL waitT
  rw [List.foldl_map]; rfl
/-- what is said to a caller of what one got at a notice -/
def saysG (k : Int × ByteArray) (s : ByteArray) : List ByteArray × List Ru × Int :=
  if k.1 = 1 then ([s], rulesT (toldT (noticeF k.2) s), waitT (toldT (noticeF k.2) s)) else if k.1 = 3 then ([s], [⟨false, ⟨#[47]⟩⟩], 0) else ([s], [], 0)
theorem says_page (t s : ByteArray) : saysG (1, t) s = ([s], rulesT (toldT (noticeF t) s), waitT (toldT (noticeF t) s)) := rfl
theorem says_fail (t s : ByteArray) : saysG (3, t) s = ([s], [⟨false, ⟨#[47]⟩⟩], 0) := rfl
theorem says_else {k : Int} (t s : ByteArray) (h1 : ¬ k = 1) (h3 : ¬ k = 3) : saysG (k, t) s = ([s], [], 0) := by unfold saysG; rw [if_neg h1, if_neg h3]
/-- a group, and what it says -/
def SaidG (w w' : World) (T : List ByteArray × List Ru × Int) (e : Ending) : Prop :=
  ∃ g : Gr, e = .returned (.agg #[.slice g.na g.nm.length g.nc, .slice g.ra g.ru.length g.rc, .int .i64 g.wait]) ∧ grp g = T ∧ GrOwn w' w.heap.size g ∧ Below w.heap.size w w'
theorem said_of {w w' : World} {L : List Gr} {s : ByteArray} {e : Ending} {n : List (List ByteArray × List Ru × Int)} (h : Said w w' L s e) (hL : L.map grp = n) : SaidG w w' ([s], rulesT (toldT n s), waitT (toldT n s)) e := by
  obtain ⟨g, he, h1, h2, h3, h4, h5⟩ := h
  refine ⟨g, he, ?_, h4, h5⟩
  unfold grp
  rw [h1, h2, h3, rules_map, wait_map, told_map, hL]
theorem said_put {w wr w4 : World} {g : Gr} (hz : Bx 29 wr w.heap.size #[.slice none 0 0, .slice none 0 0, .int .i64 0]) (ho : GrOwn wr w.heap.size g) (hb : Below w.heap.size w wr) (e : w4 = ((wr.setCell ⟨w.heap.size, 0, none⟩ (.slice g.na g.nm.length g.nc)).setCell ⟨w.heap.size, 1, none⟩ (.slice g.ra g.ru.length g.rc)).setCell ⟨w.heap.size, 2, none⟩ (.int .i64 g.wait)) :
    GrOwn w4 w.heap.size g ∧ Below w.heap.size w w4 ∧ Bx 29 w4 w.heap.size #[.slice g.na g.nm.length g.nc, .slice g.ra g.ru.length g.rc, .int .i64 g.wait] := by
  have b1 := hz.set 0 (.slice g.na g.nm.length g.nc)
  have b2 := b1.set 1 (.slice g.ra g.ru.length g.rc)
  have b3 := b2.set 2 (.int .i64 g.wait)
  have g1 : wr.grownBy (wr.setCell ⟨w.heap.size, 0, none⟩ (.slice g.na g.nm.length g.nc)) (some w.heap.size) := grown_set 0 _
  have g2 := Dr.grown_trans g1 (grown_set 1 (.slice g.ra g.ru.length g.rc))
  have g3 := Dr.grown_trans g2 (grown_set 2 (.int .i64 g.wait))
  subst e
  exact ⟨⟨own_type ho.1 hz (by decide) g3, own_type ho.2 hz (by decide) g3⟩, hb.trans (grown_any _ g3 hb.size (fun k hk => by have := Option.some.inj hk; omega)), b3⟩
/-- what is read of a notice can be gone by -/
theorem notice_bd {s : ByteArray} {L : List Gr} (h : L.map grp = noticeF s) : L.length ≤ 40 ∧ ∀ g ∈ L, GrSz g ∧ (0 ≤ g.wait ∧ g.wait ≤ 1000000) ∧ g.ru.length ≤ 6 := by
  have hz := sz_mono (sz_read lineF (fun _ _ h => line_ok h) (splitS 10 s) (min 40 (splitS 10 s).length)) (Nat.min_le_left _ _)
  have h1 := hz.1
  have h2 := hz.2
  have e : (readTo lineF (splitS 10 s) (min 40 (splitS 10 s).length)).gs = L.map grp := h.symm
  rw [e] at h1 h2
  refine ⟨by simpa using h1, fun g hg => ?_⟩
  obtain ⟨h3, h4, h5, h6, h7, h8, _⟩ := h2 (grp g) (List.mem_map.2 ⟨g, hg, rfl⟩)
  have h7' : 0 ≤ g.wait := h7
  have h8' : g.wait ≤ 20 := h8
  have h3' : g.nm.length ≤ 40 := h3
  have h5' : g.ru.length ≤ 6 := h5
  exact ⟨⟨by omega, by omega, fun s hs => Nat.le_trans (h4 s hs) (by decide), fun r hr => Nat.le_trans (h6 r hr).1 (by decide)⟩, ⟨h7', by omega⟩, h5'⟩
/-- where a house's notice stands -/
def doorA (house : ByteArray) : Ad := ⟨house, [⟨#[110, 111, 116, 105, 99, 101]⟩], false, ⟨#[]⟩⟩
def doorS (house : ByteArray) : ByteArray := (⟨#[47, 47]⟩ : ByteArray) ++ house ++ (⟨#[47, 110, 111, 116, 105, 99, 101]⟩ : ByteArray)
theorem door_text {house : ByteArray} (h : houseB house = true) : textF (doorA house) = doorS house := by
  have hz : house.size ≤ 5 := by unfold houseB at h; simp at h; omega
  have h1 : ([⟨#[110, 111, 116, 105, 99, 101]⟩] : List ByteArray).all partB = true := by decide +kernel
  have h2 : normB ⟨#[]⟩ = true := by decide +kernel
  have h3 : (textL (doorA house)).length ≤ 60 := by
    unfold textL pathL doorA joinL
    have : house.data.toList.length = house.size := by simp
    simp; omega
  have hok : okB (doorA house) = true := by
    unfold okB
    show (houseB house && decide (([⟨#[110, 111, 116, 105, 99, 101]⟩] : List ByteArray).length ≤ 5) && ([⟨#[110, 111, 116, 105, 99, 101]⟩] : List ByteArray).all partB && (false || (⟨#[]⟩ : ByteArray).toList.isEmpty) && normB ⟨#[]⟩ && decide ((textL (doorA house)).length ≤ 60)) = true
    rw [h, h1, h2, decide_eq_true h3]
    have : (⟨#[]⟩ : ByteArray).toList.isEmpty = true := by rw [ByteArray.toList_eq]; rfl
    rw [this]; rfl
  unfold textF textS
  rw [if_pos hok]
  unfold textL pathL doorA doorS joinL
  apply ByteArray.ext
  apply Array.toList_inj.1
  simp

set_option maxRecDepth 100000 in
set_option maxHeartbeats 1600000 in
theorem noticeAddr_any (house : ByteArray) (w : World) (h : houseB house = true) :
    Calls Tryz.prog 77 #[.string house] w fun e w' => e = .returned (.string (doorS house)) ∧ Below w.heap.size w w' := by
  have hz : house.size ≤ 5 := by unfold houseB at h; simp at h; omega
  have HT : Hid (textF (doorA house) = doorS house) := door_text h
  have HS : Hid (IsStrs (w.alloc (.cells #[.string ⟨#[110, 111, 116, 105, 99, 101]⟩] 9)) (some ⟨w.heap.size, 0, none⟩) 1 (doorA house).parts) := by
    have := Owns.strsOf (Dr.Owns.lit1 w w.heap.size ⟨#[110, 111, 116, 105, 99, 101]⟩ (Nat.le_refl _))
    exact this
  have HA : Hid _ := fun W hW => implAddrText_any (doorA house) (some ⟨w.heap.size, 0, none⟩) 1 W hW (by
    have e : bulkA (doorA house) = house.size + 6 + 1 + 0 := by unfold bulkA doorA sumS; rfl
    rw [e]; omega)
  have HA2 : Hid (∀ W, IsStrs W (some ⟨w.heap.size, 0, none⟩) 1 (doorA house).parts → Calls Tryz.prog 30 #[.agg #[.string house, .slice (some ⟨w.heap.size, 0, none⟩) 1 1, .bool false, .string ⟨#[]⟩]] W fun e w' => e = .returned (.string (doorS house)) ∧ Below W.heap.size W w') := fun W hW => (HA.out W hW).mono (by rintro e w' ⟨rfl, hb⟩; exact ⟨by rw [HT.out], hb⟩)
  clear HA HT h
  go_enter Tryz.func77, Tryz.ntmps77
  go_wp2_with fail
  refine (HA2.out _ HS.out).mono ?_
  rintro e w1 ⟨rfl, hb1⟩
  have HB : Hid (Below w.heap.size w w1) := ((Below.refl _ w).alloc (Nat.le_refl _) _).trans (hb1.mono (by simp))
  clear hb1
  go_wp2
  go_ret
  exact ⟨rfl, HB.out⟩

set_option maxRecDepth 100000 in
set_option maxHeartbeats 3200000 in
theorem noticeAt_any (b : Nat) (L : List Pg) (house name : ByteArray) (w : World) (hM : Im.Mx w) (h : IsMap w b (entsL L)) (hh : houseB house = true) (ht : ∀ p ∈ L, p.text.size ≤ 1000000) :
    Calls Tryz.prog 41 #[.map (some b), .string house, .string name] w fun e w' => SaidG w w' (saysG (kindF L (doorS house) 2) name) e := by
  have HM : Hid (Im.Mx w) := hM
  have HMP : Hid (IsMap w b (entsL L)) := h
  have HNA : Hid _ := noticeAddr_any house (w.alloc (.cells #[.slice none 0 0, .slice none 0 0, .int .i64 0] 29)) hh
  have HGL : Hid _ := fun W hW => getAtLast_any b L (doorS house) W hW
  have hkt : (kindF L (doorS house) 2).1 = 1 → (kindF L (doorS house) 2).2.size ≤ 1000000 := by
    intro h1
    unfold kindF at h1 ⊢
    cases hf : L.find? (sameA (doorS house)) with
    | none => rw [hf] at h1; cases h1
    | some p =>
      rw [hf] at h1
      have hp := ht p (List.mem_of_find?_eq_some hf)
      dsimp only at h1 ⊢
      by_cases h0 : 2 < p.fails
      · rw [if_pos h0] at h1; cases h1
      · rw [if_neg h0] at h1 ⊢
        by_cases h2 : p.lead.toList.isEmpty = true
        · rw [if_pos h2]; exact hp
        · rw [if_neg h2] at h1; cases h1
  have HZ0 : Hid (Bx 29 (w.alloc (.cells #[.slice none 0 0, .slice none 0 0, .int .i64 0] 29)) w.heap.size #[.slice none 0 0, .slice none 0 0, .int .i64 0]) := Bx.new 29 w _
  have HB0 : Hid (Below w.heap.size w (w.alloc (.cells #[.slice none 0 0, .slice none 0 0, .int .i64 0] 29))) := (Below.refl _ w).alloc (Nat.le_refl _) _
  clear hM h ht
  generalize kindF L (doorS house) 2 = K at *
  generalize doorS house = da at *
  obtain ⟨k, t⟩ := K
  dsimp only at *
  go_enter Tryz.func41, Tryz.ntmps41
  go_wp2_with fail
  refine Calls.mono HNA.out ?_
  rintro e w1 ⟨rfl, hb1⟩
  have HB1 : Hid (Below w.heap.size w w1) := HB0.out.trans (hb1.mono HB0.out.size)
  have HZ1 : Hid (Bx 29 w1 w.heap.size #[.slice none 0 0, .slice none 0 0, .int .i64 0]) := HZ0.out.keep (fun k hk => hb1.block k hk)
  clear hb1 HNA HB0 HZ0
  go_wp2_with fail
  refine (HGL.out _ (HMP.out.below HB1.out)).mono ?_
  rintro e w2 ⟨rfl, hb2⟩
  have HB2 : Hid (Below w.heap.size w w2) := HB1.out.trans (hb2.mono HB1.out.size)
  have HZ2 : Hid (Bx 29 w2 w.heap.size #[.slice none 0 0, .slice none 0 0, .int .i64 0]) := HZ1.out.keep (fun k hk => hb2.block k hk)
  have HM2 : Hid (Im.Mx w2) := HM.out.below HB2.out
  have hw2 : w.heap.size ≤ w2.heap.size := HB2.out.size
  clear hb2 HGL HB1 HZ1 HMP HM
  by_cases h1 : k = 1
  · subst h1
    have htz := hkt rfl
    go_wp2_with fail
    refine (NiP.implRead_notice t _ HM2.out htz).mono ?_
    rintro e w3 ⟨v3, A, rfl, hgA, hmA, hb3⟩
    obtain ⟨aa, ca, hv3, hIA, hAA⟩ := hgA.at
    subst hv3
    obtain ⟨hl, hbd⟩ := notice_bd hmA
    have HMA : Hid (A.map grp = noticeF t) := hmA
    have HF : Hid _ := implFor_any aa ca A name w3 hIA hAA (fun g hg => (hbd g hg).1) (by omega) (fun g hg => (hbd g hg).2.1) (fun g hg => by have := (hbd g hg).2.2; omega)
    have HB3 : Hid (Below w.heap.size w w3) := HB2.out.trans (hb3.mono HB2.out.size)
    have HZ3 : Hid (Bx 29 w3 w.heap.size #[.slice none 0 0, .slice none 0 0, .int .i64 0]) := HZ2.out.keep (fun k hk => hb3.block k hk)
    clear hgA hmA hb3 hIA hAA hbd
    go_wp2_with fail
    refine Calls.mono HF.out ?_
    intro e w4 hs
    obtain ⟨g, rfl, hg, hgo, hb4⟩ := said_of hs HMA.out
    have HG : Hid (grp g = saysG (1, t) name) := hg.trans (says_page t name).symm
    have HO : Hid (GrOwn w4 w.heap.size g) := hgo.mono HB3.out.size
    have HBF : Hid (Below w.heap.size w w4) := HB3.out.trans (hb4.mono HB3.out.size)
    have HZF : Hid (Bx 29 w4 w.heap.size #[.slice none 0 0, .slice none 0 0, .int .i64 0]) := HZ3.out.keep (fun k hk => hb4.block k hk)
    clear hs hg hgo hb4
    have z0 : w4.cell? ⟨w.heap.size, 0, none⟩ = some (.slice none 0 0) := HZF.out.cell 0 rfl
    have z1 : w4.cell? ⟨w.heap.size, 1, none⟩ = some (.slice none 0 0) := HZF.out.cell 1 rfl
    have z2 : w4.cell? ⟨w.heap.size, 2, none⟩ = some (.int .i64 0) := HZF.out.cell 2 rfl
    have zf : ∀ j, w4.frozen? ⟨w.heap.size, j, none⟩ = false := HZF.out.free
    go_wp2
    obtain ⟨w9, hw9⟩ : ∃ w9, w9 = ((w4.setCell ⟨w.heap.size, 0, none⟩ (.slice g.na g.nm.length g.nc)).setCell ⟨w.heap.size, 1, none⟩ (.slice g.ra g.ru.length g.rc)).setCell ⟨w.heap.size, 2, none⟩ (.int .i64 g.wait) := ⟨_, rfl⟩
    rw [← hw9]
    obtain ⟨ho1, ho2, ho3⟩ := said_put HZF.out HO.out HBF.out hw9
    have r0 := ho3.cell 0 rfl
    have r1 := ho3.cell 1 rfl
    have r2 := ho3.cell 2 rfl
    clear hw9 ho3
    refine bodyPost_ret (v := .agg #[.slice g.na g.nm.length g.nc, .slice g.ra g.ru.length g.rc, .int .i64 g.wait]) (by simp [results, Tryz.results41, go_sem, r0, r1, r2]) rfl ?_
    exact ⟨g, rfl, HG.out, ho1, ho2⟩
  · have e1 : (k == 1) = false := by simpa using h1
    by_cases h3 : k = 3
    · subst h3
      have HO1 : Hid (Owns (w2.alloc (.cells #[.string name] 9)) w.heap.size (.slice (some ⟨w2.heap.size, 0, none⟩) 1 1) [name]) := Dr.Owns.lit1 w2 w.heap.size name hw2
      have HO2 : Hid (OwnsR FRu 81 ((w2.alloc (.cells #[.string name] 9)).alloc (.cells #[.bool false, .string ⟨#[47]⟩] 81)) w.heap.size (.slice (some ⟨w2.heap.size + 1, 0, none⟩) 1 1) [⟨false, ⟨#[47]⟩⟩]) := by
        refine ⟨rfl, Or.inr ⟨w2.heap.size + 1, 1, #[.bool false, .string ⟨#[47]⟩], rfl, by omega, ?_, Nat.le_refl _, by decide, rfl, rfl⟩⟩
        have := heap_new (w2.alloc (.cells #[.string name] 9)) (.cells #[.bool false, .string ⟨#[47]⟩] 81)
        rwa [show (w2.alloc (.cells #[.string name] 9)).heap.size = w2.heap.size + 1 by simp] at this
      have HO : Hid (GrOwn ((w2.alloc (.cells #[.string name] 9)).alloc (.cells #[.bool false, .string ⟨#[47]⟩] 81)) w.heap.size ⟨[name], some ⟨w2.heap.size, 0, none⟩, 1, [⟨false, ⟨#[47]⟩⟩], some ⟨w2.heap.size + 1, 0, none⟩, 1, 0⟩) := ⟨Owns.keep HO1.out (alloc_keep _ _), HO2.out⟩
      have HBF : Hid (Below w.heap.size w ((w2.alloc (.cells #[.string name] 9)).alloc (.cells #[.bool false, .string ⟨#[47]⟩] 81))) := (HB2.out.alloc hw2 _).alloc (by simp; omega) _
      have HZF : Hid (Bx 29 ((w2.alloc (.cells #[.string name] 9)).alloc (.cells #[.bool false, .string ⟨#[47]⟩] 81)) w.heap.size #[.slice none 0 0, .slice none 0 0, .int .i64 0]) := (HZ2.out.alloc _).alloc _
      clear HO1 HO2
      have z0 : ((w2.alloc (.cells #[.string name] 9)).alloc (.cells #[.bool false, .string ⟨#[47]⟩] 81)).cell? ⟨w.heap.size, 0, none⟩ = some (.slice none 0 0) := HZF.out.cell 0 rfl
      have z1 : ((w2.alloc (.cells #[.string name] 9)).alloc (.cells #[.bool false, .string ⟨#[47]⟩] 81)).cell? ⟨w.heap.size, 1, none⟩ = some (.slice none 0 0) := HZF.out.cell 1 rfl
      have z2 : ((w2.alloc (.cells #[.string name] 9)).alloc (.cells #[.bool false, .string ⟨#[47]⟩] 81)).cell? ⟨w.heap.size, 2, none⟩ = some (.int .i64 0) := HZF.out.cell 2 rfl
      have zf : ∀ j, ((w2.alloc (.cells #[.string name] 9)).alloc (.cells #[.bool false, .string ⟨#[47]⟩] 81)).frozen? ⟨w.heap.size, j, none⟩ = false := HZF.out.free
      go_wp2
      obtain ⟨w9, hw9⟩ : ∃ w9, w9 = ((((w2.alloc (.cells #[.string name] 9)).alloc (.cells #[.bool false, .string ⟨#[47]⟩] 81)).setCell ⟨w.heap.size, 0, none⟩ (.slice (some ⟨w2.heap.size, 0, none⟩) 1 1)).setCell ⟨w.heap.size, 1, none⟩ (.slice (some ⟨w2.heap.size + 1, 0, none⟩) 1 1)).setCell ⟨w.heap.size, 2, none⟩ (.int .i64 0) := ⟨_, rfl⟩
      rw [← hw9]
      obtain ⟨ho1, ho2, ho3⟩ := said_put (g := ⟨[name], some ⟨w2.heap.size, 0, none⟩, 1, [⟨false, ⟨#[47]⟩⟩], some ⟨w2.heap.size + 1, 0, none⟩, 1, 0⟩) HZF.out HO.out HBF.out hw9
      have r0 : w9.cell? ⟨w.heap.size, 0, none⟩ = some (.slice (some ⟨w2.heap.size, 0, none⟩) 1 1) := ho3.cell 0 rfl
      have r1 : w9.cell? ⟨w.heap.size, 1, none⟩ = some (.slice (some ⟨w2.heap.size + 1, 0, none⟩) 1 1) := ho3.cell 1 rfl
      have r2 : w9.cell? ⟨w.heap.size, 2, none⟩ = some (.int .i64 0) := ho3.cell 2 rfl
      clear hw9 ho3
      refine bodyPost_ret (v := .agg #[(.slice (some ⟨w2.heap.size, 0, none⟩) 1 1), (.slice (some ⟨w2.heap.size + 1, 0, none⟩) 1 1), .int .i64 0]) (by simp [results, Tryz.results41, go_sem, r0, r1, r2]) rfl ?_
      exact ⟨⟨[name], some ⟨w2.heap.size, 0, none⟩, 1, [⟨false, ⟨#[47]⟩⟩], some ⟨w2.heap.size + 1, 0, none⟩, 1, 0⟩, rfl, (says_fail t name).symm, ho1, ho2⟩
    · have e3 : (k == 3) = false := by simpa using h3
      have HF : Hid _ := implFor_any none 0 [] name w2 (IsRows.nil _ _) (fun g hg => by cases hg) (fun g hg => by cases hg) (by simp) (fun g hg => by cases hg) (fun g hg => by cases hg)
      go_wp2_with fail
      refine Calls.mono HF.out ?_
      intro e w4 hs
      obtain ⟨g, rfl, hg, hgo, hb4⟩ := said_of hs (n := []) rfl
      have HG : Hid (grp g = saysG (k, t) name) := hg.trans (says_else t name h1 h3).symm
      have HO : Hid (GrOwn w4 w.heap.size g) := hgo.mono hw2
      have HBF : Hid (Below w.heap.size w w4) := HB2.out.trans (hb4.mono hw2)
      have HZF : Hid (Bx 29 w4 w.heap.size #[.slice none 0 0, .slice none 0 0, .int .i64 0]) := HZ2.out.keep (fun k hk => hb4.block k hk)
      clear hs hg hgo hb4
      have z0 : w4.cell? ⟨w.heap.size, 0, none⟩ = some (.slice none 0 0) := HZF.out.cell 0 rfl
      have z1 : w4.cell? ⟨w.heap.size, 1, none⟩ = some (.slice none 0 0) := HZF.out.cell 1 rfl
      have z2 : w4.cell? ⟨w.heap.size, 2, none⟩ = some (.int .i64 0) := HZF.out.cell 2 rfl
      have zf : ∀ j, w4.frozen? ⟨w.heap.size, j, none⟩ = false := HZF.out.free
      go_wp2
      obtain ⟨w9, hw9⟩ : ∃ w9, w9 = ((w4.setCell ⟨w.heap.size, 0, none⟩ (.slice g.na g.nm.length g.nc)).setCell ⟨w.heap.size, 1, none⟩ (.slice g.ra g.ru.length g.rc)).setCell ⟨w.heap.size, 2, none⟩ (.int .i64 g.wait) := ⟨_, rfl⟩
      rw [← hw9]
      obtain ⟨ho1, ho2, ho3⟩ := said_put HZF.out HO.out HBF.out hw9
      have r0 := ho3.cell 0 rfl
      have r1 := ho3.cell 1 rfl
      have r2 := ho3.cell 2 rfl
      clear hw9 ho3
      refine bodyPost_ret (v := .agg #[.slice g.na g.nm.length g.nc, .slice g.ra g.ru.length g.rc, .int .i64 g.wait]) (by simp [results, Tryz.results41, go_sem, r0, r1, r2]) rfl ?_
      exact ⟨g, rfl, HG.out, ho1, ho2⟩

theorem barred_own (name : ByteArray) (w : World) (C : Array Value) : GrOwn (((w.alloc (.cells C 29)).alloc (.cells #[.string name] 9)).alloc (.cells #[.bool false, .string ⟨#[47]⟩] 81)) w.heap.size ⟨[name], some ⟨w.heap.size + 1, 0, none⟩, 1, [⟨false, ⟨#[47]⟩⟩], some ⟨w.heap.size + 1 + 1, 0, none⟩, 1, 0⟩ ∧ Below w.heap.size w (((w.alloc (.cells C 29)).alloc (.cells #[.string name] 9)).alloc (.cells #[.bool false, .string ⟨#[47]⟩] 81)) ∧ Bx 29 (((w.alloc (.cells C 29)).alloc (.cells #[.string name] 9)).alloc (.cells #[.bool false, .string ⟨#[47]⟩] 81)) w.heap.size C := by
  have s1 : (w.alloc (.cells C 29)).heap.size = w.heap.size + 1 := by simp
  have s2 : ((w.alloc (.cells C 29)).alloc (.cells #[.string name] 9)).heap.size = w.heap.size + 1 + 1 := by simp
  have HO1 : Owns ((w.alloc (.cells C 29)).alloc (.cells #[.string name] 9)) w.heap.size (.slice (some ⟨w.heap.size + 1, 0, none⟩) 1 1) [name] := by
    have := Dr.Owns.lit1 (w.alloc (.cells C 29)) w.heap.size name (by rw [s1]; omega)
    rw [s1] at this; exact this
  have HO2 : OwnsR FRu 81 (((w.alloc (.cells C 29)).alloc (.cells #[.string name] 9)).alloc (.cells #[.bool false, .string ⟨#[47]⟩] 81)) w.heap.size (.slice (some ⟨w.heap.size + 1 + 1, 0, none⟩) 1 1) [⟨false, ⟨#[47]⟩⟩] := by
    refine ⟨rfl, Or.inr ⟨w.heap.size + 1 + 1, 1, #[.bool false, .string ⟨#[47]⟩], rfl, by omega, ?_, Nat.le_refl _, by decide, rfl, rfl⟩⟩
    have := heap_new ((w.alloc (.cells C 29)).alloc (.cells #[.string name] 9)) (.cells #[.bool false, .string ⟨#[47]⟩] 81)
    rwa [s2] at this
  exact ⟨⟨Owns.keep HO1 (alloc_keep _ _), HO2⟩, ((((Below.refl _ w).alloc (Nat.le_refl _) _).alloc (by rw [s1]; omega) _).alloc (by rw [s2]; omega) _), ((Bx.new 29 w C).alloc _).alloc _⟩
set_option maxRecDepth 100000 in
set_option maxHeartbeats 3200000 in
theorem barred_any (name : ByteArray) (w : World) : Calls Tryz.prog 81 #[.string name] w fun e w' => SaidG w w' ([name], [⟨false, ⟨#[47]⟩⟩], 0) e := by
  have HBO : Hid _ := barred_own name w #[.slice (some ⟨w.heap.size + 1, 0, none⟩) 1 1, .slice (some ⟨w.heap.size + 1 + 1, 0, none⟩) 1 1, .int .i64 0]
  go_enter Tryz.func81, Tryz.ntmps81
  go_wp2
  have r0 := HBO.out.2.2.cell 0 rfl
  have r1 := HBO.out.2.2.cell 1 rfl
  have r2 := HBO.out.2.2.cell 2 rfl
  refine bodyPost_ret (v := .agg #[.slice (some ⟨w.heap.size + 1, 0, none⟩) 1 1, .slice (some ⟨w.heap.size + 1 + 1, 0, none⟩) 1 1, .int .i64 0]) (by simp [results, Tryz.results81, go_sem, r0, r1, r2]) rfl ?_
  exact ⟨⟨[name], some ⟨w.heap.size + 1, 0, none⟩, 1, [⟨false, ⟨#[47]⟩⟩], some ⟨w.heap.size + 1 + 1, 0, none⟩, 1, 0⟩, rfl, rfl, HBO.out.1, HBO.out.2.1⟩

set_option maxRecDepth 100000 in
set_option maxHeartbeats 3200000 in
theorem specSaid_any (k : Int) (t name : ByteArray) (w : World) (ht : k = 1 → t.size ≤ 1000000) (hw : k = 1 → NwT t) :
    Calls Tryz.prog 47 #[.int .i64 k, .string t, .string name] w fun e w' => SaidG w w' (saysG (k, t) name) e := by
  have HZ0 : Hid (Bx 29 (w.alloc (.cells #[.slice none 0 0, .slice none 0 0, .int .i64 0] 29)) w.heap.size #[.slice none 0 0, .slice none 0 0, .int .i64 0]) := Bx.new 29 w _
  have HB0 : Hid (Below w.heap.size w (w.alloc (.cells #[.slice none 0 0, .slice none 0 0, .int .i64 0] 29))) := (Below.refl _ w).alloc (Nat.le_refl _) _
  have hs0 : w.heap.size < (w.alloc (.cells #[.slice none 0 0, .slice none 0 0, .int .i64 0] 29)).heap.size := by simp
  by_cases h1 : k = 1
  · subst h1
    have htz := ht rfl
    have HNW : Hid _ := nw_same (hw rfl)
    rw [says_page t name]
    clear hw ht
    go_enter Tryz.func47, Tryz.ntmps47
    go_wp2_with fail
    refine (NrS.specRead_notice t _ htz).mono ?_
    rintro e w3 ⟨v3, A, rfl, hgA, hmA, hb3⟩
    obtain ⟨aa, ca, hv3, hIA, hAA⟩ := hgA.at
    subst hv3
    have hmA2 : A.map grp = noticeF t := hmA.trans HNW.out
    obtain ⟨hl, hbd⟩ := notice_bd hmA2
    have HMA : Hid (A.map grp = noticeF t) := hmA2
    have HF : Hid _ := specFor_any aa ca A name w3 hIA hAA (fun g hg => (hbd g hg).1) (by omega) (fun g hg => (hbd g hg).2.1) (fun g hg => by have := (hbd g hg).2.2; omega)
    have HB3 : Hid (Below w.heap.size w w3) := HB0.out.trans (hb3.mono HB0.out.size)
    have HZ3 : Hid (Bx 29 w3 w.heap.size #[.slice none 0 0, .slice none 0 0, .int .i64 0]) := HZ0.out.keep (fun k hk => hb3.block k hk)
    clear hgA hmA hmA2 hb3 hIA hAA hbd
    go_wp2_with fail
    refine Calls.mono HF.out ?_
    intro e w4 hs
    obtain ⟨g, rfl, hg, hgo, hb4⟩ := said_of hs HMA.out
    have HG : Hid (grp g = ([name], rulesT (toldT (noticeF t) name), waitT (toldT (noticeF t) name))) := hg
    have HO : Hid (GrOwn w4 w.heap.size g) := hgo.mono HB3.out.size
    have HBF : Hid (Below w.heap.size w w4) := HB3.out.trans (hb4.mono HB3.out.size)
    have HZF : Hid (Bx 29 w4 w.heap.size #[.slice none 0 0, .slice none 0 0, .int .i64 0]) := HZ3.out.keep (fun k hk => hb4.block k hk)
    clear hs hg hgo hb4
    have z0 : w4.cell? ⟨w.heap.size, 0, none⟩ = some (.slice none 0 0) := HZF.out.cell 0 rfl
    have z1 : w4.cell? ⟨w.heap.size, 1, none⟩ = some (.slice none 0 0) := HZF.out.cell 1 rfl
    have z2 : w4.cell? ⟨w.heap.size, 2, none⟩ = some (.int .i64 0) := HZF.out.cell 2 rfl
    have zf : ∀ j, w4.frozen? ⟨w.heap.size, j, none⟩ = false := HZF.out.free
    go_wp2
    obtain ⟨w9, hw9⟩ : ∃ w9, w9 = ((w4.setCell ⟨w.heap.size, 0, none⟩ (.slice g.na g.nm.length g.nc)).setCell ⟨w.heap.size, 1, none⟩ (.slice g.ra g.ru.length g.rc)).setCell ⟨w.heap.size, 2, none⟩ (.int .i64 g.wait) := ⟨_, rfl⟩
    rw [← hw9]
    obtain ⟨ho1, ho2, ho3⟩ := said_put HZF.out HO.out HBF.out hw9
    have r0 := ho3.cell 0 rfl
    have r1 := ho3.cell 1 rfl
    have r2 := ho3.cell 2 rfl
    clear hw9 ho3
    refine bodyPost_ret (v := .agg #[.slice g.na g.nm.length g.nc, .slice g.ra g.ru.length g.rc, .int .i64 g.wait]) (by simp [results, Tryz.results47, go_sem, r0, r1, r2]) rfl ?_
    exact ⟨g, rfl, HG.out, ho1, ho2⟩
  · have e1 : (k == 1) = false := by simpa using h1
    clear ht hw
    by_cases h3 : k = 3
    · subst h3
      rw [says_fail]
      have HBR : Hid (∀ W : World, Calls Tryz.prog 81 #[.string name] W fun e w' => SaidG W w' ([name], [⟨false, ⟨#[47]⟩⟩], 0) e) := fun W => barred_any name W
      go_enter Tryz.func47, Tryz.ntmps47
      go_wp2_with fail
      refine (HBR.out _).mono ?_
      rintro e w4 ⟨g, rfl, hg, hgo, hb4⟩
      have HG : Hid (grp g = ([name], [⟨false, ⟨#[47]⟩⟩], 0)) := hg
      have HO : Hid (GrOwn w4 w.heap.size g) := hgo.mono (Nat.le_of_lt hs0)
      have HBF : Hid (Below w.heap.size w w4) := HB0.out.trans (hb4.mono (Nat.le_of_lt hs0))
      have HZF : Hid (Bx 29 w4 w.heap.size #[.slice none 0 0, .slice none 0 0, .int .i64 0]) := HZ0.out.keep (fun k hk => hb4.block k hk)
      clear hg hgo hb4
      have z0 : w4.cell? ⟨w.heap.size, 0, none⟩ = some (.slice none 0 0) := HZF.out.cell 0 rfl
      have z1 : w4.cell? ⟨w.heap.size, 1, none⟩ = some (.slice none 0 0) := HZF.out.cell 1 rfl
      have z2 : w4.cell? ⟨w.heap.size, 2, none⟩ = some (.int .i64 0) := HZF.out.cell 2 rfl
      have zf : ∀ j, w4.frozen? ⟨w.heap.size, j, none⟩ = false := HZF.out.free
      go_wp2
      obtain ⟨w9, hw9⟩ : ∃ w9, w9 = ((w4.setCell ⟨w.heap.size, 0, none⟩ (.slice g.na g.nm.length g.nc)).setCell ⟨w.heap.size, 1, none⟩ (.slice g.ra g.ru.length g.rc)).setCell ⟨w.heap.size, 2, none⟩ (.int .i64 g.wait) := ⟨_, rfl⟩
      rw [← hw9]
      obtain ⟨ho1, ho2, ho3⟩ := said_put HZF.out HO.out HBF.out hw9
      have r0 := ho3.cell 0 rfl
      have r1 := ho3.cell 1 rfl
      have r2 := ho3.cell 2 rfl
      clear hw9 ho3
      refine bodyPost_ret (v := .agg #[.slice g.na g.nm.length g.nc, .slice g.ra g.ru.length g.rc, .int .i64 g.wait]) (by simp [results, Tryz.results47, go_sem, r0, r1, r2]) rfl ?_
      exact ⟨g, rfl, HG.out, ho1, ho2⟩
    · have e3 : (k == 3) = false := by simpa using h3
      rw [says_else t name h1 h3]
      have HF : Hid (∀ W : World, Calls Tryz.prog 79 #[.slice (some ⟨w.heap.size + 1, 0, none⟩) 0 0, .string name] W fun e w' => Said W w' [] name e) := fun W => specFor_any (some ⟨w.heap.size + 1, 0, none⟩) 0 [] name W ⟨Nat.le_refl _, by decide, (fun e => by cases e), fun h => absurd rfl h⟩ (fun g hg => by cases hg) (fun g hg => by cases hg) (by simp) (fun g hg => by cases hg) (fun g hg => by cases hg)
      go_enter Tryz.func47, Tryz.ntmps47
      go_wp2_with fail
      refine (HF.out _).mono ?_
      intro e w4 hs
      obtain ⟨g, rfl, hg, hgo, hb4⟩ := said_of hs (n := []) rfl
      have HG : Hid (grp g = ([name], [], 0)) := hg
      have HO : Hid (GrOwn w4 w.heap.size g) := hgo.mono (by simp; omega)
      have HBF : Hid (Below w.heap.size w w4) := (HB0.out.alloc (by simp) _).trans (hb4.mono (by simp; omega))
      have HZF : Hid (Bx 29 w4 w.heap.size #[.slice none 0 0, .slice none 0 0, .int .i64 0]) := (HZ0.out.alloc _).keep (fun k hk => hb4.block k hk)
      clear hs hg hgo hb4
      have z0 : w4.cell? ⟨w.heap.size, 0, none⟩ = some (.slice none 0 0) := HZF.out.cell 0 rfl
      have z1 : w4.cell? ⟨w.heap.size, 1, none⟩ = some (.slice none 0 0) := HZF.out.cell 1 rfl
      have z2 : w4.cell? ⟨w.heap.size, 2, none⟩ = some (.int .i64 0) := HZF.out.cell 2 rfl
      have zf : ∀ j, w4.frozen? ⟨w.heap.size, j, none⟩ = false := HZF.out.free
      go_wp2
      obtain ⟨w9, hw9⟩ : ∃ w9, w9 = ((w4.setCell ⟨w.heap.size, 0, none⟩ (.slice g.na g.nm.length g.nc)).setCell ⟨w.heap.size, 1, none⟩ (.slice g.ra g.ru.length g.rc)).setCell ⟨w.heap.size, 2, none⟩ (.int .i64 g.wait) := ⟨_, rfl⟩
      rw [← hw9]
      obtain ⟨ho1, ho2, ho3⟩ := said_put HZF.out HO.out HBF.out hw9
      have r0 := ho3.cell 0 rfl
      have r1 := ho3.cell 1 rfl
      have r2 := ho3.cell 2 rfl
      clear hw9 ho3
      refine bodyPost_ret (v := .agg #[.slice g.na g.nm.length g.nc, .slice g.ra g.ru.length g.rc, .int .i64 g.wait]) (by simp [results, Tryz.results47, go_sem, r0, r1, r2]) rfl ?_
      exact ⟨g, rfl, HG.out, ho1, ho2⟩
end Go.Proofs.YtmgcdfmgmpnonaaGreatDoor.WdN
/- WorldNotice and WorldLets: of the program and of the model. -/
namespace Go.Proofs.YtmgcdfmgmpnonaaGreatDoor.WdN
open Go.RowKit Go.Proofs.YtmgcdfmgmpnonaaGreatDoor.EscM Go.Proofs.YtmgcdfmgmpnonaaGreatDoor.AddrM Go.Proofs.YtmgcdfmgmpnonaaGreatDoor.ReadM Go.Proofs.YtmgcdfmgmpnonaaGreatDoor.St Go.Proofs.YtmgcdfmgmpnonaaGreatDoor.EscL Go.Proofs.YtmgcdfmgmpnonaaGreatDoor.Ad1 Go.Proofs.YtmgcdfmgmpnonaaGreatDoor.Rd1 Go.Proofs.YtmgcdfmgmpnonaaGreatDoor.RuleM Go.Proofs.YtmgcdfmgmpnonaaGreatDoor.RdA Go.Proofs.YtmgcdfmgmpnonaaGreatDoor.MkA Go.Proofs.YtmgcdfmgmpnonaaGreatDoor.Mp Go.Proofs.YtmgcdfmgmpnonaaGreatDoor.WdM Go.Proofs.YtmgcdfmgmpnonaaGreatDoor.Wd Go.Proofs.YtmgcdfmgmpnonaaGreatDoor.RR Go.Proofs.YtmgcdfmgmpnonaaGreatDoor.LetM Go.Proofs.YtmgcdfmgmpnonaaGreatDoor.Nm Go.Proofs.YtmgcdfmgmpnonaaGreatDoor.GrM Go.Proofs.YtmgcdfmgmpnonaaGreatDoor.Gf Go.Proofs.YtmgcdfmgmpnonaaGreatDoor.Dr Go.Proofs.YtmgcdfmgmpnonaaGreatDoor.RoPg Go.Proofs.YtmgcdfmgmpnonaaGreatDoor.NrM Go.Proofs.YtmgcdfmgmpnonaaGreatDoor.NrT Go.Proofs.YtmgcdfmgmpnonaaGreatDoor.NrW

/-- no page's text is too long, or bears a bare word of waiting -/
def PgRd (L : List Pg) : Prop := ∀ p ∈ L, p.text.size ≤ 1000000 ∧ NwT p.text
/-- what a world's notice of a house says to a caller -/
def noticeW (L : List Pg) (house name : ByteArray) : List ByteArray × List Ru × Int := if wOk L && houseB house && nameB name then saysG (kindF L (doorS house) 2) name else ([], [], 0)
theorem notice_no {L : List Pg} {house name : ByteArray} (h : (wOk L && houseB house && nameB name) = false) : noticeW L house name = ([], [], 0) := by unfold noticeW; rw [h]; rfl
theorem notice_yes {L : List Pg} {house name : ByteArray} (h1 : wOk L = true) (h2 : houseB house = true) (h3 : nameB name = true) : noticeW L house name = saysG (kindF L (doorS house) 2) name := by unfold noticeW; rw [h1, h2, h3]; rfl
theorem kind_rd {L : List Pg} (h : PgRd L) (a : ByteArray) (t : Int) (hk : (kindF L a t).1 = 1) : (kindF L a t).2.size ≤ 1000000 ∧ NwT (kindF L a t).2 := by
  unfold kindF at hk ⊢
  cases hf : L.find? (sameA a) with
  | none => rw [hf] at hk; cases hk
  | some p =>
    rw [hf] at hk
    have hp := h p (List.mem_of_find?_eq_some hf)
    dsimp only at hk ⊢
    by_cases h0 : t < p.fails
    · rw [if_pos h0] at hk; cases hk
    · rw [if_neg h0] at hk ⊢
      by_cases h2 : p.lead.toList.isEmpty = true
      · rw [if_pos h2]; exact hp
      · rw [if_neg h2] at hk; cases hk

set_option maxRecDepth 100000 in
set_option maxHeartbeats 3200000 in
theorem implWNotice_any (a0 : Option Addr) (cap : Nat) (L : List Pg) (house name : ByteArray) (w : World) (hM : Im.Mx w) (hI : IsRows FPg w a0 cap L) (hS : PgSz L) (hA : PgAs L) (hR : PgRd L) (hh : house.size ≤ maxLen) (hn : name.size ≤ maxLen) :
    Calls Tryz.prog 12 #[.slice a0 L.length cap, .string house, .string name] w fun e w' => SaidG w w' (noticeW L house name) e := by
  have HM : Hid (Im.Mx w) := hM
  have HZ0 : Hid (Bx 29 (w.alloc (.cells #[.slice none 0 0, .slice none 0 0, .int .i64 0] 29)) w.heap.size #[.slice none 0 0, .slice none 0 0, .int .i64 0]) := Bx.new 29 w _
  have HB0 : Hid (Below w.heap.size w (w.alloc (.cells #[.slice none 0 0, .slice none 0 0, .int .i64 0] 29))) := (Below.refl _ w).alloc (Nat.le_refl _) _
  have hs0 : w.heap.size < (w.alloc (.cells #[.slice none 0 0, .slice none 0 0, .int .i64 0] 29)).heap.size := by simp
  have HWP : Hid _ := worldPages_any a0 cap L (w.alloc (.cells #[.slice none 0 0, .slice none 0 0, .int .i64 0] 29)) (hM.alloc _) (hI.keep (alloc_keep _ _)) hS hA
  have HNO : Hid ((wOk L && houseB house && nameB name) = false → noticeW L house name = ([], [], 0)) := notice_no
  have HYE : Hid (wOk L = true → houseB house = true → nameB name = true → noticeW L house name = saysG (kindF L (doorS house) 2) name) := notice_yes
  have HNT : Hid (∀ b W, Im.Mx W → IsMap W b (entsL L) → houseB house = true → Calls Tryz.prog 41 #[.map (some b), .string house, .string name] W fun e w' => SaidG W w' (saysG (kindF L (doorS house) 2) name) e) := fun b W hW hm hq => noticeAt_any b L house name W hW hm hq (fun p hp => (hR p hp).1)
  have HSM : Hid (∀ W : World, Calls Tryz.prog 39 #[.string house, .int .i64 5] W fun e w' => e = .returned (.bool (houseB house)) ∧ w' = W) := fun W => implSmall_any house W hh
  have HNM : Hid (∀ W : World, Calls Tryz.prog 40 #[.string name] W fun e w' => e = .returned (.bool (nameB name)) ∧ w' = W) := fun W => implName_any name W hn
  clear hM hI hS hA hR
  generalize noticeW L house name = T at *
  generalize saysG (kindF L (doorS house) 2) name = T2 at *
  go_enter Tryz.func12, Tryz.ntmps12
  go_wp2_with fail
  refine Calls.mono HWP.out ?_
  rintro e w1 ⟨hbr, hb1⟩
  have HB1 : Hid (Below w.heap.size w w1) := HB0.out.trans (hb1.mono HB0.out.size)
  have HZ1 : Hid (Bx 29 w1 w.heap.size #[.slice none 0 0, .slice none 0 0, .int .i64 0]) := HZ0.out.keep (fun k hk => hb1.block k hk)
  clear hb1 HB0 HZ0 HWP
  rcases hbr with ⟨hw, b, rfl, hbb, hm⟩ | ⟨hw, rfl⟩
  · have HMP : Hid (IsMap w1 b (entsL L)) := hm
    have HW : Hid (wOk L = true) := hw
    clear hm hw hbb
    cases hq : houseB house with
    | false =>
      have HT : Hid (T = ([], [], 0)) := HNO.out (by rw [hq]; simp)
      rw [hq] at HSM
      clear hq
      have HO : Hid (GrOwn w1 w.heap.size ⟨[], none, 0, [], none, 0, 0⟩) := ⟨Owns.nil _ _, OwnsR.nil _ _ _ _⟩
      have HBF : Hid (Below w.heap.size w w1) := HB1.out
      have HZF : Hid (Bx 29 w1 w.heap.size #[.slice none 0 0, .slice none 0 0, .int .i64 0]) := HZ1.out
      have z0 : w1.cell? ⟨w.heap.size, 0, none⟩ = some (.slice none 0 0) := HZF.out.cell 0 rfl
      have z1 : w1.cell? ⟨w.heap.size, 1, none⟩ = some (.slice none 0 0) := HZF.out.cell 1 rfl
      have z2 : w1.cell? ⟨w.heap.size, 2, none⟩ = some (.int .i64 0) := HZF.out.cell 2 rfl
      have zf : ∀ j, w1.frozen? ⟨w.heap.size, j, none⟩ = false := HZF.out.free
      go_wp2_with (go_at_call 39; refine (HSM.out _).mono ?_; rintro e w2 ⟨rfl, e1⟩; have e2 := e1.symm; subst e2)
      obtain ⟨w9, hw9⟩ : ∃ w9, w9 = ((w1.setCell ⟨w.heap.size, 0, none⟩ (.slice none 0 0)).setCell ⟨w.heap.size, 1, none⟩ (.slice none 0 0)).setCell ⟨w.heap.size, 2, none⟩ (.int .i64 0) := ⟨_, rfl⟩
      rw [← hw9]
      obtain ⟨ho1, ho2, ho3⟩ := said_put (g := ⟨[], none, 0, [], none, 0, 0⟩) HZF.out HO.out HBF.out hw9
      have r0 : w9.cell? ⟨w.heap.size, 0, none⟩ = some (.slice none 0 0) := ho3.cell 0 rfl
      have r1 : w9.cell? ⟨w.heap.size, 1, none⟩ = some (.slice none 0 0) := ho3.cell 1 rfl
      have r2 : w9.cell? ⟨w.heap.size, 2, none⟩ = some (.int .i64 0) := ho3.cell 2 rfl
      clear hw9 ho3
      refine bodyPost_ret (v := .agg #[(.slice none 0 0), (.slice none 0 0), .int .i64 0]) (by simp [results, Tryz.results12, go_sem, r0, r1, r2]) rfl ?_
      exact ⟨⟨[], none, 0, [], none, 0, 0⟩, rfl, by rw [HT.out]; rfl, ho1, ho2⟩
    | true =>
      have HQ : Hid (houseB house = true) := hq
      rw [hq] at HSM
      clear hq
      cases hq2 : nameB name with
      | false =>
        have HT : Hid (T = ([], [], 0)) := HNO.out (by rw [hq2]; simp)
        rw [hq2] at HNM
        clear hq2
        have HO : Hid (GrOwn w1 w.heap.size ⟨[], none, 0, [], none, 0, 0⟩) := ⟨Owns.nil _ _, OwnsR.nil _ _ _ _⟩
        have HBF : Hid (Below w.heap.size w w1) := HB1.out
        have HZF : Hid (Bx 29 w1 w.heap.size #[.slice none 0 0, .slice none 0 0, .int .i64 0]) := HZ1.out
        have z0 : w1.cell? ⟨w.heap.size, 0, none⟩ = some (.slice none 0 0) := HZF.out.cell 0 rfl
        have z1 : w1.cell? ⟨w.heap.size, 1, none⟩ = some (.slice none 0 0) := HZF.out.cell 1 rfl
        have z2 : w1.cell? ⟨w.heap.size, 2, none⟩ = some (.int .i64 0) := HZF.out.cell 2 rfl
        have zf : ∀ j, w1.frozen? ⟨w.heap.size, j, none⟩ = false := HZF.out.free
        go_wp2_with (first | (go_at_call 39; refine (HSM.out _).mono ?_; rintro e w2 ⟨rfl, e1⟩; have e2 := e1.symm; subst e2) | (go_at_call 40; refine (HNM.out _).mono ?_; rintro e w2 ⟨rfl, e1⟩; have e2 := e1.symm; subst e2))
        obtain ⟨w9, hw9⟩ : ∃ w9, w9 = ((w1.setCell ⟨w.heap.size, 0, none⟩ (.slice none 0 0)).setCell ⟨w.heap.size, 1, none⟩ (.slice none 0 0)).setCell ⟨w.heap.size, 2, none⟩ (.int .i64 0) := ⟨_, rfl⟩
        rw [← hw9]
        obtain ⟨ho1, ho2, ho3⟩ := said_put (g := ⟨[], none, 0, [], none, 0, 0⟩) HZF.out HO.out HBF.out hw9
        have r0 : w9.cell? ⟨w.heap.size, 0, none⟩ = some (.slice none 0 0) := ho3.cell 0 rfl
        have r1 : w9.cell? ⟨w.heap.size, 1, none⟩ = some (.slice none 0 0) := ho3.cell 1 rfl
        have r2 : w9.cell? ⟨w.heap.size, 2, none⟩ = some (.int .i64 0) := ho3.cell 2 rfl
        clear hw9 ho3
        refine bodyPost_ret (v := .agg #[(.slice none 0 0), (.slice none 0 0), .int .i64 0]) (by simp [results, Tryz.results12, go_sem, r0, r1, r2]) rfl ?_
        exact ⟨⟨[], none, 0, [], none, 0, 0⟩, rfl, by rw [HT.out]; rfl, ho1, ho2⟩
      | true =>
        have HT : Hid (T = T2) := HYE.out HW.out HQ.out hq2
        rw [hq2] at HNM
        clear hq2
        go_wp2_with (first | (go_at_call 39; refine (HSM.out _).mono ?_; rintro e w2 ⟨rfl, e1⟩; have e2 := e1.symm; subst e2) | (go_at_call 40; refine (HNM.out _).mono ?_; rintro e w2 ⟨rfl, e1⟩; have e2 := e1.symm; subst e2))
        refine (HNT.out b w1 (HM.out.below HB1.out) HMP.out HQ.out).mono ?_
        rintro e w3 ⟨g, rfl, hg, hgo, hb3⟩
        have HG : Hid (grp g = T) := hg.trans HT.out.symm
        have HO : Hid (GrOwn w3 w.heap.size g) := hgo.mono HB1.out.size
        have HBF : Hid (Below w.heap.size w w3) := HB1.out.trans (hb3.mono HB1.out.size)
        have HZF : Hid (Bx 29 w3 w.heap.size #[.slice none 0 0, .slice none 0 0, .int .i64 0]) := HZ1.out.keep (fun k hk => hb3.block k hk)
        clear hg hgo hb3
        have z0 : w3.cell? ⟨w.heap.size, 0, none⟩ = some (.slice none 0 0) := HZF.out.cell 0 rfl
        have z1 : w3.cell? ⟨w.heap.size, 1, none⟩ = some (.slice none 0 0) := HZF.out.cell 1 rfl
        have z2 : w3.cell? ⟨w.heap.size, 2, none⟩ = some (.int .i64 0) := HZF.out.cell 2 rfl
        have zf : ∀ j, w3.frozen? ⟨w.heap.size, j, none⟩ = false := HZF.out.free
        go_wp2
        obtain ⟨w9, hw9⟩ : ∃ w9, w9 = ((w3.setCell ⟨w.heap.size, 0, none⟩ (.slice g.na g.nm.length g.nc)).setCell ⟨w.heap.size, 1, none⟩ (.slice g.ra g.ru.length g.rc)).setCell ⟨w.heap.size, 2, none⟩ (.int .i64 g.wait) := ⟨_, rfl⟩
        rw [← hw9]
        obtain ⟨ho1, ho2, ho3⟩ := said_put HZF.out HO.out HBF.out hw9
        have r0 := ho3.cell 0 rfl
        have r1 := ho3.cell 1 rfl
        have r2 := ho3.cell 2 rfl
        clear hw9 ho3
        refine bodyPost_ret (v := .agg #[.slice g.na g.nm.length g.nc, .slice g.ra g.ru.length g.rc, .int .i64 g.wait]) (by simp [results, Tryz.results12, go_sem, r0, r1, r2]) rfl ?_
        exact ⟨g, rfl, HG.out, ho1, ho2⟩
  · have HT : Hid (T = ([], [], 0)) := HNO.out (by rw [hw]; rfl)
    have HO : Hid (GrOwn w1 w.heap.size ⟨[], none, 0, [], none, 0, 0⟩) := ⟨Owns.nil _ _, OwnsR.nil _ _ _ _⟩
    have HBF : Hid (Below w.heap.size w w1) := HB1.out
    have HZF : Hid (Bx 29 w1 w.heap.size #[.slice none 0 0, .slice none 0 0, .int .i64 0]) := HZ1.out
    have z0 : w1.cell? ⟨w.heap.size, 0, none⟩ = some (.slice none 0 0) := HZF.out.cell 0 rfl
    have z1 : w1.cell? ⟨w.heap.size, 1, none⟩ = some (.slice none 0 0) := HZF.out.cell 1 rfl
    have z2 : w1.cell? ⟨w.heap.size, 2, none⟩ = some (.int .i64 0) := HZF.out.cell 2 rfl
    have zf : ∀ j, w1.frozen? ⟨w.heap.size, j, none⟩ = false := HZF.out.free
    go_wp2
    obtain ⟨w9, hw9⟩ : ∃ w9, w9 = ((w1.setCell ⟨w.heap.size, 0, none⟩ (.slice none 0 0)).setCell ⟨w.heap.size, 1, none⟩ (.slice none 0 0)).setCell ⟨w.heap.size, 2, none⟩ (.int .i64 0) := ⟨_, rfl⟩
    rw [← hw9]
    obtain ⟨ho1, ho2, ho3⟩ := said_put (g := ⟨[], none, 0, [], none, 0, 0⟩) HZF.out HO.out HBF.out hw9
    have r0 : w9.cell? ⟨w.heap.size, 0, none⟩ = some (.slice none 0 0) := ho3.cell 0 rfl
    have r1 : w9.cell? ⟨w.heap.size, 1, none⟩ = some (.slice none 0 0) := ho3.cell 1 rfl
    have r2 : w9.cell? ⟨w.heap.size, 2, none⟩ = some (.int .i64 0) := ho3.cell 2 rfl
    clear hw9 ho3
    refine bodyPost_ret (v := .agg #[(.slice none 0 0), (.slice none 0 0), .int .i64 0]) (by simp [results, Tryz.results12, go_sem, r0, r1, r2]) rfl ?_
    exact ⟨⟨[], none, 0, [], none, 0, 0⟩, rfl, by rw [HT.out]; rfl, ho1, ho2⟩

theorem door_any (house : ByteArray) (w : World) (hz : house.size ≤ 4194304) :
    Calls Tryz.prog 46 #[.string house] w fun e w' => e = .returned (.string (doorS house)) ∧ Below w.heap.size w w' := by
  have HD : Hid ((⟨#[47, 47]⟩ : ByteArray) ++ house ++ (⟨#[47, 110, 111, 116, 105, 99, 101]⟩ : ByteArray) = doorS house) := rfl
  have e1 : (⟨#[47, 47]⟩ : ByteArray).size = 2 := rfl
  have e2 : ((⟨#[47, 47]⟩ : ByteArray) ++ house).size = 2 + house.size := by rw [ByteArray.size_append]; rfl
  go_enter Tryz.func46, Tryz.ntmps46
  go_wp2
  go_ret
  exact ⟨rfl, Below.refl _ _⟩
theorem specL11Last_any (a0 : Option Addr) (cap : Nat) (L : List Pg) (a : ByteArray) (w : World) (hI : IsRows FPg w a0 cap L) :
    Calls Tryz.prog 45 #[.slice a0 L.length cap, .string a] w fun e w' => e = .returned (.tuple #[.int .i64 (kindF L a 2).1, .string (kindF L a 2).2]) ∧ Below w.heap.size w w' := by
  have HG : Hid _ := specL11Get_any a0 cap L a 2 w hI
  generalize kindF L a 2 = R at *
  go_enter Tryz.func45, Tryz.ntmps45
  go_wp2_with fail
  refine Calls.mono HG.out ?_
  rintro e w1 ⟨rfl, hb⟩
  go_wp2
  go_ret2
  exact ⟨rfl, hb⟩

set_option maxRecDepth 100000 in
set_option maxHeartbeats 3200000 in
theorem specWNotice_any (a0 : Option Addr) (cap : Nat) (L : List Pg) (house name : ByteArray) (w : World) (hI : IsRows FPg w a0 cap L) (hS : PgSz L) (hR : PgRd L) (hh : house.size ≤ 4194304) (hn : name.size ≤ 4194304) :
    Calls Tryz.prog 14 #[.slice a0 L.length cap, .string house, .string name] w fun e w' => SaidG w w' (noticeW L house name) e := by
  have HI : Hid (IsRows FPg w a0 cap L) := hI
  have HZ0 : Hid (Bx 29 (w.alloc (.cells #[.slice none 0 0, .slice none 0 0, .int .i64 0] 29)) w.heap.size #[.slice none 0 0, .slice none 0 0, .int .i64 0]) := Bx.new 29 w _
  have HB0 : Hid (Below w.heap.size w (w.alloc (.cells #[.slice none 0 0, .slice none 0 0, .int .i64 0] 29))) := (Below.refl _ w).alloc (Nat.le_refl _) _
  have hs0 : w.heap.size < (w.alloc (.cells #[.slice none 0 0, .slice none 0 0, .int .i64 0] 29)).heap.size := by simp
  have HNO : Hid ((wOk L && houseB house && nameB name) = false → noticeW L house name = ([], [], 0)) := notice_no
  have HYE : Hid (wOk L = true → houseB house = true → nameB name = true → noticeW L house name = saysG (kindF L (doorS house) 2) name) := notice_yes
  have HOK : Hid _ := specWorldOk_any a0 cap L (w.alloc (.cells #[.slice none 0 0, .slice none 0 0, .int .i64 0] 29)) (hI.keep (alloc_keep _ _)) hS
  have HHO : Hid (∀ W : World, Calls Tryz.prog 43 #[.string house] W fun e w' => e = .returned (.bool (houseB house)) ∧ w' = W) := fun W => specHouse_any house W (by unfold maxLen; omega)
  have HNM : Hid (∀ W : World, Calls Tryz.prog 44 #[.string name] W fun e w' => e = .returned (.bool (nameB name)) ∧ w' = W) := fun W => specName_any name W (by unfold maxLen; omega)
  have HDO : Hid (∀ W : World, Calls Tryz.prog 46 #[.string house] W fun e w' => e = .returned (.string (doorS house)) ∧ Below W.heap.size W w') := fun W => door_any house W hh
  have HLA : Hid (∀ W, IsRows FPg W a0 cap L → Calls Tryz.prog 45 #[.slice a0 L.length cap, .string (doorS house)] W fun e w' => e = .returned (.tuple #[.int .i64 (kindF L (doorS house) 2).1, .string (kindF L (doorS house) 2).2]) ∧ Below W.heap.size W w') := fun W hW => specL11Last_any a0 cap L (doorS house) W hW
  have HSD2 : Hid (∀ W, Calls Tryz.prog 47 #[.int .i64 (kindF L (doorS house) 2).1, .string (kindF L (doorS house) 2).2, .string name] W fun e w' => SaidG W w' (saysG (kindF L (doorS house) 2) name) e) := fun W => specSaid_any (kindF L (doorS house) 2).1 (kindF L (doorS house) 2).2 name W (fun h => (kind_rd hR _ _ h).1) (fun h => (kind_rd hR _ _ h).2)
  clear hI hS hR
  generalize noticeW L house name = T at *
  generalize saysG (kindF L (doorS house) 2) name = T2 at *
  generalize kindF L (doorS house) 2 = K at *
  generalize doorS house = da at *
  go_enter Tryz.func14, Tryz.ntmps14
  go_wp2_with fail
  refine Calls.mono HOK.out ?_
  rintro e w1 ⟨rfl, hb1⟩
  have HB1 : Hid (Below w.heap.size w w1) := HB0.out.trans (hb1.mono HB0.out.size)
  have HZ1 : Hid (Bx 29 w1 w.heap.size #[.slice none 0 0, .slice none 0 0, .int .i64 0]) := HZ0.out.keep (fun k hk => hb1.block k hk)
  clear hb1 HB0 HZ0 HOK
  cases hw : wOk L with
  | false =>
    have HT : Hid (T = ([], [], 0)) := HNO.out (by rw [hw]; rfl)
    clear hw
    have HO : Hid (GrOwn w1 w.heap.size ⟨[], none, 0, [], none, 0, 0⟩) := ⟨Owns.nil _ _, OwnsR.nil _ _ _ _⟩
    have HBF : Hid (Below w.heap.size w w1) := HB1.out
    have HZF : Hid (Bx 29 w1 w.heap.size #[.slice none 0 0, .slice none 0 0, .int .i64 0]) := HZ1.out
    have z0 : w1.cell? ⟨w.heap.size, 0, none⟩ = some (.slice none 0 0) := HZF.out.cell 0 rfl
    have z1 : w1.cell? ⟨w.heap.size, 1, none⟩ = some (.slice none 0 0) := HZF.out.cell 1 rfl
    have z2 : w1.cell? ⟨w.heap.size, 2, none⟩ = some (.int .i64 0) := HZF.out.cell 2 rfl
    have zf : ∀ j, w1.frozen? ⟨w.heap.size, j, none⟩ = false := HZF.out.free
    go_wp2
    obtain ⟨w9, hw9⟩ : ∃ w9, w9 = ((w1.setCell ⟨w.heap.size, 0, none⟩ (.slice none 0 0)).setCell ⟨w.heap.size, 1, none⟩ (.slice none 0 0)).setCell ⟨w.heap.size, 2, none⟩ (.int .i64 0) := ⟨_, rfl⟩
    rw [← hw9]
    obtain ⟨ho1, ho2, ho3⟩ := said_put (g := ⟨[], none, 0, [], none, 0, 0⟩) HZF.out HO.out HBF.out hw9
    have r0 : w9.cell? ⟨w.heap.size, 0, none⟩ = some (.slice none 0 0) := ho3.cell 0 rfl
    have r1 : w9.cell? ⟨w.heap.size, 1, none⟩ = some (.slice none 0 0) := ho3.cell 1 rfl
    have r2 : w9.cell? ⟨w.heap.size, 2, none⟩ = some (.int .i64 0) := ho3.cell 2 rfl
    clear hw9 ho3
    refine bodyPost_ret (v := .agg #[(.slice none 0 0), (.slice none 0 0), .int .i64 0]) (by simp [results, Tryz.results14, go_sem, r0, r1, r2]) rfl ?_
    exact ⟨⟨[], none, 0, [], none, 0, 0⟩, rfl, by rw [HT.out]; rfl, ho1, ho2⟩
  | true =>
    have HW : Hid (wOk L = true) := hw
    clear hw
    cases hq : houseB house with
    | false =>
      have HT : Hid (T = ([], [], 0)) := HNO.out (by rw [hq]; simp)
      rw [hq] at HHO
      clear hq
      have HO : Hid (GrOwn w1 w.heap.size ⟨[], none, 0, [], none, 0, 0⟩) := ⟨Owns.nil _ _, OwnsR.nil _ _ _ _⟩
      have HBF : Hid (Below w.heap.size w w1) := HB1.out
      have HZF : Hid (Bx 29 w1 w.heap.size #[.slice none 0 0, .slice none 0 0, .int .i64 0]) := HZ1.out
      have z0 : w1.cell? ⟨w.heap.size, 0, none⟩ = some (.slice none 0 0) := HZF.out.cell 0 rfl
      have z1 : w1.cell? ⟨w.heap.size, 1, none⟩ = some (.slice none 0 0) := HZF.out.cell 1 rfl
      have z2 : w1.cell? ⟨w.heap.size, 2, none⟩ = some (.int .i64 0) := HZF.out.cell 2 rfl
      have zf : ∀ j, w1.frozen? ⟨w.heap.size, j, none⟩ = false := HZF.out.free
      go_wp2_with (go_at_call 43; refine (HHO.out _).mono ?_; rintro e w2 ⟨rfl, e1⟩; have e2 := e1.symm; subst e2)
      obtain ⟨w9, hw9⟩ : ∃ w9, w9 = ((w1.setCell ⟨w.heap.size, 0, none⟩ (.slice none 0 0)).setCell ⟨w.heap.size, 1, none⟩ (.slice none 0 0)).setCell ⟨w.heap.size, 2, none⟩ (.int .i64 0) := ⟨_, rfl⟩
      rw [← hw9]
      obtain ⟨ho1, ho2, ho3⟩ := said_put (g := ⟨[], none, 0, [], none, 0, 0⟩) HZF.out HO.out HBF.out hw9
      have r0 : w9.cell? ⟨w.heap.size, 0, none⟩ = some (.slice none 0 0) := ho3.cell 0 rfl
      have r1 : w9.cell? ⟨w.heap.size, 1, none⟩ = some (.slice none 0 0) := ho3.cell 1 rfl
      have r2 : w9.cell? ⟨w.heap.size, 2, none⟩ = some (.int .i64 0) := ho3.cell 2 rfl
      clear hw9 ho3
      refine bodyPost_ret (v := .agg #[(.slice none 0 0), (.slice none 0 0), .int .i64 0]) (by simp [results, Tryz.results14, go_sem, r0, r1, r2]) rfl ?_
      exact ⟨⟨[], none, 0, [], none, 0, 0⟩, rfl, by rw [HT.out]; rfl, ho1, ho2⟩
    | true =>
      have HQ : Hid (houseB house = true) := hq
      rw [hq] at HHO
      clear hq
      cases hq2 : nameB name with
      | false =>
        have HT : Hid (T = ([], [], 0)) := HNO.out (by rw [hq2]; simp)
        rw [hq2] at HNM
        clear hq2
        have HO : Hid (GrOwn w1 w.heap.size ⟨[], none, 0, [], none, 0, 0⟩) := ⟨Owns.nil _ _, OwnsR.nil _ _ _ _⟩
        have HBF : Hid (Below w.heap.size w w1) := HB1.out
        have HZF : Hid (Bx 29 w1 w.heap.size #[.slice none 0 0, .slice none 0 0, .int .i64 0]) := HZ1.out
        have z0 : w1.cell? ⟨w.heap.size, 0, none⟩ = some (.slice none 0 0) := HZF.out.cell 0 rfl
        have z1 : w1.cell? ⟨w.heap.size, 1, none⟩ = some (.slice none 0 0) := HZF.out.cell 1 rfl
        have z2 : w1.cell? ⟨w.heap.size, 2, none⟩ = some (.int .i64 0) := HZF.out.cell 2 rfl
        have zf : ∀ j, w1.frozen? ⟨w.heap.size, j, none⟩ = false := HZF.out.free
        go_wp2_with (first | (go_at_call 43; refine (HHO.out _).mono ?_; rintro e w2 ⟨rfl, e1⟩; have e2 := e1.symm; subst e2) | (go_at_call 44; refine (HNM.out _).mono ?_; rintro e w2 ⟨rfl, e1⟩; have e2 := e1.symm; subst e2))
        obtain ⟨w9, hw9⟩ : ∃ w9, w9 = ((w1.setCell ⟨w.heap.size, 0, none⟩ (.slice none 0 0)).setCell ⟨w.heap.size, 1, none⟩ (.slice none 0 0)).setCell ⟨w.heap.size, 2, none⟩ (.int .i64 0) := ⟨_, rfl⟩
        rw [← hw9]
        obtain ⟨ho1, ho2, ho3⟩ := said_put (g := ⟨[], none, 0, [], none, 0, 0⟩) HZF.out HO.out HBF.out hw9
        have r0 : w9.cell? ⟨w.heap.size, 0, none⟩ = some (.slice none 0 0) := ho3.cell 0 rfl
        have r1 : w9.cell? ⟨w.heap.size, 1, none⟩ = some (.slice none 0 0) := ho3.cell 1 rfl
        have r2 : w9.cell? ⟨w.heap.size, 2, none⟩ = some (.int .i64 0) := ho3.cell 2 rfl
        clear hw9 ho3
        refine bodyPost_ret (v := .agg #[(.slice none 0 0), (.slice none 0 0), .int .i64 0]) (by simp [results, Tryz.results14, go_sem, r0, r1, r2]) rfl ?_
        exact ⟨⟨[], none, 0, [], none, 0, 0⟩, rfl, by rw [HT.out]; rfl, ho1, ho2⟩
      | true =>
        have HT : Hid (T = T2) := HYE.out HW.out HQ.out hq2
        rw [hq2] at HNM
        clear hq2
        go_wp2_with (first | (go_at_call 43; refine (HHO.out _).mono ?_; rintro e w2 ⟨rfl, e1⟩; have e2 := e1.symm; subst e2) | (go_at_call 44; refine (HNM.out _).mono ?_; rintro e w2 ⟨rfl, e1⟩; have e2 := e1.symm; subst e2))
        refine (HDO.out _).mono ?_
        rintro e w3 ⟨rfl, hb3⟩
        have HB3 : Hid (Below w.heap.size w w3) := HB1.out.trans (hb3.mono HB1.out.size)
        have HZ3 : Hid (Bx 29 w3 w.heap.size #[.slice none 0 0, .slice none 0 0, .int .i64 0]) := HZ1.out.keep (fun k hk => hb3.block k hk)
        clear hb3
        go_wp2_with fail
        refine (HLA.out _ (HI.out.below HB3.out)).mono ?_
        rintro e w4 ⟨rfl, hb4⟩
        have HB4 : Hid (Below w.heap.size w w4) := HB3.out.trans (hb4.mono HB3.out.size)
        have HZ4 : Hid (Bx 29 w4 w.heap.size #[.slice none 0 0, .slice none 0 0, .int .i64 0]) := HZ3.out.keep (fun k hk => hb4.block k hk)
        clear hb4
        go_wp2_with fail
        refine (HSD2.out _).mono ?_
        rintro e w5 ⟨g, rfl, hg, hgo, hb5⟩
        have HG : Hid (grp g = T) := hg.trans HT.out.symm
        have HO : Hid (GrOwn w5 w.heap.size g) := hgo.mono HB4.out.size
        have HBF : Hid (Below w.heap.size w w5) := HB4.out.trans (hb5.mono HB4.out.size)
        have HZF : Hid (Bx 29 w5 w.heap.size #[.slice none 0 0, .slice none 0 0, .int .i64 0]) := HZ4.out.keep (fun k hk => hb5.block k hk)
        clear hg hgo hb5
        have z0 : w5.cell? ⟨w.heap.size, 0, none⟩ = some (.slice none 0 0) := HZF.out.cell 0 rfl
        have z1 : w5.cell? ⟨w.heap.size, 1, none⟩ = some (.slice none 0 0) := HZF.out.cell 1 rfl
        have z2 : w5.cell? ⟨w.heap.size, 2, none⟩ = some (.int .i64 0) := HZF.out.cell 2 rfl
        have zf : ∀ j, w5.frozen? ⟨w.heap.size, j, none⟩ = false := HZF.out.free
        go_wp2
        obtain ⟨w9, hw9⟩ : ∃ w9, w9 = ((w5.setCell ⟨w.heap.size, 0, none⟩ (.slice g.na g.nm.length g.nc)).setCell ⟨w.heap.size, 1, none⟩ (.slice g.ra g.ru.length g.rc)).setCell ⟨w.heap.size, 2, none⟩ (.int .i64 g.wait) := ⟨_, rfl⟩
        rw [← hw9]
        obtain ⟨ho1, ho2, ho3⟩ := said_put HZF.out HO.out HBF.out hw9
        have r0 := ho3.cell 0 rfl
        have r1 := ho3.cell 1 rfl
        have r2 := ho3.cell 2 rfl
        clear hw9 ho3
        refine bodyPost_ret (v := .agg #[.slice g.na g.nm.length g.nc, .slice g.ra g.ru.length g.rc, .int .i64 g.wait]) (by simp [results, Tryz.results14, go_sem, r0, r1, r2]) rfl ?_
        exact ⟨g, rfl, HG.out, ho1, ho2⟩
end Go.Proofs.YtmgcdfmgmpnonaaGreatDoor.WdN
/- May a caller look at an address of a world: of the program and of the model. -/
namespace Go.Proofs.YtmgcdfmgmpnonaaGreatDoor.WdN
open Go.RowKit Go.Proofs.YtmgcdfmgmpnonaaGreatDoor.EscM Go.Proofs.YtmgcdfmgmpnonaaGreatDoor.AddrM Go.Proofs.YtmgcdfmgmpnonaaGreatDoor.ReadM Go.Proofs.YtmgcdfmgmpnonaaGreatDoor.St Go.Proofs.YtmgcdfmgmpnonaaGreatDoor.EscL Go.Proofs.YtmgcdfmgmpnonaaGreatDoor.Ad1 Go.Proofs.YtmgcdfmgmpnonaaGreatDoor.Rd1 Go.Proofs.YtmgcdfmgmpnonaaGreatDoor.RuleM Go.Proofs.YtmgcdfmgmpnonaaGreatDoor.RdA Go.Proofs.YtmgcdfmgmpnonaaGreatDoor.MkA Go.Proofs.YtmgcdfmgmpnonaaGreatDoor.Mp Go.Proofs.YtmgcdfmgmpnonaaGreatDoor.WdM Go.Proofs.YtmgcdfmgmpnonaaGreatDoor.Wd Go.Proofs.YtmgcdfmgmpnonaaGreatDoor.RR Go.Proofs.YtmgcdfmgmpnonaaGreatDoor.LetM Go.Proofs.YtmgcdfmgmpnonaaGreatDoor.Nm Go.Proofs.YtmgcdfmgmpnonaaGreatDoor.GrM Go.Proofs.YtmgcdfmgmpnonaaGreatDoor.Gf Go.Proofs.YtmgcdfmgmpnonaaGreatDoor.Dr Go.Proofs.YtmgcdfmgmpnonaaGreatDoor.RoPg Go.Proofs.YtmgcdfmgmpnonaaGreatDoor.NrM Go.Proofs.YtmgcdfmgmpnonaaGreatDoor.NrT Go.Proofs.YtmgcdfmgmpnonaaGreatDoor.NrW

theorem told_memT {L : List (List ByteArray × List Ru × Int)} {s : ByteArray} {g : List ByteArray × List Ru × Int} (h : g ∈ toldT L s) : g ∈ L := by
  unfold toldT withT at h
  split at h
  · exact (List.mem_filter.1 h).1
  · exact (List.mem_filter.1 h).1
theorem told_lenT (L : List (List ByteArray × List Ru × Int)) (s : ByteArray) : (toldT L s).length ≤ L.length := by
  unfold toldT withT
  split
  · exact List.length_filter_le _ _
  · exact List.length_filter_le _ _
theorem rules_leT (n : Nat) : ∀ L : List (List ByteArray × List Ru × Int), (∀ g ∈ L, g.2.1.length ≤ n) → (rulesT L).length ≤ L.length * n := by
  intro L
  induction L with
  | nil => intro _; simp [rulesT]
  | cons x r ih =>
    intro h
    have h1 := h x (by simp)
    have h2 := ih fun g hg => h g (List.mem_cons_of_mem _ hg)
    have e : (rulesT (x :: r)).length = x.2.1.length + (rulesT r).length := by simp [rulesT]
    rw [e, List.length_cons, Nat.add_mul]; omega
theorem notice_szT (t : ByteArray) : NrSz ⟨noticeF t, true⟩ 40 := by
  have hz := sz_mono (sz_read lineF (fun _ _ h => line_ok h) (splitS 10 t) (min 40 (splitS 10 t).length)) (Nat.min_le_left _ _)
  exact hz
/-- what is said can be gone by -/
theorem says_bd (k : Int × ByteArray) (s : ByteArray) : (saysG k s).2.1.length ≤ 240 ∧ ∀ r ∈ (saysG k s).2.1, r.path.size ≤ 16 := by
  unfold saysG
  split
  · have hz := notice_szT k.2
    have h1 : (noticeF k.2).length ≤ 40 := hz.1
    have h2 := told_lenT (noticeF k.2) s
    refine ⟨?_, fun r hr => ?_⟩
    · have := rules_leT 6 (toldT (noticeF k.2) s) fun g hg => (hz.2 g (told_memT hg)).2.2.1
      dsimp only
      omega
    · obtain ⟨g, hg, hm⟩ := List.mem_flatMap.1 hr
      exact ((hz.2 g (told_memT hg)).2.2.2.1 r hm).1
  · split
    · exact ⟨by simp, fun r hr => by simp at hr; subst hr; decide⟩
    · exact ⟨by simp, fun r hr => by cases hr⟩
theorem path_ok {A : Ad} (h : okB A = true) : pathF A = pathS A := by unfold pathF; rw [h]; rfl
theorem pathF_60 (A : Ad) : (pathF A).size ≤ 60 := by
  unfold pathF
  cases h : okB A with
  | false => exact Nat.zero_le _
  | true =>
    have := (Dr.ok_parts h).2.2.2.2.2
    show (pathL A).toArray.size ≤ 60
    unfold textL at this
    simp at this ⊢; omega

set_option maxRecDepth 100000 in
set_option maxHeartbeats 3200000 in
theorem letsAt_any (b : Nat) (L : List Pg) (A : Ad) (a0 : Option Addr) (cap : Nat) (name : ByteArray) (w : World) (hM : Im.Mx w) (h : IsMap w b (entsL L)) (hS : IsStrs w a0 cap A.parts) (hh : houseB A.house = true) (hB : bulkA A ≤ 4194304) (hR : PgRd L) :
    Calls Tryz.prog 55 #[.map (some b), .string name, .agg #[.string A.house, .slice a0 A.parts.length cap, .bool A.asks, .string A.ask]] w fun e w' => e = .returned (.bool (letsL (saysG (kindF L (doorS A.house) 2) name).2.1 (pathF A).data.toList)) ∧ Below w.heap.size w w' := by
  have HM0 : Hid (Im.Mx (w.alloc (.cells #[.string A.house, .slice a0 A.parts.length cap, .bool A.asks, .string A.ask] 41))) := hM.alloc _
  have HP0 : Hid (IsMap (w.alloc (.cells #[.string A.house, .slice a0 A.parts.length cap, .bool A.asks, .string A.ask] 41)) b (entsL L)) := h.alloc _
  have HS0 : Hid (IsStrs (w.alloc (.cells #[.string A.house, .slice a0 A.parts.length cap, .bool A.asks, .string A.ask] 41)) a0 cap A.parts) := hS.keep (alloc_keep _ _)
  have HB0 : Hid (Below w.heap.size w (w.alloc (.cells #[.string A.house, .slice a0 A.parts.length cap, .bool A.asks, .string A.ask] 41))) := (Below.refl _ w).alloc (Nat.le_refl _) _
  have HX0 : Hid (Bx 41 (w.alloc (.cells #[.string A.house, .slice a0 A.parts.length cap, .bool A.asks, .string A.ask] 41)) w.heap.size #[.string A.house, .slice a0 A.parts.length cap, .bool A.asks, .string A.ask]) := Bx.new _ _ _
  have HNT : Hid (∀ W, Im.Mx W → IsMap W b (entsL L) → Calls Tryz.prog 41 #[.map (some b), .string A.house, .string name] W fun e w' => SaidG W w' (saysG (kindF L (doorS A.house) 2) name) e) := fun W hW hm => noticeAt_any b L A.house name W hW hm hh (fun p hp => (hR p hp).1)
  have HPA : Hid (∀ W, IsStrs W a0 cap A.parts → _) := fun W hW => implAddrPath_any A a0 cap W hW hB
  have HBD : Hid _ := says_bd (kindF L (doorS A.house) 2) name
  have hpz := pathF_60 A
  clear hM h hS hh hR hB
  generalize saysG (kindF L (doorS A.house) 2) name = T at *
  generalize pathF A = pt at *
  generalize hW0 : w.alloc (.cells #[.string A.house, .slice a0 A.parts.length cap, .bool A.asks, .string A.ask] 41) = W0 at *
  have HW0 : Hid (w.alloc (.cells #[.string A.house, .slice a0 A.parts.length cap, .bool A.asks, .string A.ask] 41) = W0) := hW0
  have hsz0 : w.heap.size < W0.heap.size := by rw [← hW0]; simp
  clear hW0
  go_enter Tryz.func55, Tryz.ntmps55
  go_wp2_with fail
  rw [HW0.out]
  have x0 := HX0.out.cell 0 rfl
  have x1 := HX0.out.cell 1 rfl
  have x2 := HX0.out.cell 2 rfl
  have x3 := HX0.out.cell 3 rfl
  go_region_held_law (fun w' => w'.cell? ⟨w.heap.size, 0, none⟩ = some (.string A.house) ∧ w'.cell? ⟨w.heap.size, 1, none⟩ = some (.slice a0 A.parts.length cap) ∧ w'.cell? ⟨w.heap.size, 2, none⟩ = some (.bool A.asks) ∧ w'.cell? ⟨w.heap.size, 3, none⟩ = some (.string A.ask)) (first | go_keep | exact hS1 | exact hS2 | exact hS3)
    ((first
    | (go_at_call 41
       refine (HNT.out W0.drew (HM0.out.keep fun _ _ => rfl) (HP0.out.same rfl)).mono ?_
       rintro e w1 ⟨g, rfl, hg, hgo, hb1⟩
       have hb1' : Below W0.heap.size W0 w1 := ((Below.refl _ W0).drew).trans hb1
       have hfd : Sem.run Tryz.prog (Instr.field 29 (.agg #[.slice g.na g.nm.length g.nc, .slice g.ra g.ru.length g.rc, .int .i64 g.wait]) 1) w1 = .ok (.slice g.ra g.ru.length g.rc) w1 := by first | rfl | kernel_rfl
       have HG : Hid (grp g = T) := hg
       have HO1 : Hid (GrOwn w1 W0.heap.size g) := hgo
       have HE1 : Hid (Below W0.heap.size W0 w1) := hb1'
       have hz1 : W0.heap.size ≤ w1.heap.size := hb1'.size
       have HX1 : Hid (Bx 41 w1 w.heap.size #[.string A.house, .slice a0 A.parts.length cap, .bool A.asks, .string A.ask]) := HX0.out.keep fun k hk => hb1'.block k hk
       have hS1 : w1.cell? ⟨w.heap.size, 0, none⟩ = some (.string A.house) ∧ w1.cell? ⟨w.heap.size, 1, none⟩ = some (.slice a0 A.parts.length cap) ∧ w1.cell? ⟨w.heap.size, 2, none⟩ = some (.bool A.asks) ∧ w1.cell? ⟨w.heap.size, 3, none⟩ = some (.string A.ask) := ⟨HX1.out.cell 0 rfl, HX1.out.cell 1 rfl, HX1.out.cell 2 rfl, HX1.out.cell 3 rfl⟩
       clear hg hgo hb1 hb1')
    | (go_at_call 24
       refine (HPA.out w1 (HS0.out.below HE1.out)).mono ?_
       rintro e w2 ⟨rfl, hb2⟩
       have hfd2 : Sem.run Tryz.prog (Instr.field 29 (.agg #[.slice g.na g.nm.length g.nc, .slice g.ra g.ru.length g.rc, .int .i64 g.wait]) 1) w2 = .ok (.slice g.ra g.ru.length g.rc) w2 := by first | rfl | kernel_rfl
       have HE2 : Hid (Below W0.heap.size W0 w2) := HE1.out.trans (hb2.mono hz1)
       have hz2 : W0.heap.size ≤ w2.heap.size := HE2.out.size
       have HO2 : Hid (GrOwn w2 W0.heap.size g) := HO1.out.keep fun k hk => hb2.block k hk
       have HX2 : Hid (Bx 41 w2 w.heap.size #[.string A.house, .slice a0 A.parts.length cap, .bool A.asks, .string A.ask]) := HX1.out.keep fun k hk => hb2.block k hk
       have hS2 : w2.cell? ⟨w.heap.size, 0, none⟩ = some (.string A.house) ∧ w2.cell? ⟨w.heap.size, 1, none⟩ = some (.slice a0 A.parts.length cap) ∧ w2.cell? ⟨w.heap.size, 2, none⟩ = some (.bool A.asks) ∧ w2.cell? ⟨w.heap.size, 3, none⟩ = some (.string A.ask) := ⟨HX2.out.cell 0 rfl, HX2.out.cell 1 rfl, HX2.out.cell 2 rfl, HX2.out.cell 3 rfl⟩
       clear hb2)
    | (go_at_call 18
       have hgr : g.ru = T.2.1 := by rw [← HG.out]; rfl
       have hgl : g.ru.length ≤ 4194304 := by have := HBD.out.1; rw [hgr]; omega
       have hgz : ∀ r ∈ g.ru, r.path.size ≤ maxLen := by rw [hgr]; exact fun r hr => Nat.le_trans (HBD.out.2 r hr) (by decide)
       refine (Le.implLets_any g.ra g.rc g.ru pt w2 (HM0.out.below HE2.out) (OwnsR.rowsOf HO2.out.2) hgl hgz (by unfold maxLen; omega)).mono ?_
       rintro e w3 ⟨rfl, hb3⟩
       have HE3 : Hid (Below W0.heap.size W0 w3) := HE2.out.trans (hb3.mono hz2)
       have HX3 : Hid (Bx 41 w3 w.heap.size #[.string A.house, .slice a0 A.parts.length cap, .bool A.asks, .string A.ask]) := HX2.out.keep fun k hk => hb3.block k hk
       have hS3 : w3.cell? ⟨w.heap.size, 0, none⟩ = some (.string A.house) ∧ w3.cell? ⟨w.heap.size, 1, none⟩ = some (.slice a0 A.parts.length cap) ∧ w3.cell? ⟨w.heap.size, 2, none⟩ = some (.bool A.asks) ∧ w3.cell? ⟨w.heap.size, 3, none⟩ = some (.string A.ask) := ⟨HX3.out.cell 0 rfl, HX3.out.cell 1 rfl, HX3.out.cell 2 rfl, HX3.out.cell 3 rfl⟩
       clear hb3 hgr hgl hgz)
    | fail))
  all_goals
    have HF : Hid (Below w.heap.size w w3) := HB0.out.trans (HE3.out.mono (Nat.le_of_lt hsz0))
    have HTR : Hid (g.ru = T.2.1) := by show _ = _; rw [← HG.out]; rfl
    go_wp2
    go_ret
    exact ⟨ret_bool (by rw [HTR.out]), HF.out⟩
end Go.Proofs.YtmgcdfmgmpnonaaGreatDoor.WdN
/- WorldLets: of the program and of the model. -/
namespace Go.Proofs.YtmgcdfmgmpnonaaGreatDoor.WdN
open Go.RowKit Go.Proofs.YtmgcdfmgmpnonaaGreatDoor.EscM Go.Proofs.YtmgcdfmgmpnonaaGreatDoor.AddrM Go.Proofs.YtmgcdfmgmpnonaaGreatDoor.ReadM Go.Proofs.YtmgcdfmgmpnonaaGreatDoor.St Go.Proofs.YtmgcdfmgmpnonaaGreatDoor.EscL Go.Proofs.YtmgcdfmgmpnonaaGreatDoor.Ad1 Go.Proofs.YtmgcdfmgmpnonaaGreatDoor.Rd1 Go.Proofs.YtmgcdfmgmpnonaaGreatDoor.RuleM Go.Proofs.YtmgcdfmgmpnonaaGreatDoor.RdA Go.Proofs.YtmgcdfmgmpnonaaGreatDoor.MkA Go.Proofs.YtmgcdfmgmpnonaaGreatDoor.Mp Go.Proofs.YtmgcdfmgmpnonaaGreatDoor.WdM Go.Proofs.YtmgcdfmgmpnonaaGreatDoor.Wd Go.Proofs.YtmgcdfmgmpnonaaGreatDoor.RR Go.Proofs.YtmgcdfmgmpnonaaGreatDoor.LetM Go.Proofs.YtmgcdfmgmpnonaaGreatDoor.Nm Go.Proofs.YtmgcdfmgmpnonaaGreatDoor.GrM Go.Proofs.YtmgcdfmgmpnonaaGreatDoor.Gf Go.Proofs.YtmgcdfmgmpnonaaGreatDoor.Dr Go.Proofs.YtmgcdfmgmpnonaaGreatDoor.RoPg Go.Proofs.YtmgcdfmgmpnonaaGreatDoor.NrM Go.Proofs.YtmgcdfmgmpnonaaGreatDoor.NrT Go.Proofs.YtmgcdfmgmpnonaaGreatDoor.NrW

/-- may a caller look there? -/
def letsW (L : List Pg) (name addr : ByteArray) : Bool :=
  match readF addr.data.toList with
  | none => false
  | some A => wOk L && nameB name && letsL (saysG (kindF L (doorS A.house) 2) name).2.1 (pathF A).data.toList
theorem lets_none {L : List Pg} {name addr : ByteArray} (h : readF addr.data.toList = none) : letsW L name addr = false := by unfold letsW; rw [h]
theorem lets_no {L : List Pg} {name addr : ByteArray} (h : (wOk L && nameB name) = false) : letsW L name addr = false := by
  unfold letsW
  cases readF addr.data.toList with
  | none => rfl
  | some A => show (wOk L && nameB name && _) = false; rw [h]; rfl
theorem lets_some {L : List Pg} {name addr : ByteArray} {A : Ad} (h : readF addr.data.toList = some A) (h1 : wOk L = true) (h2 : nameB name = true) : letsW L name addr = letsL (saysG (kindF L (doorS A.house) 2) name).2.1 (pathF A).data.toList := by
  unfold letsW; rw [h]; show (wOk L && nameB name && _) = _; rw [h1, h2]; rfl

set_option maxRecDepth 100000 in
set_option maxHeartbeats 3200000 in
theorem implWLets_any (a0 : Option Addr) (cap : Nat) (L : List Pg) (name addr : ByteArray) (w : World) (hM : Im.Mx w) (hI : IsRows FPg w a0 cap L) (hS : PgSz L) (hA : PgAs L) (hR : PgRd L) (hn : name.size ≤ maxLen) (hs : addr.size ≤ 4194304) (ha : Im.ascii addr) :
    Calls Tryz.prog 20 #[.slice a0 L.length cap, .string name, .string addr] w fun e w' => e = .returned (.bool (letsW L name addr)) ∧ Below w.heap.size w w' := by
  have HM : Hid (Im.Mx w) := hM
  have HWP : Hid _ := worldPages_any a0 cap L w hM hI hS hA
  have HRA : Hid (∀ W, Im.Mx W → Calls Tryz.prog 21 #[.string addr] W fun e w' => Reads (readF addr.data.toList) W e w') := fun W hW => RdA.implRead_all addr W hW hs ha
  have HNM : Hid (∀ W : World, Calls Tryz.prog 40 #[.string name] W fun e w' => e = .returned (.bool (nameB name)) ∧ w' = W) := fun W => implName_any name W hn
  have HN0 : Hid (readF addr.data.toList = none → letsW L name addr = false) := lets_none
  have HN1 : Hid ((wOk L && nameB name) = false → letsW L name addr = false) := lets_no
  have HLA : Hid (∀ b A a1 c1 W, Im.Mx W → IsMap W b (entsL L) → IsStrs W a1 c1 A.parts → readF addr.data.toList = some A → wOk L = true → nameB name = true → Calls Tryz.prog 55 #[.map (some b), .string name, .agg #[.string A.house, .slice a1 A.parts.length c1, .bool A.asks, .string A.ask]] W fun e w' => e = .returned (.bool (letsW L name addr)) ∧ Below W.heap.size W w') := fun b A a1 c1 W hW hm hst hr h1 h2 => by
    have hok := OB.read_ok hr
    rw [lets_some hr h1 h2]
    exact letsAt_any b L A a1 c1 name W hW hm hst (Dr.ok_parts hok).1 (Nat.le_trans (OB.ok_bulk hok) (by decide)) hR
  clear hM hI hS hA hR hs ha
  generalize readF addr.data.toList = RA at *
  generalize letsW L name addr = V at *
  go_enter Tryz.func20, Tryz.ntmps20
  go_wp2_with fail
  refine Calls.mono HWP.out ?_
  rintro e w1 ⟨hbr, hb1⟩
  have HB1 : Hid (Below w.heap.size w w1) := hb1
  clear hb1 HWP
  rcases hbr with ⟨hw, b, rfl, hbb, hm⟩ | ⟨hw, rfl⟩
  · have HMP : Hid (IsMap w1 b (entsL L)) := hm
    have HW : Hid (wOk L = true) := hw
    clear hm hw hbb
    go_wp2_with fail
    refine (HRA.out _ (HM.out.below HB1.out)).mono ?_
    rintro e w2 ⟨A, ok, a1, c1, rfl, hans, hO, hb2⟩
    have HANS : Hid _ := hans
    have HB2 : Hid (Below w.heap.size w w2) := HB1.out.trans (hb2.mono HB1.out.size)
    have HMP2 : Hid (IsMap w2 b (entsL L)) := HMP.out.below hb2
    have HS2 : Hid (IsStrs w2 a1 c1 A.parts) := hO.strsOf
    have HBA : Hid (Below w.heap.size w (w2.alloc (.cells #[.string A.house, .slice a1 A.parts.length c1, .bool A.asks, .string A.ask] 41))) := HB2.out.alloc HB2.out.size _
    have hsa : w.heap.size ≤ (w2.alloc (.cells #[.string A.house, .slice a1 A.parts.length c1, .bool A.asks, .string A.ask] 41)).heap.size := HBA.out.size
    clear hans hO hb2 HMP HB1
    cases ok with
    | false =>
      have HV : Hid (V = false) := by
        rcases HANS.out with ⟨h, _⟩ | ⟨_, h, _⟩
        · cases h
        · exact HN0.out h
      clear HANS HN0 HN1 HLA HNM
      go_wp2
      go_ret
      exact ⟨ret_bool HV.out.symm, HBA.out⟩
    | true =>
      have HRS : Hid (RA = some A) := by
        rcases HANS.out with ⟨_, h⟩ | ⟨h, _⟩
        · exact h
        · cases h
      clear HANS
      cases hq : nameB name with
      | false =>
        have HV : Hid (V = false) := HN1.out (by rw [hq, Bool.and_false])
        rw [hq] at HNM
        clear hq HN0 HN1 HLA
        go_wp2_with (go_at_call 40; refine (HNM.out _).mono ?_; rintro e w3 ⟨rfl, e1⟩; have e2 := e1.symm; subst e2)
        go_ret
        exact ⟨ret_bool HV.out.symm, HBA.out⟩
      | true =>
        have HQ : Hid (nameB name = true) := hq
        rw [hq] at HNM
        clear hq HN0 HN1
        go_wp2_with (go_at_call 40; refine (HNM.out _).mono ?_; rintro e w3 ⟨rfl, e1⟩; have e2 := e1.symm; subst e2)
        refine (HLA.out b A a1 c1 _ ((HM.out.below HB2.out).alloc _) (HMP2.out.alloc _) (HS2.out.keep (alloc_keep _ _)) HRS.out HW.out HQ.out).mono ?_
        rintro e w4 ⟨rfl, hb4⟩
        have HB4 : Hid (Below w.heap.size w w4) := HBA.out.trans (hb4.mono hsa)
        clear hb4
        go_wp2
        go_ret
        exact ⟨rfl, HB4.out⟩
  · have HV : Hid (V = false) := HN1.out (by rw [hw, Bool.false_and])
    clear hw HN0 HN1 HLA HNM
    go_wp2_with fail
    refine (HRA.out _ (HM.out.below HB1.out)).mono ?_
    rintro e w2 ⟨A, ok, a1, c1, rfl, hans, hO, hb2⟩
    have HB2 : Hid (Below w.heap.size w w2) := HB1.out.trans (hb2.mono HB1.out.size)
    have HBA : Hid (Below w.heap.size w (w2.alloc (.cells #[.string A.house, .slice a1 A.parts.length c1, .bool A.asks, .string A.ask] 41))) := HB2.out.alloc HB2.out.size _
    clear hans hO hb2
    go_wp2
    go_ret
    exact ⟨ret_bool HV.out.symm, HBA.out⟩

set_option maxRecDepth 100000 in
set_option maxHeartbeats 3200000 in
theorem l11Lets_any (g : Gr) (A : Ad) (a1 : Option Addr) (c1 : Nat) (w : World) (hG : GrAt w g) (hS : IsStrs w a1 c1 A.parts) (hB : bulkA A ≤ 4194304) (hp : pathF A = pathS A) (hl : g.ru.length ≤ 4194304) (hz : ∀ r ∈ g.ru, r.path.size ≤ maxLen) :
    Calls Tryz.prog 59 #[.agg #[.slice g.na g.nm.length g.nc, .slice g.ra g.ru.length g.rc, .int .i64 g.wait], .agg #[.string A.house, .slice a1 A.parts.length c1, .bool A.asks, .string A.ask]] w fun e w' => e = .returned (.bool (letsL g.ru (pathF A).data.toList)) ∧ Below w.heap.size w w' := by
  have hps := pathF_60 A
  rw [hp] at hps ⊢
  have HG : Hid (GrAt ((w.alloc (.cells #[.slice g.na g.nm.length g.nc, .slice g.ra g.ru.length g.rc, .int .i64 g.wait] 29)).alloc (.cells #[.string A.house, .slice a1 A.parts.length c1, .bool A.asks, .string A.ask] 41)) g) := (hG.keep (alloc_keep _ _)).keep (alloc_keep _ _)
  have HS : Hid (IsStrs ((w.alloc (.cells #[.slice g.na g.nm.length g.nc, .slice g.ra g.ru.length g.rc, .int .i64 g.wait] 29)).alloc (.cells #[.string A.house, .slice a1 A.parts.length c1, .bool A.asks, .string A.ask] 41)) a1 c1 A.parts) := (hS.keep (alloc_keep _ _)).keep (alloc_keep _ _)
  have HX : Hid (Bx 29 ((w.alloc (.cells #[.slice g.na g.nm.length g.nc, .slice g.ra g.ru.length g.rc, .int .i64 g.wait] 29)).alloc (.cells #[.string A.house, .slice a1 A.parts.length c1, .bool A.asks, .string A.ask] 41)) w.heap.size #[.slice g.na g.nm.length g.nc, .slice g.ra g.ru.length g.rc, .int .i64 g.wait]) := (Bx.new _ _ _).alloc _
  have s1 : (w.alloc (.cells #[.slice g.na g.nm.length g.nc, .slice g.ra g.ru.length g.rc, .int .i64 g.wait] 29)).heap.size = w.heap.size + 1 := by simp
  have HY : Hid (Bx 41 ((w.alloc (.cells #[.slice g.na g.nm.length g.nc, .slice g.ra g.ru.length g.rc, .int .i64 g.wait] 29)).alloc (.cells #[.string A.house, .slice a1 A.parts.length c1, .bool A.asks, .string A.ask] 41)) (w.heap.size + 1) #[.string A.house, .slice a1 A.parts.length c1, .bool A.asks, .string A.ask]) := by
    have := Bx.new 41 (w.alloc (.cells #[.slice g.na g.nm.length g.nc, .slice g.ra g.ru.length g.rc, .int .i64 g.wait] 29)) #[.string A.house, .slice a1 A.parts.length c1, .bool A.asks, .string A.ask]
    rw [s1] at this; exact this
  have HB0 : Hid (Below w.heap.size w ((w.alloc (.cells #[.slice g.na g.nm.length g.nc, .slice g.ra g.ru.length g.rc, .int .i64 g.wait] 29)).alloc (.cells #[.string A.house, .slice a1 A.parts.length c1, .bool A.asks, .string A.ask] 41))) := ((Below.refl _ w).alloc (Nat.le_refl _) _).alloc (by rw [s1]; omega) _
  have HPA : Hid (∀ W, IsStrs W a1 c1 A.parts → Calls Tryz.prog 99 #[.agg #[.string A.house, .slice a1 A.parts.length c1, .bool A.asks, .string A.ask]] W fun e w' => e = .returned (.string (pathS A)) ∧ Below W.heap.size W w') := fun W hW => specPathW_any A a1 c1 W hW hB
  have HRL : Hid (∀ W, GrAt W g → Calls Tryz.prog 98 #[.slice g.ra g.ru.length g.rc, .string (pathS A)] W fun e w' => e = .returned (.bool (letsL g.ru (pathS A).data.toList)) ∧ Below W.heap.size W w') := fun W hW => LeS.specLets_any g.ra g.rc g.ru (pathS A) W hW.2 hl hz (by unfold maxLen; omega)
  clear hG hS hB hp hl hz s1 hps
  generalize hW0 : ((w.alloc (.cells #[.slice g.na g.nm.length g.nc, .slice g.ra g.ru.length g.rc, .int .i64 g.wait] 29)).alloc (.cells #[.string A.house, .slice a1 A.parts.length c1, .bool A.asks, .string A.ask] 41)) = W0 at *
  have HW0 : Hid (((w.alloc (.cells #[.slice g.na g.nm.length g.nc, .slice g.ra g.ru.length g.rc, .int .i64 g.wait] 29)).alloc (.cells #[.string A.house, .slice a1 A.parts.length c1, .bool A.asks, .string A.ask] 41)) = W0) := hW0
  clear hW0
  generalize pathS A = pt at *
  generalize letsL g.ru pt.data.toList = V at *
  go_enter Tryz.func59, Tryz.ntmps59
  go_wp2_with fail
  try rw [HW0.out]
  have x1 : W0.cell? ⟨w.heap.size, 1, none⟩ = some (.slice g.ra g.ru.length g.rc) := HX.out.cell 1 rfl
  have y0 := HY.out.cell 0 rfl
  have y1 := HY.out.cell 1 rfl
  have y2 := HY.out.cell 2 rfl
  have y3 := HY.out.cell 3 rfl
  go_region_held_law (fun w' => w'.cell? ⟨w.heap.size, 1, none⟩ = some (.slice g.ra g.ru.length g.rc) ∧ w'.cell? ⟨w.heap.size + 1, 0, none⟩ = some (.string A.house) ∧ w'.cell? ⟨w.heap.size + 1, 1, none⟩ = some (.slice a1 A.parts.length c1) ∧ w'.cell? ⟨w.heap.size + 1, 2, none⟩ = some (.bool A.asks) ∧ w'.cell? ⟨w.heap.size + 1, 3, none⟩ = some (.string A.ask)) (first | go_keep | exact hS1 | exact hS2)
    ((first
    | (go_at_call 99
       refine (HPA.out W0.drew (HS.out.keep fun _ _ => rfl)).mono ?_
       rintro e w1 ⟨rfl, hb0⟩
       have hb1 : Below W0.heap.size W0 w1 := ((Below.refl _ W0).drew).trans hb0
       have HX1 : Hid (Bx 29 w1 w.heap.size #[.slice g.na g.nm.length g.nc, .slice g.ra g.ru.length g.rc, .int .i64 g.wait]) := HX.out.keep fun k hk => hb1.block k hk
       have HY1 : Hid (Bx 41 w1 (w.heap.size + 1) #[.string A.house, .slice a1 A.parts.length c1, .bool A.asks, .string A.ask]) := HY.out.keep fun k hk => hb1.block k hk
       have HG1 : Hid (GrAt w1 g) := HG.out.below hb1
       have HE1 : Hid (Below w.heap.size w w1) := HB0.out.trans (hb1.mono HB0.out.size)
       have hS1 : w1.cell? ⟨w.heap.size, 1, none⟩ = some (.slice g.ra g.ru.length g.rc) ∧ w1.cell? ⟨w.heap.size + 1, 0, none⟩ = some (.string A.house) ∧ w1.cell? ⟨w.heap.size + 1, 1, none⟩ = some (.slice a1 A.parts.length c1) ∧ w1.cell? ⟨w.heap.size + 1, 2, none⟩ = some (.bool A.asks) ∧ w1.cell? ⟨w.heap.size + 1, 3, none⟩ = some (.string A.ask) := ⟨HX1.out.cell 1 rfl, HY1.out.cell 0 rfl, HY1.out.cell 1 rfl, HY1.out.cell 2 rfl, HY1.out.cell 3 rfl⟩
       clear hb0 hb1)
    | (go_at_call 98
       refine (HRL.out w1 HG1.out).mono ?_
       rintro e w2 ⟨rfl, hb2⟩
       have HX2 : Hid (Bx 29 w2 w.heap.size #[.slice g.na g.nm.length g.nc, .slice g.ra g.ru.length g.rc, .int .i64 g.wait]) := HX1.out.keep fun k hk => hb2.block k hk
       have HY2 : Hid (Bx 41 w2 (w.heap.size + 1) #[.string A.house, .slice a1 A.parts.length c1, .bool A.asks, .string A.ask]) := HY1.out.keep fun k hk => hb2.block k hk
       have HE2 : Hid (Below w.heap.size w w2) := HE1.out.trans (hb2.mono HE1.out.size)
       have hS2 : w2.cell? ⟨w.heap.size, 1, none⟩ = some (.slice g.ra g.ru.length g.rc) ∧ w2.cell? ⟨w.heap.size + 1, 0, none⟩ = some (.string A.house) ∧ w2.cell? ⟨w.heap.size + 1, 1, none⟩ = some (.slice a1 A.parts.length c1) ∧ w2.cell? ⟨w.heap.size + 1, 2, none⟩ = some (.bool A.asks) ∧ w2.cell? ⟨w.heap.size + 1, 3, none⟩ = some (.string A.ask) := ⟨HX2.out.cell 1 rfl, HY2.out.cell 0 rfl, HY2.out.cell 1 rfl, HY2.out.cell 2 rfl, HY2.out.cell 3 rfl⟩
       clear hb2)
    | fail))
  all_goals
    go_wp2
    go_ret
    exact ⟨rfl, HE2.out⟩

set_option maxRecDepth 100000 in
set_option maxHeartbeats 3200000 in
theorem specWLets_any (a0 : Option Addr) (cap : Nat) (L : List Pg) (name addr : ByteArray) (w : World) (hI : IsRows FPg w a0 cap L) (hS : PgSz L) (hR : PgRd L) (hn : name.size ≤ 4194304) (hs : addr.size ≤ 4194304) :
    Calls Tryz.prog 22 #[.slice a0 L.length cap, .string name, .string addr] w fun e w' => e = .returned (.bool (letsW L name addr)) ∧ Below w.heap.size w w' := by
  have HI : Hid (IsRows FPg w a0 cap L) := hI
  have HRA : Hid _ := specRead_any addr w hs
  have HOK : Hid (∀ W, IsRows FPg W a0 cap L → Calls Tryz.prog 23 #[.slice a0 L.length cap] W fun e w' => e = .returned (.bool (wOk L)) ∧ Below W.heap.size W w') := fun W hW => specWorldOk_any a0 cap L W hW hS
  have HNM : Hid (∀ W : World, Calls Tryz.prog 44 #[.string name] W fun e w' => e = .returned (.bool (nameB name)) ∧ w' = W) := fun W => specName_any name W (by unfold maxLen; omega)
  have HN0 : Hid (readF addr.data.toList = none → letsW L name addr = false) := lets_none
  have HN1 : Hid ((wOk L && nameB name) = false → letsW L name addr = false) := lets_no
  have HWN : Hid (∀ A W, IsRows FPg W a0 cap L → readF addr.data.toList = some A → wOk L = true → nameB name = true → Calls Tryz.prog 14 #[.slice a0 L.length cap, .string A.house, .string name] W fun e w' => SaidG W w' (saysG (kindF L (doorS A.house) 2) name) e) := fun A W hW hr h1 h2 => by
    have hh := (Dr.ok_parts (OB.read_ok hr)).1
    have hz : A.house.size ≤ 5 := by unfold houseB at hh; simp at hh; omega
    have h := specWNotice_any a0 cap L A.house name W hW hS hR (by omega) hn
    rw [notice_yes h1 hh h2] at h
    exact h
  have HLA : Hid (∀ g A a1 c1 W, GrAt W g → IsStrs W a1 c1 A.parts → readF addr.data.toList = some A → wOk L = true → nameB name = true → grp g = saysG (kindF L (doorS A.house) 2) name → Calls Tryz.prog 59 #[.agg #[.slice g.na g.nm.length g.nc, .slice g.ra g.ru.length g.rc, .int .i64 g.wait], .agg #[.string A.house, .slice a1 A.parts.length c1, .bool A.asks, .string A.ask]] W fun e w' => e = .returned (.bool (letsW L name addr)) ∧ Below W.heap.size W w') := fun g A a1 c1 W hG hst hr h1 h2 hg => by
    have hok := OB.read_ok hr
    have hgr : g.ru = (saysG (kindF L (doorS A.house) 2) name).2.1 := by rw [← hg]; rfl
    have hbd := says_bd (kindF L (doorS A.house) 2) name
    rw [← hgr] at hbd
    rw [lets_some hr h1 h2, ← hgr]
    exact l11Lets_any g A a1 c1 W hG hst (Nat.le_trans (OB.ok_bulk hok) (by decide)) (path_ok hok) (Nat.le_trans hbd.1 (by decide)) (fun r hr => Nat.le_trans (hbd.2 r hr) (by decide))
  clear hI hS hR hs
  generalize readF addr.data.toList = RA at *
  generalize letsW L name addr = V at *
  go_enter Tryz.func22, Tryz.ntmps22
  go_wp2_with fail
  refine Calls.mono HRA.out ?_
  rintro e w1 ⟨A, ok, a1, c1, rfl, hans, hO, hb1⟩
  have HANS : Hid _ := hans
  obtain ⟨W1, hW1⟩ : ∃ W1, w1.alloc (.cells #[.string A.house, .slice a1 A.parts.length c1, .bool A.asks, .string A.ask] 41) = W1 := ⟨_, rfl⟩
  have HW1 : Hid (w1.alloc (.cells #[.string A.house, .slice a1 A.parts.length c1, .bool A.asks, .string A.ask] 41) = W1) := hW1
  obtain ⟨G, hGe⟩ : ∃ G, w1.heap.size = G := ⟨_, rfl⟩
  have HE1 : Hid (Below w.heap.size w W1) := by rw [← hW1]; exact hb1.alloc hb1.size _
  have HX1 : Hid (Bx 41 W1 G #[.string A.house, .slice a1 A.parts.length c1, .bool A.asks, .string A.ask]) := by rw [← hW1, ← hGe]; exact Bx.new _ _ _
  have HI1 : Hid (IsRows FPg W1 a0 cap L) := by rw [← hW1]; exact (HI.out.below hb1).keep (alloc_keep _ _)
  have HS1 : Hid (IsStrs W1 a1 c1 A.parts) := by rw [← hW1]; exact (Owns.strsOf hO).keep (alloc_keep _ _)
  clear hans hO hb1 hW1 HRA HI
  go_wp2_with fail
  rw [HW1.out]
  refine (HOK.out W1 HI1.out).mono ?_
  rintro e w2 ⟨rfl, hb2⟩
  have HE2 : Hid (Below w.heap.size w w2) := HE1.out.trans (hb2.mono HE1.out.size)
  have HX2 : Hid (Bx 41 w2 G #[.string A.house, .slice a1 A.parts.length c1, .bool A.asks, .string A.ask]) := HX1.out.keep fun k hk => hb2.block k hk
  have HI2 : Hid (IsRows FPg w2 a0 cap L) := HI1.out.below hb2
  have HS2 : Hid (IsStrs w2 a1 c1 A.parts) := HS1.out.below hb2
  clear hb2
  cases hw : wOk L with
  | false =>
    have HV : Hid (V = false) := HN1.out (by rw [hw, Bool.false_and])
    clear hw
    go_wp2
    go_ret
    exact ⟨ret_bool HV.out.symm, HE2.out⟩
  | true =>
    have HW : Hid (wOk L = true) := hw
    clear hw
    cases hq : nameB name with
    | false =>
      have HV : Hid (V = false) := HN1.out (by rw [hq, Bool.and_false])
      rw [hq] at HNM
      clear hq
      go_wp2_with (go_at_call 44; refine (HNM.out _).mono ?_; rintro e w3 ⟨rfl, e1⟩; have e2 := e1.symm; subst e2)
      go_ret
      exact ⟨ret_bool HV.out.symm, HE2.out⟩
    | true =>
      have HQ : Hid (nameB name = true) := hq
      rw [hq] at HNM
      clear hq
      cases ok with
      | false =>
        have HV : Hid (V = false) := by
          rcases HANS.out with ⟨h, _⟩ | ⟨_, h, _⟩
          · cases h
          · exact HN0.out h
        clear HANS
        go_wp2_with (go_at_call 44; refine (HNM.out _).mono ?_; rintro e w3 ⟨rfl, e1⟩; have e2 := e1.symm; subst e2)
        go_ret
        exact ⟨ret_bool HV.out.symm, HE2.out⟩
      | true =>
        have HRS : Hid (RA = some A) := by
          rcases HANS.out with ⟨_, h⟩ | ⟨h, _⟩
          · exact h
          · cases h
        clear HANS HN0 HN1
        have y0 := HX2.out.cell 0 rfl
        have y1 := HX2.out.cell 1 rfl
        have y2 := HX2.out.cell 2 rfl
        have y3 := HX2.out.cell 3 rfl
        go_wp2_with (go_at_call 44; refine (HNM.out _).mono ?_; rintro e w3 ⟨rfl, e1⟩; have e2 := e1.symm; subst e2)
        go_region_held_law (fun w' => w'.cell? ⟨G, 0, none⟩ = some (.string A.house) ∧ w'.cell? ⟨G, 1, none⟩ = some (.slice a1 A.parts.length c1) ∧ w'.cell? ⟨G, 2, none⟩ = some (.bool A.asks) ∧ w'.cell? ⟨G, 3, none⟩ = some (.string A.ask)) (first | go_keep | exact hS3 | exact hS4)
          ((first
          | (go_at_call 14
             refine (HWN.out A w2.drew (HI2.out.keep fun _ _ => rfl) HRS.out HW.out HQ.out).mono ?_
             rintro e w3 ⟨g, rfl, hg, hgo, hb0⟩
             have hb3 : Below w2.heap.size w2 w3 := ((Below.refl _ w2).drew).trans hb0
             have HGG : Hid (grp g = saysG (kindF L (doorS A.house) 2) name) := hg
             have HGA3 : Hid (GrAt w3 g) := hgo.at
             have HE3 : Hid (Below w.heap.size w w3) := HE2.out.trans (hb3.mono HE2.out.size)
             have HX3 : Hid (Bx 41 w3 G #[.string A.house, .slice a1 A.parts.length c1, .bool A.asks, .string A.ask]) := HX2.out.keep fun k hk => hb3.block k hk
             have HS3 : Hid (IsStrs w3 a1 c1 A.parts) := HS2.out.below hb3
             have hS3 : w3.cell? ⟨G, 0, none⟩ = some (.string A.house) ∧ w3.cell? ⟨G, 1, none⟩ = some (.slice a1 A.parts.length c1) ∧ w3.cell? ⟨G, 2, none⟩ = some (.bool A.asks) ∧ w3.cell? ⟨G, 3, none⟩ = some (.string A.ask) := ⟨HX3.out.cell 0 rfl, HX3.out.cell 1 rfl, HX3.out.cell 2 rfl, HX3.out.cell 3 rfl⟩
             clear hg hgo hb0 hb3)
          | (go_at_call 59
             refine (HLA.out g A a1 c1 w3 HGA3.out HS3.out HRS.out HW.out HQ.out HGG.out).mono ?_
             rintro e w4 ⟨rfl, hb4⟩
             have HE4 : Hid (Below w.heap.size w w4) := HE3.out.trans (hb4.mono HE3.out.size)
             have HX4 : Hid (Bx 41 w4 G #[.string A.house, .slice a1 A.parts.length c1, .bool A.asks, .string A.ask]) := HX3.out.keep fun k hk => hb4.block k hk
             have hS4 : w4.cell? ⟨G, 0, none⟩ = some (.string A.house) ∧ w4.cell? ⟨G, 1, none⟩ = some (.slice a1 A.parts.length c1) ∧ w4.cell? ⟨G, 2, none⟩ = some (.bool A.asks) ∧ w4.cell? ⟨G, 3, none⟩ = some (.string A.ask) := ⟨HX4.out.cell 0 rfl, HX4.out.cell 1 rfl, HX4.out.cell 2 rfl, HX4.out.cell 3 rfl⟩
             clear hb4)
          | fail))
        all_goals
          go_wp2
          go_ret
          exact ⟨rfl, HE4.out⟩
end Go.Proofs.YtmgcdfmgmpnonaaGreatDoor.WdN
/- What one comes to in a world. -/
namespace Go.Proofs.YtmgcdfmgmpnonaaGreatDoor.ReM
open Go.Proofs.YtmgcdfmgmpnonaaGreatDoor.AddrM Go.Proofs.YtmgcdfmgmpnonaaGreatDoor.Ad1 Go.Proofs.YtmgcdfmgmpnonaaGreatDoor.Rd1 Go.Proofs.YtmgcdfmgmpnonaaGreatDoor.St Go.Proofs.YtmgcdfmgmpnonaaGreatDoor.PgM Go.Proofs.YtmgcdfmgmpnonaaGreatDoor.PgA Go.Proofs.YtmgcdfmgmpnonaaGreatDoor.RoPg Go.Proofs.YtmgcdfmgmpnonaaGreatDoor.WdM Go.Proofs.YtmgcdfmgmpnonaaGreatDoor.Wd Go.Proofs.YtmgcdfmgmpnonaaGreatDoor.WdN Go.Proofs.YtmgcdfmgmpnonaaGreatDoor.Nm

/-- is a text an address as it is written? -/
def nR (s : ByteArray) : Bool := (normA s).isSome
/-- may a caller look there, and gets to look? -/
def okR (L : List Pg) (name x : ByteArray) : Bool := nR x && !(decide ((kindF L x 2).1 = 3)) && letsW L name x
/-- all that is ever heard of -/
def uR (L : List Pg) (S : List ByteArray) : List ByteArray := S ++ L.flatMap fun p => fromW L p.addr
/-- what one comes to -/
def reachW (L : List Pg) (name : ByteArray) (S : List ByteArray) : List ByteArray :=
  if wOk L && nameB name && decide (S.length ≤ 12) then lstR (okR L name) (fromW L) (uR L S).length 0 (putsL [] (S.filter nR)) [] else []
theorem ok_norm {L : List Pg} {name x : ByteArray} (h : okR L name x = true) : nR x = true := by
  unfold okR at h
  simp only [Bool.and_eq_true] at h
  exact h.1.1
theorem from_uni {L : List Pg} {S : List ByteArray} {x y : ByteArray} (h : y ∈ fromW L x) : y ∈ uR L S := by
  refine List.mem_append_right _ ?_
  cases hf : L.find? (sameA x) with
  | none =>
    exfalso
    have hk : kindF L x 2 = (0, ⟨#[]⟩) := by unfold kindF; rw [hf]
    unfold fromW at h
    split at h
    · split at h
      · rw [hk, lead_no (by decide) (by decide)] at h; cases h
      · cases h
    · cases h
  | some p =>
    have hs := List.find?_some hf
    unfold sameA at hs
    have e : p.addr = x := by
      have e1 : p.addr.toList = x.toList := by simpa using hs
      rw [ByteArray.toList_eq, ByteArray.toList_eq] at e1
      exact ByteArray.ext (Array.toList_inj.1 e1)
    exact List.mem_flatMap.2 ⟨p, List.mem_of_find?_eq_some hf, by rw [e]; exact h⟩
theorem from_norm {L : List Pg} {x y : ByteArray} (h : y ∈ fromW L x) : nR y = true := by
  obtain ⟨C, hC, ht, _⟩ := from_each h
  unfold nR
  rw [normA_yes hC (by rw [ht]; simp)]; rfl
theorem uni_len (L : List Pg) (S : List ByteArray) : (uR L S).length ≤ S.length + L.length * 300 := by
  unfold uR
  rw [List.length_append]
  have : ∀ M : List Pg, (M.flatMap fun p => fromW L p.addr).length ≤ M.length * 300 := by
    intro M
    induction M with
    | nil => simp
    | cons p r ih =>
      have := from_len L p.addr
      rw [List.flatMap_cons, List.length_append, List.length_cons]; omega
  have := this L
  omega
theorem qi_world (L : List Pg) (name : ByteArray) (S : List ByteArray) (h1 : wOk L = true) (h2 : nameB name = true) (h3 : S.length ≤ 12) : QI (okR L name) nR (fromW L) (reachW L name S) (uR L S) (uR L S) [] S [] := by
  have e : reachW L name S = lstR (okR L name) (fromW L) (uR L S).length 0 (putsL [] (S.filter nR)) [] := by unfold reachW; rw [h1, h2, decide_eq_true h3]; rfl
  rw [e]
  exact qi_new S (fun x hx _ => List.mem_append_left _ hx) (fun x hx => List.mem_append_left _ hx)
theorem li_world (L : List Pg) (name : ByteArray) (S : List ByteArray) (h1 : wOk L = true) (h2 : nameB name = true) (h3 : S.length ≤ 12) : LI (okR L name) (fromW L) (reachW L name S) (uR L S) (uR L S).length 0 (putsL [] (S.filter nR)) [] := by
  have e : reachW L name S = lstR (okR L name) (fromW L) (uR L S).length 0 (putsL [] (S.filter nR)) [] := by unfold reachW; rw [h1, h2, decide_eq_true h3]; rfl
  rw [e]
  refine li_new _ (puts_nodup List.nodup_nil) fun x hx => ?_
  rcases puts_mem.1 hx with hx | hx
  · cases hx
  · exact List.mem_append_left _ (List.mem_filter.1 hx).1
theorem reach_no {L : List Pg} {name : ByteArray} {S : List ByteArray} (h : (wOk L && nameB name && decide (S.length ≤ 12)) = false) : reachW L name S = [] := by unfold reachW; rw [h]; rfl
/-- one round more of the queue -/
theorem qi_on {L : List Pg} {name : ByteArray} {R S D q out : List ByteArray} {x : ByteArray} (h : QI (okR L name) nR (fromW L) R (uR L S) (uR L S) D (x :: q) out) (hx : x ∉ D) (hk : okR L name x = true) : QI (okR L name) nR (fromW L) R (uR L S) (uR L S) (putL D x) (q ++ fromW L x) (out ++ [x]) :=
  qi_take ok_norm h hx hk fun _ hy => ⟨from_norm hy, from_uni hy, from_uni hy⟩
theorem li_on {L : List Pg} {name : ByteArray} {R S T out : List ByteArray} {f i : Nat} (h : LI (okR L name) (fromW L) R (uR L S) f i T out) (hi : i < T.length) (hk : okR L name T[i] = true) : ∃ f', LI (okR L name) (fromW L) R (uR L S) f' (i + 1) (putsL T (fromW L T[i])) (out ++ [T[i]]) :=
  li_ok h hi hk fun _ hy => from_uni hy
end Go.Proofs.YtmgcdfmgmpnonaaGreatDoor.ReM
/- Does a caller that comes to an address get to look at it: the program's. -/
namespace Go.Proofs.YtmgcdfmgmpnonaaGreatDoor.ReM
open Go.RowKit Go.Proofs.YtmgcdfmgmpnonaaGreatDoor.EscM Go.Proofs.YtmgcdfmgmpnonaaGreatDoor.AddrM Go.Proofs.YtmgcdfmgmpnonaaGreatDoor.ReadM Go.Proofs.YtmgcdfmgmpnonaaGreatDoor.St Go.Proofs.YtmgcdfmgmpnonaaGreatDoor.EscL Go.Proofs.YtmgcdfmgmpnonaaGreatDoor.Ad1 Go.Proofs.YtmgcdfmgmpnonaaGreatDoor.Rd1 Go.Proofs.YtmgcdfmgmpnonaaGreatDoor.RuleM Go.Proofs.YtmgcdfmgmpnonaaGreatDoor.RdA Go.Proofs.YtmgcdfmgmpnonaaGreatDoor.MkA Go.Proofs.YtmgcdfmgmpnonaaGreatDoor.Mp Go.Proofs.YtmgcdfmgmpnonaaGreatDoor.WdM Go.Proofs.YtmgcdfmgmpnonaaGreatDoor.Wd Go.Proofs.YtmgcdfmgmpnonaaGreatDoor.WdN Go.Proofs.YtmgcdfmgmpnonaaGreatDoor.RR Go.Proofs.YtmgcdfmgmpnonaaGreatDoor.LetM Go.Proofs.YtmgcdfmgmpnonaaGreatDoor.Nm Go.Proofs.YtmgcdfmgmpnonaaGreatDoor.GrM Go.Proofs.YtmgcdfmgmpnonaaGreatDoor.RoPg Go.Proofs.YtmgcdfmgmpnonaaGreatDoor.PgM Go.Proofs.YtmgcdfmgmpnonaaGreatDoor.PgA

set_option maxRecDepth 100000 in
set_option maxHeartbeats 2000000 in
theorem looksAt_any (b : Nat) (L : List Pg) (A : Ad) (a0 : Option Addr) (cap : Nat) (name : ByteArray) (w : World) (hM : Im.Mx w) (h : IsMap w b (entsL L)) (hS : IsStrs w a0 cap A.parts) (hh : houseB A.house = true) (hB : bulkA A ≤ 1000) (hR : PgRd L) :
    Calls Tryz.prog 67 #[.map (some b), .string name, .agg #[.string A.house, .slice a0 A.parts.length cap, .bool A.asks, .string A.ask]] w fun e w' => e = .returned (.bool (!(decide ((kindF L (textF A) 2).1 = 3)) && letsL (saysG (kindF L (doorS A.house) 2) name).2.1 (pathF A).data.toList)) ∧ Below w.heap.size w w' := by
  have HS : Hid (IsStrs (w.alloc (.cells #[.string A.house, .slice a0 A.parts.length cap, .bool A.asks, .string A.ask] 41)) a0 cap A.parts) := hS.keep (alloc_keep _ _)
  have HM : Hid (Im.Mx (w.alloc (.cells #[.string A.house, .slice a0 A.parts.length cap, .bool A.asks, .string A.ask] 41))) := hM.alloc _
  have HP : Hid (IsMap (w.alloc (.cells #[.string A.house, .slice a0 A.parts.length cap, .bool A.asks, .string A.ask] 41)) b (entsL L)) := h.alloc _
  have HX : Hid (Bs 41 (w.alloc (.cells #[.string A.house, .slice a0 A.parts.length cap, .bool A.asks, .string A.ask] 41)) w.heap.size #[.string A.house, .slice a0 A.parts.length cap, .bool A.asks, .string A.ask]) := Bs.new _ _ _
  have HB0 : Hid (Below w.heap.size w (w.alloc (.cells #[.string A.house, .slice a0 A.parts.length cap, .bool A.asks, .string A.ask] 41))) := (Below.refl _ w).alloc (Nat.le_refl _) _
  have HGL : Hid (∀ W, IsMap W b (entsL L) → Calls Tryz.prog 76 #[.map (some b), .string (textF A)] W fun e w' => e = .returned (.tuple #[.int .i64 (kindF L (textF A) 2).1, .string (kindF L (textF A) 2).2]) ∧ Below W.heap.size W w') := fun W hW => getAtLast_any b L (textF A) W hW
  have HTX : Hid (∀ W, IsStrs W a0 cap A.parts → Calls Tryz.prog 30 #[.agg #[.string A.house, .slice a0 A.parts.length cap, .bool A.asks, .string A.ask]] W fun e w' => e = .returned (.string (textF A)) ∧ Below W.heap.size W w') := fun W hW => implAddrText_any A a0 cap W hW (by omega)
  have HLT : Hid (∀ W, Im.Mx W → IsMap W b (entsL L) → IsStrs W a0 cap A.parts → Calls Tryz.prog 55 #[.map (some b), .string name, .agg #[.string A.house, .slice a0 A.parts.length cap, .bool A.asks, .string A.ask]] W fun e w' => e = .returned (.bool (letsL (saysG (kindF L (doorS A.house) 2) name).2.1 (pathF A).data.toList)) ∧ Below W.heap.size W w') := fun W hW hm hs => letsAt_any b L A a0 cap name W hW hm hs hh (by omega) hR
  clear hS hM h hB hh hR
  generalize letsL (saysG (kindF L (doorS A.house) 2) name).2.1 (pathF A).data.toList = V at *
  generalize kindF L (textF A) 2 = R at *
  generalize textF A = t at *
  obtain ⟨k, tx⟩ := R
  dsimp only at *
  go_enter Tryz.func67, Tryz.ntmps67
  go_wp2_with fail
  refine (HTX.out _ HS.out).mono ?_
  rintro e w1 ⟨rfl, hb1⟩
  have HB1 : Hid (Below w.heap.size w w1) := HB0.out.trans (hb1.mono (by simp))
  have HS1 : Hid (IsStrs w1 a0 cap A.parts) := HS.out.below hb1
  have HM1 : Hid (Im.Mx w1) := HM.out.below hb1
  have HP1 : Hid (IsMap w1 b (entsL L)) := HP.out.below hb1
  have HX1 : Hid (Bs 41 w1 w.heap.size #[.string A.house, .slice a0 A.parts.length cap, .bool A.asks, .string A.ask]) := HX.out.below hb1
  clear hb1 HS HM HP HX HB0
  go_wp2_with fail
  refine (HGL.out _ HP1.out).mono ?_
  rintro e w2 ⟨rfl, hb2⟩
  have HB2 : Hid (Below w.heap.size w w2) := HB1.out.trans (hb2.mono HB1.out.size)
  have HS2 : Hid (IsStrs w2 a0 cap A.parts) := HS1.out.below hb2
  have HM2 : Hid (Im.Mx w2) := HM1.out.below hb2
  have HP2 : Hid (IsMap w2 b (entsL L)) := HP1.out.below hb2
  have HX2 : Hid (Bs 41 w2 w.heap.size #[.string A.house, .slice a0 A.parts.length cap, .bool A.asks, .string A.ask]) := HX1.out.below hb2
  clear hb2 HS1 HM1 HP1 HX1 HB1
  have c0 : w2.cell? ⟨w.heap.size, 0, none⟩ = some (.string A.house) := HX2.out.cell 0 rfl
  have c1 : w2.cell? ⟨w.heap.size, 1, none⟩ = some (.slice a0 A.parts.length cap) := HX2.out.cell 1 rfl
  have c2 : w2.cell? ⟨w.heap.size, 2, none⟩ = some (.bool A.asks) := HX2.out.cell 2 rfl
  have c3 : w2.cell? ⟨w.heap.size, 3, none⟩ = some (.string A.ask) := HX2.out.cell 3 rfl
  by_cases h3 : k = 3
  · subst h3
    go_wp2
    go_ret
    exact ⟨ret_bool (by simp), HB2.out⟩
  · have e3 : (k == 3) = false := by simpa using h3
    have e4 : (k != 3) = true := by simpa using h3
    have HD : Hid (decide (k = 3) = false) := decide_eq_false h3
    go_wp2_with fail
    refine (HLT.out w2 HM2.out HP2.out HS2.out).mono ?_
    rintro e w3 ⟨rfl, hb3⟩
    have HB3 : Hid (Below w.heap.size w w3) := HB2.out.trans (hb3.mono HB2.out.size)
    clear hb3 c0 c1 c2 c3
    go_wp2
    go_ret
    exact ⟨ret_bool (by rw [HD.out]; simp), HB3.out⟩
end Go.Proofs.YtmgcdfmgmpnonaaGreatDoor.ReM
/- What one comes to: what is said of it. -/
namespace Go.Proofs.YtmgcdfmgmpnonaaGreatDoor.ReM
open Go.Proofs.YtmgcdfmgmpnonaaGreatDoor.St Go.Proofs.YtmgcdfmgmpnonaaGreatDoor.PgM Go.Proofs.YtmgcdfmgmpnonaaGreatDoor.PgA

/-- T holds what is begun with and what is gone on to, each once, and nothing else -/
def Clo (ok : ByteArray → Bool) (next : ByteArray → List ByteArray) (S T : List ByteArray) (i : Nat) : Prop :=
  T.Nodup ∧ i ≤ T.length ∧ (∀ x ∈ S, x ∈ T) ∧ (∀ k (h : k < T.length), k < i → ok T[k] = true → ∀ y ∈ next T[k], y ∈ T) ∧
  ∀ j (h : j < T.length), T[j] ∈ S ∨ ∃ k, ∃ hk : k < T.length, k < j ∧ ok T[k] = true ∧ T[j] ∈ next T[k]
variable {ok : ByteArray → Bool} {next : ByteArray → List ByteArray} {U S : List ByteArray}
theorem pre_get {T T' : List ByteArray} (h : T <+: T') {k : Nat} (hk : k < T.length) : ∃ hk' : k < T'.length, T'[k] = T[k] := by
  obtain ⟨t, rfl⟩ := h
  exact ⟨by simp; omega, by rw [List.getElem_append_left hk]⟩
theorem clo_put {T : List ByteArray} {y : ByteArray} {i : Nat} (h : Clo ok next S T i) (hy : ∃ k, ∃ hk : k < T.length, ok T[k] = true ∧ y ∈ next T[k]) : Clo ok next S (putL T y) i := by
  by_cases hm : y ∈ T
  · rw [put_in hm]; exact h
  obtain ⟨h1, h0, h2, h3, h4⟩ := h
  refine ⟨put_nodup h1, Nat.le_trans h0 (put_pre T y).length_le, fun x hx => put_mem.2 (Or.inl (h2 x hx)), ?_, ?_⟩
  · rw [put_out hm]
    intro k hk hi hok z hz
    by_cases hkt : k < T.length
    · rw [List.getElem_append_left hkt] at hok hz
      exact List.mem_append_left _ (h3 k hkt hi hok z hz)
    · omega
  · rw [put_out hm]
    intro j hj
    by_cases hjt : j < T.length
    · rw [List.getElem_append_left hjt]
      rcases h4 j hjt with h | ⟨k, hk, hkj, hok, hm2⟩
      · exact Or.inl h
      · exact Or.inr ⟨k, by simp; omega, hkj, by rw [List.getElem_append_left hk]; exact hok, by rw [List.getElem_append_left hk]; exact hm2⟩
    · have e : j = T.length := by simp at hj; omega
      subst e
      obtain ⟨k, hk, hok, hy0⟩ := hy
      exact Or.inr ⟨k, by simp; omega, hk, by rw [List.getElem_append_left hk]; exact hok, by rw [List.getElem_append_left hk, List.getElem_append_right (Nat.le_refl _)]; simpa using hy0⟩
theorem clo_puts {i : Nat} {xs : List ByteArray} : ∀ {T : List ByteArray}, Clo ok next S T i → (∃ k, ∃ hk : k < T.length, ok T[k] = true ∧ ∀ y ∈ xs, y ∈ next T[k]) → Clo ok next S (putsL T xs) i := by
  induction xs with
  | nil => intro T h _; exact h
  | cons x r ih =>
    intro T h ⟨k, hk, hok, hy⟩
    refine ih (clo_put h ⟨k, hk, hok, hy x (List.mem_cons_self ..)⟩) ?_
    obtain ⟨hk', e⟩ := pre_get (put_pre T x) hk
    exact ⟨k, hk', by rw [e]; exact hok, by rw [e]; exact fun y hy2 => hy y (List.mem_cons_of_mem _ hy2)⟩
theorem take_pre {T T' : List ByteArray} (h : T <+: T') {i : Nat} (hi : i ≤ T.length) : T'.take i = T.take i := by
  obtain ⟨t, rfl⟩ := h
  exact List.take_append_of_le_length hi
/-- what comes out at the end: all of a closed list that may be looked at, in its order -/
theorem lst_spec : ∀ (f i : Nat) (T : List ByteArray), Clo ok next S T i → (∀ x ∈ T, x ∈ U) → (∀ x, ok x = true → ∀ y ∈ next x, y ∈ U) → U.length ≤ i + f → ∃ T', lstR ok next f i T ((T.take i).filter ok) = T'.filter ok ∧ Clo ok next S T' T'.length ∧ ∀ x ∈ T', x ∈ U := by
  intro f
  induction f with
  | zero =>
    intro i T h hU _ hl
    have hn := nodup_len h.1 hU
    have h0 := h.2.1
    have e : i = T.length := by omega
    subst e
    exact ⟨T, by rw [List.take_length]; rfl, h, hU⟩
  | succ f ih =>
    intro i T h hU hN hl
    by_cases hi : i < T.length
    · cases hk : ok T[i] with
      | true =>
        rw [lst_ok hi hk]
        have hp := puts_pre (xs := next T[i]) T
        obtain ⟨hi', e⟩ := pre_get hp hi
        have hc : Clo ok next S (putsL T (next T[i])) i := clo_puts h ⟨i, hi, hk, fun _ hy => hy⟩
        have hc2 : Clo ok next S (putsL T (next T[i])) (i + 1) := by
          obtain ⟨h1, _, h2, h3, h4⟩ := hc
          refine ⟨h1, hi', h2, fun k hkk hki hok y hy => ?_, h4⟩
          by_cases hki2 : k < i
          · exact h3 k hkk hki2 hok y hy
          · have ek : k = i := by omega
            subst ek
            rw [e] at hy
            exact puts_mem.2 (Or.inr hy)
        have et : ((putsL T (next T[i])).take (i + 1)).filter ok = (T.take i).filter ok ++ [T[i]] := by
          rw [take_pre hp hi, List.take_succ_eq_append_getElem hi, List.filter_append]; simp [hk]
        rw [← et]
        exact ih (i + 1) _ hc2 (fun x hx => (puts_mem.1 hx).elim (hU x) (hN _ hk x)) hN (by omega)
      | false =>
        rw [lst_no hi hk]
        have hc2 : Clo ok next S T (i + 1) := by
          obtain ⟨h1, _, h2, h3, h4⟩ := h
          refine ⟨h1, hi, h2, fun k hkk hki hok y hy => ?_, h4⟩
          by_cases hki2 : k < i
          · exact h3 k hkk hki2 hok y hy
          · have ek : k = i := by omega
            subst ek
            rw [hk] at hok; cases hok
        have et : (T.take (i + 1)).filter ok = (T.take i).filter ok := by
          rw [List.take_succ_eq_append_getElem hi, List.filter_append]; simp [hk]
        rw [← et]
        exact ih (i + 1) T hc2 hU hN (by omega)
    · have h0 := h.2.1
      have e : i = T.length := by omega
      subst e
      exact ⟨T, by rw [lst_end (Nat.le_refl _), List.take_length], h, hU⟩
theorem clo_in {T : List ByteArray} (h : Clo ok next S T T.length) {x y : ByteArray} (hx : x ∈ T) (hk : ok x = true) (hy : y ∈ next x) : y ∈ T := by
  obtain ⟨k, hkl, e⟩ := List.mem_iff_getElem.1 hx
  subst e
  exact h.2.2.2.1 k hkl hkl hk y hy
/-- what is closed and holds what is begun with holds all -/
theorem clo_sub {T T' : List ByteArray} (h : Clo ok next S T T.length) (h1 : ∀ x ∈ S, x ∈ T') (h2 : ∀ x ∈ T', ok x = true → ∀ y ∈ next x, y ∈ T') : ∀ x ∈ T, x ∈ T' := by
  have key : ∀ j, ∀ hj : j < T.length, T[j] ∈ T' := by
    intro j
    induction j using Nat.strongRecOn with
    | _ j ih =>
      intro hj
      rcases h.2.2.2.2 j hj with hs | ⟨k, hk, hkj, hok, hm⟩
      · exact h1 _ hs
      · exact h2 _ (ih k hkj hk) hok _ hm
  intro x hx
  obtain ⟨j, hj, e⟩ := List.mem_iff_getElem.1 hx
  subst e
  exact key j hj
/-- nothing is come to but from elsewhere, ahead of it -/
theorem clo_least {T : List ByteArray} (h : Clo ok next S T T.length) {i : Nat} (hi : i < (T.filter ok).length) : (T.filter ok)[i] ∈ S ∨ ∃ k, ∃ hk : k < (T.filter ok).length, k < i ∧ (T.filter ok)[i] ∈ next (T.filter ok)[k] := by
  have hm : (T.filter ok)[i] ∈ T.filter ok := List.getElem_mem hi
  obtain ⟨hmT, hmk⟩ := List.mem_filter.1 hm
  obtain ⟨j, hj, e⟩ := List.mem_iff_getElem.1 hmT
  have hsplit : T.filter ok = (T.take j).filter ok ++ T[j] :: (T.drop (j + 1)).filter ok := by
    have e1 : T = T.take j ++ T[j] :: T.drop (j + 1) := by rw [← List.drop_eq_getElem_cons hj, List.take_append_drop]
    have hk : ok T[j] = true := by rw [e]; exact hmk
    conv => lhs; rw [e1]
    rw [List.filter_append, List.filter_cons_of_pos hk]
  have hnd : (T.filter ok).Nodup := h.1.filter _
  have hij : i = ((T.take j).filter ok).length := by
    have hlt : ((T.take j).filter ok).length < (T.filter ok).length := by rw [hsplit]; simp
    have e2 : (T.filter ok)[((T.take j).filter ok).length] = T[j] := by
      simp only [hsplit]
      rw [List.getElem_append_right (Nat.le_refl _)]; simp
    have hpw := List.pairwise_iff_getElem.1 hnd
    rcases Nat.lt_trichotomy i ((T.take j).filter ok).length with hl | hl | hl
    · exact absurd (e.symm.trans e2.symm) (hpw _ _ hi hlt hl)
    · exact hl
    · exact absurd (e2.trans e) (hpw _ _ hlt hi hl)
  rcases h.2.2.2.2 j hj with hs | ⟨k, hk, hkj, hok, hm2⟩
  · rw [e] at hs; exact Or.inl hs
  · rw [e] at hm2
    have hkm : T[k] ∈ (T.take j).filter ok := List.mem_filter.2 ⟨by
      rw [List.mem_iff_getElem]
      exact ⟨k, by simp; omega, by simp⟩, hok⟩
    obtain ⟨k', hk', e3⟩ := List.mem_iff_getElem.1 hkm
    have hk2 : k' < (T.filter ok).length := by rw [hsplit]; simp; omega
    have e4 : (T.filter ok)[k'] = T[k] := by
      simp only [hsplit]
      rw [List.getElem_append_left hk', e3]
    exact Or.inr ⟨k', hk2, by omega, by rw [e4]; exact hm2⟩
end Go.Proofs.YtmgcdfmgmpnonaaGreatDoor.ReM
/- What holds of what one comes to in a world. -/
namespace Go.Proofs.YtmgcdfmgmpnonaaGreatDoor.ReM
open Go.Proofs.YtmgcdfmgmpnonaaGreatDoor.LetM Go.Proofs.YtmgcdfmgmpnonaaGreatDoor.RuleM Go.Proofs.YtmgcdfmgmpnonaaGreatDoor.AddrM Go.Proofs.YtmgcdfmgmpnonaaGreatDoor.Ad1 Go.Proofs.YtmgcdfmgmpnonaaGreatDoor.Rd1 Go.Proofs.YtmgcdfmgmpnonaaGreatDoor.St Go.Proofs.YtmgcdfmgmpnonaaGreatDoor.PgM Go.Proofs.YtmgcdfmgmpnonaaGreatDoor.PgA Go.Proofs.YtmgcdfmgmpnonaaGreatDoor.RoPg Go.Proofs.YtmgcdfmgmpnonaaGreatDoor.WdM Go.Proofs.YtmgcdfmgmpnonaaGreatDoor.Wd Go.Proofs.YtmgcdfmgmpnonaaGreatDoor.WdN Go.Proofs.YtmgcdfmgmpnonaaGreatDoor.Nm

theorem clo_new {ok : ByteArray → Bool} {next : ByteArray → List ByteArray} (S : List ByteArray) : Clo ok next S (putsL [] S) 0 := by
  refine ⟨puts_nodup List.nodup_nil, Nat.zero_le _, fun x hx => puts_mem.2 (Or.inr hx), fun k _ h0 => by omega, fun j hj => Or.inl ?_⟩
  rcases puts_mem.1 (List.getElem_mem hj) with h | h
  · cases h
  · exact h
/-- what one comes to is what may be looked at of a closed list -/
theorem reach_clo (L : List Pg) (name : ByteArray) (S : List ByteArray) (h1 : wOk L = true) (h2 : nameB name = true) (h3 : S.length ≤ 12) : ∃ T, reachW L name S = T.filter (okR L name) ∧ Clo (okR L name) (fromW L) (S.filter nR) T T.length := by
  have e : reachW L name S = lstR (okR L name) (fromW L) (uR L S).length 0 (putsL [] (S.filter nR)) [] := by unfold reachW; rw [h1, h2, decide_eq_true h3]; rfl
  obtain ⟨T, hT, hc, _⟩ := lst_spec (U := uR L S) (uR L S).length 0 (putsL [] (S.filter nR)) (clo_new (ok := okR L name) (next := fromW L) (S.filter nR)) (fun x hx => by
    rcases puts_mem.1 hx with hx | hx
    · cases hx
    · exact List.mem_append_left _ (List.mem_filter.1 hx).1) (fun x _ y hy => from_uni hy) (by omega)
  exact ⟨T, e.trans (by simpa using hT), hc⟩
variable {L : List Pg} {name : ByteArray} {S : List ByteArray}
theorem reach_each {x : ByteArray} (h : x ∈ reachW L name S) : wOk L = true ∧ nameB name = true ∧ S.length ≤ 12 ∧ okR L name x = true := by
  cases hc : (wOk L && nameB name && decide (S.length ≤ 12)) with
  | false => rw [reach_no hc] at h; cases h
  | true =>
    simp only [Bool.and_eq_true, decide_eq_true_eq] at hc
    obtain ⟨T, hT, _⟩ := reach_clo L name S hc.1.1 hc.1.2 hc.2
    rw [hT] at h
    exact ⟨hc.1.1, hc.1.2, hc.2, (List.mem_filter.1 h).2⟩
theorem reach_nodup (L : List Pg) (name : ByteArray) (S : List ByteArray) : (reachW L name S).Nodup := by
  cases hc : (wOk L && nameB name && decide (S.length ≤ 12)) with
  | false => rw [reach_no hc]; exact List.nodup_nil
  | true =>
    simp only [Bool.and_eq_true, decide_eq_true_eq] at hc
    obtain ⟨T, hT, hcl⟩ := reach_clo L name S hc.1.1 hc.1.2 hc.2
    rw [hT]; exact hcl.1.filter _
theorem reach_seed {x : ByteArray} (h1 : wOk L = true) (h2 : nameB name = true) (h3 : S.length ≤ 12) (hx : x ∈ S) (hk : okR L name x = true) : x ∈ reachW L name S := by
  obtain ⟨T, hT, hcl⟩ := reach_clo L name S h1 h2 h3
  rw [hT]
  exact List.mem_filter.2 ⟨hcl.2.2.1 x (List.mem_filter.2 ⟨hx, ok_norm hk⟩), hk⟩
theorem reach_on {x y : ByteArray} (hx : x ∈ reachW L name S) (hy : y ∈ fromW L x) (hk : okR L name y = true) : y ∈ reachW L name S := by
  obtain ⟨h1, h2, h3, h4⟩ := reach_each hx
  obtain ⟨T, hT, hcl⟩ := reach_clo L name S h1 h2 h3
  rw [hT] at hx ⊢
  exact List.mem_filter.2 ⟨clo_in hcl (List.mem_filter.1 hx).1 h4 hy, hk⟩
theorem reach_least {i : Nat} (hi : i < (reachW L name S).length) : (reachW L name S)[i] ∈ S ∨ ∃ k, ∃ hk : k < (reachW L name S).length, k < i ∧ (reachW L name S)[i] ∈ fromW L (reachW L name S)[k] := by
  obtain ⟨h1, h2, h3, _⟩ := reach_each (List.getElem_mem hi)
  obtain ⟨T, hT, hcl⟩ := reach_clo L name S h1 h2 h3
  simp only [hT] at hi ⊢
  rcases clo_least hcl hi with h | h
  · exact Or.inl (List.mem_filter.1 h).1
  · exact Or.inr h
/-- from more one comes to more -/
theorem reach_more {S' : List ByteArray} (h3 : S'.length ≤ 12) (hs : ∀ x ∈ S, x ∈ S') {x : ByteArray} (hx : x ∈ reachW L name S) : x ∈ reachW L name S' := by
  obtain ⟨h1, h2, h0, h4⟩ := reach_each hx
  obtain ⟨T, hT, hcl⟩ := reach_clo L name S h1 h2 h0
  obtain ⟨T', hT', hcl'⟩ := reach_clo L name S' h1 h2 h3
  rw [hT] at hx
  rw [hT']
  exact List.mem_filter.2 ⟨clo_sub hcl (fun y hy => hcl'.2.2.1 y (List.mem_filter.2 ⟨hs y (List.mem_filter.1 hy).1, (List.mem_filter.1 hy).2⟩)) (fun y hy hk z hz => clo_in hcl' hy hk hz) x (List.mem_filter.1 hx).1, h4⟩
/-- and to nothing that one comes to from neither -/
theorem reach_both {S' : List ByteArray} (h3 : (S ++ S').length ≤ 12) {x : ByteArray} (hx : x ∈ reachW L name (S ++ S')) : x ∈ reachW L name S ∨ x ∈ reachW L name S' := by
  obtain ⟨h1, h2, h0, h4⟩ := reach_each hx
  simp only [List.length_append] at h3
  obtain ⟨T, hT, hcl⟩ := reach_clo L name (S ++ S') h1 h2 h0
  obtain ⟨A, hA, hca⟩ := reach_clo L name S h1 h2 (by omega)
  obtain ⟨B, hB, hcb⟩ := reach_clo L name S' h1 h2 (by omega)
  rw [hT] at hx
  rw [hA, hB]
  have := clo_sub (T' := A ++ B) hcl (fun y hy => by
    obtain ⟨hm, hn⟩ := List.mem_filter.1 hy
    rcases List.mem_append.1 hm with hm | hm
    · exact List.mem_append_left _ (hca.2.2.1 y (List.mem_filter.2 ⟨hm, hn⟩))
    · exact List.mem_append_right _ (hcb.2.2.1 y (List.mem_filter.2 ⟨hm, hn⟩))) (fun y hy hk z hz => by
    rcases List.mem_append.1 hy with hy | hy
    · exact List.mem_append_left _ (clo_in hca hy hk hz)
    · exact List.mem_append_right _ (clo_in hcb hy hk hz)) x (List.mem_filter.1 hx).1
  rcases List.mem_append.1 this with h | h
  · exact Or.inl (List.mem_filter.2 ⟨h, h4⟩)
  · exact Or.inr (List.mem_filter.2 ⟨h, h4⟩)
/-- as the program looks: at the address that was read -/
theorem ok_at {x : ByteArray} {A : Ad} (h : normA x = some A) (h1 : wOk L = true) (h2 : nameB name = true) : okR L name x = (!(decide ((kindF L (textF A) 2).1 = 3)) && letsL (saysG (kindF L (doorS A.house) 2) name).2.1 (pathF A).data.toList) := by
  obtain ⟨hr, ht⟩ := norm_some h
  unfold okR nR
  rw [h, lets_some hr h1 h2, ht]; rfl
theorem ok_none {x : ByteArray} (h : normA x = none) : okR L name x = false := by unfold okR nR; rw [h]; rfl
/-- as the model looks: at the text -/
theorem ok_text {x : ByteArray} (h : nR x = true) : okR L name x = (!(decide ((kindF L x 2).1 = 3)) && letsW L name x) := by unfold okR; rw [h]; rfl
end Go.Proofs.YtmgcdfmgmpnonaaGreatDoor.ReM
/- How much is ever heard of in a world. -/
namespace Go.Proofs.YtmgcdfmgmpnonaaGreatDoor.ReM
open Go.Proofs.YtmgcdfmgmpnonaaGreatDoor.AddrM Go.Proofs.YtmgcdfmgmpnonaaGreatDoor.Ad1 Go.Proofs.YtmgcdfmgmpnonaaGreatDoor.Rd1 Go.Proofs.YtmgcdfmgmpnonaaGreatDoor.St Go.Proofs.YtmgcdfmgmpnonaaGreatDoor.PgM Go.Proofs.YtmgcdfmgmpnonaaGreatDoor.PgA Go.Proofs.YtmgcdfmgmpnonaaGreatDoor.RoPg Go.Proofs.YtmgcdfmgmpnonaaGreatDoor.WdM Go.Proofs.YtmgcdfmgmpnonaaGreatDoor.Wd Go.Proofs.YtmgcdfmgmpnonaaGreatDoor.WdN Go.Proofs.YtmgcdfmgmpnonaaGreatDoor.Nm

theorem wOk_len {L : List Pg} (h : wOk L = true) : L.length ≤ 12 := ((wOk_iff L).1 h).2
theorem uni_bd {L : List Pg} {S : List ByteArray} (h : wOk L = true) (hs : S.length ≤ 12) : (uR L S).length ≤ 4000 := by
  have := uni_len L S
  have := wOk_len h
  omega
end Go.Proofs.YtmgcdfmgmpnonaaGreatDoor.ReM
