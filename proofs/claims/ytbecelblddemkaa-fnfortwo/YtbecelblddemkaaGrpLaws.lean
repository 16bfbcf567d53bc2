/- What holds of what is said. -/
import Derived.Test.YtbecelblddemkaaGrp4
namespace Go.Proofs.Ytbecelblddemkaa.Gf
open Go.RowKit Go.Proofs.Ytbecelblddemkaa.EscM Go.Proofs.Ytbecelblddemkaa.EscL Go.Proofs.Ytbecelblddemkaa.RuleM Go.Proofs.Ytbecelblddemkaa.St Go.Proofs.Ytbecelblddemkaa.RR Go.Proofs.Ytbecelblddemkaa.LetM Go.Proofs.Ytbecelblddemkaa.Nm Go.Proofs.Ytbecelblddemkaa.GrM Go.Proofs.Ytbecelblddemkaa.Dr

theorem with_app (A B : List Gr) (s : ByteArray) : withL (A ++ B) s = withL A s ++ withL B s := by unfold withL; rw [List.filter_append]
theorem told_two (L : List Gr) (s : ByteArray) : toldL (L ++ L) s = toldL L s ++ toldL L s := by
  unfold toldL
  rw [with_app, with_app]
  by_cases h : withL L s = []
  · rw [if_pos h, if_pos (by rw [h]; rfl)]
  · rw [if_neg h, if_neg (by simp [h])]
theorem rules_app (A B : List Gr) : rulesL (A ++ B) = rulesL A ++ rulesL B := by unfold rulesL; rw [List.flatMap_append]
theorem fold_stay : ∀ (T : List Gr) (m : Int), (∀ g ∈ T, g.wait ≤ m) → T.foldl (fun m g => max m g.wait) m = m := by
  intro T
  induction T with
  | nil => intro m _; rfl
  | cons x r ih =>
    intro m h
    have h1 := h x (by simp)
    show r.foldl _ (max m x.wait) = m
    rw [show max m x.wait = m by omega]
    exact ih m fun g hg => h g (List.mem_cons_of_mem _ hg)
theorem fold_le : ∀ (T : List Gr) (m : Int), m ≤ T.foldl (fun m g => max m g.wait) m ∧ ∀ g ∈ T, g.wait ≤ T.foldl (fun m g => max m g.wait) m := by
  intro T
  induction T with
  | nil => intro m; exact ⟨Int.le_refl _, fun g hg => by cases hg⟩
  | cons x r ih =>
    intro m
    obtain ⟨h1, h2⟩ := ih (max m x.wait)
    refine ⟨?_, fun g hg => ?_⟩
    · show m ≤ r.foldl _ (max m x.wait); omega
    · show g.wait ≤ r.foldl _ (max m x.wait)
      rcases List.mem_cons.1 hg with rfl | hg
      · omega
      · exact h2 g hg
theorem wait_two (T : List Gr) : waitL (T ++ T) = waitL T := by
  unfold waitL
  rw [List.foldl_append]
  exact fold_stay T _ (fold_le T 0).2
theorem told_own {L : List Gr} {s : ByteArray} (h : withL L s ≠ []) : toldL (withL L s) s = toldL L s := by
  have e : withL (withL L s) s = withL L s := by unfold withL; rw [List.filter_filter]; simp
  unfold toldL
  rw [e, if_neg h, if_neg h]
theorem told_cons {L : List Gr} {s z : ByteArray} {g0 : Gr} (hg : g0.nm = [z]) (hz : z ≠ s) (hz2 : z ≠ star) : toldL (g0 :: L) s = toldL L s := by
  have e : ∀ x, z ≠ x → withL (g0 :: L) x = withL L x := by
    intro x hx
    unfold withL
    rw [List.filter_cons]
    have : hasB x g0.nm = false := by rw [hg]; unfold hasB; simp [hx]
    rw [this]; rfl
  unfold toldL
  rw [e s hz, e star hz2]
theorem told_nil (s : ByteArray) : toldL [] s = [] := by unfold toldL withL; simp
theorem for_n (a0 : Option Addr) (cap n : Nat) (L : List Gr) (s : ByteArray) (w : World) (hn : L.length = n) (hI : IsRows FGr w a0 cap L) (hG : GrsAt w L) (hS : ∀ g ∈ L, GrSz g) (hl : L.length ≤ 1000) (hN : ∀ g ∈ L, 0 ≤ g.wait ∧ g.wait ≤ 1000000) (hR : ∀ g ∈ L, g.ru.length ≤ 1000) :
    Calls Try.prog 12 #[.slice a0 n cap, .string s] w fun e w' => Said w w' L s e := by
  subst hn; exact implFor_any a0 cap L s w hI hG hS hl hN hR
theorem own_group1 (w : World) (base : Nat) (g : Gr) (hb : base ≤ w.heap.size) : OwnsR FGr 32 (w.alloc (.cells #[.slice g.na g.nm.length g.nc, .slice g.ra g.ru.length g.rc, .int .i64 g.wait] 32)) base (.slice (some ⟨w.heap.size, 0, none⟩) 1 1) [g] := by
  refine ⟨by simp [Frm.cells, FGr], Or.inr ⟨w.heap.size, 1, #[.slice g.na g.nm.length g.nc, .slice g.ra g.ru.length g.rc, .int .i64 g.wait], rfl, hb, ?_, Nat.le_refl _, by decide, rfl, by simp [Frm.cells, FGr]⟩⟩
  show (w.heap.push _)[w.heap.size]? = _
  simp
theorem rows_from {α : Type} {F : Frm α} {w : World} {b o cap : Nat} {L : List α} (h : IsRows F w (some ⟨b, o, none⟩) cap L) (n : Nat) (hn : n ≤ L.length) : IsRows F w (some ⟨b, o + n * F.k, none⟩) (cap - n) (L.drop n) := by
  obtain ⟨h1, h2, h3, h4⟩ := h
  refine ⟨by simp; omega, by omega, (fun e => by cases e), fun hne => ?_⟩
  obtain ⟨b2, off, e, hc⟩ := h4 (by intro e; subst e; simp at hne)
  injection e with e; injection e with e1 e2 _
  subst e1; subst e2
  refine ⟨b, o + n * F.k, rfl, fun j u hu => ?_⟩
  have e3 : F.cells L = F.cells (L.take n) ++ F.cells (L.drop n) := by rw [← F.cells_append, List.take_append_drop]
  have e4 : (F.cells (L.take n)).length = n * F.k := by rw [F.cells_len, List.length_take, Nat.min_eq_left hn]
  have := hc (n * F.k + j) u (by rw [e3, List.getElem?_append_right (by omega), e4]; simpa using hu)
  rw [show o + n * F.k + j = o + (n * F.k + j) by omega]; exact this
theorem mem_two {P : Gr → Prop} {A B : List Gr} (h1 : ∀ g ∈ A, P g) (h2 : ∀ g ∈ B, P g) : ∀ g ∈ A ++ B, P g := fun g hg => (List.mem_append.1 hg).elim (h1 g) (h2 g)
end Go.Proofs.Ytbecelblddemkaa.Gf
