/- What a notice says to a caller: the program's. -/
import Derived.Test.YtbecelblddemkaaGrpMath
import Derived.Test.YtbecelblddemkaaCont
import Derived.Test.YtbecelblddemkaaDraw14
namespace Go.Proofs.Ytbecelblddemkaa.Gf
open Go.RowKit Go.Proofs.Ytbecelblddemkaa.EscM Go.Proofs.Ytbecelblddemkaa.EscL Go.Proofs.Ytbecelblddemkaa.RuleM Go.Proofs.Ytbecelblddemkaa.St Go.Proofs.Ytbecelblddemkaa.RR Go.Proofs.Ytbecelblddemkaa.LetM Go.Proofs.Ytbecelblddemkaa.Nm Go.Proofs.Ytbecelblddemkaa.GrM Go.Proofs.Ytbecelblddemkaa.Dr

/-- the groups with a name -/
def withL (L : List Gr) (s : ByteArray) : List Gr := L.filter fun g => hasB s g.nm
def star : ByteArray := ⟨#[42]⟩
/-- the groups that count -/
def toldL (L : List Gr) (s : ByteArray) : List Gr := if withL L s = [] then withL L star else withL L s
def rulesL (L : List Gr) : List Ru := L.flatMap (·.ru)
def waitL (L : List Gr) : Int := L.foldl (fun m g => max m g.wait) 0
theorem with_snoc {L : List Gr} {s : ByteArray} {k : Nat} (h : k < L.length) : withL (L.take (k + 1)) s = if hasB s L[k].nm then withL (L.take k) s ++ [L[k]] else withL (L.take k) s := by
  unfold withL
  rw [List.take_succ_eq_append_getElem h, List.filter_append]
  cases hh : hasB s L[k].nm with
  | true => simp [hh]
  | false => simp [hh]
theorem with_len {L : List Gr} {s : ByteArray} : (withL L s).length ≤ L.length := List.length_filter_le _ _
theorem with_mem {L : List Gr} {s : ByteArray} {g : Gr} (h : g ∈ withL L s) : g ∈ L := (List.mem_filter.1 h).1
theorem rules_snoc {L : List Gr} {k : Nat} (h : k < L.length) : rulesL (L.take (k + 1)) = rulesL (L.take k) ++ L[k].ru := by
  unfold rulesL
  rw [List.take_succ_eq_append_getElem h, List.flatMap_append]; simp
theorem wait_snoc {L : List Gr} {k : Nat} (h : k < L.length) : waitL (L.take (k + 1)) = max (waitL (L.take k)) L[k].wait := by
  unfold waitL
  rw [List.take_succ_eq_append_getElem h, List.foldl_append]; rfl
theorem wait_nn (L : List Gr) : 0 ≤ waitL L := by
  unfold waitL
  have : ∀ (L : List Gr) (m : Int), 0 ≤ m → 0 ≤ L.foldl (fun m g => max m g.wait) m := by
    intro L
    induction L with
    | nil => intro m h; exact h
    | cons x r ih => intro m h; exact ih _ (by show 0 ≤ max m x.wait; omega)
  exact this L 0 (by omega)

theorem rules_le (L : List Gr) (n : Nat) (h : ∀ g ∈ L, g.ru.length ≤ n) : (rulesL L).length ≤ L.length * n := by
  induction L with
  | nil => simp [rulesL]
  | cons x r ih =>
    have h1 := h x (by simp)
    have h2 := ih fun g hg => h g (List.mem_cons_of_mem _ hg)
    have e : (rulesL (x :: r)).length = x.ru.length + (rulesL r).length := by simp [rulesL]
    rw [e, List.length_cons, Nat.add_mul]; omega
theorem told_mem {L : List Gr} {s : ByteArray} {g : Gr} (h : g ∈ toldL L s) : g ∈ L := by
  unfold toldL at h
  split at h
  · exact with_mem h
  · exact with_mem h
theorem told_len {L : List Gr} {s : ByteArray} : (toldL L s).length ≤ L.length := by
  unfold toldL
  split
  · exact with_len
  · exact with_len

set_option maxRecDepth 100000 in
set_option maxHeartbeats 3200000 in
theorem implWith_any (a0 : Option Addr) (cap : Nat) (L : List Gr) (s : ByteArray) (w : World) (hI : IsRows FGr w a0 cap L) (hG : GrsAt w L) (hS : ∀ g ∈ L, GrSz g) (hl : L.length ≤ 100000) :
    Calls Try.prog 26 #[.slice a0 L.length cap, .string s] w fun e w' => ∃ a1 c1, e = .returned (.slice a1 (withL L s).length c1) ∧ OwnsR FGr 32 w' w.heap.size (.slice a1 (withL L s).length c1) (withL L s) ∧ Below w.heap.size w w' := by
  obtain ⟨i0, hi, hz0, hz1, hz2⟩ := info_group
  have HI : Hid (IsRows FGr w a0 cap L) := hI
  have HG : Hid (GrsAt w L) := hG
  have HS : Hid (∀ g ∈ L, GrSz g) := hS
  clear hI hG hS
  go_enter Try.func26, Try.ntmps26
  go_wp2
  go_loopw [5, 10] (fun v i wr => ∃ k : Nat, k ≤ L.length ∧ i = .int .i64 (k : Int) ∧ Hid (OwnsR FGr 32 wr w.heap.size v (withL (L.take k) s)) ∧ Hid (Below w.heap.size w wr)) (fun _ i _ => L.length - (intOf i).toNat)
  case atStart => exact ⟨0, Nat.zero_le _, rfl, OwnsR.nil _ _ _ _, Below.refl _ _⟩
  case round =>
    obtain ⟨k, hk, rfl, HO, HB⟩ := hrel
    by_cases hlt : k < L.length
    · obtain ⟨B, off, e1, c0, c1, c2⟩ := gr_at (IsRows.below HI.out HB.out) hlt
      subst e1
      have hz := HS.out L[k] (List.getElem_mem _)
      obtain ⟨hzz1, hzz2, _⟩ := hz
      have HSN : Hid _ := with_snoc (s := s) hlt
      have hwl : (withL (L.take k) s).length ≤ k := Nat.le_trans with_len (by simp; omega)
      have hG1 : GrAt (wr.alloc (.cells #[.slice L[k].na L[k].nm.length L[k].nc, .slice L[k].ra L[k].ru.length L[k].rc, .int .i64 L[k].wait] 32)) L[k] := ((HG.out.below HB.out) L[k] (List.getElem_mem _)).keep (alloc_keep _ _)
      have HA1 : Hid (IsStrs (wr.alloc (.cells #[.slice L[k].na L[k].nm.length L[k].nc, .slice L[k].ra L[k].ru.length L[k].rc, .int .i64 L[k].wait] 32)) L[k].na L[k].nc L[k].nm) := hG1.1
      have HOa : Hid (OwnsR FGr 32 (wr.alloc (.cells #[.slice L[k].na L[k].nm.length L[k].nc, .slice L[k].ra L[k].ru.length L[k].rc, .int .i64 L[k].wait] 32)) w.heap.size u5 (withL (L.take k) s)) := HO.out.keep (alloc_keep _ _)
      have HBa : Hid (Below w.heap.size w (wr.alloc (.cells #[.slice L[k].na L[k].nm.length L[k].nc, .slice L[k].ra L[k].ru.length L[k].rc, .int .i64 L[k].wait] 32))) := HB.out.alloc HB.out.size _
      have HX : Hid (Bx 32 (wr.alloc (.cells #[.slice L[k].na L[k].nm.length L[k].nc, .slice L[k].ra L[k].ru.length L[k].rc, .int .i64 L[k].wait] 32)) wr.heap.size #[.slice L[k].na L[k].nm.length L[k].nc, .slice L[k].ra L[k].ru.length L[k].rc, .int .i64 L[k].wait]) := Bx.new _ _ _
      clear hG1
      go_wp2_with fail
      refine (Ct.contains_any _ _ _ s _ HA1.out (by omega)).mono ?_
      rintro e w1 ⟨rfl, n, hw1⟩
      have HO1 : Hid (OwnsR FGr 32 w1 w.heap.size u5 (withL (L.take k) s)) := by rw [hw1]; exact HOa.out.keep fun _ _ => rfl
      have HB1 : Hid (Below w.heap.size w w1) := by rw [hw1]; exact below_drewN HBa.out n
      have HX1 : Hid (Bx 32 w1 wr.heap.size #[.slice L[k].na L[k].nm.length L[k].nc, .slice L[k].ra L[k].ru.length L[k].rc, .int .i64 L[k].wait]) := by rw [hw1]; exact HX.out.heapEq rfl
      clear hw1 HX HA1 HOa HBa c0 c1 c2
      have hx1 := HX1.out
      have c0 : w1.cell? ⟨wr.heap.size, 0, none⟩ = some (.slice L[k].na L[k].nm.length L[k].nc) := hx1.cell 0 rfl
      have c1 : w1.cell? ⟨wr.heap.size, 1, none⟩ = some (.slice L[k].ra L[k].ru.length L[k].rc) := hx1.cell 1 rfl
      have c2 : w1.cell? ⟨wr.heap.size, 2, none⟩ = some (.int .i64 L[k].wait) := hx1.cell 2 rfl
      clear hx1
      have hbs := HB1.out.size
      cases hh : hasB s L[k].nm with
      | false =>
        have HN : Hid (withL (L.take (k + 1)) s = withL (L.take k) s) := by show _ = _; rw [HSN.out, hh]; rfl
        go_wp2
        go_roundw
        case rel => exact ⟨k + 1, by omega, by go_num, by rw [HN.out]; exact HO1, HB1⟩
        case measure => simp [intOf]; omega
      | true =>
        have HN : Hid (withL (L.take (k + 1)) s = withL (L.take k) s ++ [L[k]]) := by show _ = _; rw [HSN.out, hh]; rfl
        go_wp2_with (at_builtin; refine wpList_append_own _ rfl _ _ 23 rfl w.heap.size 32 i0 (.agg #[.slice none 0 0, .slice none 0 0, .int .i64 0]) 3 56 Try.underlying23 hi hz0 hz1 hz2 rfl (by decide) _ _ _ rfl (World.ownsRow.alloc HO1.out _) ⟨w1.heap.size, 0, none⟩ 1 1 (FGr.enc L[k]) rfl rfl (cell_three_new _ _ _ _ _) (FGr.one L[k]) ?c3 ?c4 ?c5 ?_)
        case c3 => unfold maxLen; omega
        case c4 => omega
        case c5 => simp; omega
        intro v8 w8 hown8 hgrow8 _
        have HO8 : Hid (OwnsR FGr 32 w8 w.heap.size v8 (withL (L.take (k + 1)) s)) := by
          show OwnsR _ _ _ _ _ _
          rw [HN.out]; exact OwnsR.append (F := FGr) hown8
        have HB8 : Hid (Below w.heap.size w w8) := Below.grown (HB1.out.alloc hbs _) hgrow8 (by simp; omega) (OwnsR.block HO1.out)
        clear hown8 hgrow8
        go_wp2
        go_roundw
        case rel => exact ⟨k + 1, by omega, by go_num, HO8, HB8⟩
        case measure => simp [intOf]; omega
    · go_wp2
      go_ret
      have e1 : L.take k = L := List.take_of_length_le (by omega)
      have hO := HO.out
      rw [e1] at hO
      obtain ⟨a1, c1, hv, _⟩ := hO.rows
      subst hv
      exact ⟨a1, c1, rfl, hO, HB.out⟩

/-- what NoticeFor answers -/
def Said (w w' : World) (L : List Gr) (s : ByteArray) (e : Ending) : Prop :=
  ∃ g : Gr, e = .returned (.agg #[.slice g.na g.nm.length g.nc, .slice g.ra g.ru.length g.rc, .int .i64 g.wait]) ∧ g.nm = [s] ∧ g.ru = rulesL (toldL L s) ∧ g.wait = waitL (toldL L s) ∧ GrOwn w' w.heap.size g ∧ Below w.heap.size w w'

/-- what is said so far -/
def FI (w : World) (G M nb : Nat) (T : List Gr) (at0 : Option Addr) (ct : Nat) (s : ByteArray) (wr : World) (R : List Ru) (a3 : Option Addr) (c3 : Nat) (wt : Int) : Prop :=
  (Bx 32 wr G #[.slice (some ⟨nb, 0, none⟩) 1 1, .slice a3 R.length c3, .int .i64 wt] ∧ OwnsR FRu 44 wr w.heap.size (.slice a3 R.length c3) R ∧ Owns wr w.heap.size (.slice (some ⟨nb, 0, none⟩) 1 1) [s]) ∧
  (OwnsR FGr 32 wr w.heap.size (.slice at0 T.length ct) T ∧ (∀ b, (Value.slice at0 T.length ct).ownBlock = some b → b < M)) ∧ (M ≤ G ∧ w.heap.size < G ∧ w.heap.size < M) ∧
  Below w.heap.size w wr ∧ Bx 32 wr w.heap.size #[.slice none 0 0, .slice none 0 0, .int .i64 0]
theorem _root_.Go.Proofs.Ytbecelblddemkaa.Dr.Bx.grownT {t t2 : TypeId} {w w' : World} {G base k m : Nat} {C : Array Value} {v : Value} {xs : List Value} (h : Bx t w G C) (h2 : w.ownsRow base t2 k v m xs) (ht : t ≠ t2) (hg : w.grownBy w' v.ownBlock) : Bx t w' G C := by
  refine h.grown hg ?_
  intro e
  obtain ⟨D, hD⟩ := own_block_type h2 e
  unfold Bx at h
  rw [h] at hD
  injection hD with hD
  injection hD with _ hD
  exact ht hD
section
variable {w : World} {G M nb : Nat} {T : List Gr} {at0 : Option Addr} {ct : Nat} {s : ByteArray} {wr : World} {R : List Ru} {a3 : Option Addr} {c3 : Nat} {wt : Int}
theorem FI.alloc (h : FI w G M nb T at0 ct s wr R a3 c3 wt) (o : Obj) : FI w G M nb T at0 ct s (wr.alloc o) R a3 c3 wt := by
  obtain ⟨⟨h1, h2, h3⟩, ⟨h4, h5⟩, h6, h7, h8⟩ := h
  exact ⟨⟨h1.alloc o, h2.keep (alloc_keep _ _), h3.keep (alloc_keep _ _)⟩, ⟨h4.keep (alloc_keep _ _), h5⟩, h6, h7.alloc h7.size o, h8.alloc o⟩
theorem FI.drew (h : FI w G M nb T at0 ct s wr R a3 c3 wt) : FI w G M nb T at0 ct s wr.drew R a3 c3 wt := by
  obtain ⟨⟨h1, h2, h3⟩, ⟨h4, h5⟩, h6, h7, h8⟩ := h
  exact ⟨⟨h1.heapEq rfl, OwnsR.heapEq h2 rfl, Owns.heapEq h3 rfl⟩, ⟨OwnsR.heapEq h4 rfl, h5⟩, h6, below_drewN h7 1, h8.heapEq rfl⟩
theorem FI.rules (h : FI w G M nb T at0 ct s wr R a3 c3 wt) {w3 : World} {S : List Ru} {a4 : Option Addr} {c4 : Nat} (hO : OwnsR FRu 44 w3 w.heap.size (.slice a4 S.length c4) S) (hg : wr.grownBy w3 (Value.slice a3 R.length c3).ownBlock) : FI w G M nb T at0 ct s (w3.setCell ⟨G, 1, none⟩ (.slice a4 S.length c4)) S a4 c4 wt ∧ Bx 32 w3 G #[.slice (some ⟨nb, 0, none⟩) 1 1, .slice a3 R.length c3, .int .i64 wt] := by
  obtain ⟨⟨h1, h2, h3⟩, ⟨h4, h5⟩, ⟨h6, h6', h6''⟩, h7, h8⟩ := h
  have hb := OwnsR.block h2
  have hbe : ∀ c, (Value.slice a3 R.length c3).ownBlock = some c → ∃ C, wr.heap[c]? = some (.cells C 44) := fun c hc => own_block_type h2 hc
  have hx : ∀ {g : Nat} {C : Array Value}, Bx 32 wr g C → Bx 32 w3 g C := by
    intro g C hB
    refine hB.grown hg ?_
    intro e
    obtain ⟨D, hD⟩ := hbe g e
    unfold Bx at hB
    rw [hB] at hD
    injection hD with hD
    injection hD with _ hD
    exact absurd hD (by decide)
  have k1 := hx h1
  have k8 := hx h8
  have k3 : Owns w3 w.heap.size (.slice (some ⟨nb, 0, none⟩) 1 1) [s] := own_apart h3 h2 (by decide) hg
  have k4 : OwnsR FGr 32 w3 w.heap.size (.slice at0 T.length ct) T := own_apart h4 h2 (by decide) hg
  have k7 : Below w.heap.size w w3 := Below.grown h7 hg (by have := h7.size; omega) hb
  have hs : w3.grownBy (w3.setCell ⟨G, 1, none⟩ (.slice a4 S.length c4)) (some G) := grown_set 1 _
  refine ⟨⟨⟨k1.set 1 _, own_type hO k1 (by decide) hs, own_type k3 k1 (by decide) hs⟩, ⟨own_far k4 h5 hs h6, h5⟩, ⟨h6, h6', h6''⟩, ?_, k8.grown hs (by intro e; have := Option.some.inj e; omega)⟩, k1⟩
  exact k7.trans (grown_any _ hs k7.size (fun k hk => by have := Option.some.inj hk; omega))
theorem FI.wait (h : FI w G M nb T at0 ct s wr R a3 c3 wt) (wt' : Int) : FI w G M nb T at0 ct s (wr.setCell ⟨G, 2, none⟩ (.int .i64 wt')) R a3 c3 wt' := by
  obtain ⟨⟨h1, h2, h3⟩, ⟨h4, h5⟩, ⟨h6, h6', h6''⟩, h7, h8⟩ := h
  have hs : wr.grownBy (wr.setCell ⟨G, 2, none⟩ (.int .i64 wt')) (some G) := grown_set 2 _
  refine ⟨⟨h1.set 2 _, own_type h2 h1 (by decide) hs, own_type h3 h1 (by decide) hs⟩, ⟨own_far h4 h5 hs h6, h5⟩, ⟨h6, h6', h6''⟩, ?_, h8.grown hs (by intro e; have := Option.some.inj e; omega)⟩
  exact h7.trans (grown_any _ hs h7.size (fun k hk => by have := Option.some.inj hk; omega))
theorem FI.out (h : FI w G M nb T at0 ct s wr R a3 c3 wt) {w4 : World} (e : w4 = ((wr.setCell ⟨w.heap.size, 0, none⟩ (.slice (some ⟨nb, 0, none⟩) 1 1)).setCell ⟨w.heap.size, 1, none⟩ (.slice a3 R.length c3)).setCell ⟨w.heap.size, 2, none⟩ (.int .i64 wt)) :
    GrOwn w4 w.heap.size ⟨[s], some ⟨nb, 0, none⟩, 1, R, a3, c3, wt⟩ ∧ Below w.heap.size w w4 ∧ Bx 32 w4 w.heap.size #[.slice (some ⟨nb, 0, none⟩) 1 1, .slice a3 R.length c3, .int .i64 wt] := by
  obtain ⟨⟨h1, h2, h3⟩, _, _, h7, h8⟩ := h
  have b1 := h8.set 0 (.slice (some ⟨nb, 0, none⟩) 1 1)
  have b2 := b1.set 1 (.slice a3 R.length c3)
  have b3 := b2.set 2 (.int .i64 wt)
  have g1 : wr.grownBy (wr.setCell ⟨w.heap.size, 0, none⟩ (.slice (some ⟨nb, 0, none⟩) 1 1)) (some w.heap.size) := grown_set 0 _
  have g2 := grown_trans g1 (grown_set 1 (.slice a3 R.length c3))
  have g3 := grown_trans g2 (grown_set 2 (.int .i64 wt))
  subst e
  exact ⟨⟨own_type h3 h8 (by decide) g3, own_type h2 h8 (by decide) g3⟩, h7.trans (grown_any _ g3 h7.size (fun k hk => by have := Option.some.inj hk; omega)), b3⟩
theorem FI.new {w2 : World} (hT : OwnsR FGr 32 w2 w.heap.size (.slice at0 T.length ct) T) (hB : Below w.heap.size w w2) (hz : Bx 32 w2 w.heap.size #[.slice none 0 0, .slice none 0 0, .int .i64 0]) :
    FI w (w2.heap.size + 1) w2.heap.size w2.heap.size T at0 ct s ((w2.alloc (.cells #[.string s] 9)).alloc (.cells #[.slice (some ⟨w2.heap.size, 0, none⟩) 1 1, .slice none 0 0, .int .i64 0] 32)) [] none 0 0 := by
  have hlt : w.heap.size < w2.heap.size := hz.lt
  have hG : (w2.alloc (.cells #[.string s] 9)).heap.size = w2.heap.size + 1 := by simp
  refine ⟨⟨?_, OwnsR.nil _ _ _ _, (Owns.lit1 w2 w.heap.size s (by omega)).keep (alloc_keep _ _)⟩, ⟨(hT.keep (alloc_keep _ _)).keep (alloc_keep _ _), own_lt hT⟩, ⟨by omega, by omega, hlt⟩, (hB.alloc hB.size _).alloc (by have := hB.size; simp; omega) _, (hz.alloc _).alloc _⟩
  have := Bx.new 32 (w2.alloc (.cells #[.string s] 9)) #[.slice (some ⟨w2.heap.size, 0, none⟩) 1 1, .slice none 0 0, .int .i64 0]
  rw [hG] at this; exact this
end

set_option maxRecDepth 100000 in
set_option maxHeartbeats 6400000 in
theorem implFor_any (a0 : Option Addr) (cap : Nat) (L : List Gr) (s : ByteArray) (w : World) (hI : IsRows FGr w a0 cap L) (hG : GrsAt w L) (hS : ∀ g ∈ L, GrSz g) (hl : L.length ≤ 1000) (hN : ∀ g ∈ L, 0 ≤ g.wait ∧ g.wait ≤ 1000000) (hR : ∀ g ∈ L, g.ru.length ≤ 1000) :
    Calls Try.prog 12 #[.slice a0 L.length cap, .string s] w fun e w' => Said w w' L s e := by
  obtain ⟨i0, hi, hz0, hz1, hz2⟩ := info_rule
  have HI : Hid (IsRows FGr w a0 cap L) := hI
  have HG : Hid (GrsAt w L) := hG
  have HS : Hid (∀ g ∈ L, GrSz g) := hS
  have HN : Hid _ := hN
  have HR : Hid _ := hR
  clear hI hG hS hN hR
  go_enter Try.func12, Try.ntmps12
  go_wp2_with fail
  refine (implWith_any a0 cap L s _ (HI.out.keep (alloc_keep _ _)) (HG.out.keep (alloc_keep _ _)) HS.out (by omega)).mono ?_
  rintro e w1 ⟨a1, c1, rfl, hO1, hb1⟩
  have HO1 : Hid (OwnsR FGr 32 w1 w.heap.size (.slice a1 (withL L s).length c1) (withL L s)) := hO1.mono (by simp)
  have HB1 : Hid (Below w.heap.size w w1) := Below.trans ((Below.refl _ w).alloc (Nat.le_refl _) _) (hb1.mono (by simp))
  have HZ1 : Hid (Bx 32 w1 w.heap.size #[.slice none 0 0, .slice none 0 0, .int .i64 0]) := (Bx.new 32 w _).keep (fun k hk => hb1.block k hk)
  clear hO1 hb1
  by_cases h0 : (withL L s).length = 0
  · have HT : Hid (toldL L s = withL L star) := by show _ = _; unfold toldL; rw [if_pos (List.eq_nil_of_length_eq_zero h0)]
    have h0' : (((withL L s).length : Int) == 0) = true := by rw [h0]; rfl
    clear h0
    go_wp2_with fail
    refine (implWith_any a0 cap L star _ (HI.out.below HB1.out) (HG.out.below HB1.out) HS.out (by omega)).mono ?_
    rintro e w2 ⟨a2, c2, rfl, hO2, hb2⟩
    have HO2 : Hid (OwnsR FGr 32 w2 w.heap.size (.slice a2 (withL L star).length c2) (withL L star)) := hO2.mono HB1.out.size
    have HB2 : Hid (Below w.heap.size w w2) := HB1.out.trans (hb2.mono HB1.out.size)
    have HZ2 : Hid (Bx 32 w2 w.heap.size #[.slice none 0 0, .slice none 0 0, .int .i64 0]) := HZ1.out.keep (fun k hk => hb2.block k hk)
    clear hO2 hb2
    have HF0 : Hid _ := FI.new (s := s) HO2.out HB2.out HZ2.out
    obtain ⟨M, hM⟩ : ∃ M, w2.heap.size = M := ⟨_, rfl⟩
    rw [hM] at HF0
    go_wp2
    try rw [hM]
    obtain ⟨G, hG⟩ : ∃ G, M + 1 = G := ⟨_, rfl⟩
    rw [hG] at HF0 ⊢
    clear hG hM
    have HTL : Hid (∀ g ∈ (withL L star), g ∈ L) := fun g hg => with_mem hg
    have htl : ((withL L star)).length ≤ 1000 := Nat.le_trans with_len hl
    have HRB : Hid (∀ k, k ≤ ((withL L star)).length → (rulesL (((withL L star)).take k)).length ≤ k * 1000) := fun k hk => by
      have := rules_le (((withL L star)).take k) 1000 (fun g hg => HR.out g (HTL.out g (List.mem_of_mem_take hg)))
      have e : (((withL L star)).take k).length = k := by simp; omega
      rw [e] at this; exact this
    generalize hTq : (withL L star) = T at *
    go_loopw [22] (fun i wr => ∃ (k : Nat) (a3 : Option Addr) (c3 : Nat), k ≤ T.length ∧ i = .int .i64 (k : Int) ∧ Hid (FI w G M M T a2 c2 s wr (rulesL (T.take k)) a3 c3 (waitL (T.take k)))) (fun i _ => T.length - (intOf i).toNat)
    case atStart => exact ⟨0, none, 0, Nat.zero_le _, rfl, HF0⟩
    case round =>
      obtain ⟨k, a3, c3, hk, rfl, HF⟩ := hrel
      by_cases hlt : k < T.length
      · have hF := HF.out
        obtain ⟨⟨hx, hro, _⟩, ⟨hto, _⟩, ⟨hMG, hwG, hwM⟩, hbw, _⟩ := hF
        obtain ⟨b1, off, e1, q0, q1, q2⟩ := gr_at hto.rowsOf hlt
        have hgm := HTL.out T[k] (List.getElem_mem _)
        obtain ⟨hw0, hw6⟩ := HN.out T[k] hgm
        have hrl := HR.out T[k] hgm
        have hrb := HRB.out k hk
        have HRS : Hid (rulesL (T.take (k + 1)) = rulesL (T.take k) ++ T[k].ru) := rules_snoc hlt
        have HWS : Hid (waitL (T.take (k + 1)) = max (waitL (T.take k)) T[k].wait) := wait_snoc hlt
        have hwn := wait_nn (T.take k)
        have HW0 : Hid (k = 0 → waitL (T.take k) = 0) := fun e => by subst e; rfl
        have HGt : Hid (IsRows FRu (wr.alloc (.cells #[.slice T[k].na T[k].nm.length T[k].nc, .slice T[k].ra T[k].ru.length T[k].rc, .int .i64 T[k].wait] 32)) T[k].ra T[k].rc T[k].ru) := (((HG.out.below hbw) T[k] hgm).keep (alloc_keep _ _)).2
        have hGw : G < wr.heap.size := hx.lt
        have d1 : wr.cell? ⟨G, 1, none⟩ = some (.slice a3 (rulesL (T.take k)).length c3) := hx.cell 1 rfl
        have HFa : Hid (FI w G M M T a2 c2 s (wr.alloc (.cells #[.slice T[k].na T[k].nm.length T[k].nc, .slice T[k].ra T[k].ru.length T[k].rc, .int .i64 T[k].wait] 32)) (rulesL (T.take k)) a3 c3 (waitL (T.take k))) := HF.out.alloc _
        have HXg : Hid (Bx 32 (wr.alloc (.cells #[.slice T[k].na T[k].nm.length T[k].nc, .slice T[k].ra T[k].ru.length T[k].rc, .int .i64 T[k].wait] 32)) wr.heap.size #[.slice T[k].na T[k].nm.length T[k].nc, .slice T[k].ra T[k].ru.length T[k].rc, .int .i64 T[k].wait]) := Bx.new _ _ _
        clear hx hro hto hbw hgm
        subst e1
        generalize hR0 : rulesL (T.take k) = R0 at *
        obtain ⟨S, hS⟩ : ∃ S, S = R0 ++ T[k].ru := ⟨_, rfl⟩
        have HS1 : Hid (S = R0 ++ T[k].ru) := hS
        clear hS
        generalize hW0 : waitL (T.take k) = W0 at *
        go_wp2_with (at_builtin
                     refine St.wpList_app rfl (.tmp 28) (.tmp 30) 30 rfl w.heap.size 44 i0 (.agg #[.bool false, .string ⟨#[]⟩]) 2 24 Try.underlying30 hi hz0 hz1 hz2 rfl (by decide) (.slice a3 R0.length c3) R0.length (FRu.cells R0) rfl HFa.out.1.2.1 T[k].ra T[k].ru.length T[k].rc (FRu.cells T[k].ru) rfl HGt.out.none (FRu.cells_len _) (HGt.out.newsAny (fun _ _ => rfl)) (FRu.cells_one _) (by unfold maxLen; omega) (by omega) (by simp; omega) ?_)
        intro v4 w4 ho hg
        have hO4 : OwnsR FRu 44 w4 w.heap.size v4 S := OwnsR.of_row (F := FRu) ho (by rw [HS1.out]; simp) (by rw [HS1.out, FRu.cells_append])
        obtain ⟨a4, c4, hv, _⟩ := hO4.rows
        subst hv
        have hh := HFa.out.rules hO4 hg
        have HF4 : Hid (FI w G M M T (some ⟨b1, off, none⟩) c2 s (w4.setCell ⟨G, 1, none⟩ (.slice a4 S.length c4)) S a4 c4 W0) := hh.1
        have HX4 : Hid (Bx 32 w4 G #[.slice (some ⟨M, 0, none⟩) 1 1, .slice a3 R0.length c3, .int .i64 W0]) := hh.2
        have HXg4 : Hid (Bx 32 w4 wr.heap.size #[.slice T[k].na T[k].nm.length T[k].nc, .slice T[k].ra T[k].ru.length T[k].rc, .int .i64 T[k].wait]) := HXg.out.grownT HFa.out.1.2.1 (by decide) hg
        have g1 : w4.cell? ⟨G, 1, none⟩ = some (.slice a3 R0.length c3) := HX4.out.cell 1 rfl
        have gz : ∀ j, w4.frozen? ⟨G, j, none⟩ = false := HX4.out.free
        have HX5 : Hid (Bx 32 (w4.setCell ⟨G, 1, none⟩ (.slice a4 S.length c4)) G #[.slice (some ⟨M, 0, none⟩) 1 1, .slice a4 S.length c4, .int .i64 W0]) := HF4.out.1.1
        have g2 : (w4.setCell ⟨G, 1, none⟩ (.slice a4 S.length c4)).cell? ⟨G, 2, none⟩ = some (.int .i64 W0) := HX5.out.cell 2 rfl
        have gz5 : ∀ j, (w4.setCell ⟨G, 1, none⟩ (.slice a4 S.length c4)).frozen? ⟨G, j, none⟩ = false := HX5.out.free
        have e2 : (w4.setCell ⟨G, 1, none⟩ (.slice a4 S.length c4)).cell? ⟨wr.heap.size, 2, none⟩ = some (.int .i64 T[k].wait) := (HXg4.out.grown (grown_set 1 _) (by intro e; have := Option.some.inj e; omega)).cell 2 rfl
        clear ho hg hO4 hh
        have HRE : Hid (rulesL (T.take (k + 1)) = S) := by show _ = _; rw [HRS.out, HS1.out]
        by_cases hk0 : k = 0
        · have hk0' : ((k : Int) == 0) = true := by rw [hk0]; rfl
          have HWE : Hid (waitL (T.take (k + 1)) = T[k].wait) := by
            show _ = _
            rw [HWS.out, HW0.out hk0]; omega
          clear hk0
          go_wp2
          go_roundw
          case rel => exact ⟨k + 1, a4, c4, by omega, by go_num, by rw [HRE.out, HWE.out]; exact HF4.out.wait _⟩
          case measure => simp [intOf]; omega
        · have hk0' : ((k : Int) == 0) = false := by rw [beq_eq_false_iff_ne]; omega
          by_cases hgt : W0 < T[k].wait
          · have HWE : Hid (waitL (T.take (k + 1)) = T[k].wait) := by
              show _ = _
              rw [HWS.out]; omega
            go_wp2
            go_roundw
            case rel => exact ⟨k + 1, a4, c4, by omega, by go_num, by rw [HRE.out, HWE.out]; exact HF4.out.wait _⟩
            case measure => simp [intOf]; omega
          · have HWE : Hid (waitL (T.take (k + 1)) = W0) := by
              show _ = _
              rw [HWS.out]; omega
            go_wp2
            go_roundw
            case rel => exact ⟨k + 1, a4, c4, by omega, by go_num, by rw [HRE.out, HWE.out]; exact HF4⟩
            case measure => simp [intOf]; omega
      · have hF := HF.out
        have e1 : T.take k = T := List.take_of_length_le (by omega)
        rw [e1] at hF
        have HFe : Hid (FI w G M M T a2 c2 s wr (rulesL T) a3 c3 (waitL T)) := hF
        obtain ⟨⟨hx, _, _⟩, _, ⟨_, hwG, _⟩, _, hz⟩ := hF
        have d0 : wr.cell? ⟨G, 0, none⟩ = some (.slice (some ⟨M, 0, none⟩) 1 1) := hx.cell 0 rfl
        have d1 : wr.cell? ⟨G, 1, none⟩ = some (.slice a3 (rulesL T).length c3) := hx.cell 1 rfl
        have d2 : wr.cell? ⟨G, 2, none⟩ = some (.int .i64 (waitL T)) := hx.cell 2 rfl
        have z0 : wr.cell? ⟨w.heap.size, 0, none⟩ = some (.slice none 0 0) := hz.cell 0 rfl
        have z1 : wr.cell? ⟨w.heap.size, 1, none⟩ = some (.slice none 0 0) := hz.cell 1 rfl
        have z2 : wr.cell? ⟨w.heap.size, 2, none⟩ = some (.int .i64 0) := hz.cell 2 rfl
        have zf : ∀ j, wr.frozen? ⟨w.heap.size, j, none⟩ = false := hz.free
        clear hx hz e1
        go_wp2
        obtain ⟨w4, hw4⟩ : ∃ w4, w4 = ((wr.setCell ⟨w.heap.size, 0, none⟩ (.slice (some ⟨M, 0, none⟩) 1 1)).setCell ⟨w.heap.size, 1, none⟩ (.slice a3 (rulesL T).length c3)).setCell ⟨w.heap.size, 2, none⟩ (.int .i64 (waitL T)) := ⟨_, rfl⟩
        rw [← hw4]
        obtain ⟨ho1, ho2, ho3⟩ := HFe.out.out hw4
        have r0 := ho3.cell 0 rfl
        have r1 := ho3.cell 1 rfl
        have r2 := ho3.cell 2 rfl
        clear hw4 ho3
        refine bodyPost_ret (v := .agg #[.slice (some ⟨M, 0, none⟩) 1 1, .slice a3 (rulesL T).length c3, .int .i64 (waitL T)]) (by simp [results, Try.results12, go_sem, r0, r1, r2]) rfl ?_
        exact ⟨⟨[s], some ⟨M, 0, none⟩, 1, rulesL T, a3, c3, waitL T⟩, rfl, rfl, by rw [HT.out], by rw [HT.out], ho1, ho2⟩
  · have HT : Hid (toldL L s = withL L s) := by show _ = _; unfold toldL; rw [if_neg (fun e => h0 (by rw [e]; rfl))]
    have h0' : (((withL L s).length : Int) == 0) = false := by rw [beq_eq_false_iff_ne]; omega
    clear h0
    have HF0 : Hid _ := FI.new (s := s) HO1.out HB1.out HZ1.out
    obtain ⟨M, hM⟩ : ∃ M, w1.heap.size = M := ⟨_, rfl⟩
    rw [hM] at HF0
    go_wp2
    try rw [hM]
    obtain ⟨G, hG⟩ : ∃ G, M + 1 = G := ⟨_, rfl⟩
    rw [hG] at HF0 ⊢
    clear hG hM
    have HTL : Hid (∀ g ∈ (withL L s), g ∈ L) := fun g hg => with_mem hg
    have htl : ((withL L s)).length ≤ 1000 := Nat.le_trans with_len hl
    have HRB : Hid (∀ k, k ≤ ((withL L s)).length → (rulesL (((withL L s)).take k)).length ≤ k * 1000) := fun k hk => by
      have := rules_le (((withL L s)).take k) 1000 (fun g hg => HR.out g (HTL.out g (List.mem_of_mem_take hg)))
      have e : (((withL L s)).take k).length = k := by simp; omega
      rw [e] at this; exact this
    generalize hTq : (withL L s) = T at *
    go_loopw [22] (fun i wr => ∃ (k : Nat) (a3 : Option Addr) (c3 : Nat), k ≤ T.length ∧ i = .int .i64 (k : Int) ∧ Hid (FI w G M M T a1 c1 s wr (rulesL (T.take k)) a3 c3 (waitL (T.take k)))) (fun i _ => T.length - (intOf i).toNat)
    case atStart => exact ⟨0, none, 0, Nat.zero_le _, rfl, HF0⟩
    case round =>
      obtain ⟨k, a3, c3, hk, rfl, HF⟩ := hrel
      by_cases hlt : k < T.length
      · have hF := HF.out
        obtain ⟨⟨hx, hro, _⟩, ⟨hto, _⟩, ⟨hMG, hwG, hwM⟩, hbw, _⟩ := hF
        obtain ⟨b1, off, e1, q0, q1, q2⟩ := gr_at hto.rowsOf hlt
        have hgm := HTL.out T[k] (List.getElem_mem _)
        obtain ⟨hw0, hw6⟩ := HN.out T[k] hgm
        have hrl := HR.out T[k] hgm
        have hrb := HRB.out k hk
        have HRS : Hid (rulesL (T.take (k + 1)) = rulesL (T.take k) ++ T[k].ru) := rules_snoc hlt
        have HWS : Hid (waitL (T.take (k + 1)) = max (waitL (T.take k)) T[k].wait) := wait_snoc hlt
        have hwn := wait_nn (T.take k)
        have HW0 : Hid (k = 0 → waitL (T.take k) = 0) := fun e => by subst e; rfl
        have HGt : Hid (IsRows FRu (wr.alloc (.cells #[.slice T[k].na T[k].nm.length T[k].nc, .slice T[k].ra T[k].ru.length T[k].rc, .int .i64 T[k].wait] 32)) T[k].ra T[k].rc T[k].ru) := (((HG.out.below hbw) T[k] hgm).keep (alloc_keep _ _)).2
        have hGw : G < wr.heap.size := hx.lt
        have d1 : wr.cell? ⟨G, 1, none⟩ = some (.slice a3 (rulesL (T.take k)).length c3) := hx.cell 1 rfl
        have HFa : Hid (FI w G M M T a1 c1 s (wr.alloc (.cells #[.slice T[k].na T[k].nm.length T[k].nc, .slice T[k].ra T[k].ru.length T[k].rc, .int .i64 T[k].wait] 32)) (rulesL (T.take k)) a3 c3 (waitL (T.take k))) := HF.out.alloc _
        have HXg : Hid (Bx 32 (wr.alloc (.cells #[.slice T[k].na T[k].nm.length T[k].nc, .slice T[k].ra T[k].ru.length T[k].rc, .int .i64 T[k].wait] 32)) wr.heap.size #[.slice T[k].na T[k].nm.length T[k].nc, .slice T[k].ra T[k].ru.length T[k].rc, .int .i64 T[k].wait]) := Bx.new _ _ _
        clear hx hro hto hbw hgm
        subst e1
        generalize hR0 : rulesL (T.take k) = R0 at *
        obtain ⟨S, hS⟩ : ∃ S, S = R0 ++ T[k].ru := ⟨_, rfl⟩
        have HS1 : Hid (S = R0 ++ T[k].ru) := hS
        clear hS
        generalize hW0 : waitL (T.take k) = W0 at *
        go_wp2_with (at_builtin
                     refine St.wpList_app rfl (.tmp 28) (.tmp 30) 30 rfl w.heap.size 44 i0 (.agg #[.bool false, .string ⟨#[]⟩]) 2 24 Try.underlying30 hi hz0 hz1 hz2 rfl (by decide) (.slice a3 R0.length c3) R0.length (FRu.cells R0) rfl HFa.out.1.2.1 T[k].ra T[k].ru.length T[k].rc (FRu.cells T[k].ru) rfl HGt.out.none (FRu.cells_len _) (HGt.out.newsAny (fun _ _ => rfl)) (FRu.cells_one _) (by unfold maxLen; omega) (by omega) (by simp; omega) ?_)
        intro v4 w4 ho hg
        have hO4 : OwnsR FRu 44 w4 w.heap.size v4 S := OwnsR.of_row (F := FRu) ho (by rw [HS1.out]; simp) (by rw [HS1.out, FRu.cells_append])
        obtain ⟨a4, c4, hv, _⟩ := hO4.rows
        subst hv
        have hh := HFa.out.rules hO4 hg
        have HF4 : Hid (FI w G M M T (some ⟨b1, off, none⟩) c1 s (w4.setCell ⟨G, 1, none⟩ (.slice a4 S.length c4)) S a4 c4 W0) := hh.1
        have HX4 : Hid (Bx 32 w4 G #[.slice (some ⟨M, 0, none⟩) 1 1, .slice a3 R0.length c3, .int .i64 W0]) := hh.2
        have HXg4 : Hid (Bx 32 w4 wr.heap.size #[.slice T[k].na T[k].nm.length T[k].nc, .slice T[k].ra T[k].ru.length T[k].rc, .int .i64 T[k].wait]) := HXg.out.grownT HFa.out.1.2.1 (by decide) hg
        have g1 : w4.cell? ⟨G, 1, none⟩ = some (.slice a3 R0.length c3) := HX4.out.cell 1 rfl
        have gz : ∀ j, w4.frozen? ⟨G, j, none⟩ = false := HX4.out.free
        have HX5 : Hid (Bx 32 (w4.setCell ⟨G, 1, none⟩ (.slice a4 S.length c4)) G #[.slice (some ⟨M, 0, none⟩) 1 1, .slice a4 S.length c4, .int .i64 W0]) := HF4.out.1.1
        have g2 : (w4.setCell ⟨G, 1, none⟩ (.slice a4 S.length c4)).cell? ⟨G, 2, none⟩ = some (.int .i64 W0) := HX5.out.cell 2 rfl
        have gz5 : ∀ j, (w4.setCell ⟨G, 1, none⟩ (.slice a4 S.length c4)).frozen? ⟨G, j, none⟩ = false := HX5.out.free
        have e2 : (w4.setCell ⟨G, 1, none⟩ (.slice a4 S.length c4)).cell? ⟨wr.heap.size, 2, none⟩ = some (.int .i64 T[k].wait) := (HXg4.out.grown (grown_set 1 _) (by intro e; have := Option.some.inj e; omega)).cell 2 rfl
        clear ho hg hO4 hh
        have HRE : Hid (rulesL (T.take (k + 1)) = S) := by show _ = _; rw [HRS.out, HS1.out]
        by_cases hk0 : k = 0
        · have hk0' : ((k : Int) == 0) = true := by rw [hk0]; rfl
          have HWE : Hid (waitL (T.take (k + 1)) = T[k].wait) := by
            show _ = _
            rw [HWS.out, HW0.out hk0]; omega
          clear hk0
          go_wp2
          go_roundw
          case rel => exact ⟨k + 1, a4, c4, by omega, by go_num, by rw [HRE.out, HWE.out]; exact HF4.out.wait _⟩
          case measure => simp [intOf]; omega
        · have hk0' : ((k : Int) == 0) = false := by rw [beq_eq_false_iff_ne]; omega
          by_cases hgt : W0 < T[k].wait
          · have HWE : Hid (waitL (T.take (k + 1)) = T[k].wait) := by
              show _ = _
              rw [HWS.out]; omega
            go_wp2
            go_roundw
            case rel => exact ⟨k + 1, a4, c4, by omega, by go_num, by rw [HRE.out, HWE.out]; exact HF4.out.wait _⟩
            case measure => simp [intOf]; omega
          · have HWE : Hid (waitL (T.take (k + 1)) = W0) := by
              show _ = _
              rw [HWS.out]; omega
            go_wp2
            go_roundw
            case rel => exact ⟨k + 1, a4, c4, by omega, by go_num, by rw [HRE.out, HWE.out]; exact HF4⟩
            case measure => simp [intOf]; omega
      · have hF := HF.out
        have e1 : T.take k = T := List.take_of_length_le (by omega)
        rw [e1] at hF
        have HFe : Hid (FI w G M M T a1 c1 s wr (rulesL T) a3 c3 (waitL T)) := hF
        obtain ⟨⟨hx, _, _⟩, _, ⟨_, hwG, _⟩, _, hz⟩ := hF
        have d0 : wr.cell? ⟨G, 0, none⟩ = some (.slice (some ⟨M, 0, none⟩) 1 1) := hx.cell 0 rfl
        have d1 : wr.cell? ⟨G, 1, none⟩ = some (.slice a3 (rulesL T).length c3) := hx.cell 1 rfl
        have d2 : wr.cell? ⟨G, 2, none⟩ = some (.int .i64 (waitL T)) := hx.cell 2 rfl
        have z0 : wr.cell? ⟨w.heap.size, 0, none⟩ = some (.slice none 0 0) := hz.cell 0 rfl
        have z1 : wr.cell? ⟨w.heap.size, 1, none⟩ = some (.slice none 0 0) := hz.cell 1 rfl
        have z2 : wr.cell? ⟨w.heap.size, 2, none⟩ = some (.int .i64 0) := hz.cell 2 rfl
        have zf : ∀ j, wr.frozen? ⟨w.heap.size, j, none⟩ = false := hz.free
        clear hx hz e1
        go_wp2
        obtain ⟨w4, hw4⟩ : ∃ w4, w4 = ((wr.setCell ⟨w.heap.size, 0, none⟩ (.slice (some ⟨M, 0, none⟩) 1 1)).setCell ⟨w.heap.size, 1, none⟩ (.slice a3 (rulesL T).length c3)).setCell ⟨w.heap.size, 2, none⟩ (.int .i64 (waitL T)) := ⟨_, rfl⟩
        rw [← hw4]
        obtain ⟨ho1, ho2, ho3⟩ := HFe.out.out hw4
        have r0 := ho3.cell 0 rfl
        have r1 := ho3.cell 1 rfl
        have r2 := ho3.cell 2 rfl
        clear hw4 ho3
        refine bodyPost_ret (v := .agg #[.slice (some ⟨M, 0, none⟩) 1 1, .slice a3 (rulesL T).length c3, .int .i64 (waitL T)]) (by simp [results, Try.results12, go_sem, r0, r1, r2]) rfl ?_
        exact ⟨⟨[s], some ⟨M, 0, none⟩, 1, rulesL T, a3, c3, waitL T⟩, rfl, rfl, by rw [HT.out], by rw [HT.out], ho1, ho2⟩
end Go.Proofs.Ytbecelblddemkaa.Gf
