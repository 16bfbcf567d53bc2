/- A notice is written: of the program. -/
import Derived.Test.YtacelbhoccckbaaDoorNt2
import Derived.Test.YtacelbhoccckbaaDoorGrpMathPk
namespace Go.Proofs.YtacelbhoccckbaaDoor.Nt
open Go.RowKit Go.Proofs.YtacelbhoccckbaaDoor.EscM Go.Proofs.YtacelbhoccckbaaDoor.EscL Go.Proofs.YtacelbhoccckbaaDoor.RuleM Go.Proofs.YtacelbhoccckbaaDoor.Ru1 Go.Proofs.YtacelbhoccckbaaDoor.St Go.Proofs.YtacelbhoccckbaaDoor.RR Go.Proofs.YtacelbhoccckbaaDoor.LetM Go.Proofs.YtacelbhoccckbaaDoor.Nm Go.Proofs.YtacelbhoccckbaaDoor.GrM Go.Proofs.YtacelbhoccckbaaDoor.Gp Go.Proofs.YtacelbhoccckbaaDoor.NtM Go.Proofs.YtacelbhoccckbaaDoor.Bl

def lnL : Ln → List UInt8
  | .c s => nameLn s
  | .r x => ruleLn x
  | .t n => [119, 97, 105, 116, 32] ++ decL n.toNat ++ [10]
def lnsL (l : List Ln) : List UInt8 := (l.map lnL).flatten
def LnShort : Ln → Prop
  | .c s => s.size ≤ 8
  | .r x => x.path.size ≤ 16
  | .t n => 0 < n ∧ n ≤ 20
theorem lns_snoc {l : List Ln} {k : Nat} (h : k < l.length) : lnsL (l.take (k + 1)) = lnsL (l.take k) ++ lnL l[k] := by
  unfold lnsL; rw [List.take_succ_eq_append_getElem h, List.map_append, List.flatten_append]; simp only [List.map_cons, List.map_nil, List.flatten_cons, List.flatten_nil, List.append_nil]
theorem ln_len {x : Ln} (h : LnShort x) : (lnL x).length ≤ 21 := by
  cases x with
  | c s => unfold LnShort at h; simp [lnL, nameLn]; omega
  | r x =>
    unfold LnShort at h
    simp only [lnL, ruleLn, wordL]
    split <;> simp <;> omega
  | t n => have := dec_len n.toNat; simp [lnL]; omega
theorem lns_len {l : List Ln} (h : ∀ x ∈ l, LnShort x) : (lnsL l).length ≤ 21 * l.length := by
  induction l with
  | nil => simp [lnsL]
  | cons x r ih =>
    have h1 := ln_len (h x (by simp))
    have h2 := ih fun s hs => h s (List.mem_cons_of_mem _ hs)
    have e : lnsL (x :: r) = lnL x ++ lnsL r := by simp [lnsL]
    rw [e, List.length_append, List.length_cons]; omega
theorem lines_short {g : Gr} (h : GrShort g) : ∀ x ∈ linesG g, LnShort x := by
  intro x hx
  unfold linesG at hx
  rcases List.mem_append.1 hx with hx | hx
  · rcases List.mem_append.1 hx with hx | hx
    · obtain ⟨s, hs, rfl⟩ := List.mem_map.1 hx; exact h.1 s hs
    · obtain ⟨s, hs, rfl⟩ := List.mem_map.1 hx; exact h.2.1 s hs
  · by_cases h0 : g.wait = 0
    · rw [if_pos h0] at hx; cases hx
    · rw [if_neg h0] at hx; simp at hx; subst hx
      have := h.2.2
      exact ⟨by omega, by omega⟩
theorem lines_text {g : Gr} (h : GrShort g) : lnsL (linesG g) = ntGrp g := by
  unfold lnsL linesG ntGrp ntNames ntRules waitLn
  rw [List.map_append, List.map_append, List.flatten_append, List.flatten_append, List.map_map, List.map_map]
  have e1 : lnL ∘ Ln.c = nameLn := rfl
  have e2 : lnL ∘ Ln.r = ruleLn := rfl
  rw [e1, e2]
  congr 1
  by_cases h0 : g.wait = 0
  · rw [if_pos h0, if_neg (by omega)]; rfl
  · rw [if_neg h0, if_pos (by have := h.2.2.1; omega)]; simp [lnL]
theorem lines_many (g : Gr) : (linesG g).length ≤ g.nm.length + g.ru.length + 1 := by
  unfold linesG
  rw [List.length_append, List.length_append, List.length_map, List.length_map]
  split <;> simp
theorem lines_own {b base : Nat} {w w' : World} {v : Value} {L : List Ln} (h : OwnsR FLn 48 w base v L) (hb : b < base) (hk : Kept b w w') : OwnsR FLn 48 w' base v L := by
  obtain ⟨h1, h2 | ⟨g, cap, cur, hv, hg, hc, r⟩⟩ := h
  · exact ⟨h1, Or.inl h2⟩
  · refine ⟨h1, Or.inr ⟨g, cap, cur, hv, hg, ?_, r⟩⟩
    rw [hk.2 g (Array.getElem?_eq_some_iff.1 hc).1 (by omega) (by
      intro cur' z e
      rw [hc] at e
      injection e with e
      injection e with _ e2
      exact absurd e2 (by decide))]
    exact hc
theorem ln_at {w : World} {base : Nat} {a0 : Option Addr} {n cap : Nat} {L : List Ln} (h : OwnsR FLn 48 w base (.slice a0 n cap) L) {i : Nat} (hi : i < L.length) : ∃ b off, a0 = some ⟨b, off, none⟩ ∧ w.cell? ⟨b, off + i, none⟩ = some (lnV L[i]) := by
  obtain ⟨b, off, e, hc⟩ := (OwnsR.rowsOf h).at hi
  refine ⟨b, off, e, ?_⟩
  have := hc 0 _ rfl
  simpa [FLn] using this
theorem str_cells (l : List UInt8) (s : ByteArray) : Lib.byteCells l ++ Lib.strCells s = Lib.byteCells (l ++ s.data.toList) := by
  simp [Lib.byteCells, Lib.strCells]

theorem Tryd.meth_c (d : Nat) (x : Value) (w : World) : (method (d + 1) 76 x "loop.example/pedlar/impl.written").run Tryd.prog w = .ok (87, x) w := by kernel_rfl
theorem Tryd.meth_r (d : Nat) (x : Value) (w : World) : (method (d + 1) 78 x "loop.example/pedlar/impl.written").run Tryd.prog w = .ok (88, x) w := by kernel_rfl
theorem Tryd.meth_t (d : Nat) (x : Value) (w : World) : (method (d + 1) 80 x "loop.example/pedlar/impl.written").run Tryd.prog w = .ok (89, x) w := by kernel_rfl
/-- the builder while lines are written -/
def BW (w0 wr : World) (b : Nat) (l : List UInt8) : Prop := Lib.IsBuilder 44 5 b b (Lib.byteCells l) wr ∧ Below w0.heap.size w0 wr ∧ b < wr.heap.size ∧ w0.heap.size ≤ b
theorem BW.keep {w0 wr w2 : World} {b : Nat} {l : List UInt8} (h : BW w0 wr b l) (hb : Below wr.heap.size wr w2) : BW w0 w2 b l := by
  obtain ⟨h1, h2, h3, h4⟩ := h
  exact ⟨isb_keep h1 fun k hk => hb.block k hk, h2.trans (hb.mono h2.size), Nat.lt_of_lt_of_le h3 hb.size, h4⟩
theorem BW.write {w0 wr w2 : World} {b : Nat} {l : List UInt8} {s : ByteArray} (h : BW w0 wr b l) (h1 : Lib.BuilderAt 44 5 b b (.pointer (some ⟨b, 0, none⟩)) (Lib.byteCells l ++ Lib.strCells s) w2) (h2 : Below b wr w2) : BW w0 w2 b (l ++ s.data.toList) := by
  refine ⟨Or.inr (by rw [← str_cells]; exact h1), h.2.1.trans (h2.mono h.2.2.2), ?_, h.2.2.2⟩
  have := h2.size
  have := h.2.2.1
  omega

set_option maxRecDepth 100000 in
set_option maxHeartbeats 3200000 in
theorem implNText_any (a0 : Option Addr) (cap : Nat) (L : List Gr) (w : World) (hI : IsRows FGr w a0 cap L) (hG : GrsAt w L) (hS : ∀ g ∈ L, GrSz g) (hl : L.length ≤ 1048576) :
    Calls Tryd.prog 8 #[.slice a0 L.length cap] w fun e w' => e = .returned (.string (ntS L)) ∧ Below w.heap.size w w' := by
  have HI : Hid (IsRows FGr w a0 cap L) := hI
  have HG : Hid (GrsAt w L) := hG
  have HS : Hid (∀ g ∈ L, GrSz g) := hS
  clear hI hG hS
  go_enter Tryd.func8, Tryd.ntmps8
  go_wp2_with fail
  refine (implNotice_any a0 cap L _ HI.out HG.out HS.out hl).mono ?_
  rintro e w1 ⟨rfl, hb1⟩
  have HB1 : Hid (Below w.heap.size w w1) := hb1
  have hs1 := hb1.size
  clear hb1
  cases hn : noticeB L with
  | false =>
    have HN : Hid (ntS L = ⟨#[]⟩) := by show _ = _; unfold ntS; rw [hn]; rfl
    clear hn
    go_wp2
    go_ret
    exact ⟨ret_str HN.out.symm, HB1.out⟩
  | true =>
  have HN : Hid (ntS L = ⟨(ntText L).toArray⟩) := by show _ = _; unfold ntS; rw [hn]; rfl
  have HSh : Hid (∀ g ∈ L, GrShort g) := (notice_short hn).1
  have HLn : Hid (linesN L ≤ 40) := (notice_short hn).2
  have HW0 : Hid (BW w (w1.alloc (.cells #[.pointer none, .slice none 0 0] 44)) w1.heap.size []) := ⟨new_builder w1, HB1.out.alloc hs1 _, by simp, hs1⟩
  clear hn
  generalize hb : w1.heap.size = b at *
  go_wp2
  go_loopw [13] (fun i wr => ∃ k : Nat, k ≤ L.length ∧ i = .int .i64 (k : Int) ∧ Hid (BW w wr b (ntText (L.take k)))) (fun i _ => L.length - (intOf i).toNat)
  case atStart => exact ⟨0, Nat.zero_le _, rfl, HW0⟩
  case round =>
    obtain ⟨k, hk, rfl, HW⟩ := hrel
    by_cases hlt : k < L.length
    · obtain ⟨B, off, e1, c0, c1, c2⟩ := gr_at (IsRows.below HI.out HW.out.2.1) hlt
      subst e1
      have hgm : L[k] ∈ L := List.getElem_mem _
      have HGk : Hid (GrAt wr L[k]) := (HG.out.below HW.out.2.1) L[k] hgm
      have HSk : Hid (GrShort L[k]) := HSh.out L[k] hgm
      have hz1 := (HS.out L[k] hgm).1
      have hz2 := (HS.out L[k] hgm).2.1
      have HT : Hid (ntText (L.take (k + 1)) = ntText (L.take k) ++ ntGrp L[k]) := text_snoc hlt
      have htl : (ntText (L.take k)).length ≤ 21 * linesN (L.take k) := text_len fun g hg => HSh.out g (List.mem_of_mem_take hg)
      have hrm := lines_room HLn.out hlt
      generalize linesN (L.take k) = m at *
      generalize ntText (L.take k) = T at *
      clear hgm
      generalize L[k] = g at *
      go_wp2_with fail
      refine (groupLines_any g _ (HGk.out.keep (alloc_keep _ _)) hz1 hz2).mono ?_
      rintro e w2 ⟨⟨v, rfl, hO⟩, hb2⟩
      have HW2 : Hid (BW w w2 b T) := (HW.out.keep (((Below.refl _ wr).alloc (Nat.le_refl _) _).trans (hb2.mono (by simp))))
      have HO : Hid (OwnsR FLn 48 w2 (b + 1) v (linesG g)) := OwnsR.mono hO (by have := HW.out.2.2.1; simp; omega)
      have HLS : Hid (∀ x ∈ linesG g, LnShort x) := lines_short HSk.out
      have HLT : Hid (lnsL (linesG g) = ntGrp g) := lines_text HSk.out
      have hlm := lines_many g
      clear hO hb2
      generalize linesG g = Q at *
      have hva : ∃ a c, v = .slice a Q.length c := by obtain ⟨a, c, e, _⟩ := OwnsR.rows HO.out; exact ⟨a, c, e⟩
      obtain ⟨va, vc, rfl⟩ := hva
      have hql : Q.length ≤ 40 := by omega
      have htl2 : T.length ≤ 840 := by omega
      clear hlm hrm htl
      go_wp2
      go_loopw [20] (fun i wr => ∃ j : Nat, j ≤ Q.length ∧ i = .int .i64 (j : Int) ∧ Hid (BW w wr b (T ++ lnsL (Q.take j))) ∧ Hid (OwnsR FLn 48 wr (b + 1) (.slice va Q.length vc) Q)) (fun i _ => Q.length - (intOf i).toNat)
      case atStart => exact ⟨0, Nat.zero_le _, rfl, by simpa [lnsL] using HW2, HO⟩
      case round =>
        obtain ⟨j, hj, rfl, HWj, HOj⟩ := hrel
        by_cases hjl : j < Q.length
        · obtain ⟨b2, o2, e2, c3⟩ := ln_at HOj.out hjl
          subst e2
          have hsj := HLS.out Q[j] (List.getElem_mem _)
          have hll : (lnsL (Q.take j)).length ≤ 21 * (Q.take j).length := lns_len fun x hx => HLS.out x (List.mem_of_mem_take hx)
          rw [List.length_take] at hll
          have HJ : Hid (T ++ lnsL (Q.take (j + 1)) = (T ++ lnsL (Q.take j)) ++ lnL Q[j]) := by show _ = _; rw [lns_snoc hjl, List.append_assoc]
          have hVl : (T ++ lnsL (Q.take j)).length ≤ 2000 := by rw [List.length_append]; omega
          generalize T ++ lnsL (Q.take j) = V at *
          have HBd : Hid ((Lib.byteCells V).length ≤ 2000) := by show _ ≤ _; rw [Lib.byteCells_length]; exact hVl
          generalize Q[j] = x at *
          cases x with
          | c s =>
            have hs8 : s.size ≤ 8 := hsj
            unfold lnV at c3
            clear hsj
            go_wp2_with fail
            rw [Tryd.meth_c]
            simp only [Result.andThen]
            rw [enters_of Tryd.func87 (by kernel_rfl) rfl]
            rw [Oper.upon_enter]
            refine (writtenC s _ (by omega)).mono ?_
            rintro e w3 ⟨rfl, hb3⟩
            have HW3 : Hid (BW w w3 b V) := HWj.out.keep hb3
            have HO3 : Hid (OwnsR FLn 48 w3 (b + 1) (.slice (some ⟨b2, o2, none⟩) Q.length vc) Q) := OwnsR.below HOj.out hb3
            have hss : ((⟨#[99, 97, 108, 108, 101, 114, 32]⟩ : ByteArray) ++ s).size ≤ 40 := by rw [ByteArray.size_append]; have : (⟨#[99, 97, 108, 108, 101, 114, 32]⟩ : ByteArray).size = 7 := rfl; omega
            have HE : Hid (V ++ ((⟨#[99, 97, 108, 108, 101, 114, 32]⟩ : ByteArray) ++ s ++ ⟨#[10]⟩ : ByteArray).data.toList = T ++ lnsL (Q.take (j + 1))) := by show _ = _; rw [HJ.out]; simp [lnL, nameLn]
            clear hb3 c3 HWj HOj
            generalize (⟨#[99, 97, 108, 108, 101, 114, 32]⟩ : ByteArray) ++ s = S at *
            have HLe : Hid ((Lib.byteCells V).length + (S ++ (⟨#[10]⟩ : ByteArray)).size ≤ 140737488355328) := by
              show _ ≤ _
              have h1 := HBd.out
              have h2 : (⟨#[10]⟩ : ByteArray).size = 1 := rfl
              rw [ByteArray.size_append]
              omega
            have HLb : Hid (b ≤ w3.heap.size) := Nat.le_of_lt HW3.out.2.2.1
            go_wp2_with fail
            refine (write_any b b (Lib.byteCells V) _ _ HW3.out.1 HLe.out HLb.out).mono ?_
            rintro e w4 ⟨rfl, h4, hb4, hk4⟩
            have HW4 : Hid (BW w w4 b (T ++ lnsL (Q.take (j + 1)))) := by rw [← HE.out]; exact HW3.out.write h4 hb4
            have HO4 : Hid (OwnsR FLn 48 w4 (b + 1) (.slice (some ⟨b2, o2, none⟩) Q.length vc) Q) := lines_own HO3.out (Nat.lt_succ_self _) hk4
            clear h4 hb4 hk4
            go_wp2
            go_roundw
            case rel => exact ⟨j + 1, by omega, by go_num, HW4, HO4⟩
            case measure => simp [intOf]; omega
          | r x =>
            have hs8 : x.path.size ≤ 16 := hsj
            unfold lnV at c3
            clear hsj
            go_wp2_with fail
            rw [Tryd.meth_r]
            simp only [Result.andThen]
            rw [enters_of Tryd.func88 (by kernel_rfl) rfl]
            rw [Oper.upon_enter]
            refine (writtenR x _ (by omega)).mono ?_
            rintro e w3 ⟨rfl, hb3⟩
            have HW3 : Hid (BW w w3 b V) := HWj.out.keep hb3
            have HO3 : Hid (OwnsR FLn 48 w3 (b + 1) (.slice (some ⟨b2, o2, none⟩) Q.length vc) Q) := OwnsR.below HOj.out hb3
            have hss : ((⟨(wordL x.lt).toArray⟩ : ByteArray) ++ x.path).size ≤ 40 := by rw [ByteArray.size_append]; have : (⟨(wordL x.lt).toArray⟩ : ByteArray).size ≤ 4 := (by unfold wordL; split <;> decide); omega
            have HE : Hid (V ++ ((⟨(wordL x.lt).toArray⟩ : ByteArray) ++ x.path ++ ⟨#[10]⟩ : ByteArray).data.toList = T ++ lnsL (Q.take (j + 1))) := by show _ = _; rw [HJ.out]; simp [lnL, ruleLn]
            clear hb3 c3 HWj HOj
            generalize (⟨(wordL x.lt).toArray⟩ : ByteArray) ++ x.path = S at *
            have HLe : Hid ((Lib.byteCells V).length + (S ++ (⟨#[10]⟩ : ByteArray)).size ≤ 140737488355328) := by
              show _ ≤ _
              have h1 := HBd.out
              have h2 : (⟨#[10]⟩ : ByteArray).size = 1 := rfl
              rw [ByteArray.size_append]
              omega
            have HLb : Hid (b ≤ w3.heap.size) := Nat.le_of_lt HW3.out.2.2.1
            go_wp2_with fail
            refine (write_any b b (Lib.byteCells V) _ _ HW3.out.1 HLe.out HLb.out).mono ?_
            rintro e w4 ⟨rfl, h4, hb4, hk4⟩
            have HW4 : Hid (BW w w4 b (T ++ lnsL (Q.take (j + 1)))) := by rw [← HE.out]; exact HW3.out.write h4 hb4
            have HO4 : Hid (OwnsR FLn 48 w4 (b + 1) (.slice (some ⟨b2, o2, none⟩) Q.length vc) Q) := lines_own HO3.out (Nat.lt_succ_self _) hk4
            clear h4 hb4 hk4
            go_wp2
            go_roundw
            case rel => exact ⟨j + 1, by omega, by go_num, HW4, HO4⟩
            case measure => simp [intOf]; omega
          | t n =>
            obtain ⟨q, hq⟩ : ∃ q : Nat, n = (q : Int) := ⟨n.toNat, by have := hsj.1; omega⟩
            subst hq
            have hs8 : q ≤ 20 := by have := hsj.2; omega
            have hdl := dec_len q
            unfold lnV at c3
            clear hsj
            go_wp2_with fail
            rw [Tryd.meth_t]
            simp only [Result.andThen]
            rw [enters_of Tryd.func89 (by kernel_rfl) rfl]
            rw [Oper.upon_enter]
            refine (writtenT q _ (by omega)).mono ?_
            rintro e w3 ⟨rfl, hb3⟩
            have HW3 : Hid (BW w w3 b V) := HWj.out.keep hb3
            have HO3 : Hid (OwnsR FLn 48 w3 (b + 1) (.slice (some ⟨b2, o2, none⟩) Q.length vc) Q) := OwnsR.below HOj.out hb3
            have hss : ((⟨#[119, 97, 105, 116, 32]⟩ : ByteArray) ++ ⟨(decL q).toArray⟩).size ≤ 40 := by rw [ByteArray.size_append]; have : (⟨#[119, 97, 105, 116, 32]⟩ : ByteArray).size = 5 := rfl; have : (⟨(decL q).toArray⟩ : ByteArray).size = (decL q).length := (by show (decL q).toArray.size = _; simp); omega
            have HE : Hid (V ++ ((⟨#[119, 97, 105, 116, 32]⟩ : ByteArray) ++ ⟨(decL q).toArray⟩ ++ ⟨#[10]⟩ : ByteArray).data.toList = T ++ lnsL (Q.take (j + 1))) := by show _ = _; rw [HJ.out]; simp [lnL]
            clear hb3 c3 HWj HOj
            generalize (⟨#[119, 97, 105, 116, 32]⟩ : ByteArray) ++ ⟨(decL q).toArray⟩ = S at *
            have HLe : Hid ((Lib.byteCells V).length + (S ++ (⟨#[10]⟩ : ByteArray)).size ≤ 140737488355328) := by
              show _ ≤ _
              have h1 := HBd.out
              have h2 : (⟨#[10]⟩ : ByteArray).size = 1 := rfl
              rw [ByteArray.size_append]
              omega
            have HLb : Hid (b ≤ w3.heap.size) := Nat.le_of_lt HW3.out.2.2.1
            go_wp2_with fail
            refine (write_any b b (Lib.byteCells V) _ _ HW3.out.1 HLe.out HLb.out).mono ?_
            rintro e w4 ⟨rfl, h4, hb4, hk4⟩
            have HW4 : Hid (BW w w4 b (T ++ lnsL (Q.take (j + 1)))) := by rw [← HE.out]; exact HW3.out.write h4 hb4
            have HO4 : Hid (OwnsR FLn 48 w4 (b + 1) (.slice (some ⟨b2, o2, none⟩) Q.length vc) Q) := lines_own HO3.out (Nat.lt_succ_self _) hk4
            clear h4 hb4 hk4
            go_wp2
            go_roundw
            case rel => exact ⟨j + 1, by omega, by go_num, HW4, HO4⟩
            case measure => simp [intOf]; omega
        · have e3 : Q.take j = Q := List.take_of_length_le (by omega)
          rw [e3, HLT.out, ← HT.out] at HWj
          clear e3
          go_wp2
          go_roundw
          case rel => exact ⟨k + 1, by omega, by go_num, HWj⟩
          case measure => simp [intOf]; omega
    · have e3 : L.take k = L := List.take_of_length_le (by omega)
      rw [e3] at HW
      go_wp2_with fail
      refine (Tryd.Builder_String_any b b (ntText L) _ HW.out.1 (by have := HW.out.2.2.1; omega)).mono ?_
      rintro e w3 ⟨rfl, hb3⟩
      have HB3 : Hid (Below w.heap.size w w3) := HW.out.2.1.trans (hb3.mono HW.out.2.2.2)
      clear hb3
      go_wp2
      go_ret
      exact ⟨ret_str HN.out.symm, HB3.out⟩
end Go.Proofs.YtacelbhoccckbaaDoor.Nt
