/- Several texts in one: LibMath, Impl1, Ni1, Ni2, Ni3, Ni4, Ni5. -/
import Derived.Test.YtacelbhoccckbaaDoorRead6
import Derived.Lib.SplitLaws
import Derived.Lib.IndexAny
import Derived.Test.YtacelbhoccckbaaDoorNr2
import Derived.Test.YtacelbhoccckbaaDoorNt2
import Derived.Test.YtacelbhoccckbaaDoorEscLeafPk
import Derived.Deep.RegionLaw
/- What Go's library answers (strings.Cut, Split, IndexAny), against our own words. -/
namespace Go.Proofs.YtacelbhoccckbaaDoor.LibM
open Go.Proofs.YtacelbhoccckbaaDoor.EscM Go.Proofs.YtacelbhoccckbaaDoor.AddrM Go.Proofs.YtacelbhoccckbaaDoor.ReadM Go.Proofs.YtacelbhoccckbaaDoor.Rd1

theorem byte_eq (b d : UInt8) : (b.toNat : Int) = (d.toNat : Int) ↔ b = d := by
  constructor
  · intro h; exact UInt8.toNat.inj (by omega)
  · rintro rfl; rfl
theorem idx_one (d : UInt8) : ∀ l : List UInt8, (Lib.index l [d] = -1 ∧ cutL d.toNat l = (l, [], false)) ∨ ∃ i : Nat, i < l.length ∧ Lib.index l [d] = (i : Int) ∧ cutL d.toNat l = (l.take i, l.drop (i + 1), true) := by
  intro l
  induction l with
  | nil => left; exact ⟨rfl, rfl⟩
  | cons b r ih =>
    rw [cut_cons]
    unfold Lib.index
    by_cases h : b = d
    · subst h
      right
      refine ⟨0, by simp, ?_, ?_⟩
      · simp
      · simp
    · have h1 : ¬ (b.toNat : Int) = (d.toNat : Int) := fun e => h ((byte_eq b d).1 e)
      have h2 : ([d] : List UInt8).isPrefixOf (b :: r) = false := by simp [List.isPrefixOf]; exact fun e => h e.symm
      rw [if_neg h1, h2]
      rcases ih with ⟨i1, i2⟩ | ⟨i, i0, i1, i2⟩
      · left
        rw [i1, i2]; exact ⟨rfl, rfl⟩
      · right
        refine ⟨i + 1, by simp; omega, ?_, ?_⟩
        · rw [i1]
          have : ((i : Int) == -1) = false := by simp
          rw [this]; simp
        · rw [i2]; simp
theorem cut_lib (d : UInt8) (l : List UInt8) : Lib.cut l [d] = cutL d.toNat l := by
  unfold Lib.cut
  rcases idx_one d l with ⟨i1, i2⟩ | ⟨i, _, i1, i2⟩
  · rw [i1, i2]; rfl
  · rw [i1, i2, if_pos (by omega)]; simp
theorem split_lib (d : UInt8) : ∀ (n : Nat) (l : List UInt8), l.length ≤ n → Lib.splitK [d] 0 (Lib.count l [d]) l = splitL d.toNat l := by
  intro n
  induction n with
  | zero =>
    intro l hl
    have : l = [] := List.eq_nil_of_length_eq_zero (by omega)
    subst this
    rfl
  | succ n ih =>
    intro l hl
    rw [split_cut]
    rcases idx_one d l with ⟨i1, i2⟩ | ⟨i, i0, i1, i2⟩
    · rw [i2, Lib.count_miss i1]; rfl
    · rw [i2, Lib.count_hit (by simp) i1, Nat.add_comm]
      unfold Lib.splitK
      have : ((i : Int) == -1) = false := by simp
      rw [i1, this]
      simp only [List.length_singleton, Int.toNat_natCast, Nat.add_zero]
      rw [ih (l.drop (i + 1)) (by simp; omega)]
      rfl
theorem splitB_lib (d : UInt8) (s : ByteArray) : Lib.splitB ⟨#[d]⟩ 0 (Lib.countB s ⟨#[d]⟩) s = splitS d.toNat s := by
  have h := Lib.splitB_data ⟨#[d]⟩ 0 (Lib.countB s ⟨#[d]⟩) s
  have e : Lib.countB s ⟨#[d]⟩ = Lib.count s.data.toList [d] := rfl
  have e2 : (⟨#[d]⟩ : ByteArray).data.toList = [d] := rfl
  rw [e, e2, split_lib d _ _ (Nat.le_refl _)] at h
  unfold splitS
  rw [← h, List.map_map, e]
  conv => lhs; rw [← List.map_id (Lib.splitB ⟨#[d]⟩ 0 (Lib.count s.data.toList [d]) s)]
  apply List.map_congr_left
  intro p _
  show p = bs p.data.toList
  exact (bs_data p).symm
theorem any_lib : ∀ l : List UInt8, (Lib.indexAny l [47, 63] = -1 ∧ l.takeWhile goesOn = l ∧ l.dropWhile goesOn = []) ∨ ∃ i : Nat, i < l.length ∧ Lib.indexAny l [47, 63] = (i : Int) ∧ l.takeWhile goesOn = l.take i ∧ l.dropWhile goesOn = l.drop i := by
  intro l
  induction l with
  | nil => left; exact ⟨rfl, rfl, rfl⟩
  | cons b r ih =>
    unfold Lib.indexAny
    by_cases h : ([47, 63] : List UInt8).contains b = true
    · right
      have hg : goesOn b = false := by
        simp at h
        rcases h with rfl | rfl <;> decide
      refine ⟨0, by simp, by rw [if_pos h]; rfl, by simp [hg], by simp [hg]⟩
    · have hg : goesOn b = true := by
        simp at h
        unfold goesOn
        have h1 : ((b.toNat : Int) == 47) = false := by
          simp; intro e; exact h.1 (UInt8.toNat.inj (by show b.toNat = 47; omega))
        have h2 : ((b.toNat : Int) == 63) = false := by
          simp; intro e; exact h.2 (UInt8.toNat.inj (by show b.toNat = 63; omega))
        rw [h1, h2]; rfl
      rw [if_neg h]
      rcases ih with ⟨i1, i2, i3⟩ | ⟨i, i0, i1, i2, i3⟩
      · left
        rw [i1]; exact ⟨rfl, by simp [hg, i2], by simp [hg, i3]⟩
      · right
        refine ⟨i + 1, by simp; omega, ?_, by simp [hg, i2], by simp [hg, i3]⟩
        rw [i1]
        have : ((i : Int) == -1) = false := by simp
        rw [this]; simp
end Go.Proofs.YtacelbhoccckbaaDoor.LibM
/- The program's reading of an address: the leaves. -/
namespace Go.Proofs.YtacelbhoccckbaaDoor.Im
open Go.RowKit Go.Proofs.YtacelbhoccckbaaDoor.EscM Go.Proofs.YtacelbhoccckbaaDoor.AddrM Go.Proofs.YtacelbhoccckbaaDoor.ReadM Go.Proofs.YtacelbhoccckbaaDoor.St Go.Proofs.YtacelbhoccckbaaDoor.EscL Go.Proofs.YtacelbhoccckbaaDoor.PathM Go.Proofs.YtacelbhoccckbaaDoor.Ad1 Go.Proofs.YtacelbhoccckbaaDoor.Rd1 Go.Proofs.YtacelbhoccckbaaDoor.LibM

/-- internal/bytealg.MaxLen (the program's variable 0) holds some number -/
def Mx (w : World) : Prop := ∃ m : Int, w.cell? ⟨0, 0, none⟩ = some (.int .i64 m)
theorem Mx.keep {w w' : World} (h : Mx w) (hb : ∀ k, k < w.heap.size → w'.heap[k]? = w.heap[k]?) : Mx w' := by
  obtain ⟨m, hm⟩ := h
  exact ⟨m, by rw [World.cell?_of_block (w := w) (hb _ (cell_block hm))]; exact hm⟩
theorem Mx.below {w w' : World} (h : Mx w) (hb : Below w.heap.size w w') : Mx w' := h.keep fun k hk => hb.block k hk
theorem Mx.alloc {w : World} (h : Mx w) (o : Obj) : Mx (w.alloc o) := h.keep (alloc_keep w o)
theorem Mx.drewN {w : World} (h : Mx w) (n : Nat) : Mx (w.drewN n) := h.keep fun _ _ => rfl

theorem cut_any (s : ByteArray) (d : UInt8) (w : World) (h : Mx w) (hs : s.size ≤ 1000000) :
    Calls Tryd.prog 45 #[.string s, .string ⟨#[d]⟩] w fun e w' => e = .returned (.tuple #[.string (bs (cutL d.toNat s.data.toList).1), .string (bs (cutL d.toNat s.data.toList).2.1), .bool (cutL d.toNat s.data.toList).2.2]) ∧ ∃ n, w' = w.drewN n := by
  obtain ⟨m, hm⟩ := h
  refine (Tryd.strings_Cut s ⟨#[d]⟩ m w (by omega) hm).mono ?_
  rintro e w' ⟨rfl, hw⟩
  refine ⟨?_, hw⟩
  have e : Lib.cut s.data.toList (⟨#[d]⟩ : ByteArray).data.toList = cutL d.toNat s.data.toList := cut_lib d _
  rw [e]; rfl
theorem pre_ext (s : ByteArray) : (s.extract 0 2).toList = s.data.toList.take 2 := by rw [ByteArray.toList_eq, ext_take, bs_list]
theorem ret2 {a b : ByteArray} {x : Bool} (h : a = b) : Ending.returned (.tuple #[.string a, .bool x]) = .returned (.tuple #[.string b, .bool x]) := by rw [h]
end Go.Proofs.YtacelbhoccckbaaDoor.Im
/- A line of a notice is read: of the program. -/
namespace Go.Proofs.YtacelbhoccckbaaDoor.NiP
open Go.RowKit Go.Proofs.YtacelbhoccckbaaDoor.EscM Go.Proofs.YtacelbhoccckbaaDoor.EscL Go.Proofs.YtacelbhoccckbaaDoor.RuleM Go.Proofs.YtacelbhoccckbaaDoor.Ru1 Go.Proofs.YtacelbhoccckbaaDoor.ReadM Go.Proofs.YtacelbhoccckbaaDoor.Rd1 Go.Proofs.YtacelbhoccckbaaDoor.St Go.Proofs.YtacelbhoccckbaaDoor.RR Go.Proofs.YtacelbhoccckbaaDoor.LetM Go.Proofs.YtacelbhoccckbaaDoor.Nm Go.Proofs.YtacelbhoccckbaaDoor.GrM Go.Proofs.YtacelbhoccckbaaDoor.Dr Go.Proofs.YtacelbhoccckbaaDoor.NrM Go.Proofs.YtacelbhoccckbaaDoor.NrW Go.Proofs.YtacelbhoccckbaaDoor.NrS Go.Proofs.YtacelbhoccckbaaDoor.Im Go.Proofs.YtacelbhoccckbaaDoor.DecM

set_option maxRecDepth 100000 in
set_option maxHeartbeats 1600000 in
theorem readWait_any (s : ByteArray) (w : World) (_hs : s.size ≤ 4194304) :
    Calls Tryd.prog 47 #[.string s] w fun e w' => e = .returned (.int .i64 (numF s.data.toList : Int)) ∧ Below w.heap.size w w' := by
  have hdl : s.data.toList.length = s.size := by simp
  have hit0 : (w.iter s 0).heap[w.heap.size]? = some (.stringIter s 0) := World.iter_heap _ _ _
  have hbw0 : Below w.heap.size w (w.iter s 0) := (Below.refl _ w).alloc (Nat.le_refl _) _
  go_enter Tryd.func47, Tryd.ntmps47
  generalize hK : w.heap.size = K at *
  go_wp2
  go_loopg [3] s.size (fun g n wr => ∃ i m : Nat, i + g = s.size ∧ n = .int .i64 (m : Int) ∧ m ≤ 20 ∧ Hid (numF s.data.toList = (numGo m (s.data.toList.drop i)).getD 0) ∧ Hid (wr.heap[K]? = some (.stringIter s i)) ∧ Hid (Below K w wr))
  case atStart => exact ⟨0, 0, by omega, rfl, by omega, rfl, hit0, hbw0⟩
  case round =>
    obtain ⟨i, m, hig, rfl, hm, HN, HI, HB⟩ := hrel
    cases gk with
    | zero =>
      obtain rfl : i = s.size := by omega
      have hnx := fun ty => Lib.run_next_end_at (P := Tryd.prog) wr K s s.size ty HI.out (by omega)
      have HE : Hid (numF s.data.toList = m) := by
        show _ = _
        rw [HN.out, List.drop_of_length_le (by omega)]; rfl
      go_wp2
      go_ret
      exact ⟨ret_int (by rw [HE.out]), HB.out⟩
    | succ g =>
      have hi : i < s.size := by omega
      have hl2 : i < s.data.toList.length := by omega
      have HT : Hid _ := num_take hl2 HN.out
      rw [NrS.data_at s i hi hl2] at HT
      by_cases hx : (s[i]'hi).toNat < 128
      · have hnx := fun ty => Lib.run_next_ascii_at (P := Tryd.prog) wr K s i ty HI.out hi hx
        have HI2 : Hid ((wr.iterAt K s (i + 1)).heap[K]? = some (.stringIter s (i + 1))) := Lib.iterAt_heap _ _ _ _ _ HI.out
        have HB2 : Hid (Below K w (wr.iterAt K s (i + 1))) := Lib.below_iterAt HB.out (Nat.le_refl _) _ _
        generalize hX : (s[i]'hi) = x at *
        clear hX
        generalize wr.iterAt K s (i + 1) = wn at *
        by_cases h1 : (x.toNat : Int) < 48
        · have HZ : Hid (numF s.data.toList = 0) := HT.out.2 (by omega)
          clear HT
          go_wp2
          go_ret
          exact ⟨ret_int (by rw [HZ.out]; rfl), HB2.out⟩
        by_cases h2 : (57 : Int) < (x.toNat : Int)
        · have HZ : Hid (numF s.data.toList = 0) := HT.out.2 (by omega)
          clear HT
          go_wp2
          go_ret
          exact ⟨ret_int (by rw [HZ.out]; rfl), HB2.out⟩
        have HX : Hid (numF s.data.toList = (numGo (min (m * 10 + (x.toNat - 48)) 20) (s.data.toList.drop (i + 1))).getD 0) := HT.out.1 (by omega)
        clear HT
        obtain ⟨d, hd, hd9⟩ : ∃ d : Nat, x.toNat = 48 + d ∧ d ≤ 9 := ⟨x.toNat - 48, by omega, by omega⟩
        have e0 : (x.toNat : Int) - 48 = (d : Int) := by omega
        have e1 : IntKind.i32.wrap ((x.toNat : Int) - 48) = (d : Int) := by
          rw [e0]
          have : d = 0 ∨ d = 1 ∨ d = 2 ∨ d = 3 ∨ d = 4 ∨ d = 5 ∨ d = 6 ∨ d = 7 ∨ d = 8 ∨ d = 9 := by omega
          clear e0 hd
          rcases this with rfl | rfl | rfl | rfl | rfl | rfl | rfl | rfl | rfl | rfl <;> decide
        have e2 : IntKind.i64.wrap ((m : Int) * 10) = (m : Int) * 10 := IntWalk.i64_in _ (by omega)
        have e3 : IntKind.i64.wrap ((m : Int) * 10 + (d : Int)) = (m : Int) * 10 + (d : Int) := IntWalk.i64_in _ (by omega)
        have e4 : IntKind.i64.wrap (d : Int) = (d : Int) := IntWalk.i64_in _ (by omega)
        have HX2 : Hid (numF s.data.toList = (numGo (min (m * 10 + d) 20) (s.data.toList.drop (i + 1))).getD 0) := by show _ = _; rw [HX.out, hd]; congr 4; omega
        go_wp2
        go_roundg g
        case measure => omega
        case rel => exact ⟨i + 1, min (m * 10 + d) 20, by omega, by go_num, Nat.min_le_right _ _, HX2, HI2, HB2⟩
      · have hx2 : 128 ≤ (s[i]'hi).toNat := by omega
        have HZ : Hid (numF s.data.toList = 0) := HT.out.2 (by omega)
        obtain ⟨hd1, hd2⟩ := decode_high s i hi hx2
        have hnx := fun ty => Lib.run_next_any_at (P := Tryd.prog) wr K s i ty HI.out hi
        generalize hD1 : (Utf8.decode s i).1 = r at *
        generalize hD2 : (Utf8.decode s i).2 = n at *
        have HB2 : Hid (Below K w (wr.iterAt K s (i + n))) := Lib.below_iterAt HB.out (Nat.le_refl _) _ _
        generalize wr.iterAt K s (i + n) = wn at *
        have hr1 : (57 : Int) < (r : Int) := by omega
        clear hx hx2 hD1 hD2 HT
        go_wp2
        go_ret
        exact ⟨ret_int (by rw [HZ.out]; rfl), HB2.out⟩
end Go.Proofs.YtacelbhoccckbaaDoor.NiP
/- A line of a notice is read: of the program: what it says. -/
namespace Go.Proofs.YtacelbhoccckbaaDoor.NiP
open Go.RowKit Go.Proofs.YtacelbhoccckbaaDoor.EscM Go.Proofs.YtacelbhoccckbaaDoor.EscL Go.Proofs.YtacelbhoccckbaaDoor.RuleM Go.Proofs.YtacelbhoccckbaaDoor.Ru1 Go.Proofs.YtacelbhoccckbaaDoor.ReadM Go.Proofs.YtacelbhoccckbaaDoor.Rd1 Go.Proofs.YtacelbhoccckbaaDoor.St Go.Proofs.YtacelbhoccckbaaDoor.RR Go.Proofs.YtacelbhoccckbaaDoor.LetM Go.Proofs.YtacelbhoccckbaaDoor.Nm Go.Proofs.YtacelbhoccckbaaDoor.GrM Go.Proofs.YtacelbhoccckbaaDoor.Dr Go.Proofs.YtacelbhoccckbaaDoor.NrM Go.Proofs.YtacelbhoccckbaaDoor.NrW Go.Proofs.YtacelbhoccckbaaDoor.NrS Go.Proofs.YtacelbhoccckbaaDoor.Im

/-- a line that was read, as a value -/
def lkV : Option Lk → Value
  | none => .nilIface
  | some (.c s) => .iface 76 (.agg #[.string s])
  | some (.r x) => .iface 78 (.agg #[.bool x.lt, .string x.path])
  | some (.t n) => .iface 80 (.agg #[.int .i64 (n : Int)])

set_option maxRecDepth 100000 in
set_option maxHeartbeats 3200000 in
theorem readLine_any (s : ByteArray) (w : World) (hM : Mx w) (hs : s.size ≤ 1000000) :
    Calls Tryd.prog 28 #[.string s] w fun e w' => e = .returned (.tuple #[lkV (lineF s), .bool (lineF s).isSome]) ∧ Below w.heap.size w w' := by
  have HM : Hid (Mx w) := hM
  have hcl := cut_le s
  have HE : Hid (∀ o, lineF s = o → (Ending.returned (.tuple #[lkV o, .bool o.isSome]) = .returned (.tuple #[lkV (lineF s), .bool (lineF s).isSome]))) := fun o h => by rw [h]
  have HL : Hid (lineF s = if blankF s then saysF (wordF s) (restF s) else none) := rfl
  have hrz : (restF s).size ≤ 4194304 := by omega
  have HCT : Hid _ := fun W hW => Im.cut_any s 32 W hW hs
  have HCT2 : Hid (∀ W, Mx W → Calls Tryd.prog 45 #[.string s, .string ⟨#[32]⟩] W fun e w' => e = .returned (.tuple #[.string (wordF s), .string (restF s), .bool (blankF s)]) ∧ ∃ n, w' = W.drewN n) := HCT.out
  clear hM HCT hcl
  generalize wordF s = wd at *
  generalize restF s = rs at *
  generalize blankF s = bb at *
  generalize lineF s = o at *
  have HCO : Hid (∀ W : World, _) := fun W => implCall_any rs W (by unfold maxLen; omega)
  have HRU : Hid (∀ W : World, _) := fun W => implRule_any rs W (by unfold maxLen; omega)
  have HWT : Hid (∀ W : World, _) := fun W => readWait_any rs W hrz
  cases bb with
  | false =>
    have HO : Hid (o = none) := HL.out
    go_enter Tryd.func28, Tryd.ntmps28
    go_wp2_with fail
    refine (HCT2.out _ HM.out).mono ?_
    rintro e w1 ⟨rfl, n, rfl⟩
    have HB1 : Hid (Below w.heap.size w (w.drewN n)) := below_drewN (Below.refl _ _) n
    have hsz1 : w.heap.size ≤ (w.drewN n).heap.size := HB1.out.size
    generalize w.drewN n = w1 at *
    go_wp2
    go_ret2
    exact ⟨HE.out _ HO.out, HB1.out⟩
  | true =>
  have HL2 : Hid (o = saysF wd rs) := HL.out
  clear HL
  by_cases h1 : wd.data.toList = wCall
  · have hcall := word_is _ _ [99, 97, 108, 108, 101, 114] h1 rfl
    have hlet : (wd.toList == [108, 101, 116]) = false := word_not _ _ (by rw [h1]; decide)
    have hbar : (wd.toList == [98, 97, 114]) = false := word_not _ _ (by rw [h1]; decide)
    have hwait : (wd.toList == [119, 97, 105, 116]) = false := word_not _ _ (by rw [h1]; decide)
    have HW1 : Hid (wd.data.toList = wCall) := h1
    clear h1
    cases hc : callB rs with
    | true =>
      rw [hc] at HCO
      have HO : Hid (o = some (.c rs)) := by show _ = _; rw [HL2.out]; exact says_c HW1.out hc
      clear hc
      go_enter Tryd.func28, Tryd.ntmps28
      go_wp2_with fail
      refine (HCT2.out _ HM.out).mono ?_
      rintro e w1 ⟨rfl, n, rfl⟩
      have HB1 : Hid (Below w.heap.size w (w.drewN n)) := below_drewN (Below.refl _ _) n
      have hsz1 : w.heap.size ≤ (w.drewN n).heap.size := HB1.out.size
      generalize w.drewN n = w1 at *
      go_wp2_with (go_at_call 46; refine (HCO.out _).mono ?_; rintro e w2 ⟨rfl, e1⟩; have e2 := e1.symm; subst e2)
      go_ret2
      exact ⟨HE.out _ HO.out, HB1.out⟩
    | false =>
      rw [hc] at HCO
      have HO : Hid (o = none) := by show _ = _; rw [HL2.out]; exact says_cn HW1.out hc
      clear hc
      go_enter Tryd.func28, Tryd.ntmps28
      go_wp2_with fail
      refine (HCT2.out _ HM.out).mono ?_
      rintro e w1 ⟨rfl, n, rfl⟩
      have HB1 : Hid (Below w.heap.size w (w.drewN n)) := below_drewN (Below.refl _ _) n
      have hsz1 : w.heap.size ≤ (w.drewN n).heap.size := HB1.out.size
      generalize w.drewN n = w1 at *
      go_wp2_with (go_at_call 46; refine (HCO.out _).mono ?_; rintro e w2 ⟨rfl, e1⟩; have e2 := e1.symm; subst e2)
      go_ret2
      exact ⟨HE.out _ HO.out, HB1.out⟩
  have hcall := word_not wd [99, 97, 108, 108, 101, 114] h1
  by_cases h : wd.data.toList = wLet
  · have hlet := word_is _ _ [108, 101, 116] h rfl
    have hbar : (wd.toList == [98, 97, 114]) = false := word_not _ _ (by rw [h]; decide)
    have hwait : (wd.toList == [119, 97, 105, 116]) = false := word_not _ _ (by rw [h]; decide)
    have HW1 : Hid (wd.data.toList = wLet) := h
    clear h
    cases hc : ruleL rs.data.toList with
    | true =>
      rw [hc] at HRU
      have HO : Hid (o = some (.r ⟨true, rs⟩)) := by show _ = _; rw [HL2.out, says_l HW1.out, if_pos hc]
      clear hc
      go_enter Tryd.func28, Tryd.ntmps28
      go_wp2_with fail
      refine (HCT2.out _ HM.out).mono ?_
      rintro e w1 ⟨rfl, n, rfl⟩
      have HB1 : Hid (Below w.heap.size w (w.drewN n)) := below_drewN (Below.refl _ _) n
      have hsz1 : w.heap.size ≤ (w.drewN n).heap.size := HB1.out.size
      generalize w.drewN n = w1 at *
      go_wp2_with (go_at_call 15; refine (HRU.out _).mono ?_; rintro e w2 ⟨rfl, hb2⟩)
      have HB2 : Hid (Below w.heap.size w w2) := HB1.out.trans (hb2.mono hsz1)
      go_ret2
      exact ⟨HE.out _ HO.out, HB2.out⟩
    | false =>
      rw [hc] at HRU
      have HO : Hid (o = none) := by show _ = _; rw [HL2.out, says_l HW1.out, if_neg (by rw [hc]; decide)]
      clear hc
      go_enter Tryd.func28, Tryd.ntmps28
      go_wp2_with fail
      refine (HCT2.out _ HM.out).mono ?_
      rintro e w1 ⟨rfl, n, rfl⟩
      have HB1 : Hid (Below w.heap.size w (w.drewN n)) := below_drewN (Below.refl _ _) n
      have hsz1 : w.heap.size ≤ (w.drewN n).heap.size := HB1.out.size
      generalize w.drewN n = w1 at *
      go_wp2_with (go_at_call 15; refine (HRU.out _).mono ?_; rintro e w2 ⟨rfl, hb2⟩)
      have HB2 : Hid (Below w.heap.size w w2) := HB1.out.trans (hb2.mono hsz1)
      go_ret2
      exact ⟨HE.out _ HO.out, HB2.out⟩
  have hletN : wd.data.toList ≠ wLet := h
  have hlet := word_not wd [108, 101, 116] h
  clear h
  by_cases h : wd.data.toList = wBar
  · have hbar := word_is _ _ [98, 97, 114] h rfl
    have hwait : (wd.toList == [119, 97, 105, 116]) = false := word_not _ _ (by rw [h]; decide)
    have HW1 : Hid (wd.data.toList = wBar) := h
    clear h
    cases hc : ruleL rs.data.toList with
    | true =>
      rw [hc] at HRU
      have HO : Hid (o = some (.r ⟨false, rs⟩)) := by show _ = _; rw [HL2.out, says_b HW1.out, if_pos hc]
      clear hc
      go_enter Tryd.func28, Tryd.ntmps28
      go_wp2_with fail
      refine (HCT2.out _ HM.out).mono ?_
      rintro e w1 ⟨rfl, n, rfl⟩
      have HB1 : Hid (Below w.heap.size w (w.drewN n)) := below_drewN (Below.refl _ _) n
      have hsz1 : w.heap.size ≤ (w.drewN n).heap.size := HB1.out.size
      generalize w.drewN n = w1 at *
      go_wp2_with (go_at_call 15; refine (HRU.out _).mono ?_; rintro e w2 ⟨rfl, hb2⟩)
      have HB2 : Hid (Below w.heap.size w w2) := HB1.out.trans (hb2.mono hsz1)
      go_ret2
      exact ⟨HE.out _ HO.out, HB2.out⟩
    | false =>
      rw [hc] at HRU
      have HO : Hid (o = none) := by show _ = _; rw [HL2.out, says_b HW1.out, if_neg (by rw [hc]; decide)]
      clear hc
      go_enter Tryd.func28, Tryd.ntmps28
      go_wp2_with fail
      refine (HCT2.out _ HM.out).mono ?_
      rintro e w1 ⟨rfl, n, rfl⟩
      have HB1 : Hid (Below w.heap.size w (w.drewN n)) := below_drewN (Below.refl _ _) n
      have hsz1 : w.heap.size ≤ (w.drewN n).heap.size := HB1.out.size
      generalize w.drewN n = w1 at *
      go_wp2_with (go_at_call 15; refine (HRU.out _).mono ?_; rintro e w2 ⟨rfl, hb2⟩)
      have HB2 : Hid (Below w.heap.size w w2) := HB1.out.trans (hb2.mono hsz1)
      go_ret2
      exact ⟨HE.out _ HO.out, HB2.out⟩
  have hbarN : wd.data.toList ≠ wBar := h
  have hbar := word_not wd [98, 97, 114] h
  clear h
  by_cases h : wd.data.toList = wWait
  · have hwait := word_is _ _ [119, 97, 105, 116] h rfl
    have HO : Hid (o = some (.t (numF rs.data.toList))) := by show _ = _; rw [HL2.out]; exact says_w h
    clear h h1 hletN hbarN
    go_enter Tryd.func28, Tryd.ntmps28
    go_wp2_with fail
    refine (HCT2.out _ HM.out).mono ?_
    rintro e w1 ⟨rfl, n, rfl⟩
    have HB1 : Hid (Below w.heap.size w (w.drewN n)) := below_drewN (Below.refl _ _) n
    have hsz1 : w.heap.size ≤ (w.drewN n).heap.size := HB1.out.size
    generalize w.drewN n = w1 at *
    go_wp2_with (go_at_call 47; refine (HWT.out _).mono ?_; rintro e w2 ⟨rfl, hb2⟩)
    have HB2 : Hid (Below w.heap.size w w2) := HB1.out.trans (hb2.mono hsz1)
    go_ret2
    exact ⟨HE.out _ HO.out, HB2.out⟩
  have HO : Hid (o = none) := by show _ = _; rw [HL2.out]; exact says_no h1 hletN hbarN h
  have hwait := word_not wd [119, 97, 105, 116] h
  clear h h1 hletN hbarN
  go_enter Tryd.func28, Tryd.ntmps28
  go_wp2_with fail
  refine (HCT2.out _ HM.out).mono ?_
  rintro e w1 ⟨rfl, n, rfl⟩
  have HB1 : Hid (Below w.heap.size w (w.drewN n)) := below_drewN (Below.refl _ _) n
  have hsz1 : w.heap.size ≤ (w.drewN n).heap.size := HB1.out.size
  generalize w.drewN n = w1 at *
  go_wp2
  go_ret2
  exact ⟨HE.out _ HO.out, HB1.out⟩
end Go.Proofs.YtacelbhoccckbaaDoor.NiP
/- A line of a notice is read, of the program: put behind what was read. -/
namespace Go.Proofs.YtacelbhoccckbaaDoor.NiP
open Go.RowKit Go.Proofs.YtacelbhoccckbaaDoor.EscM Go.Proofs.YtacelbhoccckbaaDoor.EscL Go.Proofs.YtacelbhoccckbaaDoor.RuleM Go.Proofs.YtacelbhoccckbaaDoor.Ru1 Go.Proofs.YtacelbhoccckbaaDoor.ReadM Go.Proofs.YtacelbhoccckbaaDoor.Rd1 Go.Proofs.YtacelbhoccckbaaDoor.St Go.Proofs.YtacelbhoccckbaaDoor.RR Go.Proofs.YtacelbhoccckbaaDoor.LetM Go.Proofs.YtacelbhoccckbaaDoor.Nm Go.Proofs.YtacelbhoccckbaaDoor.GrM Go.Proofs.YtacelbhoccckbaaDoor.Dr Go.Proofs.YtacelbhoccckbaaDoor.NrM Go.Proofs.YtacelbhoccckbaaDoor.NrW Go.Proofs.YtacelbhoccckbaaDoor.NrS Go.Proofs.YtacelbhoccckbaaDoor.Im

theorem new_blkR0 {L : List Gr} : ∀ x ∈ L, ∀ b, ruBlk x = some b → (Value.slice none 0 0).ownBlock ≠ some b := fun _ _ _ _ e => by simp [Value.ownBlock] at e
theorem heap_cell {w w' : World} (e : w'.heap = w.heap) {p : Addr} {v : Value} (h : w.cell? p = some v) : w'.cell? p = some v := by unfold World.cell? at *; rw [e]; exact h
theorem alloc_cell {w : World} (o : Obj) {p : Addr} {v : Value} (h : w.cell? p = some v) : (w.alloc o).cell? p = some v := by
  rw [World.cell?_of_block (w := w) (alloc_keep _ _ _ (St.cell_block h))]; exact h

theorem Tryd.ta_c (x : Value) (w : World) : (Instr.typeAssert (.iface 76 x) 48 76 true).run Tryd.prog w = .ok (.tuple #[x, .bool true]) w := by kernel_rfl
theorem Tryd.ta_r (x : Value) (w : World) : (Instr.typeAssert (.iface 78 x) 48 78 true).run Tryd.prog w = .ok (.tuple #[x, .bool true]) w := by kernel_rfl
theorem Tryd.ta_t (x : Value) (w : World) : (Instr.typeAssert (.iface 80 x) 48 80 true).run Tryd.prog w = .ok (.tuple #[x, .bool true]) w := by kernel_rfl
theorem Tryd.ta_rc (x : Value) (w : World) : (Instr.typeAssert (.iface 78 x) 48 76 true).run Tryd.prog w = .ok (.tuple #[.agg #[.string ⟨#[]⟩], .bool false]) w := by kernel_rfl
theorem Tryd.ta_tc (x : Value) (w : World) : (Instr.typeAssert (.iface 80 x) 48 76 true).run Tryd.prog w = .ok (.tuple #[.agg #[.string ⟨#[]⟩], .bool false]) w := by kernel_rfl
theorem Tryd.ta_tr (x : Value) (w : World) : (Instr.typeAssert (.iface 80 x) 48 78 true).run Tryd.prog w = .ok (.tuple #[.agg #[.bool false, .string ⟨#[]⟩], .bool false]) w := by kernel_rfl
set_option maxRecDepth 100000 in
set_option maxHeartbeats 3200000 in
theorem add_new (base base2 : Nat) (v : Value) (L : List Gr) (rs : ByteArray) (w : World) (h : GsOwn w base base2 v L) (hb : base ≤ w.heap.size) (hb2 : base2 ≤ w.heap.size) (hl : L.length ≤ 1000) (hp : 0 < L.length) :
    Calls Tryd.prog 29 #[v, .bool true, .iface 76 (.agg #[.string rs])] w fun e w' => NrS.Read base base2 w ⟨L.map grp ++ [([rs], [], 0)], false⟩ e w' := by
  obtain ⟨i0, hi, hz0, hz1, hz2⟩ := info_group
  obtain ⟨a0, cap, hv, hI, _⟩ := h.at
  subst hv
  have HG : Hid (GsOwn w base base2 (.slice a0 L.length cap) L) := h
  have hc1 : L.length ≤ cap := hI.1
  have hc2 := hI.2.1
  unfold maxLen at hc2
  clear h hI
  have HN0 : Hid (GsOwn (w.alloc (.cells #[.string rs] 76)) base base2 (.slice a0 L.length cap) L) := HG.out.alloc _
  have HN2 : Hid (GsOwn ((w.alloc (.cells #[.string rs] 76)).alloc (.cells #[.string rs] 9)) base base2 (.slice a0 L.length cap) L) := HN0.out.alloc _
  obtain ⟨g, hg⟩ : ∃ g : Gr, g = ⟨[rs], some ⟨w.heap.size + 1, 0, none⟩, 1, [], none, 0, 0⟩ := ⟨_, rfl⟩
  have HGN : Hid (grp g = ([rs], [], 0)) := by rw [hg]; rfl
  have HEN : Hid (FGr.enc g = [.slice (some ⟨w.heap.size + 1, 0, none⟩) 1 1, .slice none 0 0, .int .i64 0]) := by rw [hg]; rfl
  have hs0 : (w.alloc (.cells #[.string rs] 76)).heap.size = w.heap.size + 1 := by simp
  have HGO : Hid (GrOwn ((w.alloc (.cells #[.string rs] 76)).alloc (.cells #[.string rs] 9)) base2 g) := by
    rw [hg]
    refine ⟨?_, OwnsR.nil _ _ _ _⟩
    have := Owns.lit1 (w.alloc (.cells #[.string rs] 76)) base2 rs (by simp; omega)
    rw [hs0] at this; exact this
  have HDN : Hid (∀ x ∈ L, ∀ b, nmBlk x = some b → nmBlk g ≠ some b) := by rw [hg]; exact new_blk HG.out.2.1 (by omega)
  have HDR : Hid (∀ x ∈ L, ∀ b, ruBlk x = some b → ruBlk g ≠ some b) := by rw [hg]; exact new_blkR0
  have HFR : Hid (Fr base base2 w ((w.alloc (.cells #[.string rs] 76)).alloc (.cells #[.string rs] 9))) := (Fr.alloc base base2 w _ hb hb2).trans (Fr.alloc base base2 _ _ (by simp; omega) (by simp; omega))
  have hsz : ((w.alloc (.cells #[.string rs] 76)).alloc (.cells #[.string rs] 9)).heap.size = w.heap.size + 1 + 1 := by simp
  have HX2 : Hid (∀ j u, (FGr.enc g)[j]? = some u → (((w.alloc (.cells #[.string rs] 76)).alloc (.cells #[.string rs] 9)).alloc (.cells #[.slice (some ⟨w.heap.size + 1, 0, none⟩) 1 1, .slice none 0 0, .int .i64 0] 34)).cell? ((⟨w.heap.size + 1 + 1, 0, none⟩ : Addr).add j) = some u) := HEN.out ▸ cell_three_newE hsz _ _ _ _
  clear hg hsz hs0
  have hng : decide ((L.length : Int) - 1 < 0) = false := decide_eq_false (by omega)
  have ta1 := Tryd.ta_c
  have ta2 := Tryd.ta_r
  have ta3 := Tryd.ta_t
  have ta4 := Tryd.ta_rc
  have ta5 := Tryd.ta_tc
  have ta6 := Tryd.ta_tr
  go_enter Tryd.func29, Tryd.ntmps29
  go_wp2_with (at_builtin; refine wpList_append_own _ rfl _ _ 23 rfl base 34 i0 (.agg #[.slice none 0 0, .slice none 0 0, .int .i64 0]) 3 56 Tryd.underlying23 hi hz0 hz1 hz2 rfl (by decide) _ _ _ rfl (HN2.out.alloc _).1 ⟨w.heap.size + 1 + 1, 0, none⟩ 1 1 (FGr.enc g) rfl rfl HX2.out (FGr.one g) ?c3 ?c4 ?c5 ?_)
  case c3 => first | (unfold maxLen; omega) | (simp [maxLen])
  case c4 => first | omega | simp
  case c5 => simp; omega
  intro v8 w8 hown8 hgrow8 _
  have H8 : Hid (GsOwn w8 base base2 v8 (L ++ [g])) := (HN2.out.alloc _).more (HGO.out.keep (alloc_keep _ _)) HDN.out HDR.out hown8 hgrow8
  have HF8 : Hid (Fr base base2 w w8) := (HFR.out.trans (Fr.alloc base base2 _ _ (by simp; omega) (by simp; omega))).trans (Fr.row (HN2.out.alloc _).1 hgrow8 (by simp; omega))
  clear hown8 hgrow8
  go_wp2
  go_ret2
  exact ⟨v8, L ++ [g], rfl, H8.out, by rw [List.map_append, List.map_cons, List.map_nil, HGN.out], HF8.out⟩
set_option maxRecDepth 100000 in
set_option maxHeartbeats 3200000 in
theorem add_new0 (base base2 : Nat) (v : Value) (bg : Bool) (rs : ByteArray) (w : World) (h : GsOwn w base base2 v []) (hb : base ≤ w.heap.size) (hb2 : base2 ≤ w.heap.size) :
    Calls Tryd.prog 29 #[v, .bool bg, .iface 76 (.agg #[.string rs])] w fun e w' => NrS.Read base base2 w ⟨[([rs], [], 0)], false⟩ e w' := by
  obtain ⟨i0, hi, hz0, hz1, hz2⟩ := info_group
  obtain ⟨a0, cap, hv, hI, _⟩ := h.at
  have hv : v = .slice a0 0 cap := hv
  subst hv
  have HG : Hid (GsOwn w base base2 (.slice a0 0 cap) []) := h
  have hc1 : 0 ≤ cap := hI.1
  have hc2 := hI.2.1
  unfold maxLen at hc2
  clear h hI
  have HN0 : Hid (GsOwn (w.alloc (.cells #[.string rs] 76)) base base2 (.slice a0 0 cap) []) := HG.out.alloc _
  have HN2 : Hid (GsOwn ((w.alloc (.cells #[.string rs] 76)).alloc (.cells #[.string rs] 9)) base base2 (.slice a0 0 cap) []) := HN0.out.alloc _
  obtain ⟨g, hg⟩ : ∃ g : Gr, g = ⟨[rs], some ⟨w.heap.size + 1, 0, none⟩, 1, [], none, 0, 0⟩ := ⟨_, rfl⟩
  have HGN : Hid (grp g = ([rs], [], 0)) := by rw [hg]; rfl
  have HEN : Hid (FGr.enc g = [.slice (some ⟨w.heap.size + 1, 0, none⟩) 1 1, .slice none 0 0, .int .i64 0]) := by rw [hg]; rfl
  have hs0 : (w.alloc (.cells #[.string rs] 76)).heap.size = w.heap.size + 1 := by simp
  have HGO : Hid (GrOwn ((w.alloc (.cells #[.string rs] 76)).alloc (.cells #[.string rs] 9)) base2 g) := by
    rw [hg]
    refine ⟨?_, OwnsR.nil _ _ _ _⟩
    have := Owns.lit1 (w.alloc (.cells #[.string rs] 76)) base2 rs (by simp; omega)
    rw [hs0] at this; exact this
  have HDN : Hid (∀ x ∈ [], ∀ b, nmBlk x = some b → nmBlk g ≠ some b) := by rw [hg]; exact new_blk HG.out.2.1 (by omega)
  have HDR : Hid (∀ x ∈ [], ∀ b, ruBlk x = some b → ruBlk g ≠ some b) := by rw [hg]; exact new_blkR0
  have HFR : Hid (Fr base base2 w ((w.alloc (.cells #[.string rs] 76)).alloc (.cells #[.string rs] 9))) := (Fr.alloc base base2 w _ hb hb2).trans (Fr.alloc base base2 _ _ (by simp; omega) (by simp; omega))
  have hsz : ((w.alloc (.cells #[.string rs] 76)).alloc (.cells #[.string rs] 9)).heap.size = w.heap.size + 1 + 1 := by simp
  have HX2 : Hid (∀ j u, (FGr.enc g)[j]? = some u → (((w.alloc (.cells #[.string rs] 76)).alloc (.cells #[.string rs] 9)).alloc (.cells #[.slice (some ⟨w.heap.size + 1, 0, none⟩) 1 1, .slice none 0 0, .int .i64 0] 34)).cell? ((⟨w.heap.size + 1 + 1, 0, none⟩ : Addr).add j) = some u) := HEN.out ▸ cell_three_newE hsz _ _ _ _
  clear hg hsz hs0
  have ta1 := Tryd.ta_c
  have ta2 := Tryd.ta_r
  have ta3 := Tryd.ta_t
  have ta4 := Tryd.ta_rc
  have ta5 := Tryd.ta_tc
  have ta6 := Tryd.ta_tr
  go_enter Tryd.func29, Tryd.ntmps29
  go_wp2_with (at_builtin; refine wpList_append_own _ rfl _ _ 23 rfl base 34 i0 (.agg #[.slice none 0 0, .slice none 0 0, .int .i64 0]) 3 56 Tryd.underlying23 hi hz0 hz1 hz2 rfl (by decide) _ _ _ rfl (HN2.out.alloc _).1 ⟨w.heap.size + 1 + 1, 0, none⟩ 1 1 (FGr.enc g) rfl rfl HX2.out (FGr.one g) ?c3 ?c4 ?c5 ?_)
  case c3 => first | (unfold maxLen; omega) | (simp [maxLen])
  case c4 => first | omega | simp
  case c5 => simp; omega
  intro v8 w8 hown8 hgrow8 _
  have H8 : Hid (GsOwn w8 base base2 v8 ([] ++ [g])) := (HN2.out.alloc _).more (HGO.out.keep (alloc_keep _ _)) HDN.out HDR.out hown8 hgrow8
  have HF8 : Hid (Fr base base2 w w8) := (HFR.out.trans (Fr.alloc base base2 _ _ (by simp; omega) (by simp; omega))).trans (Fr.row (HN2.out.alloc _).1 hgrow8 (by simp; omega))
  clear hown8 hgrow8
  go_wp2
  go_ret2
  exact ⟨v8, [] ++ [g], rfl, H8.out, by rw [List.map_append, List.map_cons, List.map_nil, HGN.out]; rfl, HF8.out⟩
end Go.Proofs.YtacelbhoccckbaaDoor.NiP
/- A line of a notice is read, of the program: the last group is written into. -/
namespace Go.Proofs.YtacelbhoccckbaaDoor.NiP
open Go.RowKit Go.Proofs.YtacelbhoccckbaaDoor.EscM Go.Proofs.YtacelbhoccckbaaDoor.EscL Go.Proofs.YtacelbhoccckbaaDoor.RuleM Go.Proofs.YtacelbhoccckbaaDoor.Ru1 Go.Proofs.YtacelbhoccckbaaDoor.ReadM Go.Proofs.YtacelbhoccckbaaDoor.Rd1 Go.Proofs.YtacelbhoccckbaaDoor.St Go.Proofs.YtacelbhoccckbaaDoor.RR Go.Proofs.YtacelbhoccckbaaDoor.LetM Go.Proofs.YtacelbhoccckbaaDoor.Nm Go.Proofs.YtacelbhoccckbaaDoor.GrM Go.Proofs.YtacelbhoccckbaaDoor.Dr Go.Proofs.YtacelbhoccckbaaDoor.NrM Go.Proofs.YtacelbhoccckbaaDoor.NrW Go.Proofs.YtacelbhoccckbaaDoor.NrS Go.Proofs.YtacelbhoccckbaaDoor.Im

set_option maxRecDepth 100000 in
set_option maxHeartbeats 3200000 in
theorem add_name (base base2 n : Nat) (v : Value) (M : List Gr) (g : Gr) (rs : ByteArray) (w : World) (hn : M.length = n) (h : GsOwn w base base2 v (M ++ [g])) (hbb : base ≤ base2) (hb2 : base2 ≤ w.heap.size) (hl : n ≤ 1000) (hl2 : g.nm.length ≤ 1000) :
    Calls Tryd.prog 29 #[v, .bool false, .iface 76 (.agg #[.string rs])] w fun e w' => NrS.Read base base2 w ⟨M.map grp ++ [(g.nm ++ [rs], g.ru, g.wait)], false⟩ e w' := by
  obtain ⟨i9, hi9, hz90, hz91, hz92⟩ := info_parts Tryd.infoS
  obtain ⟨b, cap, hv, hbb1, hblt, f0, c0, c1, c2⟩ := h.last
  rw [hn] at hv c0 c1 c2
  subst hv
  have HG : Hid (GsOwn w base base2 (.slice (some ⟨b, 0, none⟩) (n + 1) cap) (M ++ [g])) := h
  have hI := OwnsR.rowsOf h.1
  have hc1 : n + 1 ≤ cap := by have := hI.1; rw [List.length_append, hn] at this; exact this
  have hc2 := hI.2.1
  unfold maxLen at hc2
  have HN : Hid (M.length = n) := hn
  clear h hI hn
  have hw3 : IntKind.i64.wrap (n : Int) = (n : Int) := IntWalk.i64_in _ (by omega)
  have hn0 : (0 : Int) ≤ (n : Int) := by omega
  have hn1 : (n : Int) ≤ (cap : Int) := by omega
  have hnl : decide ((n : Int) < 0) = false := decide_eq_false (by omega)
  have hn2 : (n : Int) < (n : Int) + 1 := by omega
  have hn3 : n < n + 1 := by omega
  have HA : Hid (GsOwn ((w.alloc (.cells #[.string rs] 76)).alloc (.cells #[.string rs] 9)) base base2 (.slice (some ⟨b, 0, none⟩) (n + 1) cap) (M ++ [g])) := (HG.out.alloc (.cells #[.string rs] 76)).alloc _
  have HNO : Hid (Owns ((w.alloc (.cells #[.string rs] 76)).alloc (.cells #[.string rs] 9)) base2 (.slice g.na g.nm.length g.nc) g.nm) := (HA.out.2.1 g (by simp)).1
  have hs1 : (w.alloc (.cells #[.string rs] 76)).heap.size = w.heap.size + 1 := by simp
  have HX2 : Hid (∀ j u, [Value.string rs][j]? = some u → ((w.alloc (.cells #[.string rs] 76)).alloc (.cells #[.string rs] 9)).cell? ((⟨w.heap.size + 1, 0, none⟩ : Addr).add j) = some u) := by
    have := cell_one_new (w.alloc (.cells #[.string rs] 76)) (.string rs) 9
    rw [hs1] at this; exact this
  have HFA : Hid (Fr base base2 w ((w.alloc (.cells #[.string rs] 76)).alloc (.cells #[.string rs] 9))) := (Fr.alloc base base2 w _ (by omega) hb2).trans (Fr.alloc base base2 _ _ (by simp; omega) (by simp; omega))
  have x0 : (w.alloc (.cells #[.string rs] 76)).cell? ⟨w.heap.size, 0, none⟩ = some (.string rs) := (Bx.new 76 w _).cell 0 rfl
  have p0 : (w.alloc (.cells #[.string rs] 76)).cell? ⟨b, n * 3, none⟩ = some (.slice g.na g.nm.length g.nc) := alloc_cell _ c0
  have p0a : ∀ o, ((w.alloc (.cells #[.string rs] 76)).alloc o).cell? ⟨b, n * 3, none⟩ = some (.slice g.na g.nm.length g.nc) := fun o => alloc_cell o p0
  have p0d : (w.alloc (.cells #[.string rs] 76)).drew.cell? ⟨b, n * 3, none⟩ = some (.slice g.na g.nm.length g.nc) := p0
  have p0ad : ∀ o, ((w.alloc (.cells #[.string rs] 76)).alloc o).drew.cell? ⟨b, n * 3, none⟩ = some (.slice g.na g.nm.length g.nc) := fun o => p0a o
  have p0da : ∀ o, ((w.alloc (.cells #[.string rs] 76)).drew.alloc o).cell? ⟨b, n * 3, none⟩ = some (.slice g.na g.nm.length g.nc) := fun o => p0a o
  clear hs1
  have ta1 := Tryd.ta_c
  have ta2 := Tryd.ta_r
  have ta3 := Tryd.ta_t
  have ta4 := Tryd.ta_rc
  have ta5 := Tryd.ta_tc
  have ta6 := Tryd.ta_tr
  go_enter Tryd.func29, Tryd.ntmps29
  go_wp2
  go_region_law
    (first
    | (refine step_append_lies _ rfl (.tmp 37) (.tmp 40) 31 rfl base2 9 i9 (.string ⟨#[]⟩) 1 16 Tryd.underlying31 hi9 hz90 hz91 hz92 rfl (by decide) (.slice g.na g.nm.length g.nc) g.nm.length (cellsS g.nm) rfl (by exact Owns.heapEq HNO.out rfl) ⟨w.heap.size + 1, 0, none⟩ 1 1 [Value.string rs] rfl rfl (by exact HX2.out) (by intro u hu; simp at hu; subst hu; rfl) (by omega) (by unfold maxLen; omega) (by omega) (by simp; omega) (w.heap.size + 1 + 1) (by simp) ?_
       intro g1 k1 w8 hown8 hgrow8 hat8 hlt8
       have hgA : ((w.alloc (.cells #[.string rs] 76)).alloc (.cells #[.string rs] 9)).grownBy w8 ((.slice g.na g.nm.length g.nc) : Value).ownBlock := by
         refine grown_trans ?_ hgrow8
         exact ⟨rfl, rfl, rfl, Nat.le_refl _, fun _ _ _ => rfl⟩
       have hr8 := HA.out.row1 hgA
       have H9 : Hid (GsOwn (w8.setCell ⟨b, M.length * 3, none⟩ (.slice (some ⟨g1, 0, none⟩) (g.nm.length + 1) k1)) base base2 (.slice (some ⟨b, 0, none⟩) (M.length + 1) cap) (M ++ [{ g with nm := g.nm ++ [rs], na := some ⟨g1, 0, none⟩, nc := k1 }])) := GsOwn.name (by rw [HN.out]; exact HA.out) hown8 hgA hat8 (by simp)
       have HF8 : Hid (Fr base base2 w (w8.setCell ⟨b, M.length * 3, none⟩ (.slice (some ⟨g1, 0, none⟩) (g.nm.length + 1) k1))) := (HFA.out.trans (Fr.far hgA (by simp; omega) (fun k hk => by have := Owns.block HNO.out k hk; omega))).trans (Fr.set hr8 (by have := hgA.size; simp at this; omega))
       have hl8 := row_last hr8
       rw [HN.out] at hl8 H9 HF8
       obtain ⟨f8, q0, q1, q2⟩ := hl8
       clear hown8 hgrow8 hat8 hr8 hgA)
    | fail)
  all_goals
    go_wp2
    go_ret2
    exact ⟨.slice (some ⟨b, 0, none⟩) (n + 1) cap, M ++ [{ g with nm := g.nm ++ [rs], na := some ⟨g1, 0, none⟩, nc := k1 }], rfl, H9.out, by rw [List.map_append]; rfl, HF8.out⟩
set_option maxRecDepth 100000 in
set_option maxHeartbeats 3200000 in
theorem add_rule (base base2 n : Nat) (v : Value) (M : List Gr) (g : Gr) (bg : Bool) (x : Ru) (w : World) (hn : M.length = n) (h : GsOwn w base base2 v (M ++ [g])) (hbb : base ≤ base2) (hb2 : base2 ≤ w.heap.size) (hl : n ≤ 1000) (h6 : g.ru.length < 6) :
    Calls Tryd.prog 29 #[v, .bool bg, .iface 78 (.agg #[.bool x.lt, .string x.path])] w fun e w' => NrS.Read base base2 w ⟨M.map grp ++ [(g.nm, g.ru ++ [x], g.wait)], true⟩ e w' := by
  obtain ⟨i9, hi9, hz90, hz91, hz92⟩ := info_rule
  obtain ⟨b, cap, hv, hbb1, hblt, f0, c0, c1, c2⟩ := h.last
  rw [hn] at hv c0 c1 c2
  subst hv
  have HG : Hid (GsOwn w base base2 (.slice (some ⟨b, 0, none⟩) (n + 1) cap) (M ++ [g])) := h
  have hI := OwnsR.rowsOf h.1
  have hc1 : n + 1 ≤ cap := by have := hI.1; rw [List.length_append, hn] at this; exact this
  have hc2 := hI.2.1
  unfold maxLen at hc2
  have HN : Hid (M.length = n) := hn
  clear h hI hn
  have hw3 : IntKind.i64.wrap (n : Int) = (n : Int) := IntWalk.i64_in _ (by omega)
  have hn0 : (0 : Int) ≤ (n : Int) := by omega
  have hn1 : (n : Int) ≤ (cap : Int) := by omega
  have hnl : decide ((n : Int) < 0) = false := decide_eq_false (by omega)
  have hn2 : (n : Int) < (n : Int) + 1 := by omega
  have hn3 : n < n + 1 := by omega
  have HA : Hid (GsOwn ((w.alloc (.cells #[.bool x.lt, .string x.path] 78)).alloc (.cells #[.bool x.lt, .string x.path] 37)) base base2 (.slice (some ⟨b, 0, none⟩) (n + 1) cap) (M ++ [g])) := (HG.out.alloc (.cells #[.bool x.lt, .string x.path] 78)).alloc _
  have HNO : Hid (OwnsR FRu 37 ((w.alloc (.cells #[.bool x.lt, .string x.path] 78)).alloc (.cells #[.bool x.lt, .string x.path] 37)) base2 (.slice g.ra g.ru.length g.rc) g.ru) := (HA.out.2.1 g (by simp)).2
  have hs1 : (w.alloc (.cells #[.bool x.lt, .string x.path] 78)).heap.size = w.heap.size + 1 := by simp
  have HX2 : Hid (∀ j u, (FRu.enc x)[j]? = some u → ((w.alloc (.cells #[.bool x.lt, .string x.path] 78)).alloc (.cells #[.bool x.lt, .string x.path] 37)).cell? ((⟨w.heap.size + 1, 0, none⟩ : Addr).add j) = some u) := by
    have := cell_two_new (w.alloc (.cells #[.bool x.lt, .string x.path] 78)) (.bool x.lt) (.string x.path) 37
    rw [hs1] at this; exact this
  have HFA : Hid (Fr base base2 w ((w.alloc (.cells #[.bool x.lt, .string x.path] 78)).alloc (.cells #[.bool x.lt, .string x.path] 37))) := (Fr.alloc base base2 w _ (by omega) hb2).trans (Fr.alloc base base2 _ _ (by simp; omega) (by simp; omega))
  have x0 : (w.alloc (.cells #[.bool x.lt, .string x.path] 78)).cell? ⟨w.heap.size, 0, none⟩ = some (.bool x.lt) := (Bx.new 78 w _).cell 0 rfl
  have x1 : (w.alloc (.cells #[.bool x.lt, .string x.path] 78)).cell? ⟨w.heap.size, 1, none⟩ = some (.string x.path) := (Bx.new 78 w _).cell 1 rfl
  have p0 : (w.alloc (.cells #[.bool x.lt, .string x.path] 78)).cell? ⟨b, n * 3 + 1, none⟩ = some (.slice g.ra g.ru.length g.rc) := alloc_cell _ c1
  have p0a : ∀ o, ((w.alloc (.cells #[.bool x.lt, .string x.path] 78)).alloc o).cell? ⟨b, n * 3 + 1, none⟩ = some (.slice g.ra g.ru.length g.rc) := fun o => alloc_cell o p0
  have p0d : (w.alloc (.cells #[.bool x.lt, .string x.path] 78)).drew.cell? ⟨b, n * 3 + 1, none⟩ = some (.slice g.ra g.ru.length g.rc) := p0
  have p0ad : ∀ o, ((w.alloc (.cells #[.bool x.lt, .string x.path] 78)).alloc o).drew.cell? ⟨b, n * 3 + 1, none⟩ = some (.slice g.ra g.ru.length g.rc) := fun o => p0a o
  have p0da : ∀ o, ((w.alloc (.cells #[.bool x.lt, .string x.path] 78)).drew.alloc o).cell? ⟨b, n * 3 + 1, none⟩ = some (.slice g.ra g.ru.length g.rc) := fun o => p0a o
  clear hs1
  have ta1 := Tryd.ta_c
  have ta2 := Tryd.ta_r
  have ta3 := Tryd.ta_t
  have ta4 := Tryd.ta_rc
  have ta5 := Tryd.ta_tc
  have ta6 := Tryd.ta_tr
  go_enter Tryd.func29, Tryd.ntmps29
  go_wp2
  go_region_law
    (first
    | (refine step_append_lies _ rfl (.tmp 63) (.tmp 66) 32 rfl base2 37 i9 (.agg #[.bool false, .string ⟨#[]⟩]) 2 24 Tryd.underlying32 hi9 hz90 hz91 hz92 rfl (by decide) (.slice g.ra g.ru.length g.rc) g.ru.length (FRu.cells g.ru) rfl (by exact OwnsR.heapEq HNO.out rfl) ⟨w.heap.size + 1, 0, none⟩ 1 1 (FRu.enc x) rfl rfl (by exact HX2.out) (FRu.one x) (by omega) (by unfold maxLen; omega) (by omega) (by simp; omega) (w.heap.size + 1 + 1) (by simp) ?_
       intro g1 k1 w8 hown8 hgrow8 hat8 hlt8
       have hgA : ((w.alloc (.cells #[.bool x.lt, .string x.path] 78)).alloc (.cells #[.bool x.lt, .string x.path] 37)).grownBy w8 ((.slice g.ra g.ru.length g.rc) : Value).ownBlock := by
         refine grown_trans ?_ hgrow8
         exact ⟨rfl, rfl, rfl, Nat.le_refl _, fun _ _ _ => rfl⟩
       have hr8 := HA.out.row2 hgA
       have H9 : Hid (GsOwn (w8.setCell ⟨b, M.length * 3 + 1, none⟩ (.slice (some ⟨g1, 0, none⟩) (g.ru.length + 1) k1)) base base2 (.slice (some ⟨b, 0, none⟩) (M.length + 1) cap) (M ++ [{ g with ru := g.ru ++ [x], ra := some ⟨g1, 0, none⟩, rc := k1 }])) := GsOwn.rule (by rw [HN.out]; exact HA.out) hown8 hgA hat8 (by simp)
       have HF8 : Hid (Fr base base2 w (w8.setCell ⟨b, M.length * 3 + 1, none⟩ (.slice (some ⟨g1, 0, none⟩) (g.ru.length + 1) k1))) := (HFA.out.trans (Fr.far hgA (by simp; omega) (fun k hk => by have := OwnsR.block HNO.out k hk; omega))).trans (Fr.set hr8 (by have := hgA.size; simp at this; omega))
       have hl8 := row_last hr8
       rw [HN.out] at hl8 H9 HF8
       obtain ⟨f8, q0, q1, q2⟩ := hl8
       clear hown8 hgrow8 hat8 hr8 hgA)
    | fail)
  all_goals
    go_wp2
    go_ret2
    exact ⟨.slice (some ⟨b, 0, none⟩) (n + 1) cap, M ++ [{ g with ru := g.ru ++ [x], ra := some ⟨g1, 0, none⟩, rc := k1 }], rfl, H9.out, by rw [List.map_append]; rfl, HF8.out⟩
end Go.Proofs.YtacelbhoccckbaaDoor.NiP
/- A line of a notice is read, of the program: what is left; and a whole notice. -/
namespace Go.Proofs.YtacelbhoccckbaaDoor.NiP
open Go.RowKit Go.Proofs.YtacelbhoccckbaaDoor.LibM Go.Proofs.YtacelbhoccckbaaDoor.EscM Go.Proofs.YtacelbhoccckbaaDoor.EscL Go.Proofs.YtacelbhoccckbaaDoor.RuleM Go.Proofs.YtacelbhoccckbaaDoor.Ru1 Go.Proofs.YtacelbhoccckbaaDoor.ReadM Go.Proofs.YtacelbhoccckbaaDoor.Rd1 Go.Proofs.YtacelbhoccckbaaDoor.St Go.Proofs.YtacelbhoccckbaaDoor.RR Go.Proofs.YtacelbhoccckbaaDoor.LetM Go.Proofs.YtacelbhoccckbaaDoor.Nm Go.Proofs.YtacelbhoccckbaaDoor.GrM Go.Proofs.YtacelbhoccckbaaDoor.Dr Go.Proofs.YtacelbhoccckbaaDoor.NrM Go.Proofs.YtacelbhoccckbaaDoor.NrW Go.Proofs.YtacelbhoccckbaaDoor.NrS Go.Proofs.YtacelbhoccckbaaDoor.Im

set_option maxRecDepth 100000 in
set_option maxHeartbeats 3200000 in
theorem add_rule0 (base base2 : Nat) (v : Value) (x : Ru) (w : World) (h : GsOwn w base base2 v []) (hb : base ≤ w.heap.size) (hb2 : base2 ≤ w.heap.size) :
    Calls Tryd.prog 29 #[v, .bool false, .iface 78 (.agg #[.bool x.lt, .string x.path])] w fun e w' => NrS.Read base base2 w ⟨[], false⟩ e w' := by
  obtain ⟨a0, cap, hv, _⟩ := h.at
  have hv : v = .slice a0 0 cap := hv
  subst hv
  have HG : Hid (GsOwn (w.alloc (.cells #[.bool x.lt, .string x.path] 78)) base base2 (.slice a0 0 cap) []) := h.alloc _
  have HF : Hid (Fr base base2 w (w.alloc (.cells #[.bool x.lt, .string x.path] 78))) := Fr.alloc base base2 w _ hb hb2
  clear h
  have ta1 := Tryd.ta_c
  have ta2 := Tryd.ta_r
  have ta3 := Tryd.ta_t
  have ta4 := Tryd.ta_rc
  have ta5 := Tryd.ta_tc
  have ta6 := Tryd.ta_tr
  go_enter Tryd.func29, Tryd.ntmps29
  go_wp2
  go_ret2
  exact ⟨.slice a0 0 cap, [], rfl, HG.out, rfl, HF.out⟩
set_option maxRecDepth 100000 in
set_option maxHeartbeats 3200000 in
theorem add_wait0 (base base2 : Nat) (v : Value) (q : Nat) (w : World) (h : GsOwn w base base2 v []) (hb : base ≤ w.heap.size) (hb2 : base2 ≤ w.heap.size) :
    Calls Tryd.prog 29 #[v, .bool false, .iface 80 (.agg #[.int .i64 (q : Int)])] w fun e w' => NrS.Read base base2 w ⟨[], false⟩ e w' := by
  obtain ⟨a0, cap, hv, _⟩ := h.at
  have hv : v = .slice a0 0 cap := hv
  subst hv
  have HG : Hid (GsOwn (w.alloc (.cells #[.int .i64 (q : Int)] 80)) base base2 (.slice a0 0 cap) []) := h.alloc _
  have HF : Hid (Fr base base2 w (w.alloc (.cells #[.int .i64 (q : Int)] 80))) := Fr.alloc base base2 w _ hb hb2
  clear h
  have ta1 := Tryd.ta_c
  have ta2 := Tryd.ta_r
  have ta3 := Tryd.ta_t
  have ta4 := Tryd.ta_rc
  have ta5 := Tryd.ta_tc
  have ta6 := Tryd.ta_tr
  go_enter Tryd.func29, Tryd.ntmps29
  go_wp2
  go_ret2
  exact ⟨.slice a0 0 cap, [], rfl, HG.out, rfl, HF.out⟩
set_option maxRecDepth 100000 in
set_option maxHeartbeats 3200000 in
theorem add_full (base base2 n : Nat) (v : Value) (M : List Gr) (g : Gr) (bg : Bool) (x : Ru) (w : World) (hn : M.length = n) (h : GsOwn w base base2 v (M ++ [g])) (hbb : base ≤ base2) (hb2 : base2 ≤ w.heap.size) (hl : n ≤ 1000) (h6 : 6 ≤ g.ru.length) :
    Calls Tryd.prog 29 #[v, .bool bg, .iface 78 (.agg #[.bool x.lt, .string x.path])] w fun e w' => NrS.Read base base2 w ⟨(M ++ [g]).map grp, true⟩ e w' := by
  obtain ⟨b, cap, hv, hbb1, hblt, f0, c0, c1, c2⟩ := h.last
  rw [hn] at hv c0 c1 c2
  subst hv
  have HG : Hid (GsOwn w base base2 (.slice (some ⟨b, 0, none⟩) (n + 1) cap) (M ++ [g])) := h
  have hI := OwnsR.rowsOf h.1
  have hc1 : n + 1 ≤ cap := by have := hI.1; rw [List.length_append, hn] at this; exact this
  have hc2 := hI.2.1
  unfold maxLen at hc2
  have HN : Hid (M.length = n) := hn
  clear h hI hn
  have hw3 : IntKind.i64.wrap (n : Int) = (n : Int) := IntWalk.i64_in _ (by omega)
  have hn0 : (0 : Int) ≤ (n : Int) := by omega
  have hn1 : (n : Int) ≤ (cap : Int) := by omega
  have hnl : decide ((n : Int) < 0) = false := decide_eq_false (by omega)
  have hn2 : (n : Int) < (n : Int) + 1 := by omega
  have hn3 : n < n + 1 := by omega
  have HA : Hid (GsOwn (w.alloc (.cells #[.bool x.lt, .string x.path] 78)) base base2 (.slice (some ⟨b, 0, none⟩) (n + 1) cap) (M ++ [g])) := HG.out.alloc _
  have HF : Hid (Fr base base2 w (w.alloc (.cells #[.bool x.lt, .string x.path] 78))) := Fr.alloc base base2 w _ (by omega) hb2
  have p1 : (w.alloc (.cells #[.bool x.lt, .string x.path] 78)).cell? ⟨b, n * 3 + 1, none⟩ = some (.slice g.ra g.ru.length g.rc) := alloc_cell _ c1
  have h6d : decide ((g.ru.length : Int) < 6) = false := decide_eq_false (by omega)
  have ta1 := Tryd.ta_c
  have ta2 := Tryd.ta_r
  have ta3 := Tryd.ta_t
  have ta4 := Tryd.ta_rc
  have ta5 := Tryd.ta_tc
  have ta6 := Tryd.ta_tr
  go_enter Tryd.func29, Tryd.ntmps29
  go_wp2
  go_ret2
  exact ⟨.slice (some ⟨b, 0, none⟩) (n + 1) cap, M ++ [g], rfl, HA.out, rfl, HF.out⟩
set_option maxRecDepth 100000 in
set_option maxHeartbeats 3200000 in
theorem add_wait (base base2 n : Nat) (v : Value) (M : List Gr) (g : Gr) (bg : Bool) (q : Nat) (w : World) (hn : M.length = n) (h : GsOwn w base base2 v (M ++ [g])) (hbb : base ≤ base2) (hb2 : base2 ≤ w.heap.size) (hl : n ≤ 1000) :
    Calls Tryd.prog 29 #[v, .bool bg, .iface 80 (.agg #[.int .i64 (q : Int)])] w fun e w' => NrS.Read base base2 w ⟨M.map grp ++ [(g.nm, g.ru, (q : Int))], true⟩ e w' := by
  obtain ⟨b, cap, hv, hbb1, hblt, f0, c0, c1, c2⟩ := h.last
  rw [hn] at hv c0 c1 c2
  subst hv
  have HG : Hid (GsOwn w base base2 (.slice (some ⟨b, 0, none⟩) (n + 1) cap) (M ++ [g])) := h
  have hI := OwnsR.rowsOf h.1
  have hc1 : n + 1 ≤ cap := by have := hI.1; rw [List.length_append, hn] at this; exact this
  have hc2 := hI.2.1
  unfold maxLen at hc2
  have HN : Hid (M.length = n) := hn
  clear h hI hn
  have hw3 : IntKind.i64.wrap (n : Int) = (n : Int) := IntWalk.i64_in _ (by omega)
  have hn0 : (0 : Int) ≤ (n : Int) := by omega
  have hn1 : (n : Int) ≤ (cap : Int) := by omega
  have hnl : decide ((n : Int) < 0) = false := decide_eq_false (by omega)
  have hn2 : (n : Int) < (n : Int) + 1 := by omega
  have hn3 : n < n + 1 := by omega
  have hW := HG.out
  have hz2 : (w.setCell ⟨b, n * 3 + 2, none⟩ (.int .i64 (q : Int))).heap.size = w.heap.size := by simp [World.setCell]
  have H9 : Hid (GsOwn ((w.setCell ⟨b, n * 3 + 2, none⟩ (.int .i64 (q : Int))).alloc (.cells #[.int .i64 (q : Int)] 80)) base base2 (.slice (some ⟨b, 0, none⟩) (n + 1) cap) (M ++ [{ g with wait := (q : Int) }])) := by
    have := GsOwn.wait (M := M) (q : Int) (by rw [HN.out]; exact hW)
    rw [HN.out] at this; exact this.alloc _
  have HF9 : Hid (Fr base base2 w ((w.setCell ⟨b, n * 3 + 2, none⟩ (.int .i64 (q : Int))).alloc (.cells #[.int .i64 (q : Int)] 80))) := (Fr.set hW.1 (by omega)).trans (Fr.alloc base base2 _ _ (by rw [hz2]; omega) (by rw [hz2]; omega))
  have p2 : (w.alloc (.cells #[.int .i64 (q : Int)] 80)).cell? ⟨b, n * 3 + 2, none⟩ = some (.int .i64 g.wait) := alloc_cell _ c2
  have f2 : ∀ j, (w.alloc (.cells #[.int .i64 (q : Int)] 80)).frozen? ⟨b, j, none⟩ = false := by
    have hl9 := row_last (hW.alloc (.cells #[.int .i64 (q : Int)] 80)).1
    exact hl9.1
  clear hW hz2
  have ta1 := Tryd.ta_c
  have ta2 := Tryd.ta_r
  have ta3 := Tryd.ta_t
  have ta4 := Tryd.ta_rc
  have ta5 := Tryd.ta_tc
  have ta6 := Tryd.ta_tr
  go_enter Tryd.func29, Tryd.ntmps29
  go_wp2
  go_ret2
  exact ⟨.slice (some ⟨b, 0, none⟩) (n + 1) cap, M ++ [{ g with wait := (q : Int) }], rfl, H9.out, by rw [List.map_append]; rfl, HF9.out⟩

theorem implAdd_any (base base2 : Nat) (v : Value) (L : List Gr) (bg : Bool) (x : Lk) (w : World) (h : GsOwn w base base2 v L) (hok : NrOk ⟨L.map grp, bg⟩) (hsz : NrSz ⟨L.map grp, bg⟩ 1000) (hbb : base ≤ base2) (hb2 : base2 ≤ w.heap.size) :
    Calls Tryd.prog 29 #[v, .bool bg, lkV (some x)] w fun e w' => NrS.Read base base2 w (addF ⟨L.map grp, bg⟩ x) e w' := by
  rcases List.eq_nil_or_concat L with rfl | ⟨M, g, e⟩
  · have hb : bg = false := hok.1 rfl
    subst hb
    cases x with
    | c s =>
      rw [show (⟨List.map grp [], false⟩ : Nr) = ⟨[], false⟩ from rfl, add_c, if_pos (Or.inl rfl)]
      exact add_new0 base base2 v false s w h (by omega) hb2
    | r x => exact add_rule0 base base2 v x w h (by omega) hb2
    | t q => exact add_wait0 base base2 v q w h (by omega) hb2
  · rw [List.concat_eq_append] at e
    subst e
    have hMl : M.length ≤ 1000 := by have := hsz.1; simp at this; omega
    have hgs := hsz.2 (grp g) (by simp)
    have hnm : g.nm.length ≤ 1000 := hgs.1
    cases x with
    | c s =>
      rw [add_c]
      cases bg with
      | true =>
        rw [if_pos (Or.inr rfl)]
        exact add_new base base2 v (M ++ [g]) s w h (by omega) hb2 (by have := hsz.1; simp at this ⊢; omega) (by simp)
      | false =>
        rw [if_neg (fun e => by rcases e with e | e; exact map_ne M g e; cases e)]
        dsimp only
        rw [map_last, map_drop]
        exact add_name base base2 M.length v M g s w rfl h hbb hb2 hMl hnm
    | r x =>
      rw [add_r, if_neg (map_ne M g)]
      dsimp only
      rw [map_last, map_drop]
      by_cases h6 : g.ru.length < 6
      · rw [if_pos (show (grp g).2.1.length < 6 from h6)]
        exact add_rule base base2 M.length v M g bg x w rfl h hbb hb2 hMl h6
      · rw [if_neg (show ¬ (grp g).2.1.length < 6 from h6)]
        exact add_full base base2 M.length v M g bg x w rfl h hbb hb2 hMl (by omega)
    | t q =>
      rw [add_t, if_neg (map_ne M g)]
      dsimp only
      rw [map_last, map_drop]
      exact add_wait base base2 M.length v M g bg q w rfl h hbb hb2 hMl

theorem splitK_take (d : UInt8) : ∀ (m : Nat) (l : List UInt8), (Lib.splitK [d] 0 m l).take m = (splitL d.toNat l).take m := by
  intro m
  induction m with
  | zero => intro l; rfl
  | succ m ih =>
    intro l
    rw [split_cut]
    rcases idx_one d l with ⟨i1, i2⟩ | ⟨i, i0, i1, i2⟩
    · rw [i2]; unfold Lib.splitK; rw [i1]; rfl
    · rw [i2]
      unfold Lib.splitK
      have : ((i : Int) == -1) = false := by simp
      rw [i1, this]
      simp only [List.length_singleton, Int.toNat_natCast, Nat.add_zero]
      show l.take i :: (Lib.splitK [d] 0 m (l.drop (i + 1))).take m = l.take i :: (splitL d.toNat (l.drop (i + 1))).take m
      rw [ih]
theorem splitK_all (d : UInt8) : ∀ (m : Nat) (l : List UInt8), (splitL d.toNat l).length ≤ m + 1 → Lib.splitK [d] 0 m l = splitL d.toNat l := by
  intro m
  induction m with
  | zero =>
    intro l h
    rw [split_cut] at h ⊢
    rcases idx_one d l with ⟨i1, i2⟩ | ⟨i, i0, i1, i2⟩
    · rw [i2]; rfl
    · rw [i2] at h
      have hn := split_ne d.toNat (l.drop (i + 1))
      have h2 : (splitL d.toNat (l.drop (i + 1))).length + 1 ≤ 0 + 1 := h
      exact absurd (List.eq_nil_of_length_eq_zero (by omega)) hn
  | succ m ih =>
    intro l h
    rw [split_cut] at h ⊢
    rcases idx_one d l with ⟨i1, i2⟩ | ⟨i, i0, i1, i2⟩
    · rw [i2]; unfold Lib.splitK; rw [i1]; rfl
    · rw [i2] at h ⊢
      have h2 : (splitL d.toNat (l.drop (i + 1))).length + 1 ≤ m + 1 + 1 := h
      unfold Lib.splitK
      have : ((i : Int) == -1) = false := by simp
      rw [i1, this]
      simp only [List.length_singleton, Int.toNat_natCast, Nat.add_zero]
      show l.take i :: Lib.splitK [d] 0 m (l.drop (i + 1)) = l.take i :: splitL d.toNat (l.drop (i + 1))
      rw [ih _ (by omega)]
/-- the pieces that SplitN cuts -/
def piecesN (s : ByteArray) : List ByteArray := Lib.splitB ⟨#[10]⟩ 0 (min 41 (s.size + 1) - 1) s
theorem pieces_data (s : ByteArray) : (piecesN s).map (·.data.toList) = Lib.splitK [10] 0 (min 41 (s.size + 1) - 1) s.data.toList := Lib.splitB_data ⟨#[10]⟩ 0 _ s
theorem data_inj : ∀ (A B : List ByteArray), A.map (·.data.toList) = B.map (·.data.toList) → A = B := by
  intro A
  induction A with
  | nil => intro B h; cases B with | nil => rfl | cons _ _ => simp at h
  | cons x r ih =>
    intro B h
    cases B with
    | nil => simp at h
    | cons y t =>
      simp only [List.map_cons, List.cons.injEq] at h
      have : x = y := ByteArray.ext (Array.ext' h.1)
      rw [this, ih t h.2]
theorem splitS_data (c : Int) (s : ByteArray) : (splitS c s).map (·.data.toList) = splitL c s.data.toList := by
  unfold splitS
  rw [List.map_map]
  have e : (fun x : ByteArray => x.data.toList) ∘ bs = id := by funext l; simp [bs]
  rw [e, List.map_id]
theorem pieces_take (s : ByteArray) : (piecesN s).take 40 = (splitS 10 s).take 40 := by
  apply data_inj
  rw [List.map_take, List.map_take, pieces_data, splitS_data]
  have e10 : splitL 10 s.data.toList = splitL (10 : UInt8).toNat s.data.toList := rfl
  rw [e10]
  by_cases h : 40 ≤ s.size
  · rw [show min 41 (s.size + 1) - 1 = 40 by omega]
    exact splitK_take 10 40 _
  · rw [splitK_all]
    have := split_len (10 : UInt8).toNat s.data.toList
    have h2 : s.data.toList.length = s.size := by simp
    omega
theorem pieces_len (s : ByteArray) : (piecesN s).length ≤ 41 := by
  have := Lib.splitB_length_le ⟨#[10]⟩ 0 (min 41 (s.size + 1) - 1) s
  unfold piecesN; omega
theorem read_cut (f : ByteArray → Option Lk) (L : List ByteArray) (n : Nat) : ∀ k, k ≤ n → readTo f (L.take n) k = readTo f L k := by
  intro k
  induction k with
  | zero => intro _; rfl
  | succ k ih =>
    intro h
    show (match (L.take n)[k]? with | some s => stepF (readTo f (L.take n) k) (f s) | none => readTo f (L.take n) k) = (match L[k]? with | some s => stepF (readTo f L k) (f s) | none => readTo f L k)
    rw [ih (by omega), List.getElem?_take_of_lt (by omega)]
theorem read_pieces (f : ByteArray → Option Lk) (s : ByteArray) : readTo f (piecesN s) (min 40 (piecesN s).length) = readTo f (splitS 10 s) (min 40 (splitS 10 s).length) := by
  rw [← read_cut f (piecesN s) 40 _ (Nat.min_le_left _ _), ← read_cut f (splitS 10 s) 40 _ (Nat.min_le_left _ _), pieces_take]
  have := congrArg List.length (pieces_take s)
  rw [List.length_take, List.length_take] at this
  rw [this]
theorem pieces_at {s x : ByteArray} (h : x ∈ (piecesN s).take 40) : x.size ≤ s.size := by
  rw [pieces_take] at h
  exact splitS_at (List.mem_of_mem_take h)

theorem splitN_any (s : ByteArray) (w : World) (h : Mx w) (hs : s.size ≤ 1000000) :
    Calls Tryd.prog 27 #[.string s, .string ⟨#[10]⟩, .int .i64 41] w fun e w' => ∃ a cap, e = .returned (.slice a (piecesN s).length cap) ∧ IsStrs w' a cap (piecesN s) ∧ Below w.heap.size w w' := by
  obtain ⟨m, hm⟩ := h
  refine (Tryd.strings_SplitN s ⟨#[10]⟩ 41 m w (by omega) hm (by decide) (by decide) (by decide)).mono ?_
  rintro e w' ⟨rfl, rfl⟩
  have hl : (piecesN s).length ≤ min 41 (s.size + 1) := by
    have := Lib.splitB_length_le ⟨#[10]⟩ 0 (min 41 (s.size + 1) - 1) s
    unfold piecesN; omega
  refine ⟨_, _, rfl, ⟨hl, by unfold maxLen; omega, (fun e => by cases e), fun hne => ⟨w.heap.size, 0, rfl, fun i hi => ?_⟩⟩, (Below.refl _ w).alloc (Nat.le_refl _) _⟩
  have hb : (w.alloc (.cells (Lib.cellsOf (piecesN s) (min 41 (s.size + 1))) 9)).heap[w.heap.size]? = some (.cells (Lib.cellsOf (piecesN s) (min 41 (s.size + 1))) 9) := by show (w.heap.push _)[w.heap.size]? = _; simp
  have hgoal : (w.alloc (.cells (Lib.cellsOf (piecesN s) (min 41 (s.size + 1))) 9)).cell? ⟨w.heap.size, 0 + i, none⟩ = some (.string (piecesN s)[i]) := by
    unfold World.cell?
    dsimp only
    rw [hb]
    simp [Lib.cellsOf, List.getElem?_append, hi]
  exact hgoal

set_option maxRecDepth 100000 in
set_option maxHeartbeats 3200000 in
theorem implRead_notice (s : ByteArray) (w : World) (hM : Mx w) (hs : s.size ≤ 1000000) :
    Calls Tryd.prog 12 #[.string s] w fun e w' => ∃ v L, e = .returned v ∧ GsOwn w' w.heap.size w.heap.size v L ∧ L.map grp = noticeF s ∧ Below w.heap.size w w' := by
  have HM : Hid (Mx w) := hM
  have HSP : Hid _ := splitN_any s w hM hs
  have HRP : Hid ((readTo lineF (piecesN s) (min 40 (piecesN s).length)).gs = noticeF s) := by show _ = _; rw [read_pieces]; rfl
  have hpl := pieces_len s
  have HZ : Hid (∀ x ∈ (piecesN s).take 40, x.size ≤ 1000000) := fun x hx => by have := pieces_at hx; omega
  clear hM
  generalize piecesN s = Ls at *
  go_enter Tryd.func12, Tryd.ntmps12
  go_wp2_with fail
  refine Calls.mono HSP.out ?_
  rintro e w1 ⟨a0, cap, rfl, hI, hb1⟩
  have HI : Hid (IsStrs w1 a0 cap Ls) := hI
  have HB1 : Hid (Below w.heap.size w w1) := hb1
  have hw1 : w.heap.size ≤ w1.heap.size := hb1.size
  have HM1 : Hid (Mx w1) := HM.out.below hb1
  have HG1 : Hid (GsOwn w1 w1.heap.size w1.heap.size (.slice none 0 0) []) := GsOwn.nil _ _ _
  have HF1 : Hid (Below w1.heap.size w1 w1) := Below.refl _ _
  clear hI hb1 HSP HM
  go_wp2
  go_loopw [3, 4, 12] (fun v b i wr => ∃ (k : Nat) (L : List Gr) (bg : Bool), k ≤ Ls.length ∧ k ≤ 40 ∧ i = .int .i64 (k : Int) ∧ b = .bool bg ∧ Hid (GsOwn wr w1.heap.size w1.heap.size v L) ∧ Hid ((⟨L.map grp, bg⟩ : Nr) = readTo lineF Ls k) ∧ Hid (Below w1.heap.size w1 wr)) (fun _ _ i _ => Ls.length - (intOf i).toNat)
  case atStart => exact ⟨0, [], false, Nat.zero_le _, by omega, rfl, rfl, HG1, rfl, HF1⟩
  case round =>
    obtain ⟨k, L, bg, hk, hk40, rfl, rfl, HG, HR, HB⟩ := hrel
    have hwz : w1.heap.size ≤ wr.heap.size := HB.out.size
    by_cases hlt : k < Ls.length
    · obtain ⟨b, o, e1, c1⟩ := (HI.out.below HB.out).at hlt
      have e1' := e1
      subst e1'
      by_cases h40 : k = 40
      · have HE : Hid (L.map grp = noticeF s) := by
          show _ = _
          rw [← HRP.out, Nat.min_eq_left (by omega), ← h40, ← HR.out]
        have h40b : ((k : Int) == 40) = true := by simp; omega
        have HFB : Hid (Below w.heap.size w wr) := HB1.out.trans (HB.out.mono hw1)
        clear h40
        go_wp2
        go_ret
        exact ⟨u3, rfl, L, ⟨HG.out.1.mono hw1, HG.out.2.1.mono hw1, HG.out.2.2⟩, HE.out, HFB.out⟩
      · have h40b : ((k : Int) == 40) = false := by simp; omega
        have hz : Ls[k].size ≤ 1000000 := HZ.out _ (by
          have : Ls[k] = (Ls.take 40)[k]'(by simp; omega) := by simp
          rw [this]; exact List.getElem_mem _)
        have HST : Hid (readTo lineF Ls (k + 1) = stepF ⟨L.map grp, bg⟩ (lineF Ls[k])) := by
          show _ = _
          rw [read_step hlt, ← HR.out]
        have HOK : Hid (NrOk ⟨L.map grp, bg⟩) := by rw [HR.out]; exact ok_read _ _ _
        have HSZ : Hid (NrSz ⟨L.map grp, bg⟩ 1000) := by rw [HR.out]; exact sz_mono (sz_read _ (fun _ _ h => line_ok h) _ _) (by omega)
        have HRL : Hid _ := fun W hW => readLine_any Ls[k] W hW hz
        clear HR
        generalize lineF Ls[k] = o at *
        go_wp2_with fail
        refine (HRL.out _ (HM1.out.below HB.out)).mono ?_
        rintro e w2 ⟨rfl, hb2⟩
        have HG2 : Hid (GsOwn w2 w1.heap.size w1.heap.size u3 L) := HG.out.below hb2
        have HB2 : Hid (Below w1.heap.size w1 w2) := HB.out.trans (hb2.mono hwz)
        have hwz2 : w1.heap.size ≤ w2.heap.size := HB2.out.size
        clear hb2 HG HB c1
        cases o with
        | none =>
          have HM3 : Hid ((⟨L.map grp, bg⟩ : Nr) = readTo lineF Ls (k + 1)) := HST.out.symm
          have hso : (none : Option Lk).isSome = false := rfl
          go_wp2
          go_roundw
          case rel => exact ⟨k + 1, L, bg, by omega, by omega, by go_num, rfl, HG2, HM3, HB2⟩
          case measure => simp [intOf]; omega
        | some x =>
          have hso : (some x).isSome = true := rfl
          have HADD : Hid _ := implAdd_any w1.heap.size w1.heap.size u3 L bg x w2 HG2.out HOK.out HSZ.out (Nat.le_refl _) hwz2
          have HST2 : Hid (readTo lineF Ls (k + 1) = addF ⟨L.map grp, bg⟩ x) := HST.out
          clear HST
          generalize lkV (some x) = lv at *
          generalize addF ⟨L.map grp, bg⟩ x = S2 at *
          go_wp2_with fail
          refine Calls.mono HADD.out ?_
          rintro e w3 ⟨v3, L3, rfl, hg3, hm3, hf3⟩
          have HG3 : Hid (GsOwn w3 w1.heap.size w1.heap.size v3 L3) := hg3
          have HM3 : Hid ((⟨L3.map grp, S2.bg⟩ : Nr) = readTo lineF Ls (k + 1)) := by show _ = _; rw [hm3, HST2.out]
          have HB3 : Hid (Below w1.heap.size w1 w3) := HB2.out.trans hf3.1
          clear hg3 hm3 hf3
          generalize S2.bg = b3 at *
          go_wp2
          go_roundw
          case rel => exact ⟨k + 1, L3, b3, by omega, by omega, by go_num, rfl, HG3, HM3, HB3⟩
          case measure => simp [intOf]; omega
    · have HE : Hid (L.map grp = noticeF s) := by
        show _ = _
        have e : min 40 Ls.length = k := by omega
        rw [← HRP.out, e, ← HR.out]
      have HFB : Hid (Below w.heap.size w wr) := HB1.out.trans (HB.out.mono hw1)
      go_wp2
      go_ret
      exact ⟨_, L, rfl, ⟨HG.out.1.mono hw1, HG.out.2.1.mono hw1, HG.out.2.2⟩, HE.out, HFB.out⟩

end Go.Proofs.YtacelbhoccckbaaDoor.NiP
