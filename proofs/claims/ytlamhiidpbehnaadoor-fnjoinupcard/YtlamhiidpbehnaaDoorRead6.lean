/- The model's AddrRead. -/
import Derived.Test.YtlamhiidpbehnaaDoorRead5
namespace Go.Proofs.YtlamhiidpbehnaaDoor.Rd1
open Go.RowKit Go.Proofs.YtlamhiidpbehnaaDoor.EscM Go.Proofs.YtlamhiidpbehnaaDoor.AddrM Go.Proofs.YtlamhiidpbehnaaDoor.ReadM Go.Proofs.YtlamhiidpbehnaaDoor.St Go.Proofs.YtlamhiidpbehnaaDoor.EscL Go.Proofs.YtlamhiidpbehnaaDoor.PathM Go.Proofs.YtlamhiidpbehnaaDoor.Ad1

/-- AddrRead, as a function on lists -/
def readF (l : List UInt8) : Option Ad :=
  if 60 < l.length then none else if (cutL 35 l).1.take 2 = [47, 47] then wholeF ((cutL 35 l).1.drop 2) else none
theorem read_long {l : List UInt8} (h : 60 < l.length) : readF l = none := by unfold readF; rw [if_pos h]
theorem read_not {l : List UInt8} (h : ¬ (cutL 35 l).1.take 2 = [47, 47]) : readF l = none := by unfold readF; rw [if_neg h]; split <;> rfl
theorem read_is {l : List UInt8} (h0 : ¬ 60 < l.length) (h : (cutL 35 l).1.take 2 = [47, 47]) : readF l = wholeF ((cutL 35 l).1.drop 2) := by unfold readF; rw [if_neg h0, if_pos h]

/-- what comes back of a reading -/
def Reads (R : Option Ad) (w : World) (e : Ending) (w' : World) : Prop :=
  ∃ (A : Ad) (ok : Bool) (a1 : Option Addr) (c1 : Nat), e = .returned (.tuple #[.agg #[.string A.house, .slice a1 A.parts.length c1, .bool A.asks, .string A.ask], .bool ok]) ∧
      ((ok = true ∧ R = some A) ∨ (ok = false ∧ R = none ∧ A = zeroAd)) ∧ Owns w' w.heap.size (.slice a1 A.parts.length c1) A.parts ∧ Below w.heap.size w w'

set_option maxRecDepth 100000 in
set_option maxHeartbeats 4000000 in
theorem specRead_any (raw : ByteArray) (w : World) (hr : raw.size ≤ 4194304) :
    Calls Tryd.prog 31 #[.string raw] w fun e w' => Reads (readF raw.data.toList) w e w' := by
  have hl : raw.data.toList.length = raw.size := by simp
  have hcl := (cut_len 35 raw.data.toList).1
  have HR1 : Hid (60 < raw.size → readF raw.data.toList = none) := fun h => read_long (by omega)
  have HR2 : Hid (¬ (cutL 35 raw.data.toList).1.take 2 = [47, 47] → readF raw.data.toList = none) := read_not
  have HR3 : Hid (¬ 60 < raw.size → (cutL 35 raw.data.toList).1.take 2 = [47, 47] → readF raw.data.toList = wholeF ((cutL 35 raw.data.toList).1.drop 2)) := fun h0 h => read_is (by omega) h
  have HCUT := fun W => specCut_any raw 35 W hr (by omega) (by omega)
  have hxs : (bs (cutL 35 raw.data.toList).1).size = (cutL 35 raw.data.toList).1.length := bs_size _
  have HTX : Hid ((bs (cutL 35 raw.data.toList).1).data.toList = (cutL 35 raw.data.toList).1) := bs_list _
  generalize (cutL 35 raw.data.toList).1 = x at *
  generalize bs (cutL 35 raw.data.toList).2.1 = y at *
  generalize (cutL 35 raw.data.toList).2.2 = z at *
  generalize bs x = t at *
  have hts : t.size ≤ raw.size := by omega
  have HCU : Hid _ := HCUT
  have HXS : Hid _ := hxs
  clear hl hcl HCUT hxs
  go_enter Tryd.func31, Tryd.ntmps31
  go_wp2_with fail
  refine (HCU.out _).mono ?_
  rintro e w1 ⟨rfl, nq, hw1⟩
  have HB1 : Hid (Below (w.heap.size + 1) (w.alloc (.cells #[.string ⟨#[]⟩, .slice none 0 0, .bool false, .string ⟨#[]⟩] 25)) w1) := by
    subst hw1
    exact ⟨rfl, rfl, rfl, Nat.le_refl _, fun _ _ => rfl⟩
  clear hw1
  have hb1' := HB1.out
  obtain ⟨⟨d0, d1, d2, d3⟩, dz⟩ := one_cells hb1'
  clear hb1'
  by_cases h60 : 60 < raw.size
  · have HNo : Hid (readF raw.data.toList = none) := HR1.out h60
    go_wp2
    refine bodyPost_ret (v := .tuple #[.agg #[.string ⟨#[]⟩, .slice none 0 0, .bool false, .string ⟨#[]⟩], .bool false]) (by simp [results, Tryd.results31, go_sem, d0, d1, d2, d3]) rfl ?_
    refine ⟨zeroAd, false, none, 0, rfl, Or.inr ⟨rfl, HNo.out, rfl⟩, Owns.nil _ _, ?_⟩
    have hbw : Below w.heap.size w w1 := ((Below.refl _ w).alloc (Nat.le_refl _) _).trans (HB1.out.mono (by omega))
    iterate 4 refine Below.setCell ?_ (by dsimp only; omega) _
    exact hbw
  by_cases h2 : t.size < 2
  · have HNo : Hid (readF raw.data.toList = none) := HR2.out (by intro e; have := congrArg List.length e; have := HXS.out; simp at *; omega)
    go_wp2
    refine bodyPost_ret (v := .tuple #[.agg #[.string ⟨#[]⟩, .slice none 0 0, .bool false, .string ⟨#[]⟩], .bool false]) (by simp [results, Tryd.results31, go_sem, d0, d1, d2, d3]) rfl ?_
    refine ⟨zeroAd, false, none, 0, rfl, Or.inr ⟨rfl, HNo.out, rfl⟩, Owns.nil _ _, ?_⟩
    have hbw : Below w.heap.size w w1 := ((Below.refl _ w).alloc (Nat.le_refl _) _).trans (HB1.out.mono (by omega))
    iterate 4 refine Below.setCell ?_ (by dsimp only; omega) _
    exact hbw
  have HE : Hid ((t.extract 0 2).toList = x.take 2) := by
    show _ = _
    rw [ByteArray.toList_eq, ext_take, bs_list, HTX.out]
  cases hp : ((t.extract 0 2).toList == [47, 47]) with
  | false =>
    have HNo : Hid (readF raw.data.toList = none) := HR2.out (by intro e; rw [HE.out, e] at hp; simp at hp)
    go_wp2
    refine bodyPost_ret (v := .tuple #[.agg #[.string ⟨#[]⟩, .slice none 0 0, .bool false, .string ⟨#[]⟩], .bool false]) (by simp [results, Tryd.results31, go_sem, d0, d1, d2, d3]) rfl ?_
    refine ⟨zeroAd, false, none, 0, rfl, Or.inr ⟨rfl, HNo.out, rfl⟩, Owns.nil _ _, ?_⟩
    have hbw : Below w.heap.size w w1 := ((Below.refl _ w).alloc (Nat.le_refl _) _).trans (HB1.out.mono (by omega))
    iterate 4 refine Below.setCell ?_ (by dsimp only; omega) _
    exact hbw
  | true =>
    have HYes : Hid (readF raw.data.toList = wholeF (t.extract 2 t.size).data.toList) := by
      show _ = _
      have e : x.take 2 = [47, 47] := by rw [HE.out] at hp; simpa using hp
      rw [HR3.out h60 e, ext_drop, bs_list, HTX.out]
    have HS2 : Hid ((t.extract 2 t.size).size ≤ 60) := by show _ ≤ _; simp; omega
    go_wp2_with fail
    refine (specWhole_any _ _ HS2.out).mono ?_
    rintro e w2 ⟨A, ok, a1, c1, rfl, hans, hO, hb2⟩
    have HANS : Hid _ := hans
    have HO2 : Hid _ := hO
    have hz2 : w.heap.size + 1 ≤ w1.heap.size := by have := HB1.out.size; simp at this; omega
    have HB2 : Hid (Below (w.heap.size + 1) (w.alloc (.cells #[.string ⟨#[]⟩, .slice none 0 0, .bool false, .string ⟨#[]⟩] 25)) w2) := HB1.out.trans (hb2.mono hz2)
    clear hans hO hb2 d0 d1 d2 d3 dz
    have hb2' := HB2.out
    obtain ⟨⟨d0, d1, d2, d3⟩, dz⟩ := one_cells hb2'
    clear hb2'
    go_wp2
    refine bodyPost_ret (v := .tuple #[.agg #[.string A.house, .slice a1 A.parts.length c1, .bool A.asks, .string A.ask], .bool ok]) (by simp [results, Tryd.results31, go_sem, d0, d1, d2, d3]) rfl ?_
    refine ⟨A, ok, a1, c1, rfl, ?_, ?_, ?_⟩
    · rw [HYes.out]; exact HANS.out
    · refine Owns.mono (?_ : Owns _ w1.heap.size _ _) (by omega)
      have hO := HO2.out
      iterate 4 refine ownsRow_setCell_below ?_ (by dsimp only; omega) _
      exact hO
    · have hbw : Below w.heap.size w w2 := ((Below.refl _ w).alloc (Nat.le_refl _) _).trans (HB2.out.mono (by omega))
      iterate 4 refine Below.setCell ?_ (by dsimp only; omega) _
      exact hbw
end Go.Proofs.YtlamhiidpbehnaaDoor.Rd1
