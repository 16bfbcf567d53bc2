/- The model's reading of an address: the whole, walked. -/
import Derived.Test.YtlamhiidpbehnaaDoorRead4
namespace Go.Proofs.YtlamhiidpbehnaaDoor.Rd1
open Go.RowKit Go.Proofs.YtlamhiidpbehnaaDoor.EscM Go.Proofs.YtlamhiidpbehnaaDoor.AddrM Go.Proofs.YtlamhiidpbehnaaDoor.ReadM Go.Proofs.YtlamhiidpbehnaaDoor.St Go.Proofs.YtlamhiidpbehnaaDoor.EscL Go.Proofs.YtlamhiidpbehnaaDoor.PathM Go.Proofs.YtlamhiidpbehnaaDoor.Ad1

theorem small_size {s : ByteArray} (h : s.size ≤ 60) : (bs (smallL s.data.toList)).size ≤ 1000 := by
  rw [bs_size, small_len]
  have : s.data.toList.length = s.size := by simp
  omega
set_option maxRecDepth 100000 in
set_option maxHeartbeats 4000000 in
theorem specWhole_any (rest : ByteArray) (w : World) (hr : rest.size ≤ 60) :
    Calls Tryd.prog 16 #[.string rest] w fun e w' => ∃ (A : Ad) (ok : Bool) (a1 : Option Addr) (c1 : Nat), e = .returned (.tuple #[.agg #[.string A.house, .slice a1 A.parts.length c1, .bool A.asks, .string A.ask], .bool ok]) ∧
      ((ok = true ∧ wholeF rest.data.toList = some A) ∨ (ok = false ∧ wholeF rest.data.toList = none ∧ A = zeroAd)) ∧ Owns w' w.heap.size (.slice a1 A.parts.length c1) A.parts ∧ Below w.heap.size w w' := by
  go_enter Tryd.func16, Tryd.ntmps16
  go_wp2
  go_loop [4, 5, 6] (fun h y i => ∃ k : Nat, k ≤ rest.size ∧ i = .int .i64 (k : Int) ∧ h = .string rest ∧ y = .string ⟨#[]⟩ ∧ Hid (∀ i (hi : i < k) (hi2 : i < rest.data.toList.length), goesOn (rest.data.toList[i]'hi2) = true)) (fun _ _ i => rest.size - (intOf i).toNat)
  case atStart => exact ⟨0, Nat.zero_le _, rfl, rfl, rfl, fun i hi => absurd hi (by omega)⟩
  case round =>
    obtain ⟨k, hk, rfl, rfl, rfl, HN⟩ := hrel
    by_cases hlt : k < rest.size
    · have hlt' : k < rest.data.toList.length := by simpa using hlt
      cases he : goesOn (rest[k]'hlt) with
      | false =>
        have HC : Hid (wholeF rest.data.toList = wayF (bs (smallL (List.take k rest.data.toList))) [] (rest.extract k rest.size)) := by
          show _ = _
          have := while_at _ k hlt' (fun i hi => HN.out i hi (by omega)) he
          unfold wholeF
          rw [this.1, this.2, ext_drop]
        have HZs : Hid ((bs (smallL (List.take k rest.data.toList))).size ≤ 1000) := by
          show _ ≤ _
          rw [bs_size, small_len, List.length_take]
          have : rest.data.toList.length = rest.size := by simp
          omega
        have HHs : Hid ((rest.extract 0 k).size ≤ 60) := by show _ ≤ _; simp; omega
        have HWs : Hid ((rest.extract k rest.size).size ≤ 60) := by show _ ≤ _; simp; omega
        have hb2 : (k : Int) ≤ (rest.size : Int) := by omega
        cases h47 : (((rest[k]'hlt).toNat : Int) == 47) with
        | true =>
          clear he
          go_wp2_with fail
          refine (specSmall_any (rest.extract 0 k) _ (Nat.le_trans HHs.out (by decide))).mono ?_
          rintro e w1 ⟨rfl, hb1⟩
          have HB1 : Hid (Below (w.heap.size + 1) (w.alloc (.cells #[.string ⟨#[]⟩, .slice none 0 0, .bool false, .string ⟨#[]⟩] 25)) w1) := below_one hb1
          clear hb1
          go_wp2_with fail
          refine (specWay_any (bs (smallL (List.take k rest.data.toList))) [] false ⟨#[]⟩ (rest.extract k rest.size) none 0 _ (strs_nil _) HZs.out (by simp) (by simp [sumS]) HWs.out).mono ?_
          rintro e w2 ⟨A, ok, a1, c1, rfl, hans, hO, hb2⟩
          have HANS : Hid _ := hans
          have HO2 : Hid _ := hO
          have hz2 : w.heap.size + 1 ≤ w1.heap.size := by have := HB1.out.size; simp at this; omega
          have HB2 : Hid (Below (w.heap.size + 1) (w.alloc (.cells #[.string ⟨#[]⟩, .slice none 0 0, .bool false, .string ⟨#[]⟩] 25)) w2) := HB1.out.trans (hb2.mono hz2)
          clear hans hO hb2
          have hb2' := HB2.out
          obtain ⟨⟨d0, d1, d2, d3⟩, dz⟩ := one_cells hb2'
          clear hb2'
          go_wp2
          refine bodyPost_ret (v := .tuple #[.agg #[.string A.house, .slice a1 A.parts.length c1, .bool A.asks, .string A.ask], .bool ok]) (by simp [results, Tryd.results16, go_sem, d0, d1, d2, d3]) rfl ?_
          refine ⟨A, ok, a1, c1, rfl, ?_, ?_, ?_⟩
          · rw [HC.out]; exact HANS.out
          · refine Owns.mono (?_ : Owns _ w1.heap.size _ _) (by omega)
            have hO := HO2.out
            iterate 4 refine ownsRow_setCell_below ?_ (by dsimp only; omega) _
            exact hO
          · have hbw : Below w.heap.size w w2 := ((Below.refl _ w).alloc (Nat.le_refl _) _).trans (HB2.out.mono (by omega))
            iterate 4 refine Below.setCell ?_ (by dsimp only; omega) _
            exact hbw
        | false =>
          have h63 : (((rest[k]'hlt).toNat : Int) == 63) = true := by
            unfold goesOn at he; rw [h47] at he; simpa using he
          clear he
          go_wp2_with fail
          refine (specSmall_any (rest.extract 0 k) _ (Nat.le_trans HHs.out (by decide))).mono ?_
          rintro e w1 ⟨rfl, hb1⟩
          have HB1 : Hid (Below (w.heap.size + 1) (w.alloc (.cells #[.string ⟨#[]⟩, .slice none 0 0, .bool false, .string ⟨#[]⟩] 25)) w1) := below_one hb1
          clear hb1
          go_wp2_with fail
          refine (specWay_any (bs (smallL (List.take k rest.data.toList))) [] false ⟨#[]⟩ (rest.extract k rest.size) none 0 _ (strs_nil _) HZs.out (by simp) (by simp [sumS]) HWs.out).mono ?_
          rintro e w2 ⟨A, ok, a1, c1, rfl, hans, hO, hb2⟩
          have HANS : Hid _ := hans
          have HO2 : Hid _ := hO
          have hz2 : w.heap.size + 1 ≤ w1.heap.size := by have := HB1.out.size; simp at this; omega
          have HB2 : Hid (Below (w.heap.size + 1) (w.alloc (.cells #[.string ⟨#[]⟩, .slice none 0 0, .bool false, .string ⟨#[]⟩] 25)) w2) := HB1.out.trans (hb2.mono hz2)
          clear hans hO hb2
          have hb2' := HB2.out
          obtain ⟨⟨d0, d1, d2, d3⟩, dz⟩ := one_cells hb2'
          clear hb2'
          go_wp2
          refine bodyPost_ret (v := .tuple #[.agg #[.string A.house, .slice a1 A.parts.length c1, .bool A.asks, .string A.ask], .bool ok]) (by simp [results, Tryd.results16, go_sem, d0, d1, d2, d3]) rfl ?_
          refine ⟨A, ok, a1, c1, rfl, ?_, ?_, ?_⟩
          · rw [HC.out]; exact HANS.out
          · refine Owns.mono (?_ : Owns _ w1.heap.size _ _) (by omega)
            have hO := HO2.out
            iterate 4 refine ownsRow_setCell_below ?_ (by dsimp only; omega) _
            exact hO
          · have hbw : Below w.heap.size w w2 := ((Below.refl _ w).alloc (Nat.le_refl _) _).trans (HB2.out.mono (by omega))
            iterate 4 refine Below.setCell ?_ (by dsimp only; omega) _
            exact hbw
      | true =>
        have HN2 : Hid (∀ i (hi : i < k + 1) (hi2 : i < rest.data.toList.length), goesOn (rest.data.toList[i]'hi2) = true) := by
          intro i hi hi2
          by_cases e : i = k
          · subst e; exact he
          · exact HN.out i (by omega) hi2
        have h47 : (((rest[k]'hlt).toNat : Int) == 47) = false := by
          unfold goesOn at he; revert he; cases (((rest[k]'hlt).toNat : Int) == 47) <;> simp
        have h63 : (((rest[k]'hlt).toNat : Int) == 63) = false := by
          unfold goesOn at he; rw [h47] at he; simpa using he
        clear he
        go_wp2
        go_round
        case rel => exact ⟨k + 1, by omega, by go_num, rfl, rfl, HN2.out⟩
        case measure => simp [intOf]; omega
    · have HC : Hid (wholeF rest.data.toList = wayF (bs (smallL rest.data.toList)) [] ⟨#[]⟩) := by
        show _ = _
        have := while_all _ (fun i hi => HN.out i (by simp at hi; omega) hi)
        unfold wholeF
        rw [this.1, this.2]
        rfl
      have HHs : Hid (rest.size ≤ 60) := hr
      have HWs : Hid ((⟨#[]⟩ : ByteArray).size ≤ 60) := by show (0:Nat) ≤ 60; omega
      go_wp2_with fail
      refine (specSmall_any rest _ (Nat.le_trans HHs.out (by decide))).mono ?_
      rintro e w1 ⟨rfl, hb1⟩
      have HB1 : Hid (Below (w.heap.size + 1) (w.alloc (.cells #[.string ⟨#[]⟩, .slice none 0 0, .bool false, .string ⟨#[]⟩] 25)) w1) := below_one hb1
      clear hb1
      go_wp2_with fail
      refine (specWay_any (bs (smallL (rest).data.toList)) [] false ⟨#[]⟩ ⟨#[]⟩ none 0 _ (strs_nil _) (small_size HHs.out) (by simp) (by simp [sumS]) HWs.out).mono ?_
      rintro e w2 ⟨A, ok, a1, c1, rfl, hans, hO, hb2⟩
      have HANS : Hid _ := hans
      have HO2 : Hid _ := hO
      have hz2 : w.heap.size + 1 ≤ w1.heap.size := by have := HB1.out.size; simp at this; omega
      have HB2 : Hid (Below (w.heap.size + 1) (w.alloc (.cells #[.string ⟨#[]⟩, .slice none 0 0, .bool false, .string ⟨#[]⟩] 25)) w2) := HB1.out.trans (hb2.mono hz2)
      clear hans hO hb2
      have hb2' := HB2.out
      obtain ⟨⟨d0, d1, d2, d3⟩, dz⟩ := one_cells hb2'
      clear hb2'
      go_wp2
      refine bodyPost_ret (v := .tuple #[.agg #[.string A.house, .slice a1 A.parts.length c1, .bool A.asks, .string A.ask], .bool ok]) (by simp [results, Tryd.results16, go_sem, d0, d1, d2, d3]) rfl ?_
      refine ⟨A, ok, a1, c1, rfl, ?_, ?_, ?_⟩
      · rw [HC.out]; exact HANS.out
      · refine Owns.mono (?_ : Owns _ w1.heap.size _ _) (by omega)
        have hO := HO2.out
        iterate 4 refine ownsRow_setCell_below ?_ (by dsimp only; omega) _
        exact hO
      · have hbw : Below w.heap.size w w2 := ((Below.refl _ w).alloc (Nat.le_refl _) _).trans (HB2.out.mono (by omega))
        iterate 4 refine Below.setCell ?_ (by dsimp only; omega) _
        exact hbw
end Go.Proofs.YtlamhiidpbehnaaDoor.Rd1
