/- The model's AddrJoin. -/
import Derived.Test.YtcohaalgefcjnaaGreatDoorJoin1
import Derived.Test.YtcohaalgefcjnaaGreatDoorDraw5Pk
namespace Go.Proofs.YtcohaalgefcjnaaGreatDoor.Jn
open Go.RowKit Go.Proofs.YtcohaalgefcjnaaGreatDoor.EscM Go.Proofs.YtcohaalgefcjnaaGreatDoor.AddrM Go.Proofs.YtcohaalgefcjnaaGreatDoor.ReadM Go.Proofs.YtcohaalgefcjnaaGreatDoor.St Go.Proofs.YtcohaalgefcjnaaGreatDoor.EscL Go.Proofs.YtcohaalgefcjnaaGreatDoor.PathM Go.Proofs.YtcohaalgefcjnaaGreatDoor.Ad1 Go.Proofs.YtcohaalgefcjnaaGreatDoor.Rd1 Go.Proofs.YtcohaalgefcjnaaGreatDoor.JnM Go.Proofs.YtcohaalgefcjnaaGreatDoor.Im

set_option maxRecDepth 100000 in
set_option maxHeartbeats 6400000 in
/-- AddrJoin OF THE MODEL -/
theorem specJoin_any (A : Ad) (ref : ByteArray) (a0 : Option Addr) (cap : Nat) (w : World) (hS : IsStrs w a0 cap A.parts) (hB : bulkA A ≤ 1000) (hr : ref.size ≤ 60) :
    Calls Tryz.prog 116 #[.agg #[.string A.house, .slice a0 A.parts.length cap, .bool A.asks, .string A.ask], .string ref] w fun e w' => Reads (joinF A ref.data.toList) w e w' := by
  obtain ⟨i0, hi, hz0, hz1, hz2'⟩ := info_parts Tryz.infoS
  have hlr : ref.data.toList.length = ref.size := by simp
  have HS : Hid (IsStrs w a0 cap A.parts) := hS
  have hb4 : bulkA A ≤ 4194304 := by omega
  have hpl : A.parts.length ≤ 1000 := by unfold bulkA at hB; omega
  have hps : sumS A.parts ≤ 100000 := by unfold bulkA at hB; omega
  have hhs : A.house.size ≤ 1000 := by unfold bulkA at hB; omega
  have HJ : Hid (joinF A ref.data.toList = if okB A then goF A (bs (cutL 35 ref.data.toList).1).data.toList else none) := by
    show _ = _
    rw [bs_list]
    cases h : okB A with
    | false => exact join_bad h
    | true => exact join_go h (by omega)
  have HC : Hid _ := fun W => specCut_any ref 35 W (by omega) (by omega) (by omega)
  have hts := cut_short hr
  clear hS hlr
  generalize bs (cutL 35 ref.data.toList).1 = t at *
  generalize bs (cutL 35 ref.data.toList).2.1 = u at *
  generalize (cutL 35 ref.data.toList).2.2 = z at *
  generalize joinF A ref.data.toList = R at *
  go_enter Tryz.func116, Tryz.ntmps116
  go_wp2_with fail
  refine (HC.out _).mono ?_
  rintro e w0 ⟨rfl, nq, hw0⟩
  have HB0 : Hid (Below (w.heap.size + 1 + 1) ((w.alloc (.cells #[.string A.house, .slice a0 A.parts.length cap, .bool A.asks, .string A.ask] 28)).alloc (.cells #[.string ⟨#[]⟩, .slice none 0 0, .bool false, .string ⟨#[]⟩] 28)) w0) := by subst hw0; exact below_drewN (Below.refl _ _) nq
  have hb0' := HB0.out
  obtain ⟨⟨c0, c1, c2, c3⟩, ⟨d0, d1, d2, d3⟩, dz⟩ := two_cells hb0'
  have hz0' : w.heap.size + 1 + 1 ≤ w0.heap.size := by have := hb0'.size; simp at this; omega
  clear hw0 hb0' HC
  go_wp2_with fail
  refine (specOk_any A a0 cap _ (HS.out.below (two_below HB0.out)) hb4).mono ?_
  rintro e w2 ⟨rfl, hb2⟩
  have HB2 : Hid _ := two_next HB0.out hb2
  have hz2 : w.heap.size + 1 + 1 ≤ w2.heap.size := Nat.le_trans hz0' hb2.size
  have HS2 : Hid (IsStrs w2 a0 cap A.parts) := HS.out.below (two_below HB2.out)
  clear hb2 HB0 c0 c1 c2 c3 d0 d1 d2 d3 dz
  have hb2' := HB2.out
  obtain ⟨⟨c0, c1, c2, c3⟩, ⟨d0, d1, d2, d3⟩, dz⟩ := two_cells hb2'
  have cz := box_free hb2'
  clear hb2'
  cases hok : okB A with
  | false =>
    have HN : Hid (R = none) := by show _ = _; rw [HJ.out, hok]; rfl
    clear hok
    go_wp2
    refine bodyPost_ret (v := .tuple #[.agg #[.string ⟨#[]⟩, .slice none 0 0, .bool false, .string ⟨#[]⟩], .bool false]) (by simp [results, Tryz.results116, go_sem, d0, d1, d2, d3]) rfl ?_
    refine ⟨zeroAd, false, none, 0, rfl, Or.inr ⟨rfl, HN.out, rfl⟩, Owns.nil _ _, ?_⟩
    have hbw := two_below HB2.out
    iterate 4 refine Below.setCell ?_ (by dsimp only; omega) _
    exact hbw
  | true =>
    have HY : Hid (R = goF A t.data.toList) := by show _ = _; rw [HJ.out, hok]; rfl
    clear hok HJ
    by_cases hp : t.data.toList.take 2 = [47, 47]
    · have h2 : ¬ t.size < 2 := by
        have := congrArg List.length hp
        simp at this; omega
      have he : ((t.extract 0 2).toList == [47, 47]) = true := by rw [pre_ext, hp]; rfl
      have HEX : Hid (t.extract 2 t.size = bs (t.data.toList.drop 2)) := ext_drop t 2
      have HW : Hid (R = wholeF (t.extract 2 t.size).data.toList) := by show _ = _; rw [HY.out, go_whole hp, HEX.out, bs_list]
      have hes : (t.extract 2 t.size).size ≤ 60 := by simp; omega
      have HES : Hid _ := hes
      clear hp hes
      go_wp2_with fail
      refine (specWhole_any _ _ HES.out).mono ?_
      rintro e w4 ⟨B, ok, x1, y1, rfl, hans, hO, hb4⟩
      have HANS : Hid _ := hans
      have HO4 : Hid _ := hO
      have HB4 : Hid _ := two_next HB2.out hb4
      clear hans hO hb4 c0 c1 c2 c3 d0 d1 d2 d3 dz cz
      have hb4' := HB4.out
      obtain ⟨⟨c0, c1, c2, c3⟩, ⟨d0, d1, d2, d3⟩, dz⟩ := two_cells hb4'
      clear hb4'
      go_wp2
      refine bodyPost_ret (v := .tuple #[.agg #[.string B.house, .slice x1 B.parts.length y1, .bool B.asks, .string B.ask], .bool ok]) (by simp [results, Tryz.results116, go_sem, d0, d1, d2, d3]) rfl ?_
      exact reads_end HB4.out HW.out HANS.out HO4.out hz2
    · have hpre : t.size < 2 ∨ (¬ t.size < 2 ∧ ((t.extract 0 2).toList == [47, 47]) = false) := by
        by_cases h2 : t.size < 2
        · exact Or.inl h2
        · refine Or.inr ⟨h2, ?_⟩
          rw [pre_ext]
          exact beq_false_of_ne hp
      by_cases h0 : t.size = 0
      · have ht : t = ⟨#[]⟩ := by
          cases t with
          | mk d => have : d = #[] := Array.eq_empty_of_size_eq_zero h0; rw [this]
        have HW : Hid (R = some A) := by show _ = _; rw [HY.out, ht]; exact go_none
        clear hp hpre
        subst ht
        have hlt2 : w.heap.size < w2.heap.size := by omega
        go_wp2_with (first
          | (at_builtin
             refine wpList_app rfl (.tmp 42) (.tmp 44) 26 rfl w2.heap.size 9 i0 (.string ⟨#[]⟩) 1 16 Tryz.underlying26 hi hz0 hz1 hz2' rfl (by decide) (.slice (some ⟨w2.heap.size, 0, none⟩) 0 0) 0 [] rfl (Owns.empty w2 w2.heap.size (Nat.le_refl _)) a0 A.parts.length cap (cellsS A.parts) rfl HS2.out.none (by simp [cellsS]) (HS2.out.newsAny (alloc_keep _ _)) (cellsS_one _) (by unfold maxLen; omega) (by omega) (by simp) ?_
             intro v3 w3 ho3 hg3
             have hO3 : Owns w3 w2.heap.size v3 A.parts := Owns.of_row ho3 (by simp) (by simp)
             have hbw3 : Below w2.heap.size w2 w3 := Below.grown ((Below.refl _ _).alloc (Nat.le_refl _) _) hg3 (by simp) (by intro k hk; simp [Value.ownBlock] at hk; omega)
             obtain ⟨x1, y1, hv3, hS4⟩ := hO3.strs
             subst hv3
             have HO4 : Hid (Owns w3 w2.heap.size (.slice x1 A.parts.length y1) A.parts) := hO3
             have HB4 : Hid _ := two_next HB2.out hbw3
             clear hO3 hbw3 ho3 hg3 hS4 c0 c1 c2 c3 d0 d1 d2 d3 dz cz
             have hb4' := HB4.out
             obtain ⟨⟨c0, c1, c2, c3⟩, ⟨d0, d1, d2, d3⟩, dz⟩ := two_cells hb4'
             have cz := box_free hb4'
             clear hb4')
          | fail)
        refine bodyPost_ret (v := .tuple #[.agg #[.string A.house, .slice x1 A.parts.length y1, .bool A.asks, .string A.ask], .bool true]) (by simp [results, Tryz.results116, go_sem, d0, d1, d2, d3]) rfl ?_
        refine ⟨A, true, x1, y1, rfl, Or.inl ⟨rfl, HW.out⟩, ?_, ?_⟩
        · refine Owns.mono (?_ : Owns _ w2.heap.size _ _) (by omega)
          have hO := HO4.out
          iterate 5 refine ownsRow_setCell_below ?_ (by dsimp only; omega) _
          exact hO
        · have hbw := two_below HB4.out
          iterate 5 refine Below.setCell ?_ (by dsimp only; omega) _
          exact hbw
      · have ht0 : 0 < t.size := by omega
        have hne : t.toList.isEmpty = false := by
          rw [ByteArray.toList_eq]
          cases hl : t.data.toList with
          | nil => have : t.data.toList.length = t.size := by simp
                   rw [hl] at this; simp at this; omega
          | cons a r => rfl
        have hnil : ¬ t.data.toList = [] := by
          intro e
          have : t.data.toList.length = t.size := by simp
          rw [e] at this; simp at this; omega
        by_cases h47 : ((t[0]'ht0).toNat : Int) = 47
        · have HW : Hid (R = wayF A.house [] t) := by
            show _ = _
            rw [HY.out, go_door hp ((head_0 ht0 47).2 ((byte_is _ 47 47 rfl).1 h47)), bs_data]
          clear hp hnil
          rcases hpre with h2 | ⟨h2, he⟩
          all_goals
            go_wp2_with fail
            refine (specWay_any A.house [] false ⟨#[]⟩ t none 0 _ (strs_nil _) hhs (by simp) (by simp [sumS]) hts).mono ?_
            rintro e w4 ⟨B, ok, x1, y1, rfl, hans, hO, hb4⟩
            have HANS : Hid _ := hans
            have HO4 : Hid _ := hO
            have HB4 : Hid _ := two_next HB2.out hb4
            clear hans hO hb4 c0 c1 c2 c3 d0 d1 d2 d3 dz cz
            have hb4' := HB4.out
            obtain ⟨⟨c0, c1, c2, c3⟩, ⟨d0, d1, d2, d3⟩, dz⟩ := two_cells hb4'
            clear hb4'
            go_wp2
            refine bodyPost_ret (v := .tuple #[.agg #[.string B.house, .slice x1 B.parts.length y1, .bool B.asks, .string B.ask], .bool ok]) (by simp [results, Tryz.results116, go_sem, d0, d1, d2, d3]) rfl ?_
            exact reads_end HB4.out HW.out HANS.out HO4.out hz2
        · have e47 : (((t[0]'ht0).toNat : Int) == 47) = false := beq_false_of_ne h47
          have hn47 : ¬ t.data.toList.head? = some 47 := fun e => h47 ((byte_is _ 47 47 rfl).2 ((head_0 ht0 47).1 e))
          by_cases h63 : ((t[0]'ht0).toNat : Int) = 63
          · have HW : Hid (R = wayF A.house A.parts t) := by
              show _ = _
              rw [HY.out, go_ask ((head_0 ht0 63).2 ((byte_is _ 63 63 rfl).1 h63)), bs_data]
            clear hp hnil hn47
            rcases hpre with h2 | ⟨h2, he⟩
            all_goals
              go_wp2_with fail
              refine (specWay_any A.house A.parts false ⟨#[]⟩ t a0 cap _ HS2.out hhs hpl hps hts).mono ?_
              rintro e w4 ⟨B, ok, x1, y1, rfl, hans, hO, hb4⟩
              have HANS : Hid _ := hans
              have HO4 : Hid _ := hO
              have HB4 : Hid _ := two_next HB2.out hb4
              clear hans hO hb4 c0 c1 c2 c3 d0 d1 d2 d3 dz cz
              have hb4' := HB4.out
              obtain ⟨⟨c0, c1, c2, c3⟩, ⟨d0, d1, d2, d3⟩, dz⟩ := two_cells hb4'
              clear hb4'
              go_wp2
              refine bodyPost_ret (v := .tuple #[.agg #[.string B.house, .slice x1 B.parts.length y1, .bool B.asks, .string B.ask], .bool ok]) (by simp [results, Tryz.results116, go_sem, d0, d1, d2, d3]) rfl ?_
              exact reads_end HB4.out HW.out HANS.out HO4.out hz2
          · have e63 : (((t[0]'ht0).toNat : Int) == 63) = false := beq_false_of_ne h63
            have hn63 : ¬ t.data.toList.head? = some 63 := fun e => h63 ((byte_is _ 63 63 rfl).2 ((head_0 ht0 63).1 e))
            have HW : Hid (R = wayF A.house A.parts.dropLast t) := by
              show _ = _
              rw [HY.out, go_beside hp hnil hn47 hn63, bs_data]
            have hdl : A.parts.dropLast.length ≤ 1000 := by simp; omega
            have hds : sumS A.parts.dropLast ≤ 100000 := Nat.le_trans (sumS_dropLast _) hps
            obtain ⟨D, hD⟩ : ∃ D, A.parts.dropLast = D := ⟨_, rfl⟩
            rw [hD] at HW hdl hds
            have HD : Hid (A.parts.dropLast = D) := hD
            clear hp hnil hn47 hn63 hD
            rcases hpre with h2 | ⟨h2, he⟩
            all_goals
              go_wp2_with fail
              refine (up_any A.house A.asks A.ask A.parts a0 cap _ HS2.out hpl).mono ?_
              rintro e w3 ⟨a3, c3', he3, hO3, hb3⟩
              rw [HD.out] at he3 hO3
              subst he3
              have HS3 : Hid (IsStrs w3 a3 c3' D) := Owns.strsOf hO3
              have HB3 : Hid _ := two_next HB2.out hb3
              have hz3 : w.heap.size + 1 + 1 ≤ w3.heap.size := Nat.le_trans hz2 hb3.size
              clear hO3 hb3 c0 c1 c2 c3 d0 d1 d2 d3 dz cz
              go_wp2_with fail
              refine (specWay_any A.house D false ⟨#[]⟩ t a3 c3' _ HS3.out hhs hdl hds hts).mono ?_
              rintro e w4 ⟨B, ok, x1, y1, rfl, hans, hO, hb4⟩
              have HANS : Hid _ := hans
              have HO4 : Hid _ := hO
              have HB4 : Hid _ := two_next HB3.out hb4
              clear hans hO hb4
              have hb4' := HB4.out
              obtain ⟨⟨c0, c1, c2, c3⟩, ⟨d0, d1, d2, d3⟩, dz⟩ := two_cells hb4'
              clear hb4'
              go_wp2
              refine bodyPost_ret (v := .tuple #[.agg #[.string B.house, .slice x1 B.parts.length y1, .bool B.asks, .string B.ask], .bool ok]) (by simp [results, Tryz.results116, go_sem, d0, d1, d2, d3]) rfl ?_
              exact reads_end HB4.out HW.out HANS.out HO4.out hz3
end Go.Proofs.YtcohaalgefcjnaaGreatDoor.Jn
