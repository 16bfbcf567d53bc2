/- What a notice says to a caller: the model's. -/
import Derived.Test.YtbecelblddemkaaGrp2
namespace Go.Proofs.Ytbecelblddemkaa.Gf
open Go.RowKit Go.Proofs.Ytbecelblddemkaa.EscM Go.Proofs.Ytbecelblddemkaa.EscL Go.Proofs.Ytbecelblddemkaa.RuleM Go.Proofs.Ytbecelblddemkaa.St Go.Proofs.Ytbecelblddemkaa.RR Go.Proofs.Ytbecelblddemkaa.LetM Go.Proofs.Ytbecelblddemkaa.Nm Go.Proofs.Ytbecelblddemkaa.GrM Go.Proofs.Ytbecelblddemkaa.Dr

theorem specFI0 (w : World) (s : ByteArray) : FI w (w.heap.size + 1 + 1 + 1) (w.heap.size + 1) (w.heap.size + 1) [] none 0 s ((((w.alloc (.cells #[.slice none 0 0, .slice none 0 0, .int .i64 0] 32)).alloc (.cells #[.string s] 9)).alloc (.cells #[] 44)).alloc (.cells #[.slice (some ⟨w.heap.size + 1, 0, none⟩) 1 1, .slice (some ⟨w.heap.size + 1 + 1, 0, none⟩) 0 0, .int .i64 0] 32)) [] (some ⟨w.heap.size + 1 + 1, 0, none⟩) 0 0 := by
  have s1 : (w.alloc (.cells #[.slice none 0 0, .slice none 0 0, .int .i64 0] 32)).heap.size = w.heap.size + 1 := by simp
  have s2 : ((w.alloc (.cells #[.slice none 0 0, .slice none 0 0, .int .i64 0] 32)).alloc (.cells #[.string s] 9)).heap.size = w.heap.size + 1 + 1 := by simp
  have s3 : (((w.alloc (.cells #[.slice none 0 0, .slice none 0 0, .int .i64 0] 32)).alloc (.cells #[.string s] 9)).alloc (.cells #[] 44)).heap.size = w.heap.size + 1 + 1 + 1 := by simp
  have o1 := Owns.lit1 (w.alloc (.cells #[.slice none 0 0, .slice none 0 0, .int .i64 0] 32)) w.heap.size s (by simp)
  rw [s1] at o1
  have o2 := OwnsR.empty FRu 44 ((w.alloc (.cells #[.slice none 0 0, .slice none 0 0, .int .i64 0] 32)).alloc (.cells #[.string s] 9)) w.heap.size (by simp; omega)
  rw [s2] at o2
  have o3 := Bx.new 32 (((w.alloc (.cells #[.slice none 0 0, .slice none 0 0, .int .i64 0] 32)).alloc (.cells #[.string s] 9)).alloc (.cells #[] 44)) #[.slice (some ⟨w.heap.size + 1, 0, none⟩) 1 1, .slice (some ⟨w.heap.size + 1 + 1, 0, none⟩) 0 0, .int .i64 0]
  rw [s3] at o3
  refine ⟨⟨o3, o2.keep (alloc_keep _ _), (o1.keep (alloc_keep _ _)).keep (alloc_keep _ _)⟩, ⟨OwnsR.nil _ _ _ _, fun b hb => by simp [Value.ownBlock] at hb⟩, ⟨by omega, by omega, by omega⟩, ?_, ((((Bx.new 32 w _).alloc _).alloc _).alloc _)⟩
  exact ((((Below.refl _ w).alloc (Nat.le_refl _) _).alloc (by simp) _).alloc (by simp; omega) _).alloc (by simp; omega) _

set_option maxRecDepth 100000 in
set_option maxHeartbeats 6400000 in
theorem specOf_any (a0 : Option Addr) (cap : Nat) (L : List Gr) (s : ByteArray) (w : World) (hI : IsRows FGr w a0 cap L) (hG : GrsAt w L) (hS : ∀ g ∈ L, GrSz g) (hl : L.length ≤ 1000) (hN : ∀ g ∈ L, 0 ≤ g.wait ∧ g.wait ≤ 1000000) (hR : ∀ g ∈ L, g.ru.length ≤ 1000) :
    Calls Try.prog 27 #[.slice a0 L.length cap, .string s] w fun e w' => ∃ g : Gr, e = .returned (.tuple #[.agg #[.slice g.na g.nm.length g.nc, .slice g.ra g.ru.length g.rc, .int .i64 g.wait], .bool (decide (withL L s ≠ []))]) ∧ g.nm = [s] ∧ g.ru = rulesL (withL L s) ∧ g.wait = waitL (withL L s) ∧ GrOwn w' w.heap.size g ∧ Below w.heap.size w w' := by
  obtain ⟨i0, hi, hz0, hz1, hz2⟩ := info_rule
  have HI : Hid (IsRows FGr w a0 cap L) := hI
  have HG : Hid (GrsAt w L) := hG
  have HS : Hid (∀ g ∈ L, GrSz g) := hS
  have HN : Hid _ := hN
  have HR : Hid _ := hR
  clear hI hG hS hN hR
  go_enter Try.func27, Try.ntmps27
  have HF0 : Hid _ := specFI0 w s
  go_wp2
  obtain ⟨M, hM⟩ : ∃ M, w.heap.size + 1 = M := ⟨_, rfl⟩
  rw [hM] at HF0 ⊢
  obtain ⟨G, hG⟩ : ∃ G, M + 1 + 1 = G := ⟨_, rfl⟩
  rw [hG] at HF0 ⊢
  clear hM hG
  go_loopw [7, 8] (fun v i wr => ∃ (k : Nat) (a3 : Option Addr) (c3 : Nat), k ≤ L.length ∧ i = .int .i64 (k : Int) ∧ v = .bool (decide (withL (L.take k) s ≠ [])) ∧ Hid (FI w G M M [] none 0 s wr (rulesL (withL (L.take k) s)) a3 c3 (waitL (withL (L.take k) s)))) (fun _ i _ => L.length - (intOf i).toNat)
  case atStart => exact ⟨0, _, _, Nat.zero_le _, rfl, rfl, HF0⟩
  case round =>
    obtain ⟨k, a3, c3, hk, rfl, rfl, HF⟩ := hrel
    have hF := HF.out
    obtain ⟨⟨hx, hro, _⟩, _, ⟨hMG, hwG, hwM⟩, hbw, hzb⟩ := hF
    by_cases hlt : k < L.length
    · obtain ⟨b1, off, e1, q0, q1, q2⟩ := gr_at (HI.out.below hbw) hlt
      have hgm : L[k] ∈ L := List.getElem_mem _
      obtain ⟨hw0, hw6⟩ := HN.out L[k] hgm
      have hrl := HR.out L[k] hgm
      have hnl := (HS.out L[k] hgm).1
      have HSN : Hid (withL (L.take (k + 1)) s = if hasB s L[k].nm then withL (L.take k) s ++ [L[k]] else withL (L.take k) s) := with_snoc hlt
      have HNA : Hid (IsStrs wr L[k].na L[k].nc L[k].nm) := ((HG.out.below hbw) L[k] hgm).1
      have HGt : Hid (IsRows FRu wr L[k].ra L[k].rc L[k].ru) := ((HG.out.below hbw) L[k] hgm).2
      have hrb := rules_le (withL (L.take k) s) 1000 (fun g hg => HR.out g (List.mem_of_mem_take (with_mem hg)))
      have hwl : (withL (L.take k) s).length ≤ k := Nat.le_trans with_len (by simp; omega)
      have hwn := wait_nn (withL (L.take k) s)
      have d1 : wr.cell? ⟨G, 1, none⟩ = some (.slice a3 (rulesL (withL (L.take k) s)).length c3) := hx.cell 1 rfl
      have d2 : wr.cell? ⟨G, 2, none⟩ = some (.int .i64 (waitL (withL (L.take k) s))) := hx.cell 2 rfl
      clear hx hro hbw hzb
      subst e1
      generalize hgk : L[k] = g at *
      have HGK : Hid (L[k] = g) := hgk
      clear hgk
      generalize hna : g.na = na at *
      go_wp2
      go_loop [9, 10] (fun h i => ∃ j : Nat, j ≤ g.nm.length ∧ i = .int .i64 (j : Int) ∧ h = .bool (hasB s (g.nm.take j))) (fun _ i => g.nm.length - (intOf i).toNat)
      case atStart => exact ⟨0, Nat.zero_le _, rfl, rfl⟩
      case round =>
        obtain ⟨j, hj, rfl, rfl⟩ := hrel
        by_cases hjl : j < g.nm.length
        · obtain ⟨b2, o2, e2, c3'⟩ := HNA.out.at hjl
          subst e2
          have HJ : Hid (hasB s (g.nm.take (j + 1)) = (hasB s (g.nm.take j) || decide (g.nm[j] = s))) := by
            show _ = _
            unfold hasB
            rw [List.take_succ_eq_append_getElem hjl, List.any_append]; simp
          have HEQ : Hid ((g.nm[j].toList == s.toList) = decide (g.nm[j] = s)) := str_eq_iff _ _
          cases hh : hasB s (g.nm.take j) with
          | true =>
            have HJ2 : Hid (hasB s (g.nm.take (j + 1)) = true) := by show _ = _; rw [HJ.out, hh]; rfl
            go_wp2
            go_round
            case rel => exact ⟨j + 1, by omega, by go_num, by rw [HJ2.out]⟩
            case measure => simp [intOf]; omega
          | false =>
            have HJ2 : Hid (hasB s (g.nm.take (j + 1)) = (g.nm[j].toList == s.toList)) := by show _ = _; rw [HJ.out, hh, HEQ.out]; rfl
            go_wp2
            go_round
            case rel => exact ⟨j + 1, by omega, by go_num, by rw [HJ2.out]⟩
            case measure => simp [intOf]; omega
        · have HTJ : Hid (g.nm.take j = g.nm) := List.take_of_length_le (by omega)
          rw [HTJ.out]
          cases hh : hasB s g.nm with
          | false =>
            have HN1 : Hid (withL (L.take (k + 1)) s = withL (L.take k) s) := by show _ = _; rw [HSN.out, hh]; rfl
            go_wp2
            go_roundw
            case rel => exact ⟨k + 1, a3, c3, by omega, by go_num, by rw [HN1.out], by rw [HN1.out]; exact HF⟩
            case measure => simp [intOf]; omega
          | true =>
            have HN1 : Hid (withL (L.take (k + 1)) s = withL (L.take k) s ++ [g]) := by show _ = _; rw [HSN.out, hh]; rfl
            have HRS : Hid (rulesL (withL (L.take (k + 1)) s) = rulesL (withL (L.take k) s) ++ g.ru) := by show _ = _; rw [HN1.out]; unfold rulesL; simp
            have HWS : Hid (waitL (withL (L.take (k + 1)) s) = max (waitL (withL (L.take k) s)) g.wait) := by show _ = _; rw [HN1.out]; unfold waitL; rw [List.foldl_append]; rfl
            have HFk : Hid (FI w G M M [] none 0 s wr (rulesL (withL (L.take k) s)) a3 c3 (waitL (withL (L.take k) s))) := HF
            generalize rulesL (withL (L.take k) s) = R0 at *
            generalize waitL (withL (L.take k) s) = W0 at *
            obtain ⟨S, hS⟩ : ∃ S, S = R0 ++ g.ru := ⟨_, rfl⟩
            have HS1 : Hid (S = R0 ++ g.ru) := hS
            have HDN : Hid (decide (withL (L.take (k + 1)) s ≠ []) = true) := by show _ = _; rw [HN1.out]; simp
            clear hS
            go_wp2
            have d1d : wr.drew.cell? ⟨G, 1, none⟩ = some (.slice a3 R0.length c3) := d1
            have q1d : wr.drew.cell? ⟨b1, off + k * 3 + 1, none⟩ = some (.slice g.ra g.ru.length g.rc) := q1
            go_region_law
              (first
              | (refine step_app rfl (.tmp 46) (.tmp 51) 30 rfl w.heap.size 44 i0 (.agg #[.bool false, .string ⟨#[]⟩]) 2 24 Try.underlying30 hi hz0 hz1 hz2 rfl (by decide) (.slice a3 R0.length c3) R0.length (FRu.cells R0) rfl (OwnsR.heapEq HFk.out.1.2.1 rfl) g.ra g.ru.length g.rc (FRu.cells g.ru) rfl HGt.out.none (FRu.cells_len _) (HGt.out.newsAny (fun _ _ => rfl)) (FRu.cells_one _) (by unfold maxLen; omega) (by omega) (by have := HFk.out.2.2.2.1.size; simp; omega) ?_
                 intro v4 w4 ho hg0
                 have hg : wr.grownBy w4 (Value.slice a3 R0.length c3).ownBlock := ⟨hg0.os, hg0.tape, hg0.output, hg0.size, fun k hk hr => hg0.block k hk hr⟩
                 have hO4 : OwnsR FRu 44 w4 w.heap.size v4 S := OwnsR.of_row (F := FRu) ho (by rw [HS1.out]; simp) (by rw [HS1.out, FRu.cells_append])
                 obtain ⟨a4, c4, hv, _⟩ := hO4.rows
                 subst hv
                 have hh := HFk.out.rules hO4 hg
                 have HF4 : Hid (FI w G M M [] none 0 s (w4.setCell ⟨G, 1, none⟩ (.slice a4 S.length c4)) S a4 c4 W0) := hh.1
                 have HX4 : Hid (Bx 32 w4 G #[.slice (some ⟨M, 0, none⟩) 1 1, .slice a3 R0.length c3, .int .i64 W0]) := hh.2
                 have g1 : w4.cell? ⟨G, 1, none⟩ = some (.slice a3 R0.length c3) := HX4.out.cell 1 rfl
                 have gz : ∀ j, w4.frozen? ⟨G, j, none⟩ = false := HX4.out.free
                 clear ho hg hg0 hO4 hh)
              | fail)
            all_goals (
              have hh5 := HF4.out
              have hB5 := hh5.2.2.2.1
              obtain ⟨b3, off3, e3, r0, r1, r2⟩ := gr_at (HI.out.below hB5) hlt
              obtain ⟨rfl, rfl⟩ : b1 = b3 ∧ off = off3 := by injection e3 with e3; injection e3 with e4 e5; exact ⟨e4, e5⟩
              have g2 : (w4.setCell ⟨G, 1, none⟩ (.slice a4 S.length c4)).cell? ⟨G, 2, none⟩ = some (.int .i64 W0) := hh5.1.1.cell 2 rfl
              have gz5 : ∀ j, (w4.setCell ⟨G, 1, none⟩ (.slice a4 S.length c4)).frozen? ⟨G, j, none⟩ = false := hh5.1.1.free
              rw [HGK.out] at r2
              clear hh5 hB5 r0 r1 e3 g1 gz d1 d1d q0 q1 q1d q2 d2
              generalize w4.setCell ⟨G, 1, none⟩ (.slice a4 S.length c4) = w5 at *
              have g2d : w5.drew.cell? ⟨G, 2, none⟩ = some (.int .i64 W0) := g2
              have r2d : w5.drew.cell? ⟨b1, off + k * 3 + 2, none⟩ = some (.int .i64 g.wait) := r2
              have gzd : ∀ j, w5.drew.frozen? ⟨G, j, none⟩ = false := gz5
              go_wp2
              go_region_law (fail)
              all_goals (
                have HWE : Hid (waitL (withL (L.take (k + 1)) s) = if W0 < g.wait then g.wait else W0) := by
                  show _ = _
                  rw [HWS.out]
                  split <;> omega
                have HRE : Hid (rulesL (withL (L.take (k + 1)) s) = S) := by show _ = _; rw [HRS.out, HS1.out]
                have HF6 : Hid (FI w G M M [] none 0 s (w5.setCell ⟨G, 2, none⟩ (.int .i64 (if W0 < g.wait then g.wait else W0))).drew S a4 c4 (if W0 < g.wait then g.wait else W0)) := by
                  exact (HF4.out.wait _).drew
                generalize (if W0 < g.wait then g.wait else W0) = W1 at *
                go_wp2
                go_roundw
                case rel => exact ⟨k + 1, a4, c4, by omega, by go_num, by rw [HDN.out], by rw [HRE.out, HWE.out]; exact HF6⟩
                case measure => simp [intOf]; omega))
    · have HE : Hid (L.take k = L) := List.take_of_length_le (by omega)
      rw [HE.out] at hx ⊢
      have HFe : Hid (FI w G M M [] none 0 s wr (rulesL (withL L s)) a3 c3 (waitL (withL L s))) := by
        have h := HF.out
        rw [HE.out] at h; exact h
      have d0 : wr.cell? ⟨G, 0, none⟩ = some (.slice (some ⟨M, 0, none⟩) 1 1) := hx.cell 0 rfl
      have d1 : wr.cell? ⟨G, 1, none⟩ = some (.slice a3 (rulesL (withL L s)).length c3) := hx.cell 1 rfl
      have d2 : wr.cell? ⟨G, 2, none⟩ = some (.int .i64 (waitL (withL L s))) := hx.cell 2 rfl
      have z0 : wr.cell? ⟨w.heap.size, 0, none⟩ = some (.slice none 0 0) := hzb.cell 0 rfl
      have z1 : wr.cell? ⟨w.heap.size, 1, none⟩ = some (.slice none 0 0) := hzb.cell 1 rfl
      have z2 : wr.cell? ⟨w.heap.size, 2, none⟩ = some (.int .i64 0) := hzb.cell 2 rfl
      have zf : ∀ j, wr.frozen? ⟨w.heap.size, j, none⟩ = false := hzb.free
      clear hx hro hbw hzb HF
      go_wp2
      obtain ⟨w4, hw4⟩ : ∃ w4, w4 = ((wr.setCell ⟨w.heap.size, 0, none⟩ (.slice (some ⟨M, 0, none⟩) 1 1)).setCell ⟨w.heap.size, 1, none⟩ (.slice a3 (rulesL (withL L s)).length c3)).setCell ⟨w.heap.size, 2, none⟩ (.int .i64 (waitL (withL L s))) := ⟨_, rfl⟩
      rw [← hw4]
      obtain ⟨ho1, ho2, ho3⟩ := HFe.out.out hw4
      have r0 := ho3.cell 0 rfl
      have r1 := ho3.cell 1 rfl
      have r2 := ho3.cell 2 rfl
      clear hw4 ho3
      refine bodyPost_ret (v := .tuple #[.agg #[.slice (some ⟨M, 0, none⟩) 1 1, .slice a3 (rulesL (withL L s)).length c3, .int .i64 (waitL (withL L s))], .bool (decide (withL L s ≠ []))]) (by simp [results, Try.results27, go_sem, r0, r1, r2]) rfl ?_
      exact ⟨⟨[s], some ⟨M, 0, none⟩, 1, rulesL (withL L s), a3, c3, waitL (withL L s)⟩, rfl, rfl, rfl, rfl, ho1, ho2⟩
end Go.Proofs.Ytbecelblddemkaa.Gf
