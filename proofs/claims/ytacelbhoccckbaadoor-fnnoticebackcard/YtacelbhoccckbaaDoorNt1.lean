/- A notice is written: of the model. -/
import Derived.Test.YtacelbhoccckbaaDoorNt0
import Derived.Test.YtacelbhoccckbaaDoorGrp1
namespace Go.Proofs.YtacelbhoccckbaaDoor.Nt
open Go.RowKit Go.Proofs.YtacelbhoccckbaaDoor.EscM Go.Proofs.YtacelbhoccckbaaDoor.EscL Go.Proofs.YtacelbhoccckbaaDoor.RuleM Go.Proofs.YtacelbhoccckbaaDoor.Ru1 Go.Proofs.YtacelbhoccckbaaDoor.St Go.Proofs.YtacelbhoccckbaaDoor.RR Go.Proofs.YtacelbhoccckbaaDoor.LetM Go.Proofs.YtacelbhoccckbaaDoor.Nm Go.Proofs.YtacelbhoccckbaaDoor.GrM Go.Proofs.YtacelbhoccckbaaDoor.Gp Go.Proofs.YtacelbhoccckbaaDoor.NtM

theorem app_l (l : List UInt8) (s : ByteArray) : (⟨l.toArray⟩ : ByteArray) ++ s = ⟨(l ++ s.data.toList).toArray⟩ := by apply ByteArray.ext; simp
/-- three texts behind what was written -/
theorem app_three (l a b : List UInt8) (s : ByteArray) : (⟨l.toArray⟩ : ByteArray) ++ (⟨a.toArray⟩ : ByteArray) ++ s ++ (⟨b.toArray⟩ : ByteArray) = ⟨(l ++ (a ++ s.data.toList ++ b)).toArray⟩ := by apply ByteArray.ext; simp

set_option maxRecDepth 100000 in
set_option maxHeartbeats 3200000 in
theorem specNText_any (a0 : Option Addr) (cap : Nat) (L : List Gr) (w : World) (hI : IsRows FGr w a0 cap L) (hG : GrsAt w L) (hS : ∀ g ∈ L, GrSz g) (hl : L.length ≤ 1048576) :
    Calls Tryd.prog 9 #[.slice a0 L.length cap] w fun e w' => e = .returned (.string (ntS L)) ∧ Below w.heap.size w w' := by
  have HI : Hid (IsRows FGr w a0 cap L) := hI
  have HG : Hid (GrsAt w L) := hG
  have HS : Hid (∀ g ∈ L, GrSz g) := hS
  clear hI hG hS
  go_enter Tryd.func9, Tryd.ntmps9
  go_wp2_with fail
  refine (specNotice_any a0 cap L _ HI.out HG.out HS.out hl).mono ?_
  rintro e w1 ⟨rfl, hb1⟩
  have HB1 : Hid (Below w.heap.size w w1) := hb1
  clear hb1
  cases hn : noticeB L with
  | false =>
    have HN : Hid (ntS L = ⟨#[]⟩) := by show _ = _; unfold ntS; rw [hn]; rfl
    clear hn
    go_wp2
    go_ret
    exact ⟨ret_str HN.out.symm, HB1.out⟩
  | true =>
  have HN : Hid (ntS L = ⟨(ntText L).toArray⟩) := by show _ = _; unfold ntS; rw [hn]; rfl
  have HSh : Hid (∀ g ∈ L, GrShort g) := (notice_short hn).1
  have HLn : Hid (linesN L ≤ 40) := (notice_short hn).2
  clear hn
  go_wp2
  go_loopw [3, 4] (fun v i wr => ∃ k : Nat, k ≤ L.length ∧ i = .int .i64 (k : Int) ∧ v = .string ⟨(ntText (L.take k)).toArray⟩ ∧ Hid (Below w.heap.size w wr)) (fun _ i _ => L.length - (intOf i).toNat)
  case atStart => exact ⟨0, Nat.zero_le _, rfl, rfl, HB1⟩
  case round =>
    obtain ⟨k, hk, rfl, rfl, HB⟩ := hrel
    by_cases hlt : k < L.length
    · obtain ⟨B, off, e1, c0, c1, c2⟩ := gr_at (IsRows.below HI.out HB.out) hlt
      subst e1
      have HGk : Hid (GrAt wr L[k]) := (HG.out.below HB.out) L[k] (List.getElem_mem _)
      have HSk : Hid (GrShort L[k]) := HSh.out L[k] (List.getElem_mem _)
      have HT : Hid (ntText (L.take (k + 1)) = ntText (L.take k) ++ (ntNames L[k].nm ++ ntRules L[k].ru ++ waitLn L[k].wait)) := text_snoc hlt
      have htl : (ntText (L.take k)).length ≤ 21 * linesN (L.take k) := text_len fun g hg => HSh.out g (List.mem_of_mem_take hg)
      have hrm := lines_room HLn.out hlt
      generalize linesN (L.take k) = m at *
      generalize ntText (L.take k) = T at *
      generalize L[k] = g at *
      have htl2 : T.length ≤ 840 := by omega
      go_wp2
      go_loop [3, 5] (fun v i => ∃ j : Nat, j ≤ g.nm.length ∧ i = .int .i64 (j : Int) ∧ v = .string ⟨(T ++ ntNames (g.nm.take j)).toArray⟩) (fun _ i => g.nm.length - (intOf i).toNat)
      case atStart => exact ⟨0, Nat.zero_le _, rfl, val_str (by simp [ntNames])⟩
      case round =>
        obtain ⟨j, hj, rfl, rfl⟩ := hrel
        have hnl : (ntNames (g.nm.take j)).length ≤ 21 * (g.nm.take j).length := names_len fun s hs => HSk.out.1 s (List.mem_of_mem_take hs)
        rw [List.length_take] at hnl
        by_cases hjl : j < g.nm.length
        · obtain ⟨b2, o2, e2, c3⟩ := HGk.out.1.at hjl
          have hs8 := HSk.out.1 g.nm[j] (List.getElem_mem _)
          have HJ : Hid (ntNames (g.nm.take (j + 1)) = ntNames (g.nm.take j) ++ nameLn g.nm[j]) := names_snoc hjl
          generalize g.na = na at *
          subst e2
          generalize ntNames (g.nm.take j) = U at *
          generalize g.nm[j] = s at *
          have hUl : (T ++ U).length ≤ 840 := by rw [List.length_append]; omega
          generalize hV : T ++ U = V at *
          have HV : Hid (T ++ U = V) := hV
          clear hV
          go_wp2
          go_round
          case rel => exact ⟨j + 1, by omega, by go_num, val_str (by rw [HJ.out, ← List.append_assoc, HV.out]; exact app_three V [99, 97, 108, 108, 101, 114, 32] [10] s)⟩
          case measure => simp [intOf]; omega
        · have e3 : g.nm.take j = g.nm := List.take_of_length_le (by omega)
          rw [e3] at hnl ⊢
          have hnl2 : (ntNames g.nm).length ≤ 21 * g.nm.length := by omega
          clear hnl e3
          generalize ntNames g.nm = N at *
          generalize hX : T ++ N = X at *
          have HX : Hid (T ++ N = X) := hX
          have hXl : X.length ≤ 21 * (m + g.nm.length) := by rw [← hX, List.length_append]; omega
          clear hX
          go_wp2
          go_loop [3, 6] (fun v i => ∃ j : Nat, j ≤ g.ru.length ∧ i = .int .i64 (j : Int) ∧ v = .string ⟨(X ++ ntRules (g.ru.take j)).toArray⟩) (fun _ i => g.ru.length - (intOf i).toNat)
          case atStart => exact ⟨0, Nat.zero_le _, rfl, val_str (by simp [ntRules])⟩
          case round =>
            obtain ⟨j2, hj2, rfl, rfl⟩ := hrel
            have hrl : (ntRules (g.ru.take j2)).length ≤ 21 * (g.ru.take j2).length := rules_len fun s hs => HSk.out.2.1 s (List.mem_of_mem_take hs)
            rw [List.length_take] at hrl
            by_cases hjl2 : j2 < g.ru.length
            · obtain ⟨b2, o2, e2, c3, c4⟩ := ru_at HGk.out.2 hjl2
              have hs16 := HSk.out.2.1 g.ru[j2] (List.getElem_mem _)
              have HJ : Hid (ntRules (g.ru.take (j2 + 1)) = ntRules (g.ru.take j2) ++ (wordL g.ru[j2].lt ++ g.ru[j2].path.data.toList ++ [10])) := rules_snoc hjl2
              generalize g.ra = ra at *
              subst e2
              generalize ntRules (g.ru.take j2) = U at *
              generalize g.ru[j2] = r at *
              have hUl : (X ++ U).length ≤ 840 := by rw [List.length_append]; omega
              generalize hV : X ++ U = V at *
              have HV : Hid (X ++ U = V) := hV
              clear hV
              generalize r.path = s at *
              cases hlt2 : r.lt with
              | true =>
                rw [hlt2] at c3
                have HW : Hid (wordL r.lt = [108, 101, 116, 32]) := by show _ = _; rw [hlt2]; rfl
                clear hlt2
                go_wp2
                go_round
                case rel => exact ⟨j2 + 1, by omega, by go_num, val_str (by rw [HJ.out, HW.out, ← List.append_assoc, HV.out]; exact app_three V [108, 101, 116, 32] [10] s)⟩
                case measure => simp [intOf]; omega
              | false =>
                rw [hlt2] at c3
                have HW : Hid (wordL r.lt = [98, 97, 114, 32]) := by show _ = _; rw [hlt2]; rfl
                clear hlt2
                go_wp2
                go_round
                case rel => exact ⟨j2 + 1, by omega, by go_num, val_str (by rw [HJ.out, HW.out, ← List.append_assoc, HV.out]; exact app_three V [98, 97, 114, 32] [10] s)⟩
                case measure => simp [intOf]; omega
            · have e3 : g.ru.take j2 = g.ru := List.take_of_length_le (by omega)
              rw [e3] at hrl ⊢
              have hrl2 : (ntRules g.ru).length ≤ 21 * g.ru.length := by omega
              clear hrl e3
              generalize ntRules g.ru = R at *
              generalize hY : X ++ R = Y at *
              have HY : Hid (X ++ R = Y) := hY
              have hYl : Y.length ≤ 840 := by rw [← hY, List.length_append]; omega
              clear hY
              have HTY : Hid (∀ W, T ++ (N ++ R ++ W) = Y ++ W) := fun W => by rw [← HY.out, ← HX.out]; simp
              obtain ⟨hw0, hw20⟩ := HSk.out.2.2
              by_cases hwz : 0 < g.wait
              · obtain ⟨n, hn⟩ : ∃ n : Nat, g.wait = (n : Int) := ⟨g.wait.toNat, by omega⟩
                have HW : Hid (waitLn g.wait = [119, 97, 105, 116, 32] ++ decL n ++ [10]) := by
                  show _ = _
                  unfold waitLn; rw [if_pos hwz, hn]; rfl
                rw [hn] at c2 hwz hw0 hw20
                have hdl := dec_len n
                clear hn
                go_wp2_with fail
                refine (specDec_any n _ (by omega)).mono ?_
                rintro e w2 ⟨rfl, hb2⟩
                have HB2 : Hid (Below w.heap.size w w2) := HB.out.trans (hb2.mono HB.out.size)
                clear hb2
                generalize decL n = D at *
                go_wp2
                go_roundw
                case rel => exact ⟨k + 1, by omega, by go_num, val_str (by rw [HT.out, HW.out, HTY.out]; apply ByteArray.ext; simp), HB2⟩
                case measure => simp [intOf]; omega
              · have HW : Hid (waitLn g.wait = []) := by show _ = _; unfold waitLn; rw [if_neg hwz]
                go_wp2
                go_roundw
                case rel => exact ⟨k + 1, by omega, by go_num, val_str (by rw [HT.out, HW.out, HTY.out, List.append_nil]), HB⟩
                case measure => simp [intOf]; omega
    · have e3 : L.take k = L := List.take_of_length_le (by omega)
      rw [e3]
      go_wp2
      go_ret
      exact ⟨ret_str HN.out.symm, HB.out⟩
end Go.Proofs.YtacelbhoccckbaaDoor.Nt
