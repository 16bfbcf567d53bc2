/- The model's WorldReach. -/
import Derived.Test.YtmgcdfmgmpnonaaGreatDoorPgA1Pk
import Derived.Test.YtmgcdfmgmpnonaaGreatDoorAddr1Pk
import Derived.Test.YtmgcdfmgmpnonaaGreatDoorWd5
namespace Go.Proofs.YtmgcdfmgmpnonaaGreatDoor.ReM
open Go.RowKit Go.Proofs.YtmgcdfmgmpnonaaGreatDoor.EscM Go.Proofs.YtmgcdfmgmpnonaaGreatDoor.AddrM Go.Proofs.YtmgcdfmgmpnonaaGreatDoor.ReadM Go.Proofs.YtmgcdfmgmpnonaaGreatDoor.St Go.Proofs.YtmgcdfmgmpnonaaGreatDoor.EscL Go.Proofs.YtmgcdfmgmpnonaaGreatDoor.Ad1 Go.Proofs.YtmgcdfmgmpnonaaGreatDoor.Rd1 Go.Proofs.YtmgcdfmgmpnonaaGreatDoor.RuleM Go.Proofs.YtmgcdfmgmpnonaaGreatDoor.WdM Go.Proofs.YtmgcdfmgmpnonaaGreatDoor.Wd Go.Proofs.YtmgcdfmgmpnonaaGreatDoor.WdN Go.Proofs.YtmgcdfmgmpnonaaGreatDoor.RR Go.Proofs.YtmgcdfmgmpnonaaGreatDoor.LetM Go.Proofs.YtmgcdfmgmpnonaaGreatDoor.Nm Go.Proofs.YtmgcdfmgmpnonaaGreatDoor.GrM Go.Proofs.YtmgcdfmgmpnonaaGreatDoor.RoPg Go.Proofs.YtmgcdfmgmpnonaaGreatDoor.PgM Go.Proofs.YtmgcdfmgmpnonaaGreatDoor.PgA

theorem filter_snoc {S : List ByteArray} {k : Nat} (hk : k < S.length) : putsL [] ((S.take (k + 1)).filter nR) = if nR S[k] then putL (putsL [] ((S.take k).filter nR)) S[k] else putsL [] ((S.take k).filter nR) := by
  rw [List.take_succ_eq_append_getElem hk, List.filter_append]
  split
  · next h => rw [List.filter_cons_of_pos h, List.filter_nil, puts_snoc]
  · next h => rw [List.filter_cons_of_neg h, List.filter_nil, List.append_nil]
theorem puts_len {xs : List ByteArray} : ∀ {T : List ByteArray}, (putsL T xs).length ≤ T.length + xs.length := by
  induction xs with
  | nil => intro T; exact Nat.le_refl _
  | cons x r ih =>
    intro T
    have h1 : (putsL (putL T x) r).length ≤ (putL T x).length + r.length := ih
    have h2 : (putL T x).length ≤ T.length + 1 := by unfold putL; split; omega; simp
    show (putsL (putL T x) r).length ≤ _
    simp only [List.length_cons]; omega
theorem TwoL.cell {w : World} {base n c b o : Nat} {v1 : Value} {L1 L2 : List ByteArray} (h : TwoL w base v1 L1 (.slice (some ⟨b, o, none⟩) n c) L2) {k : Nat} (hk : k < L2.length) : w.cell? ⟨b, o + k, none⟩ = some (.string L2[k]) := by
  obtain ⟨b', o', e, hc⟩ := (Owns.strsOf h.2.1).at hk
  injection e with e
  injection e with e1 e2
  subst e1; subst e2; exact hc
theorem TwoL.form {w : World} {base : Nat} {v1 v2 : Value} {L1 L2 : List ByteArray} (h : TwoL w base v1 L1 v2 L2) : ∃ a c, v2 = .slice a L2.length c := by
  obtain ⟨a, c, e, _⟩ := h.2.1.strs
  exact ⟨a, c, e⟩
/-- one that was made anew is apart from what was there -/
theorem TwoL.fresh {w w' : World} {base : Nat} {v v2 : Value} {L L2 : List ByteArray} (h : Owns w base v L) (h2 : Owns w' w.heap.size v2 L2) (hb : Below w.heap.size w w') (hz : base ≤ w.heap.size) : TwoL w' base v2 L2 v L := by
  refine ⟨Owns.mono h2 hz, Owns.below h hb, fun k hk hk2 => ?_⟩
  have := owns_lt h k hk2
  have := Owns.block h2 k hk
  omega
theorem below_row {b : Nat} {u w w' : World} {row : Option Nat} (h : Below b u w) (hg : w.grownBy w' row) (hz : b ≤ w.heap.size) (hr : ∀ k, row = some k → b ≤ k) : Below b u w' := h.trans (Dr.grown_any b hg hz hr)
theorem puts_take {T F : List ByteArray} {j : Nat} (hj : j < F.length) : putL (putsL T (F.take j)) F[j] = putsL T (F.take (j + 1)) := by
  rw [List.take_succ_eq_append_getElem hj, puts_snoc]

set_option maxRecDepth 100000 in
set_option maxHeartbeats 6400000 in
theorem specReach_any (a0 : Option Addr) (cap : Nat) (L : List Pg) (name : ByteArray) (a2 : Option Addr) (c2 : Nat) (S : List ByteArray) (w : World) (hI : IsRows FPg w a0 cap L) (hS : PgSz L) (hR : PgRd L) (hn : name.size ≤ 4194304) (hSt : IsStrs w a2 c2 S) (hSz : ∀ x ∈ S, x.size ≤ 1000) (hSl : S.length ≤ 1000) :
    Calls Tryz.prog 28 #[.slice a0 L.length cap, .string name, .slice a2 S.length c2] w fun e w' => ∃ v, e = .returned v ∧ Owns w' w.heap.size v (reachW L name S) ∧ Below w.heap.size w w' := by
  have HI : Hid (IsRows FPg w a0 cap L) := hI
  have HST : Hid (IsStrs w a2 c2 S) := hSt
  have HR : Hid (PgRd L) := hR
  obtain ⟨i0, hi, hz0, hz1, hz2⟩ := info_parts Tryz.infoS
  have HSZ : Hid (∀ x ∈ S, x.size ≤ 1000) := hSz
  have HOK : Hid (∀ W, IsRows FPg W a0 cap L → Calls Tryz.prog 23 #[.slice a0 L.length cap] W fun e w' => e = .returned (.bool (wOk L)) ∧ Below W.heap.size W w') := fun W hW => specWorldOk_any a0 cap L W hW hS
  have HNM : Hid (∀ W : World, Calls Tryz.prog 44 #[.string name] W fun e w' => e = .returned (.bool (nameB name)) ∧ w' = W) := fun W => specName_any name W (by unfold maxLen; omega)
  have HNO : Hid ((wOk L && nameB name && decide (S.length ≤ 12)) = false → reachW L name S = []) := reach_no
  have HO0 : Hid (Owns (w.alloc (.cells #[] 9)) w.heap.size (.slice (some ⟨w.heap.size, 0, none⟩) 0 0) []) := Owns.empty w w.heap.size (Nat.le_refl _)
  have HB0 : Hid (Below w.heap.size w (w.alloc (.cells #[] 9))) := (Below.refl _ w).alloc (Nat.le_refl _) _
  clear hI hSt hSz hR
  go_enter Tryz.func28, Tryz.ntmps28
  go_wp2_with fail
  refine (HOK.out _ (HI.out.below HB0.out)).mono ?_
  rintro e w1 ⟨rfl, hb1⟩
  have HO1 : Hid (Owns w1 w.heap.size (.slice (some ⟨w.heap.size, 0, none⟩) 0 0) []) := Owns.below HO0.out hb1
  have HB1 : Hid (Below w.heap.size w w1) := HB0.out.trans (hb1.mono HB0.out.size)
  clear hb1 HO0 HB0
  cases hw : wOk L with
  | false =>
    have HN : Hid (reachW L name S = []) := HNO.out (by rw [hw]; rfl)
    clear hw
    go_wp2
    go_ret
    exact ⟨_, rfl, by rw [HN.out]; exact HO1.out, HB1.out⟩
  | true =>
  have HW : Hid (wOk L = true) := hw
  clear hw
  cases hq : nameB name with
  | false =>
    have HN : Hid (reachW L name S = []) := HNO.out (by rw [hq, Bool.and_false, Bool.false_and])
    rw [hq] at HNM
    clear hq
    go_wp2_with (go_at_call 44; refine (HNM.out _).mono ?_; rintro e w3 ⟨rfl, e1⟩; have e2 := e1.symm; subst e2)
    go_ret
    exact ⟨_, rfl, by rw [HN.out]; exact HO1.out, HB1.out⟩
  | true =>
  have HQ : Hid (nameB name = true) := hq
  rw [hq] at HNM
  clear hq
  by_cases h12 : 12 < S.length
  · have HN : Hid (reachW L name S = []) := HNO.out (by rw [decide_eq_false (by omega), Bool.and_false])
    have hd : decide ((12 : Int) < (S.length : Int)) = true := decide_eq_true (by omega)
    go_wp2_with (go_at_call 44; refine (HNM.out _).mono ?_; rintro e w3 ⟨rfl, e1⟩; have e2 := e1.symm; subst e2)
    go_ret
    exact ⟨_, rfl, by rw [HN.out]; exact HO1.out, HB1.out⟩
  have hd : decide ((12 : Int) < (S.length : Int)) = false := decide_eq_false (by omega)
  have HTW : Hid (TwoL (w1.alloc (.cells #[] 9)) w.heap.size (.slice (some ⟨w.heap.size, 0, none⟩) 0 0) [] (.slice (some ⟨w1.heap.size, 0, none⟩) 0 0) []) := by
    refine ⟨Owns.keep HO1.out (alloc_keep _ _), Owns.empty w1 w.heap.size HB1.out.size, fun k hk hk2 => ?_⟩
    have := owns_lt HO1.out k hk
    have e : w1.heap.size = k := Option.some.inj hk2
    omega
  have HBA : Hid (Below w.heap.size w (w1.alloc (.cells #[] 9))) := HB1.out.alloc HB1.out.size _
  clear HO1 HB1 HNO
  go_wp2_with (go_at_call 44; refine (HNM.out _).mono ?_; rintro e w3 ⟨rfl, e1⟩; have e2 := e1.symm; subst e2)
  go_loopw [8, 9] (fun v i wr => ∃ k : Nat, k ≤ S.length ∧ i = .int .i64 (k : Int) ∧ Hid (TwoL wr w.heap.size (.slice (some ⟨w.heap.size, 0, none⟩) 0 0) [] v (putsL [] ((S.take k).filter nR))) ∧ Hid (Below w.heap.size w wr)) (fun _ i _ => S.length - (intOf i).toNat)
  case atStart => exact ⟨0, Nat.zero_le _, rfl, HTW, HBA⟩
  case round =>
    obtain ⟨k, hk, rfl, HT, HB⟩ := hrel
    have hbw : w.heap.size ≤ wr.heap.size := HB.out.size
    by_cases hlt : k < S.length
    · obtain ⟨b1, o1, e1, c1⟩ := (HST.out.below HB.out).at hlt
      have hsz : S[k].size ≤ 1000 := HSZ.out _ (List.getElem_mem hlt)
      have HE : Hid (putsL [] ((S.take (k + 1)).filter nR) = if nR S[k] then putL (putsL [] ((S.take k).filter nR)) S[k] else putsL [] ((S.take k).filter nR)) := filter_snoc hlt
      have HNB : Hid (nR S[k] = normT S[k]) := (normT_eq _).symm
      have hpl : (putsL [] ((S.take k).filter nR)).length ≤ 1000 := by
        refine Nat.le_trans puts_len ?_
        have := List.length_filter_le nR (S.take k)
        have := List.length_take_le k S
        simp; omega
      have e1' := e1
      subst e1'
      generalize putsL [] ((S.take k).filter nR) = T at *
      generalize S[k] = s at *
      go_wp2_with fail
      refine (specNorm_any s _ (by omega)).mono ?_
      rintro e w4 ⟨rfl, hb4⟩
      have HT4 : Hid (TwoL w4 w.heap.size (.slice (some ⟨w.heap.size, 0, none⟩) 0 0) [] u8 T) := HT.out.below hb4
      have HB4 : Hid (Below w.heap.size w w4) := HB.out.trans (hb4.mono HB.out.size)
      have hbw4 : w.heap.size ≤ w4.heap.size := HB4.out.size
      have HC4 : Hid (w4.cell? ⟨b1, o1 + k, none⟩ = some (.string s)) := (hb4.cell (St.cell_block c1)).trans c1
      clear hb4 HT HB c1
      cases hnt : normT s with
      | false =>
        have HE2 : Hid (putsL [] ((S.take (k + 1)).filter nR) = T) := by show _ = _; rw [HE.out, HNB.out, hnt]; rfl
        clear hnt HNB HE
        go_wp2
        go_roundw
        case rel => exact ⟨k + 1, by omega, by go_num, (by rw [HE2.out]; exact HT4.out), HB4⟩
        case measure => simp [intOf]; omega
      | true =>
        have HE2 : Hid (putsL [] ((S.take (k + 1)).filter nR) = putL T s) := by show _ = _; rw [HE.out, HNB.out, hnt]; rfl
        have c4 := HC4.out
        clear hnt HNB HE
        go_wp2_with fail
        refine (put_any w.heap.size u8 T s _ HT4.out.2.1 hbw4 (by omega)).mono ?_
        rintro e w5 ⟨v5, rfl, hO5, hg5, ha5⟩
        have HT5 : Hid (TwoL w5 w.heap.size (.slice (some ⟨w.heap.size, 0, none⟩) 0 0) [] v5 (putL T s)) := HT4.out.two hg5 hO5 ha5
        have HB5 : Hid (Below w.heap.size w w5) := below_row HB4.out hg5 hbw4 (fun k hk => Owns.block HT4.out.2.1 k hk)
        clear hO5 hg5 ha5
        go_wp2
        go_roundw
        case rel => exact ⟨k + 1, by omega, by go_num, (by rw [HE2.out]; exact HT5.out), HB5⟩
        case measure => simp [intOf]; omega
    · have hk' : k = S.length := by omega
      subst hk'
      have HT0 : Hid (TwoL wr w.heap.size (.slice (some ⟨w.heap.size, 0, none⟩) 0 0) [] u8 (putsL [] (S.filter nR))) := by
        have := HT.out
        rw [List.take_length] at this
        exact this
      have HLI : Hid (LI (okR L name) (fromW L) (reachW L name S) (uR L S) (uR L S).length 0 (putsL [] (S.filter nR)) []) := li_world L name S HW.out HQ.out (by omega)
      have HTN : Hid (∀ x ∈ putsL [] (S.filter nR), nR x = true ∧ x.size ≤ 1000) := by
        intro x hx
        rcases puts_mem.1 hx with hx | hx
        · cases hx
        · obtain ⟨h1, h2⟩ := List.mem_filter.1 hx
          exact ⟨h2, HSZ.out x h1⟩
      have HFU : Hid (∀ x y, y ∈ fromW L x → y ∈ uR L S) := fun _ _ h => from_uni h
      have hul : (uR L S).length ≤ 4000 := uni_bd HW.out (by omega)
      clear HT
      generalize putsL [] (S.filter nR) = T0 at *
      obtain ⟨R, hR⟩ : ∃ R, reachW L name S = R := ⟨_, rfl⟩
      have HRR : Hid (reachW L name S = R) := hR
      rw [hR] at HLI
      clear hR
      generalize uR L S = U at *
      generalize wr = wo at *
      go_wp2
      go_loopw [7, 8, 10] (fun o v i wq => ∃ (k f : Nat) (T out : List ByteArray), i = .int .i64 (k : Int) ∧ k ≤ T.length ∧ out.length ≤ k ∧ Hid (LI (okR L name) (fromW L) R U f k T out) ∧ Hid (∀ x ∈ T, nR x = true ∧ x.size ≤ 1000) ∧ Hid (TwoL wq w.heap.size o out v T) ∧ Hid (Below w.heap.size w wq)) (fun _ _ i _ => U.length - (intOf i).toNat)
      case atStart => exact ⟨0, _, T0, [], rfl, Nat.zero_le _, Nat.zero_le _, HLI, HTN, HT0, HB⟩
      case round =>
        clear HLI HTN HB
        obtain ⟨k, f, T, out, rfl, hk, hol, HLI, HTN, HT, HB⟩ := hrel
        have hTl : T.length ≤ 4000 := by have := li_len HLI.out; omega
        have hTu : T.length ≤ U.length := li_len HLI.out
        have hbw : w.heap.size ≤ wr.heap.size := HB.out.size
        obtain ⟨at0, ct0, hv8⟩ := HT.out.form
        subst hv8
        by_cases hlt : k < T.length
        · have hnx : nR T[k] = true ∧ T[k].size ≤ 1000 := HTN.out _ (List.getElem_mem hlt)
          have hsz := hnx.2
          have HOT : Hid (okR L name T[k] = (!(decide ((kindF L T[k] 2).1 = 3)) && letsW L name T[k])) := ok_text hnx.1
          have HYES : Hid (okR L name T[k] = true → ∃ f', LI (okR L name) (fromW L) R U f' (k + 1) (putsL T (fromW L T[k])) (out ++ [T[k]])) := fun h => li_ok HLI.out hlt h (fun y hy => HFU.out _ _ hy)
          have HNO : Hid (okR L name T[k] = false → ∃ f', LI (okR L name) (fromW L) R U f' (k + 1) T out) := fun h => li_no HLI.out hlt h
          obtain ⟨b1, o1, e1, c1⟩ := (Owns.strsOf HT.out.2.1).at hlt
          subst e1
          clear hnx HLI
          generalize hx : T[k] = x at *
          have HX : Hid (T[k] = x) := hx
          clear hx
          go_wp2_with fail
          refine (specL11Last_any a0 cap L x _ (HI.out.below HB.out)).mono ?_
          rintro e w4 ⟨rfl, hb4⟩
          have HT4 : Hid (TwoL w4 w.heap.size u7 out (.slice (some ⟨b1, o1, none⟩) T.length ct0) T) := HT.out.below hb4
          have HB4 : Hid (Below w.heap.size w w4) := HB.out.trans (hb4.mono HB.out.size)
          have hbw4 : w.heap.size ≤ w4.heap.size := HB4.out.size
          have c4 : w4.cell? ⟨b1, o1 + k, none⟩ = some (.string x) := (hb4.cell (St.cell_block c1)).trans c1
          clear hb4 HT HB c1
          generalize kindF L x 2 = K at *
          obtain ⟨kd, tx⟩ := K
          dsimp only at *
          by_cases h3 : kd = 3
          · obtain ⟨f', hf⟩ := HNO.out (by rw [HOT.out, decide_eq_true h3]; rfl)
            have HL5 : Hid (LI (okR L name) (fromW L) R U f' (k + 1) T out) := hf
            clear hf HYES HNO HOT
            subst h3
            go_wp2
            go_roundw
            case rel => exact ⟨k + 1, f', T, out, by go_num, by omega, by omega, HL5, HTN, HT4, HB4⟩
            case measure => simp [intOf]; omega
          · have e3 : (kd == 3) = false := by simpa using h3
            have e4 : (kd != 3) = true := by simpa using h3
            have HD : Hid (decide (kd = 3) = false) := decide_eq_false h3
            go_wp2_with fail
            refine (specWLets_any a0 cap L name x _ (HI.out.below HB4.out) hS HR.out hn (by omega)).mono ?_
            rintro e w5 ⟨rfl, hb5⟩
            have HT5 : Hid (TwoL w5 w.heap.size u7 out (.slice (some ⟨b1, o1, none⟩) T.length ct0) T) := HT4.out.below hb5
            have HB5 : Hid (Below w.heap.size w w5) := HB4.out.trans (hb5.mono HB4.out.size)
            have hbw5 : w.heap.size ≤ w5.heap.size := HB5.out.size
            have c5 : w5.cell? ⟨b1, o1 + k, none⟩ = some (.string x) := (hb5.cell (St.cell_block c4)).trans c4
            clear hb5 HT4 HB4 c4
            cases hq : letsW L name x with
            | false =>
              obtain ⟨f', hf⟩ := HNO.out (by rw [HOT.out, hq, Bool.and_false])
              have HL5 : Hid (LI (okR L name) (fromW L) R U f' (k + 1) T out) := hf
              clear hf HYES HNO HOT hq
              go_wp2
              go_roundw
              case rel => exact ⟨k + 1, f', T, out, by go_num, by omega, by omega, HL5, HTN, HT5, HB5⟩
              case measure => simp [intOf]; omega
            | true =>
              obtain ⟨f', hf⟩ := HYES.out (by rw [HOT.out, hq, HD.out]; rfl)
              have HL5 : Hid (LI (okR L name) (fromW L) R U f' (k + 1) (putsL T (fromW L x)) (out ++ [x])) := hf
              clear hf HYES HNO HOT hq
              go_wp2_with (at_builtin; refine wpList_append_lies _ rfl _ _ 26 rfl w.heap.size 9 i0 (.string ⟨#[]⟩) 1 16 Tryz.underlying26 hi hz0 hz1 hz2 rfl (by decide) _ _ _ rfl (World.ownsRow.alloc HT5.out.1 _) ⟨w5.heap.size, 0, none⟩ 1 1 [.string x] rfl rfl (cell_one_new _ _ _) ?c2 (by omega) ?c3 ?c4 ?c5 (w5.heap.size + 1) ?c6 ?_)
              case c2 => intro u hu; simp at hu; subst hu; rfl
              case c3 => unfold maxLen; omega
              case c4 => omega
              case c5 => simp; omega
              case c6 => simp
              intro g cg w6 hown' hgrow hat _
              have HO6 : Hid (Owns w6 w.heap.size (.slice (some ⟨g, 0, none⟩) (out.length + 1) cg) (out ++ [x])) := Owns.append hown'
              have hgA : w5.grownBy w6 u7.ownBlock := Dr.grown_trans (Dr.grown_alloc w5 _ _) hgrow
              have HT6 : Hid (TwoL w6 w.heap.size (.slice (some ⟨g, 0, none⟩) (out.length + 1) cg) (out ++ [x]) (.slice (some ⟨b1, o1, none⟩) T.length ct0) T) := by
                refine HT5.out.one hgA HO6.out ?_
                rcases hat with h | h
                · exact Or.inl h.symm
                · exact Or.inr ⟨g, rfl, by omega⟩
              have HB6 : Hid (Below w.heap.size w w6) := below_row HB5.out hgA hbw5 (fun k hk => Owns.block HT5.out.1 k hk)
              have hbw6 : w.heap.size ≤ w6.heap.size := HB6.out.size
              have c6 : w6.cell? ⟨b1, o1 + k, none⟩ = some (.string x) := by
                have := HT6.out.cell hlt
                rw [HX.out] at this; exact this
              clear hown' hgrow hgA hat HT5 HB5 HO6 c5
              go_wp2_with fail
              refine (specFrom_any a0 cap L x _ (HI.out.below HB6.out) hS (by omega)).mono ?_
              rintro e w7 ⟨v7, rfl, hO7, hb7⟩
              have h2 : TwoL w7 w.heap.size v7 (fromW L x) (.slice (some ⟨b1, o1, none⟩) T.length ct0) T := TwoL.fresh HT6.out.2.1 hO7 hb7 hbw6
              obtain ⟨a7, m7, hv7, _⟩ := hO7.strs
              subst hv7
              have HF7 : Hid (TwoL w7 w.heap.size (.slice a7 (fromW L x).length m7) (fromW L x) (.slice (some ⟨b1, o1, none⟩) T.length ct0) T) := h2
              have HT7 : Hid (TwoL w7 w.heap.size (.slice (some ⟨g, 0, none⟩) (out.length + 1) cg) (out ++ [x]) (.slice (some ⟨b1, o1, none⟩) T.length ct0) T) := HT6.out.below hb7
              have HB7 : Hid (Below w.heap.size w w7) := HB6.out.trans (hb7.mono HB6.out.size)
              have hfl : (fromW L x).length ≤ 300 := from_len L x
              have HFN : Hid (∀ y ∈ putsL T (fromW L x), nR y = true ∧ y.size ≤ 1000) := by
                intro y hy
                rcases puts_mem.1 hy with hy | hy
                · exact HTN.out y hy
                · obtain ⟨_, _, _, _, h60⟩ := from_each hy
                  exact ⟨from_norm hy, by omega⟩
              clear h2 hO7 hb7 HT6 HB6 c6 HTN HFU HX
              generalize fromW L x = F at *
              generalize wr = wp at *
              go_wp2
              go_loopw [8, 14] (fun v i wq => ∃ j : Nat, j ≤ F.length ∧ i = .int .i64 (j : Int) ∧ Hid (TwoL wq w.heap.size (.slice (some ⟨g, 0, none⟩) (out.length + 1) cg) (out ++ [x]) v (putsL T (F.take j))) ∧ Hid (TwoL wq w.heap.size (.slice a7 F.length m7) F v (putsL T (F.take j))) ∧ Hid (Below w.heap.size w wq)) (fun _ i _ => F.length - (intOf i).toNat)
              case atStart => exact ⟨0, Nat.zero_le _, rfl, HT7, HF7, HB7⟩
              case round =>
                clear HT7 HF7 HB7
                obtain ⟨j, hj, rfl, HT, HF, HB⟩ := hrel
                have hbw8 : w.heap.size ≤ wr.heap.size := HB.out.size
                by_cases hjl : j < F.length
                · obtain ⟨b3, o3, e3, c3⟩ := (Owns.strsOf HF.out.1).at hjl
                  have hpl : (putsL T (F.take j)).length ≤ 100000 := by
                    refine Nat.le_trans puts_len ?_
                    have := List.length_take_le j F
                    omega
                  have HE : Hid (putL (putsL T (F.take j)) F[j] = putsL T (F.take (j + 1))) := puts_take hjl
                  subst e3
                  generalize F[j] = y at *
                  go_wp2_with fail
                  refine (put_any w.heap.size u8 _ y _ HT.out.2.1 hbw8 hpl).mono ?_
                  rintro e w8 ⟨v8, rfl, hO8, hg8, ha8⟩
                  rw [HE.out] at hO8
                  have HT8 : Hid (TwoL w8 w.heap.size (.slice (some ⟨g, 0, none⟩) (out.length + 1) cg) (out ++ [x]) v8 (putsL T (F.take (j + 1)))) := HT.out.two hg8 hO8 ha8
                  have HF8 : Hid (TwoL w8 w.heap.size (.slice (some ⟨b3, o3, none⟩) F.length m7) F v8 (putsL T (F.take (j + 1)))) := HF.out.two hg8 hO8 ha8
                  have HB8 : Hid (Below w.heap.size w w8) := below_row HB.out hg8 hbw8 (fun k hk => Owns.block HT.out.2.1 k hk)
                  clear hO8 hg8 ha8
                  go_wp2
                  go_roundw
                  case rel => exact ⟨j + 1, by omega, by go_num, HT8, HF8, HB8⟩
                  case measure => simp [intOf]; omega
                · have hj' : j = F.length := by omega
                  subst hj'
                  rw [List.take_length] at HT
                  go_wp2
                  go_roundw
                  case rel => exact ⟨k + 1, f', putsL T F, out ++ [x], by go_num, by have := (puts_pre (xs := F) T).length_le; omega, by simp; omega, HL5, HFN, HT, HB⟩
                  case measure => simp [intOf]; omega
        · have HE : Hid (R = out) := li_end HLI.out (by omega)
          go_wp2
          go_ret
          exact ⟨_, rfl, by rw [HRR.out, HE.out]; exact HT.out.1, HB.out⟩
end Go.Proofs.YtmgcdfmgmpnonaaGreatDoor.ReM
