/- A notice is read: of the model, whole. -/
import Derived.Test.YtmgcdfmgmpnonaaGreatDoorNr1c
namespace Go.Proofs.YtmgcdfmgmpnonaaGreatDoor.NrS
open Go.RowKit Go.Proofs.YtmgcdfmgmpnonaaGreatDoor.EscM Go.Proofs.YtmgcdfmgmpnonaaGreatDoor.EscL Go.Proofs.YtmgcdfmgmpnonaaGreatDoor.RuleM Go.Proofs.YtmgcdfmgmpnonaaGreatDoor.Ru1 Go.Proofs.YtmgcdfmgmpnonaaGreatDoor.ReadM Go.Proofs.YtmgcdfmgmpnonaaGreatDoor.Rd1 Go.Proofs.YtmgcdfmgmpnonaaGreatDoor.St Go.Proofs.YtmgcdfmgmpnonaaGreatDoor.RR Go.Proofs.YtmgcdfmgmpnonaaGreatDoor.LetM Go.Proofs.YtmgcdfmgmpnonaaGreatDoor.Nm Go.Proofs.YtmgcdfmgmpnonaaGreatDoor.GrM Go.Proofs.YtmgcdfmgmpnonaaGreatDoor.Dr Go.Proofs.YtmgcdfmgmpnonaaGreatDoor.NrM Go.Proofs.YtmgcdfmgmpnonaaGreatDoor.NrW

theorem word_is (s : ByteArray) (l m : List UInt8) (h : s.data.toList = l) (hm : l = m) : (s.toList == m) = true := by rw [wd_iff]; exact decide_eq_true (h.trans hm)
theorem word_not (s : ByteArray) (m : List UInt8) (h : s.data.toList ≠ m) : (s.toList == m) = false := by rw [wd_iff]; exact decide_eq_false h
theorem says_c {wd rs : ByteArray} (h : wd.data.toList = wCall) (hc : callB rs = true) : saysF wd rs = some (.c rs) := by unfold saysF; rw [if_pos ⟨h, hc⟩]
theorem says_cn {wd rs : ByteArray} (h : wd.data.toList = wCall) (hc : callB rs = false) : saysF wd rs = none := by
  unfold saysF
  rw [if_neg (fun e => by rw [hc] at e; exact absurd e.2 (by decide)), if_neg (fun e => by rw [h] at e; exact absurd e.1 (by decide)), if_neg (fun e => by rw [h] at e; exact absurd e.1 (by decide)), if_neg (fun e => by rw [h] at e; exact absurd e (by decide))]
theorem says_l {wd rs : ByteArray} (h : wd.data.toList = wLet) : saysF wd rs = if ruleL rs.data.toList = true then some (.r ⟨true, rs⟩) else none := by
  unfold saysF
  rw [if_neg (fun e => by rw [h] at e; exact absurd e.1 (by decide))]
  by_cases hr : ruleL rs.data.toList = true
  · rw [if_pos ⟨h, hr⟩, if_pos hr]
  · rw [if_neg (fun e => hr e.2), if_neg (fun e => hr e.2), if_neg (fun e => by rw [h] at e; exact absurd e (by decide)), if_neg hr]
theorem says_b {wd rs : ByteArray} (h : wd.data.toList = wBar) : saysF wd rs = if ruleL rs.data.toList = true then some (.r ⟨false, rs⟩) else none := by
  unfold saysF
  rw [if_neg (fun e => by rw [h] at e; exact absurd e.1 (by decide)), if_neg (fun e => by rw [h] at e; exact absurd e.1 (by decide))]
  by_cases hr : ruleL rs.data.toList = true
  · rw [if_pos ⟨h, hr⟩, if_pos hr]
  · rw [if_neg (fun e => hr e.2), if_neg (fun e => by rw [h] at e; exact absurd e (by decide)), if_neg hr]
theorem says_w {wd rs : ByteArray} (h : wd.data.toList = wWait) : saysF wd rs = some (.t (numF rs.data.toList)) := by
  unfold saysF
  rw [if_neg (fun e => by rw [h] at e; exact absurd e.1 (by decide)), if_neg (fun e => by rw [h] at e; exact absurd e.1 (by decide)), if_neg (fun e => by rw [h] at e; exact absurd e.1 (by decide)), if_pos h]
theorem says_no {wd rs : ByteArray} (h1 : wd.data.toList ≠ wCall) (h2 : wd.data.toList ≠ wLet) (h3 : wd.data.toList ≠ wBar) (h4 : wd.data.toList ≠ wWait) : saysF wd rs = none := by
  unfold saysF
  rw [if_neg (fun e => h1 e.1), if_neg (fun e => h2 e.1), if_neg (fun e => h3 e.1), if_neg h4]
theorem step_nil {wd rs : ByteArray} {bg : Bool} (h : wd.data.toList ≠ wCall) : stepF ⟨[], bg⟩ (saysF wd rs) = ⟨[], bg⟩ := by
  by_cases h2 : wd.data.toList = wLet
  · rw [says_l h2]; split <;> rfl
  by_cases h3 : wd.data.toList = wBar
  · rw [says_b h3]; split <;> rfl
  by_cases h4 : wd.data.toList = wWait
  · rw [says_w h4]; rfl
  · rw [says_no h h2 h3 h4]; rfl

theorem specLine_any (base base2 : Nat) (v : Value) (L : List Gr) (bg : Bool) (wd rs : ByteArray) (w : World) (h : GsOwn w base base2 v L) (hok : NrOk ⟨L.map grp, bg⟩) (hsz : NrSz ⟨L.map grp, bg⟩ 1000) (hbb : base ≤ base2) (hb2 : base2 ≤ w.heap.size) (hr : rs.size ≤ 4194304) :
    Calls Tryz.prog 114 #[v, .string wd, .string rs, .bool bg] w fun e w' => Read base base2 w (stepF ⟨L.map grp, bg⟩ (saysF wd rs)) e w' := by
  rcases List.eq_nil_or_concat L with rfl | ⟨M, g, e⟩
  · by_cases h1 : wd.data.toList = wCall
    · cases hc : callB rs with
      | true =>
        rw [says_c h1 hc]
        show Calls _ _ _ _ fun e w' => Read base base2 w (addF ⟨[], bg⟩ (.c rs)) e w'
        rw [add_c, if_pos (Or.inl rfl)]
        cases bg with
        | true => exact line_new base base2 v [] wd rs w h (by omega) hb2 (by simp) hr (word_is _ _ _ h1 rfl) hc
        | false => exact line_new0 base base2 v wd rs w h (by omega) hb2 hr (word_is _ _ _ h1 rfl) hc
      | false =>
        rw [says_cn h1 hc]
        exact skip0_call base base2 v bg wd rs w h hr (word_is _ _ _ h1 rfl) hc
    · rw [show (⟨List.map grp [], bg⟩ : Nr) = ⟨[], bg⟩ from rfl, step_nil h1]
      exact skip0_other base base2 v bg wd rs w h hr (word_not _ _ h1)
  · rw [List.concat_eq_append] at e
    subst e
    have hMl : M.length ≤ 1000 := by have := hsz.1; simp at this; omega
    have hgs := hsz.2 (grp g) (by simp)
    have hnm : g.nm.length ≤ 1000 := hgs.1
    have hS : ∀ S : Nr, S = ⟨(M ++ [g]).map grp, bg⟩ → S.gs ≠ [] := by rintro S rfl; exact map_ne M g
    by_cases h1 : wd.data.toList = wCall
    · cases hc : callB rs with
      | true =>
        rw [says_c h1 hc]
        show Calls _ _ _ _ fun e w' => Read base base2 w (addF ⟨(M ++ [g]).map grp, bg⟩ (.c rs)) e w'
        rw [add_c]
        cases bg with
        | true =>
          rw [if_pos (Or.inr rfl)]
          exact line_new base base2 v (M ++ [g]) wd rs w h (by omega) hb2 (by simp; have := hsz.1; simp at this; omega) hr (word_is _ _ _ h1 rfl) hc
        | false =>
          rw [if_neg (fun e => by rcases e with e | e; exact map_ne M g e; cases e)]
          dsimp only
          rw [map_last, map_drop]
          exact line_name base base2 M.length v M g wd rs w rfl h hbb hb2 hMl hnm hr (word_is _ _ _ h1 rfl) hc
      | false =>
        rw [says_cn h1 hc]
        exact skipM_call base base2 M.length v M g bg wd rs w rfl h hMl hr (word_is _ _ _ h1 rfl) (word_not _ _ (by rw [h1]; decide)) (word_not _ _ (by rw [h1]; decide)) (word_not _ _ (by rw [h1]; decide)) hc
    · by_cases h2 : wd.data.toList = wLet
      · rw [says_l h2]
        cases hc : ruleL rs.data.toList with
        | true =>
          rw [if_pos rfl]
          show Calls _ _ _ _ fun e w' => Read base base2 w (addF ⟨(M ++ [g]).map grp, bg⟩ (.r ⟨true, rs⟩)) e w'
          rw [add_r, if_neg (map_ne M g)]
          dsimp only
          rw [map_last, map_drop]
          by_cases h6 : g.ru.length < 6
          · rw [if_pos (show (grp g).2.1.length < 6 from h6)]
            exact line_let base base2 M.length v M g bg wd rs w rfl h hbb hb2 hMl hr (word_not _ _ h1) (word_is _ _ _ h2 rfl) (word_not _ _ (by rw [h2]; decide)) (word_not _ _ (by rw [h2]; decide)) hc h6
          · rw [if_neg (show ¬ (grp g).2.1.length < 6 from h6)]
            have hb : bg = true := hok.2 (by dsimp only; rw [map_last]; intro e; have e' : g.ru = [] := e; rw [e'] at h6; simp at h6)
            subst hb
            exact full_let base base2 M.length v M g true wd rs w rfl h hMl hr (word_not _ _ h1) (word_is _ _ _ h2 rfl) (word_not _ _ (by rw [h2]; decide)) (word_not _ _ (by rw [h2]; decide)) hc (by omega)
        | false =>
          rw [if_neg (by decide)]
          exact skipM_let base base2 M.length v M g bg wd rs w rfl h hMl hr (word_not _ _ h1) (word_is _ _ _ h2 rfl) (word_not _ _ (by rw [h2]; decide)) (word_not _ _ (by rw [h2]; decide)) hc
      · by_cases h3 : wd.data.toList = wBar
        · rw [says_b h3]
          cases hc : ruleL rs.data.toList with
          | true =>
            rw [if_pos rfl]
            show Calls _ _ _ _ fun e w' => Read base base2 w (addF ⟨(M ++ [g]).map grp, bg⟩ (.r ⟨false, rs⟩)) e w'
            rw [add_r, if_neg (map_ne M g)]
            dsimp only
            rw [map_last, map_drop]
            by_cases h6 : g.ru.length < 6
            · rw [if_pos (show (grp g).2.1.length < 6 from h6)]
              exact line_bar base base2 M.length v M g bg wd rs w rfl h hbb hb2 hMl hr (word_not _ _ h1) (word_not _ _ h2) (word_is _ _ _ h3 rfl) (word_not _ _ (by rw [h3]; decide)) hc h6
            · rw [if_neg (show ¬ (grp g).2.1.length < 6 from h6)]
              have hb : bg = true := hok.2 (by dsimp only; rw [map_last]; intro e; have e' : g.ru = [] := e; rw [e'] at h6; simp at h6)
              subst hb
              exact full_bar base base2 M.length v M g true wd rs w rfl h hMl hr (word_not _ _ h1) (word_not _ _ h2) (word_is _ _ _ h3 rfl) (word_not _ _ (by rw [h3]; decide)) hc (by omega)
          | false =>
            rw [if_neg (by decide)]
            exact skipM_bar base base2 M.length v M g bg wd rs w rfl h hMl hr (word_not _ _ h1) (word_not _ _ h2) (word_is _ _ _ h3 rfl) (word_not _ _ (by rw [h3]; decide)) hc
        · by_cases h4 : wd.data.toList = wWait
          · rw [says_w h4]
            show Calls _ _ _ _ fun e w' => Read base base2 w (addF ⟨(M ++ [g]).map grp, bg⟩ (.t (numF rs.data.toList))) e w'
            rw [add_t, if_neg (map_ne M g)]
            dsimp only
            rw [map_last, map_drop]
            exact line_wait base base2 M.length v M g bg wd rs w rfl h hbb hb2 hMl hr (word_not _ _ h1) (word_not _ _ h2) (word_not _ _ h3) (word_is _ _ _ h4 rfl)
          · rw [says_no h1 h2 h3 h4]
            exact skipM_none base base2 M.length v M g bg wd rs w rfl h hMl hr (word_not _ _ h1) (word_not _ _ h2) (word_not _ _ h3) (word_not _ _ h4)
theorem GsOwn_mono2 {w : World} {base base2 base3 : Nat} {v : Value} {L : List Gr} (h : GsOwn w base base2 v L) (hb : base3 ≤ base2) : GsOwn w base base3 v L := ⟨h.1, h.2.1.mono hb, h.2.2⟩
theorem cut_le (s : ByteArray) : (restF s).size ≤ s.size := by
  unfold restF
  rw [bs_size]
  have := (cut_len 32 s.data.toList).1
  simp at this; omega
theorem says_okM {s : ByteArray} {x : Lk} (h : lineM s = some x) : LkOk x := says_ok h
theorem split_at (c : Int) : ∀ l : List UInt8, ∀ x ∈ splitL c l, x.length ≤ l.length := by
  intro l
  induction l with
  | nil => intro x hx; simp [splitL] at hx; subst hx; exact Nat.le_refl _
  | cons b r ih =>
    intro x hx
    rw [split_cons] at hx
    split at hx
    · rcases List.mem_cons.1 hx with rfl | hx
      · exact Nat.zero_le _
      · have := ih x hx; simp; omega
    · rcases List.mem_cons.1 hx with rfl | hx
      · have hne := split_ne c r
        cases hs : splitL c r with
        | nil => exact absurd hs hne
        | cons y t =>
          have := ih y (by rw [hs]; exact List.mem_cons_self ..)
          simp; omega
      · have := ih x (List.mem_of_mem_tail hx); simp; omega
theorem splitS_at {c : Int} {s x : ByteArray} (h : x ∈ splitS c s) : x.size ≤ s.size := by
  unfold splitS at h
  obtain ⟨l, hl, rfl⟩ := List.mem_map.1 h
  have := split_at c _ l hl
  rw [bs_size]; simpa using this

set_option maxRecDepth 100000 in
set_option maxHeartbeats 3200000 in
theorem specRead_notice (s : ByteArray) (w : World) (hs : s.size ≤ 1000000) :
    Calls Tryz.prog 80 #[.string s] w fun e w' => ∃ v L, e = .returned v ∧ GsOwn w' w.heap.size w.heap.size v L ∧ L.map grp = (readTo lineM (splitS 10 s) (min 40 (splitS 10 s).length)).gs ∧ Below w.heap.size w w' := by
  go_enter Tryz.func80, Tryz.ntmps80
  go_wp2_with fail
  refine (specSplit_any s 10 _ hs (by decide) (by decide)).mono ?_
  rintro e w1 ⟨v1, rfl, hO, hb1⟩
  obtain ⟨a0, cap, hv1, hI⟩ := hO.strs
  subst hv1
  have hLn : (splitS 10 s).length ≤ 1000001 := by
    have := split_len 10 s.data.toList
    unfold splitS; simp at this ⊢; omega
  have HZ : Hid (∀ x ∈ splitS 10 s, x.size ≤ 1000000) := fun x hx => by have := splitS_at hx; omega
  generalize hLs : splitS 10 s = Ls at *
  have HLs : Hid (splitS 10 s = Ls) := hLs
  clear hLs
  have HB0 : Hid (Below w.heap.size w w1) := ((Below.refl _ w).alloc (Nat.le_refl _) _).trans (hb1.mono (by simp))
  have HG0 : Hid (GsOwn w1 w.heap.size w1.heap.size (.slice (some ⟨w.heap.size, 0, none⟩) 0 0) []) := (GsOwn.empty w w1.heap.size).below hb1
  have HO0 : Hid (Owns w1 (w.heap.size + 1) (.slice a0 Ls.length cap) Ls) := by
    have := hO
    rwa [show (w.alloc (.cells #[] 29)).heap.size = w.heap.size + 1 by simp] at this
  have HLT : Hid (∀ k, (Value.slice a0 Ls.length cap).ownBlock = some k → k < w1.heap.size) := own_lt hO
  have hw1 : w.heap.size ≤ w1.heap.size := HB0.out.size
  clear hO hI hb1
  go_wp2
  go_loopw [3, 4, 6] (fun v b i wr => ∃ (k : Nat) (L : List Gr) (bg : Bool), k ≤ Ls.length ∧ k ≤ 40 ∧ i = .int .i64 (k : Int) ∧ b = .bool bg ∧ Hid (GsOwn wr w.heap.size w1.heap.size v L) ∧ Hid ((⟨L.map grp, bg⟩ : Nr) = readTo lineM Ls k) ∧ Hid (Owns wr (w.heap.size + 1) (.slice a0 Ls.length cap) Ls) ∧ Hid (Below w.heap.size w wr) ∧ w1.heap.size ≤ wr.heap.size) (fun _ _ i _ => Ls.length - (intOf i).toNat)
  case atStart => exact ⟨0, [], false, Nat.zero_le _, by omega, rfl, rfl, HG0, rfl, HO0, HB0, Nat.le_refl _⟩
  case round =>
    obtain ⟨k, L, bg, hk, hk40, rfl, rfl, HG, HR, HO, HB, hsz⟩ := hrel
    by_cases hlt : k < Ls.length
    · by_cases h40 : k < 40
      · obtain ⟨b, o, e1, c1⟩ := HO.out.strsOf.at hlt
        have e1' := e1
        subst e1'
        have hz := HZ.out Ls[k] (List.getElem_mem hlt)
        have hcl := cut_le Ls[k]
        have HST : Hid (readTo lineM Ls (k + 1) = stepF ⟨L.map grp, bg⟩ (saysF (wordF Ls[k]) (restF Ls[k]))) := by
          show _ = _
          rw [read_step hlt, ← HR.out]; rfl
        have HOK : Hid (NrOk ⟨L.map grp, bg⟩) := by rw [HR.out]; exact ok_read _ _ _
        have HSZ : Hid (NrSz ⟨L.map grp, bg⟩ 1000) := by rw [HR.out]; exact sz_mono (sz_read _ (fun _ _ h => says_okM h) _ _) (by omega)
        clear HR
        go_wp2_with fail
        refine (specCut_any Ls[k] 32 _ (by omega) (by decide) (by decide)).mono ?_
        rintro e w2 ⟨rfl, n, rfl⟩
        have HG2 : Hid (GsOwn (wr.drewN n) w.heap.size w1.heap.size u3 L) := HG.out.keep fun _ _ => rfl
        have HO2 : Hid (Owns (wr.drewN n) (w.heap.size + 1) (.slice (some ⟨b, o, none⟩) Ls.length cap) Ls) := Owns.keep HO.out fun _ _ => rfl
        have HB2 : Hid (Below w.heap.size w (wr.drewN n)) := below_drewN HB.out n
        have hsz2 : w1.heap.size ≤ (wr.drewN n).heap.size := hsz
        have ew : bs (cutL 32 Ls[k].data.toList).1 = wordF Ls[k] := rfl
        have er : bs (cutL 32 Ls[k].data.toList).2.1 = restF Ls[k] := rfl
        rw [ew, er]
        clear ew er HG HO HB c1
        generalize wr.drewN n = w2 at *
        generalize wordF Ls[k] = wd at *
        generalize restF Ls[k] = rs at *
        generalize (cutL 32 Ls[k].data.toList).2.2 = bb at *
        go_wp2_with fail
        refine (specLine_any w.heap.size w1.heap.size u3 L bg wd rs _ HG2.out HOK.out HSZ.out hw1 hsz2 (by omega)).mono ?_
        rintro e w3 ⟨v3, L3, rfl, hg3, hm3, hf3⟩
        have HG3 : Hid (GsOwn w3 w.heap.size w1.heap.size v3 L3) := hg3
        have HM3 : Hid ((⟨L3.map grp, (stepF ⟨L.map grp, bg⟩ (saysF wd rs)).bg⟩ : Nr) = readTo lineM Ls (k + 1)) := by show _ = _; rw [hm3, HST.out]
        have HO3 : Hid (Owns w3 (w.heap.size + 1) (.slice (some ⟨b, o, none⟩) Ls.length cap) Ls) := hf3.rows HO2.out HLT.out
        have HB3 : Hid (Below w.heap.size w w3) := HB2.out.trans hf3.1
        have hsz3 : w1.heap.size ≤ w3.heap.size := by have := hf3.1.size; omega
        clear hg3 hm3 hf3 HST HOK HSZ
        generalize (stepF ⟨L.map grp, bg⟩ (saysF wd rs)).bg = b3 at *
        go_wp2
        go_roundw
        case rel => exact ⟨k + 1, L3, b3, by omega, by omega, by go_num, rfl, HG3, HM3, HO3, HB3, hsz3⟩
        case measure => simp [intOf]; omega
      · have hk4 : k = 40 := by omega
        subst hk4
        have HE : Hid (L.map grp = (readTo lineM Ls (min 40 Ls.length)).gs) := by
          show _ = _
          rw [Nat.min_eq_left (by omega), ← HR.out]
        go_wp2
        go_ret
        exact ⟨_, L, rfl, GsOwn_mono2 HG.out hw1, by rw [HLs.out]; exact HE.out, HB.out⟩
    · have HE : Hid (L.map grp = (readTo lineM Ls (min 40 Ls.length)).gs) := by
        show _ = _
        have e : min 40 Ls.length = k := by omega
        rw [e, ← HR.out]
      go_wp2
      go_ret
      exact ⟨_, L, rfl, GsOwn_mono2 HG.out hw1, by rw [HLs.out]; exact HE.out, HB.out⟩
end Go.Proofs.YtmgcdfmgmpnonaaGreatDoor.NrS
