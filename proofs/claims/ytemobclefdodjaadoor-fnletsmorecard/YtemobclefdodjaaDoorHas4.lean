/- Is a way of a pattern: the model's, whole. -/
import Derived.Test.YtemobclefdodjaaDoorHas3
namespace Go.Proofs.YtemobclefdodjaaDoor.HaS
open Go.RowKit Go.Proofs.YtemobclefdodjaaDoor.EscM Go.Proofs.YtemobclefdodjaaDoor.EscL Go.Proofs.YtemobclefdodjaaDoor.RuleM Go.Proofs.YtemobclefdodjaaDoor.Ru1 Go.Proofs.YtemobclefdodjaaDoor.ReadM Go.Proofs.YtemobclefdodjaaDoor.HasM Go.Proofs.YtemobclefdodjaaDoor.St Go.Proofs.YtemobclefdodjaaDoor.Rd1

theorem bs_list (l : List UInt8) : (bs l).data.toList = l := by unfold bs; simp
def rawL (P : List ByteArray) : List (List UInt8) := P.map fun x => x.data.toList
theorem raw_drop {P : List ByteArray} {k : Nat} (h : k < P.length) : rawL (P.drop k) = P[k].data.toList :: rawL (P.drop (k + 1)) := by
  unfold rawL; rw [List.drop_eq_getElem_cons h, List.map_cons]
theorem raw_split (c : Int) (s : ByteArray) : rawL (splitS c s) = splitL c s.data.toList := by
  unfold rawL splitS
  rw [List.map_map]
  conv => rhs; rw [← List.map_id (splitL c s.data.toList)]
  apply List.map_congr_left
  intro x _
  exact bs_list x
theorem just_pre (e : Bool) {P : List ByteArray} (h : 0 < P.length) (s : List UInt8) : justL e (rawL P) s = (P[0].data.toList.isPrefixOf s && restL e (rawL (P.drop 1)) (s.drop P[0].data.toList.length)) := by
  have := raw_drop (P := P) (k := 0) h
  rw [List.drop_zero] at this
  rw [this]; rfl
theorem rest_mid (e : Bool) {P : List ByteArray} {k : Nat} (h : k < P.length) (he : ¬ (e = true ∧ k + 1 = P.length)) (r : List UInt8) : restL e (rawL (P.drop k)) r = if Lib.index r P[k].data.toList = -1 then false else restL e (rawL (P.drop (k + 1))) (r.drop ((Lib.index r P[k].data.toList).toNat + P[k].data.toList.length)) := by
  rw [raw_drop (by omega)]
  conv => lhs; unfold restL
  rw [if_neg]
  intro hc
  rw [Bool.and_eq_true] at hc
  refine he ⟨hc.1, ?_⟩
  have := List.isEmpty_iff.1 hc.2
  have h2 := congrArg List.length this
  simp [rawL] at h2
  omega
theorem rest_last {P : List ByteArray} {k : Nat} (h : k < P.length) (h2 : k + 1 = P.length) (r : List UInt8) : restL true (rawL (P.drop k)) r = decide (P[k].data.toList <:+ r) := by
  rw [raw_drop h, List.drop_eq_nil_of_le (by omega)]
  unfold restL
  rw [if_pos (by rfl)]
theorem rest_end (e : Bool) {P : List ByteArray} (r : List UInt8) : restL e (rawL (P.drop P.length)) r = (!e || r.isEmpty) := by
  rw [List.drop_eq_nil_of_le (Nat.le_refl _)]; rfl
theorem pre_ext (s x : ByteArray) : ((s.extract 0 x.size).toList == x.toList) = x.data.toList.isPrefixOf s.data.toList := by
  rw [ByteArray.toList_eq, ByteArray.toList_eq]
  have e : (s.extract 0 x.size).data.toList = s.data.toList.take x.data.toList.length := by simp
  rw [e, Bool.eq_iff_iff, beq_iff_eq, List.isPrefixOf_iff_prefix, List.prefix_iff_eq_take]
  exact eq_comm
theorem pre_long {s x : ByteArray} (h : s.size < x.size) : x.data.toList.isPrefixOf s.data.toList = false := by
  cases hc : x.data.toList.isPrefixOf s.data.toList with
  | false => rfl
  | true =>
    have := (List.isPrefixOf_iff_prefix.1 hc).length_le
    rw [len_eq, len_eq] at this; omega
theorem suf_ext (s x : ByteArray) (at' : Nat) (h1 : x.size ≤ s.size) (h2 : at' ≤ s.size - x.size) : ((s.extract (s.size - x.size) s.size).toList == x.toList) = decide (x.data.toList <:+ s.data.toList.drop at') := by
  have e : (s.extract (s.size - x.size) s.size).data.toList = s.data.toList.drop (s.size - x.size) := by
    simp only [ByteArray.data_extract, Array.toList_extract, List.extract_eq_take_drop]
    rw [List.take_of_length_le]; rw [List.length_drop, len_eq]; omega
  rw [ByteArray.toList_eq, ByteArray.toList_eq, e, Bool.eq_iff_iff, beq_iff_eq, decide_eq_true_eq]
  have hl : (s.data.toList.drop (s.size - x.size)).length = x.data.toList.length := by rw [List.length_drop, len_eq, len_eq]; omega
  have hs : s.data.toList.drop (s.size - x.size) <:+ s.data.toList.drop at' := by
    rw [show s.size - x.size = at' + (s.size - x.size - at') from by omega, ← List.drop_drop]; exact List.drop_suffix _ _
  constructor
  · intro h; rw [← h]; exact hs
  · intro h
    exact (List.suffix_of_suffix_length_le hs h (by omega)).eq_of_length hl
theorem suf_short {s x : ByteArray} {at' : Nat} (h : ¬ (at' + x.size ≤ s.size)) (ha : at' ≤ s.size) : decide (x.data.toList <:+ s.data.toList.drop at') = false := by
  apply decide_eq_false
  intro hc
  have := hc.length_le
  rw [List.length_drop, len_eq, len_eq] at this; omega
theorem find_neg {s x : List UInt8} {f : Nat} (h : Lib.index (s.drop f) x = -1) : findZ s x f = -1 := by unfold findZ; rw [if_pos h]
theorem find_pos {s x : List UInt8} {f : Nat} (h : ¬ Lib.index (s.drop f) x = -1) (hf : f ≤ s.length) : ∃ m : Nat, Lib.index (s.drop f) x = (m : Int) ∧ findZ s x f = ((f + m : Nat) : Int) ∧ f + m + x.length ≤ s.length := by
  rcases Lib.index_spec (s.drop f) x with ⟨h1, _⟩ | ⟨m, h1, h2, h3, h4⟩
  · exact absurd h1 h
  · refine ⟨m, h1, by unfold findZ; rw [if_neg h, h1]; omega, ?_⟩
    have := Lib.index_room (s.drop f) x (by omega)
    rw [h1, List.length_drop] at this
    omega
theorem last_ext (p : ByteArray) (h : 0 < p.size) : (((p[p.size - 1]'(by omega)).toNat : Int) == 36) = endsB p.data.toList := by
  rw [ends_at (by rw [len_eq]; exact h), Bool.eq_iff_iff, beq_iff_eq, decide_eq_true_eq, getElem_eq]
  have e : p.data.toList[p.data.toList.length - 1]'(by rw [len_eq]; omega) = p.data.toList[p.size - 1]'(by rw [len_eq]; omega) := by congr 1
  rw [e]
  constructor
  · intro h; exact UInt8.toNat.inj (by show _ = 36; omega)
  · intro h; rw [h]; rfl

set_option maxRecDepth 100000 in
set_option maxHeartbeats 3200000 in
theorem has_true (p s : ByteArray) (w : World) (hp1 : 0 < p.size) (hp : p.size ≤ 16) (hs : s.size ≤ 60) (he : endsB p.data.toList = true) :
    Calls Tryd.prog 32 #[.string p, .string s] w fun e w' => e = .returned (.bool (justL true (splitL 42 (bodyL p.data.toList)) s.data.toList)) ∧ Below w.heap.size w w' := by
  have hE : (((p[p.size - 1]'(by omega)).toNat : Int) == 36) = true := by rw [last_ext p hp1, he]
  obtain ⟨Pl, hPl⟩ : ∃ Pl, Pl = splitS 42 (p.extract 0 (p.size - 1)) := ⟨_, rfl⟩
  have HPl : Hid _ := hPl
  have HJ : Hid (justL true (splitL 42 (bodyL p.data.toList)) s.data.toList = justL true (rawL Pl) s.data.toList) := by
    show _ = _
    rw [hPl, raw_split]
    congr 1
    rw [Ru1.ext_drop p, body_ends he]
  have hl1 : 1 ≤ Pl.length := by
    rw [hPl]; unfold splitS; rw [List.length_map]
    cases hq : splitL 42 (p.extract 0 (p.size - 1)).data.toList with
    | nil => exact absurd hq (split_ne _ _)
    | cons => simp
  have hl2 : Pl.length ≤ 17 := by
    rw [hPl]; unfold splitS; rw [List.length_map]
    have := split_len 42 (p.extract 0 (p.size - 1)).data.toList
    rw [len_eq] at this
    rw [ext_size p (p.size - 1) (by omega)] at this; omega
  have hxs : ∀ x ∈ Pl, x.size ≤ 16 := by
    intro x hx
    rw [hPl] at hx
    have := splitS_mem 42 _ x hx
    rw [ext_size p (p.size - 1) (by omega)] at this; omega
  have HXS : Hid _ := hxs
  clear hPl he hxs
  go_enter Tryd.func32, Tryd.ntmps32
  go_wp2_with fail
  refine (specSplit_any (p.extract 0 (p.size - 1)) 42 _ (by rw [ext_size p (p.size - 1) (by omega)]; omega) (by omega) (by omega)).mono ?_
  rintro e w1 ⟨v, rfl, hO, hb1⟩
  rw [← HPl.out] at hO
  obtain ⟨a1, c1, hv, hS⟩ := hO.strs
  subst hv
  obtain ⟨B, off, e1, cs⟩ := hS.2.2.2 (by rintro rfl; simp at hl1)
  subst e1
  have HC : Hid _ := cs
  have HB : Hid _ := hb1
  have hcap := hS.1
  have c0 := cs 0 (by omega)
  rw [Nat.add_zero] at c0
  have hx0 := HXS.out Pl[0] (List.getElem_mem _)
  have HJ0 : Hid _ := just_pre true (show 0 < Pl.length from hl1) s.data.toList
  clear hO hS cs hb1 hE
  by_cases hlong : s.size < Pl[0].size
  · have HF : Hid (justL true (splitL 42 (bodyL p.data.toList)) s.data.toList = false) := by show _ = _; rw [HJ.out, HJ0.out, pre_long hlong]; rfl
    go_wp2
    go_quiet (fail)
    go_wp2
    go_ret
    exact ⟨ret_bool HF.out.symm, below_drewN HB.out nq⟩
  have HPE : Hid _ := pre_ext s Pl[0]
  cases hpre : Pl[0].data.toList.isPrefixOf s.data.toList with
  | false =>
    have hpe : ((s.extract 0 Pl[0].size).toList == Pl[0].toList) = false := by rw [HPE.out, hpre]
    have HF : Hid (justL true (splitL 42 (bodyL p.data.toList)) s.data.toList = false) := by show _ = _; rw [HJ.out, HJ0.out, hpre]; rfl
    go_wp2
    go_quiet (fail)
    go_wp2
    go_ret
    exact ⟨ret_bool HF.out.symm, below_drewN HB.out nq⟩
  | true =>
    have hpe : ((s.extract 0 Pl[0].size).toList == Pl[0].toList) = true := by rw [HPE.out, hpre]
    have HR : Hid (justL true (splitL 42 (bodyL p.data.toList)) s.data.toList = restL true (rawL (Pl.drop 1)) (s.data.toList.drop Pl[0].size)) := by show _ = _; rw [HJ.out, HJ0.out, hpre, Bool.true_and, len_eq]
    clear hpre
    go_wp2
    go_quiet (fail)
    go_wp2
    clear hpe
    go_loopw [7, 8] (fun a i wr => ∃ (k at' : Nat), 1 ≤ k ∧ k ≤ Pl.length ∧ at' ≤ s.size ∧ i = .int .i64 (k : Int) ∧ a = .int .i64 (at' : Int) ∧ Hid (justL true (splitL 42 (bodyL p.data.toList)) s.data.toList = restL true (rawL (Pl.drop k)) (s.data.toList.drop at')) ∧ Hid (∃ n, wr = w1.drewN n)) (fun _ i _ => Pl.length - (intOf i).toNat)
    case atStart => exact ⟨1, Pl[0].size, Nat.le_refl _, by omega, by omega, rfl, rfl, HR, ⟨nq, rfl⟩⟩
    case round =>
      obtain ⟨k, at', hk1, hk, hat, rfl, rfl, HI, HW⟩ := hrel
      have hpw := HW.out
      obtain ⟨nw, hnw⟩ := hpw
      have HBW : Hid (Below w.heap.size w wr) := by rw [hnw]; exact below_drewN HB.out nw
      clear c0
      by_cases hlt : k < Pl.length
      · have ck : wr.cell? ⟨B, off + k, none⟩ = some (.string Pl[k]) := by rw [hnw]; exact HC.out k hlt
        have hxk := HXS.out Pl[k] (List.getElem_mem _)
        clear hnw
        by_cases hlast : k + 1 = Pl.length
        · have HL : Hid (justL true (splitL 42 (bodyL p.data.toList)) s.data.toList = decide (Pl[k].data.toList <:+ s.data.toList.drop at')) := by show _ = _; rw [HI.out, rest_last hlt hlast]
          have hl' : (((k : Nat) : Int) == (Pl.length : Int) - 1) = true := by simp; omega
          by_cases hsh : at' + Pl[k].size ≤ s.size
          · have HSE : Hid _ := suf_ext s Pl[k] at' (by omega) (by omega)
            have hsz : decide ((at' : Int) ≤ (s.size : Int) - (Pl[k].size : Int)) = true := decide_eq_true (by omega)
            have hsz0 : (0 : Int) ≤ (s.size : Int) - (Pl[k].size : Int) := by omega
            have hsz1 : (s.size : Int) - (Pl[k].size : Int) ≤ (s.size : Int) := by omega
            have hsz2 : ((s.size : Int) - (Pl[k].size : Int)).toNat = s.size - Pl[k].size := by omega
            go_wp2
            go_quiet (fail)
            go_wp2
            go_ret
            refine ⟨ret_bool ?_, below_drewN HBW.out nq⟩
            rw [HL.out, ← HSE.out]
            try congr 3
            try omega
          · have HSE : Hid _ := suf_short (x := Pl[k]) hsh hat
            have hsz : decide ((at' : Int) ≤ (s.size : Int) - (Pl[k].size : Int)) = false := decide_eq_false (by omega)
            go_wp2
            go_quiet (fail)
            go_wp2
            go_ret
            exact ⟨ret_bool (by rw [HL.out, HSE.out]), below_drewN HBW.out nq⟩
        have hl' : (((k : Nat) : Int) == (Pl.length : Int) - 1) = false := by simp; omega
        have HM : Hid _ := rest_mid true hlt (fun h => hlast h.2) (s.data.toList.drop at')
        by_cases hix : Lib.index (s.data.toList.drop at') Pl[k].data.toList = -1
        · have HF : Hid (justL true (splitL 42 (bodyL p.data.toList)) s.data.toList = false) := by show _ = _; rw [HI.out, HM.out, if_pos hix]
          have HZ : Hid _ := find_neg hix
          clear hix HM
          go_wp2_with fail
          refine (find_any s Pl[k] at' _ (by omega) (by omega) hat).mono ?_
          rintro e w2 ⟨rfl, n2, rfl⟩
          rw [HZ.out]
          go_wp2
          go_ret
          exact ⟨ret_bool HF.out.symm, below_drewN HBW.out n2⟩
        · obtain ⟨m, m1, m2, m3⟩ := find_pos hix (by rw [len_eq]; exact hat)
          rw [len_eq, len_eq] at m3
          have HF : Hid (justL true (splitL 42 (bodyL p.data.toList)) s.data.toList = restL true (rawL (Pl.drop (k + 1))) (s.data.toList.drop (at' + m + Pl[k].size))) := by
            show _ = _
            rw [HI.out, HM.out, if_neg hix, m1, List.drop_drop, len_eq]
            congr 2
            simp; omega
          have HZ : Hid _ := m2
          clear hix HM m1 m2
          go_wp2_with fail
          refine (find_any s Pl[k] at' _ (by omega) (by omega) hat).mono ?_
          rintro e w2 ⟨rfl, n2, rfl⟩
          rw [HZ.out]
          have ck2 : (wr.drewN n2).cell? ⟨B, off + k, none⟩ = some (.string Pl[k]) := ck
          have HW2 : Hid (∃ n, wr.drewN n2 = w1.drewN n) := by
            obtain ⟨n, hn⟩ := HW.out
            exact ⟨_, by rw [hn, World.drewN_drewN]⟩
          generalize at' + m = am at *
          go_wp2
          go_roundw
          case rel => exact ⟨k + 1, am + Pl[k].size, by omega, by omega, by omega, by go_num, by go_num, HF.out, HW2⟩
          case measure => simp [intOf]; omega
      · have hke : k = Pl.length := by omega
        clear hnw
        have HF : Hid (justL true (splitL 42 (bodyL p.data.toList)) s.data.toList = (!true || (s.data.toList.drop at').isEmpty)) := by show _ = _; rw [HI.out, hke, rest_end]
        have HEM : Hid ((s.data.toList.drop at').isEmpty = decide (at' = s.size)) := by
          show _ = _
          rw [Bool.eq_iff_iff, List.isEmpty_iff, decide_eq_true_eq, List.drop_eq_nil_iff, len_eq]; omega
        go_wp2
        go_ret
        refine ⟨ret_bool ?_, HBW.out⟩
        rw [HF.out, HEM.out, Bool.eq_iff_iff]
        simp
        try omega

set_option maxRecDepth 100000 in
set_option maxHeartbeats 3200000 in
theorem has_false (p s : ByteArray) (w : World) (hp1 : 0 < p.size) (hp : p.size ≤ 16) (hs : s.size ≤ 60) (he : endsB p.data.toList = false) :
    Calls Tryd.prog 32 #[.string p, .string s] w fun e w' => e = .returned (.bool (justL false (splitL 42 (bodyL p.data.toList)) s.data.toList)) ∧ Below w.heap.size w w' := by
  have hE : (((p[p.size - 1]'(by omega)).toNat : Int) == 36) = false := by rw [last_ext p hp1, he]
  obtain ⟨Pl, hPl⟩ : ∃ Pl, Pl = splitS 42 (p) := ⟨_, rfl⟩
  have HPl : Hid _ := hPl
  have HJ : Hid (justL false (splitL 42 (bodyL p.data.toList)) s.data.toList = justL false (rawL Pl) s.data.toList) := by
    show _ = _
    rw [hPl, raw_split]
    congr 1
    rw [body_not he]
  have hl1 : 1 ≤ Pl.length := by
    rw [hPl]; unfold splitS; rw [List.length_map]
    cases hq : splitL 42 (p).data.toList with
    | nil => exact absurd hq (split_ne _ _)
    | cons => simp
  have hl2 : Pl.length ≤ 17 := by
    rw [hPl]; unfold splitS; rw [List.length_map]
    have := split_len 42 (p).data.toList
    rw [len_eq] at this
    omega
  have hxs : ∀ x ∈ Pl, x.size ≤ 16 := by
    intro x hx
    rw [hPl] at hx
    have := splitS_mem 42 _ x hx
    omega
  have HXS : Hid _ := hxs
  clear hPl he hxs
  go_enter Tryd.func32, Tryd.ntmps32
  go_wp2_with fail
  refine (specSplit_any (p) 42 _ (by omega) (by omega) (by omega)).mono ?_
  rintro e w1 ⟨v, rfl, hO, hb1⟩
  rw [← HPl.out] at hO
  obtain ⟨a1, c1, hv, hS⟩ := hO.strs
  subst hv
  obtain ⟨B, off, e1, cs⟩ := hS.2.2.2 (by rintro rfl; simp at hl1)
  subst e1
  have HC : Hid _ := cs
  have HB : Hid _ := hb1
  have hcap := hS.1
  have c0 := cs 0 (by omega)
  rw [Nat.add_zero] at c0
  have hx0 := HXS.out Pl[0] (List.getElem_mem _)
  have HJ0 : Hid _ := just_pre false (show 0 < Pl.length from hl1) s.data.toList
  clear hO hS cs hb1 hE
  by_cases hlong : s.size < Pl[0].size
  · have HF : Hid (justL false (splitL 42 (bodyL p.data.toList)) s.data.toList = false) := by show _ = _; rw [HJ.out, HJ0.out, pre_long hlong]; rfl
    go_wp2
    go_quiet (fail)
    go_wp2
    go_ret
    exact ⟨ret_bool HF.out.symm, below_drewN HB.out nq⟩
  have HPE : Hid _ := pre_ext s Pl[0]
  cases hpre : Pl[0].data.toList.isPrefixOf s.data.toList with
  | false =>
    have hpe : ((s.extract 0 Pl[0].size).toList == Pl[0].toList) = false := by rw [HPE.out, hpre]
    have HF : Hid (justL false (splitL 42 (bodyL p.data.toList)) s.data.toList = false) := by show _ = _; rw [HJ.out, HJ0.out, hpre]; rfl
    go_wp2
    go_quiet (fail)
    go_wp2
    go_ret
    exact ⟨ret_bool HF.out.symm, below_drewN HB.out nq⟩
  | true =>
    have hpe : ((s.extract 0 Pl[0].size).toList == Pl[0].toList) = true := by rw [HPE.out, hpre]
    have HR : Hid (justL false (splitL 42 (bodyL p.data.toList)) s.data.toList = restL false (rawL (Pl.drop 1)) (s.data.toList.drop Pl[0].size)) := by show _ = _; rw [HJ.out, HJ0.out, hpre, Bool.true_and, len_eq]
    clear hpre
    go_wp2
    go_quiet (fail)
    go_wp2
    clear hpe
    go_loopw [7, 8] (fun a i wr => ∃ (k at' : Nat), 1 ≤ k ∧ k ≤ Pl.length ∧ at' ≤ s.size ∧ i = .int .i64 (k : Int) ∧ a = .int .i64 (at' : Int) ∧ Hid (justL false (splitL 42 (bodyL p.data.toList)) s.data.toList = restL false (rawL (Pl.drop k)) (s.data.toList.drop at')) ∧ Hid (∃ n, wr = w1.drewN n)) (fun _ i _ => Pl.length - (intOf i).toNat)
    case atStart => exact ⟨1, Pl[0].size, Nat.le_refl _, by omega, by omega, rfl, rfl, HR, ⟨nq, rfl⟩⟩
    case round =>
      obtain ⟨k, at', hk1, hk, hat, rfl, rfl, HI, HW⟩ := hrel
      have hpw := HW.out
      obtain ⟨nw, hnw⟩ := hpw
      have HBW : Hid (Below w.heap.size w wr) := by rw [hnw]; exact below_drewN HB.out nw
      clear c0
      by_cases hlt : k < Pl.length
      · have ck : wr.cell? ⟨B, off + k, none⟩ = some (.string Pl[k]) := by rw [hnw]; exact HC.out k hlt
        have hxk := HXS.out Pl[k] (List.getElem_mem _)
        clear hnw
        have HM : Hid _ := rest_mid false hlt (fun h => by cases h.1) (s.data.toList.drop at')
        by_cases hix : Lib.index (s.data.toList.drop at') Pl[k].data.toList = -1
        · have HF : Hid (justL false (splitL 42 (bodyL p.data.toList)) s.data.toList = false) := by show _ = _; rw [HI.out, HM.out, if_pos hix]
          have HZ : Hid _ := find_neg hix
          clear hix HM
          go_wp2_with fail
          refine (find_any s Pl[k] at' _ (by omega) (by omega) hat).mono ?_
          rintro e w2 ⟨rfl, n2, rfl⟩
          rw [HZ.out]
          go_wp2
          go_ret
          exact ⟨ret_bool HF.out.symm, below_drewN HBW.out n2⟩
        · obtain ⟨m, m1, m2, m3⟩ := find_pos hix (by rw [len_eq]; exact hat)
          rw [len_eq, len_eq] at m3
          have HF : Hid (justL false (splitL 42 (bodyL p.data.toList)) s.data.toList = restL false (rawL (Pl.drop (k + 1))) (s.data.toList.drop (at' + m + Pl[k].size))) := by
            show _ = _
            rw [HI.out, HM.out, if_neg hix, m1, List.drop_drop, len_eq]
            congr 2
            simp; omega
          have HZ : Hid _ := m2
          clear hix HM m1 m2
          go_wp2_with fail
          refine (find_any s Pl[k] at' _ (by omega) (by omega) hat).mono ?_
          rintro e w2 ⟨rfl, n2, rfl⟩
          rw [HZ.out]
          have ck2 : (wr.drewN n2).cell? ⟨B, off + k, none⟩ = some (.string Pl[k]) := ck
          have HW2 : Hid (∃ n, wr.drewN n2 = w1.drewN n) := by
            obtain ⟨n, hn⟩ := HW.out
            exact ⟨_, by rw [hn, World.drewN_drewN]⟩
          generalize at' + m = am at *
          go_wp2
          go_roundw
          case rel => exact ⟨k + 1, am + Pl[k].size, by omega, by omega, by omega, by go_num, by go_num, HF.out, HW2⟩
          case measure => simp [intOf]; omega
      · have hke : k = Pl.length := by omega
        clear hnw
        have HF : Hid (justL false (splitL 42 (bodyL p.data.toList)) s.data.toList = (!false || (s.data.toList.drop at').isEmpty)) := by show _ = _; rw [HI.out, hke, rest_end]
        go_wp2
        go_ret
        exact ⟨ret_bool (by rw [HF.out]; rfl), HBW.out⟩

set_option maxRecDepth 100000 in
set_option maxHeartbeats 1600000 in
theorem specHas_any (p s : ByteArray) (w : World) (hp : p.size ≤ maxLen) (hs : s.size ≤ maxLen) :
    Calls Tryd.prog 14 #[.string p, .string s] w fun e w' => e = .returned (.bool (hasL p.data.toList s.data.toList)) ∧ Below w.heap.size w w' := by
  unfold maxLen at hs
  cases hr : ruleL p.data.toList with
  | false =>
    have HF : Hid (hasL p.data.toList s.data.toList = false) := has_bad hr _
    have HR : Hid _ := hr
    clear hr
    go_enter Tryd.func14, Tryd.ntmps14
    go_wp2_with fail
    refine (specRule_any p _ hp).mono ?_
    rintro e w1 ⟨rfl, rfl⟩
    rw [HR.out]
    go_wp2
    go_ret
    exact ⟨ret_bool HF.out.symm, Below.refl _ _⟩
  | true =>
    have HR : Hid _ := hr
    obtain ⟨⟨hp1, hp16⟩, _, _⟩ := ruleL_parts hr
    rw [len_eq] at hp1 hp16
    clear hr
    by_cases hl : s.size ≤ 60
    · have HE : Hid (hasL p.data.toList s.data.toList = justL (endsB p.data.toList) (splitL 42 (bodyL p.data.toList)) s.data.toList) := by
        show _ = _
        unfold hasL
        rw [HR.out, decide_eq_true (by rw [len_eq]; exact hl)]; rfl
      have main : ∀ W : World, Calls Tryd.prog 32 #[.string p, .string s] W fun e w' => e = .returned (.bool (hasL p.data.toList s.data.toList)) ∧ Below W.heap.size W w' := by
        intro W
        rw [HE.out]
        cases he : endsB p.data.toList with
        | true => exact has_true p s W hp1 hp16 hl he
        | false => exact has_false p s W hp1 hp16 hl he
      have MAIN : Hid _ := main
      clear main
      go_enter Tryd.func14, Tryd.ntmps14
      go_wp2_with fail
      refine (specRule_any p _ hp).mono ?_
      rintro e w1 ⟨rfl, rfl⟩
      rw [HR.out]
      go_wp2_with fail
      refine (MAIN.out _).mono ?_
      rintro e w2 ⟨rfl, hb2⟩
      go_wp2
      go_ret
      exact ⟨rfl, hb2⟩
    · have HF : Hid (hasL p.data.toList s.data.toList = false) := has_long _ (by rw [len_eq]; exact hl)
      have hl' : 60 < s.size := by omega
      go_enter Tryd.func14, Tryd.ntmps14
      go_wp2_with fail
      refine (specRule_any p _ hp).mono ?_
      rintro e w1 ⟨rfl, rfl⟩
      rw [HR.out]
      go_wp2
      go_ret
      exact ⟨ret_bool HF.out.symm, Below.refl _ _⟩
end Go.Proofs.YtemobclefdodjaaDoor.HaS
