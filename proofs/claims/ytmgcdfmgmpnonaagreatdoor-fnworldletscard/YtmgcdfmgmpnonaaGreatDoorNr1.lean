/- A notice is read: of the model. -/
import Derived.Test.YtmgcdfmgmpnonaaGreatDoorNrMem
import Derived.Test.YtmgcdfmgmpnonaaGreatDoorGrpMathPk
import Derived.Test.YtmgcdfmgmpnonaaGreatDoorEscLeafPk
import Derived.Test.YtmgcdfmgmpnonaaGreatDoorRead1
namespace Go.Proofs.YtmgcdfmgmpnonaaGreatDoor.NrS
open Go.RowKit Go.Proofs.YtmgcdfmgmpnonaaGreatDoor.EscM Go.Proofs.YtmgcdfmgmpnonaaGreatDoor.EscL Go.Proofs.YtmgcdfmgmpnonaaGreatDoor.RuleM Go.Proofs.YtmgcdfmgmpnonaaGreatDoor.Ru1 Go.Proofs.YtmgcdfmgmpnonaaGreatDoor.ReadM Go.Proofs.YtmgcdfmgmpnonaaGreatDoor.St Go.Proofs.YtmgcdfmgmpnonaaGreatDoor.RR Go.Proofs.YtmgcdfmgmpnonaaGreatDoor.LetM Go.Proofs.YtmgcdfmgmpnonaaGreatDoor.Nm Go.Proofs.YtmgcdfmgmpnonaaGreatDoor.GrM Go.Proofs.YtmgcdfmgmpnonaaGreatDoor.Dr Go.Proofs.YtmgcdfmgmpnonaaGreatDoor.NrM Go.Proofs.YtmgcdfmgmpnonaaGreatDoor.NrW

theorem data_at (s : ByteArray) (k : Nat) (h : k < s.size) (h2 : k < s.data.toList.length) : s.data.toList[k]'h2 = s[k]'h := rfl
set_option maxRecDepth 100000 in
set_option maxHeartbeats 1600000 in
theorem specNum_any (s : ByteArray) (w : World) (hs : s.size ≤ 4194304) :
    Calls Tryz.prog 145 #[.string s, .int .i64 20] w fun e w' => e = .returned (.int .i64 (numF s.data.toList : Int)) ∧ w' = w := by
  go_enter Tryz.func145, Tryz.ntmps145
  go_wp2
  go_loopw [5, 6] (fun n i wr => ∃ (k m : Nat), k ≤ s.size ∧ i = .int .i64 (k : Int) ∧ n = .int .i64 (m : Int) ∧ m ≤ 20 ∧ wr = w ∧ Hid (numF s.data.toList = (numGo m (s.data.toList.drop k)).getD 0)) (fun _ i _ => s.size - (intOf i).toNat)
  case atStart => exact ⟨0, 0, Nat.zero_le _, rfl, rfl, by omega, rfl, rfl⟩
  case round =>
    obtain ⟨k, m, hk, rfl, rfl, hm, rfl, HN⟩ := hrel
    by_cases hlt : k < s.size
    · have hl2 : k < s.data.toList.length := by simpa using hlt
      have HT : Hid _ := num_take hl2 HN.out
      rw [data_at s k hlt hl2] at HT
      by_cases h1 : ((s[k]'hlt).toNat : Int) < 48
      · have HZ : Hid (numF s.data.toList = 0) := HT.out.2 (by omega)
        clear HT
        go_wp2
        go_ret
        exact ⟨ret_int (by rw [HZ.out]; rfl), rfl⟩
      by_cases h2 : (57 : Int) < ((s[k]'hlt).toNat : Int)
      · have HZ : Hid (numF s.data.toList = 0) := HT.out.2 (by omega)
        clear HT
        go_wp2
        go_ret
        exact ⟨ret_int (by rw [HZ.out]; rfl), rfl⟩
      have HX : Hid (numF s.data.toList = (numGo (min (m * 10 + ((s[k]'hlt).toNat - 48)) 20) (s.data.toList.drop (k + 1))).getD 0) := HT.out.1 (by omega)
      clear HT
      obtain ⟨d, hd, hd9⟩ : ∃ d : Nat, (s[k]'hlt).toNat = 48 + d ∧ d ≤ 9 := ⟨(s[k]'hlt).toNat - 48, by omega, by omega⟩
      have e0 : ((s[k]'hlt).toNat : Int) - 48 = (d : Int) := by omega
      have e1 : IntKind.u8.wrap (((s[k]'hlt).toNat : Int) - 48) = (d : Int) := by
        rw [e0]
        have : d = 0 ∨ d = 1 ∨ d = 2 ∨ d = 3 ∨ d = 4 ∨ d = 5 ∨ d = 6 ∨ d = 7 ∨ d = 8 ∨ d = 9 := by omega
        rcases this with rfl | rfl | rfl | rfl | rfl | rfl | rfl | rfl | rfl | rfl <;> decide
      have e2 : IntKind.i64.wrap ((m : Int) * 10) = (m : Int) * 10 := IntWalk.i64_in _ (by omega)
      have e3 : IntKind.i64.wrap ((m : Int) * 10 + (d : Int)) = (m : Int) * 10 + (d : Int) := IntWalk.i64_in _ (by omega)
      have e4 : IntKind.i64.wrap (d : Int) = (d : Int) := IntWalk.i64_in _ (by omega)
      have HX2 : Hid (numF s.data.toList = (numGo (min (m * 10 + d) 20) (s.data.toList.drop (k + 1))).getD 0) := by show _ = _; rw [HX.out, hd]; congr 4; omega
      go_wp2
      go_roundw
      case rel => exact ⟨k + 1, min (m * 10 + d) 20, by omega, by go_num, by go_num, Nat.min_le_right _ _, by trivial, HX2⟩
      case measure => simp [intOf]; omega
    · have HE : Hid (numF s.data.toList = m) := by
        show _ = _
        rw [HN.out, List.drop_of_length_le (by simp; omega)]; rfl
      go_wp2
      go_ret
      exact ⟨ret_int (by rw [HE.out]), rfl⟩

theorem wd_iff (s : ByteArray) (l : List UInt8) : (s.toList == l) = decide (s.data.toList = l) := by
  rw [ByteArray.toList_eq]
  by_cases h : s.data.toList = l
  · rw [decide_eq_true h]; simp [h]
  · rw [decide_eq_false h]; simp [h]
/-- one line, read: what holds behind it -/
def Read (base base2 : Nat) (w : World) (S : Nr) (e : Ending) (w' : World) : Prop := ∃ v' L', e = .returned (.tuple #[v', .bool S.bg]) ∧ GsOwn w' base base2 v' L' ∧ L'.map grp = S.gs ∧ Fr base base2 w w'
theorem map_last (M : List Gr) (g : Gr) : lastG ((M ++ [g]).map grp) = grp g := by rw [List.map_append]; exact last_snoc _ _
theorem map_drop (M : List Gr) (g : Gr) : ((M ++ [g]).map grp).dropLast = M.map grp := by rw [List.map_append]; exact List.dropLast_concat
theorem map_ne (M : List Gr) (g : Gr) : (M ++ [g]).map grp ≠ [] := by simp
theorem new_blk {w : World} {base2 m : Nat} {L : List Gr} (h : GrsOwn w base2 L) (hm : w.heap.size ≤ m) : ∀ x ∈ L, ∀ b, nmBlk x = some b → (Value.slice (some ⟨m, 0, none⟩) 1 1).ownBlock ≠ some b := by
  intro x hx b hb e
  have h1 := own_lt (h x hx).1 b hb
  have e' : m = b := by simpa [Value.ownBlock] using e
  omega
theorem new_blkR {w : World} {base2 m : Nat} {L : List Gr} (h : GrsOwn w base2 L) (hm : w.heap.size ≤ m) : ∀ x ∈ L, ∀ b, ruBlk x = some b → (Value.slice (some ⟨m, 0, none⟩) 0 0).ownBlock ≠ some b := by
  intro x hx b hb e
  have h1 := own_lt (h x hx).2 b hb
  have e' : m = b := by simpa [Value.ownBlock] using e
  omega

set_option maxRecDepth 100000 in
set_option maxHeartbeats 3200000 in
theorem line_new (base base2 : Nat) (v : Value) (L : List Gr) (wd rs : ByteArray) (w : World) (h : GsOwn w base base2 v L) (hb : base ≤ w.heap.size) (hb2 : base2 ≤ w.heap.size) (hl : L.length ≤ 1000) (hr : rs.size ≤ 4194304)
    (hw : (wd.toList == [99, 97, 108, 108, 101, 114]) = true) (hc : callB rs = true) :
    Calls Tryz.prog 114 #[v, .string wd, .string rs, .bool true] w fun e w' => Read base base2 w ⟨L.map grp ++ [([rs], [], 0)], false⟩ e w' := by
  obtain ⟨i0, hi, hz0, hz1, hz2⟩ := info_group
  obtain ⟨a0, cap, hv, hI, _⟩ := h.at
  subst hv
  have HG : Hid (GsOwn w base base2 (.slice a0 L.length cap) L) := h
  have hc1 : L.length ≤ cap := hI.1
  have hc2 := hI.2.1
  unfold maxLen at hc2
  have HC : Hid (callB rs = true) := hc
  clear h hI hc
  have HN1 : Hid (GsOwn (w.alloc (.cells #[.string rs] 9)) base base2 (.slice a0 L.length cap) L) := HG.out.alloc _
  have HN2 : Hid (GsOwn ((w.alloc (.cells #[.string rs] 9)).alloc (.cells #[] 81)) base base2 (.slice a0 L.length cap) L) := HN1.out.alloc _
  obtain ⟨g, hg⟩ : ∃ g : Gr, g = ⟨[rs], some ⟨w.heap.size, 0, none⟩, 1, [], some ⟨w.heap.size + 1, 0, none⟩, 0, 0⟩ := ⟨_, rfl⟩
  have HGN : Hid (grp g = ([rs], [], 0)) := by rw [hg]; rfl
  have HEN : Hid (FGr.enc g = [.slice (some ⟨w.heap.size, 0, none⟩) 1 1, .slice (some ⟨w.heap.size + 1, 0, none⟩) 0 0, .int .i64 0]) := by rw [hg]; rfl
  have HGO : Hid (GrOwn ((w.alloc (.cells #[.string rs] 9)).alloc (.cells #[] 81)) base2 g) := by
    rw [hg]
    refine ⟨(Owns.lit1 w base2 rs hb2).keep (alloc_keep _ _), ?_⟩
    have := OwnsR.empty FRu 81 (w.alloc (.cells #[.string rs] 9)) base2 (by simp; omega)
    simpa using this
  have HDN : Hid (∀ x ∈ L, ∀ b, nmBlk x = some b → nmBlk g ≠ some b) := by rw [hg]; exact new_blk HG.out.2.1 (Nat.le_refl _)
  have HDR : Hid (∀ x ∈ L, ∀ b, ruBlk x = some b → ruBlk g ≠ some b) := by rw [hg]; exact new_blkR HG.out.2.1 (by omega)
  have HFR : Hid (Fr base base2 w ((w.alloc (.cells #[.string rs] 9)).alloc (.cells #[] 81))) := (Fr.alloc base base2 w _ hb hb2).trans (Fr.alloc base base2 _ _ (by simp; omega) (by simp; omega))
  have hsz : ((w.alloc (.cells #[.string rs] 9)).alloc (.cells #[] 81)).heap.size = w.heap.size + 1 + 1 := by simp
  have HX2 : Hid (∀ j u, (FGr.enc g)[j]? = some u → (((w.alloc (.cells #[.string rs] 9)).alloc (.cells #[] 81)).alloc (.cells #[.slice (some ⟨w.heap.size, 0, none⟩) 1 1, .slice (some ⟨w.heap.size + 1, 0, none⟩) 0 0, .int .i64 0] 29)).cell? ((⟨w.heap.size + 1 + 1, 0, none⟩ : Addr).add j) = some u) := HEN.out ▸ cell_three_newE hsz _ _ _ _
  clear hg hsz
  cases hstar : (rs.toList == [42]) with
  | true =>
    go_enter Tryz.func114, Tryz.ntmps114
    go_wp2_with (at_builtin; refine wpList_append_own _ rfl _ _ 35 rfl base 29 i0 (.agg #[.slice none 0 0, .slice none 0 0, .int .i64 0]) 3 56 Tryz.underlying35 hi hz0 hz1 hz2 rfl (by decide) _ _ _ rfl (HN2.out.alloc _).1 ⟨w.heap.size + 1 + 1, 0, none⟩ 1 1 (FGr.enc g) rfl rfl HX2.out (FGr.one g) ?c3 ?c4 ?c5 ?_)
    case c3 => first | (unfold maxLen; omega) | (simp [maxLen])
    case c4 => first | omega | simp
    case c5 => simp; omega
    intro v8 w8 hown8 hgrow8 _
    have H8 : Hid (GsOwn w8 base base2 v8 (L ++ [g])) := (HN2.out.alloc _).more (HGO.out.keep (alloc_keep _ _)) HDN.out HDR.out hown8 hgrow8
    have HF8 : Hid (Fr base base2 w w8) := (HFR.out.trans (Fr.alloc base base2 _ _ (by simp; omega) (by simp; omega))).trans (Fr.row (HN2.out.alloc _).1 hgrow8 (by simp; omega))
    clear hown8 hgrow8
    go_wp2
    go_ret2
    exact ⟨v8, L ++ [g], rfl, H8.out, by rw [List.map_append, List.map_cons, List.map_nil, HGN.out], HF8.out⟩
  | false =>
    have hnb : nameB rs = true := by
      have := HC.out
      unfold callB at this
      rw [hstar] at this
      exact this
    go_enter Tryz.func114, Tryz.ntmps114
    go_wp2_with (first | (go_at_call 44; refine (specName_any rs _ (by unfold maxLen; omega)).mono ?_; rintro e w1 ⟨rfl, e1⟩; have e2 := e1.symm; subst e2) | (at_builtin; refine wpList_append_own _ rfl _ _ 35 rfl base 29 i0 (.agg #[.slice none 0 0, .slice none 0 0, .int .i64 0]) 3 56 Tryz.underlying35 hi hz0 hz1 hz2 rfl (by decide) _ _ _ rfl (HN2.out.alloc _).1 ⟨w.heap.size + 1 + 1, 0, none⟩ 1 1 (FGr.enc g) rfl rfl HX2.out (FGr.one g) ?c3 ?c4 ?c5 ?_))
    case c3 => first | (unfold maxLen; omega) | (simp [maxLen])
    case c4 => first | omega | simp
    case c5 => simp; omega
    intro v8 w8 hown8 hgrow8 _
    have H8 : Hid (GsOwn w8 base base2 v8 (L ++ [g])) := (HN2.out.alloc _).more (HGO.out.keep (alloc_keep _ _)) HDN.out HDR.out hown8 hgrow8
    have HF8 : Hid (Fr base base2 w w8) := (HFR.out.trans (Fr.alloc base base2 _ _ (by simp; omega) (by simp; omega))).trans (Fr.row (HN2.out.alloc _).1 hgrow8 (by simp; omega))
    clear hown8 hgrow8
    go_wp2
    go_ret2
    exact ⟨v8, L ++ [g], rfl, H8.out, by rw [List.map_append, List.map_cons, List.map_nil, HGN.out], HF8.out⟩
set_option maxRecDepth 100000 in
set_option maxHeartbeats 3200000 in
theorem line_new0 (base base2 : Nat) (v : Value) (wd rs : ByteArray) (w : World) (h : GsOwn w base base2 v []) (hb : base ≤ w.heap.size) (hb2 : base2 ≤ w.heap.size) (hr : rs.size ≤ 4194304)
    (hw : (wd.toList == [99, 97, 108, 108, 101, 114]) = true) (hc : callB rs = true) :
    Calls Tryz.prog 114 #[v, .string wd, .string rs, .bool false] w fun e w' => Read base base2 w ⟨[([rs], [], 0)], false⟩ e w' := by
  obtain ⟨i0, hi, hz0, hz1, hz2⟩ := info_group
  obtain ⟨a0, cap, hv, hI, _⟩ := h.at
  have hv : v = .slice a0 0 cap := hv
  subst hv
  have HG : Hid (GsOwn w base base2 (.slice a0 0 cap) []) := h
  have hc1 : 0 ≤ cap := hI.1
  have hc2 := hI.2.1
  unfold maxLen at hc2
  have HC : Hid (callB rs = true) := hc
  clear h hI hc
  have HN1 : Hid (GsOwn (w.alloc (.cells #[.string rs] 9)) base base2 (.slice a0 0 cap) []) := HG.out.alloc _
  have HN2 : Hid (GsOwn ((w.alloc (.cells #[.string rs] 9)).alloc (.cells #[] 81)) base base2 (.slice a0 0 cap) []) := HN1.out.alloc _
  obtain ⟨g, hg⟩ : ∃ g : Gr, g = ⟨[rs], some ⟨w.heap.size, 0, none⟩, 1, [], some ⟨w.heap.size + 1, 0, none⟩, 0, 0⟩ := ⟨_, rfl⟩
  have HGN : Hid (grp g = ([rs], [], 0)) := by rw [hg]; rfl
  have HEN : Hid (FGr.enc g = [.slice (some ⟨w.heap.size, 0, none⟩) 1 1, .slice (some ⟨w.heap.size + 1, 0, none⟩) 0 0, .int .i64 0]) := by rw [hg]; rfl
  have HGO : Hid (GrOwn ((w.alloc (.cells #[.string rs] 9)).alloc (.cells #[] 81)) base2 g) := by
    rw [hg]
    refine ⟨(Owns.lit1 w base2 rs hb2).keep (alloc_keep _ _), ?_⟩
    have := OwnsR.empty FRu 81 (w.alloc (.cells #[.string rs] 9)) base2 (by simp; omega)
    simpa using this
  have HDN : Hid (∀ x ∈ [], ∀ b, nmBlk x = some b → nmBlk g ≠ some b) := by rw [hg]; exact new_blk HG.out.2.1 (Nat.le_refl _)
  have HDR : Hid (∀ x ∈ [], ∀ b, ruBlk x = some b → ruBlk g ≠ some b) := by rw [hg]; exact new_blkR HG.out.2.1 (by omega)
  have HFR : Hid (Fr base base2 w ((w.alloc (.cells #[.string rs] 9)).alloc (.cells #[] 81))) := (Fr.alloc base base2 w _ hb hb2).trans (Fr.alloc base base2 _ _ (by simp; omega) (by simp; omega))
  have hsz : ((w.alloc (.cells #[.string rs] 9)).alloc (.cells #[] 81)).heap.size = w.heap.size + 1 + 1 := by simp
  have HX2 : Hid (∀ j u, (FGr.enc g)[j]? = some u → (((w.alloc (.cells #[.string rs] 9)).alloc (.cells #[] 81)).alloc (.cells #[.slice (some ⟨w.heap.size, 0, none⟩) 1 1, .slice (some ⟨w.heap.size + 1, 0, none⟩) 0 0, .int .i64 0] 29)).cell? ((⟨w.heap.size + 1 + 1, 0, none⟩ : Addr).add j) = some u) := HEN.out ▸ cell_three_newE hsz _ _ _ _
  clear hg hsz
  cases hstar : (rs.toList == [42]) with
  | true =>
    go_enter Tryz.func114, Tryz.ntmps114
    go_wp2_with (at_builtin; refine wpList_append_own _ rfl _ _ 35 rfl base 29 i0 (.agg #[.slice none 0 0, .slice none 0 0, .int .i64 0]) 3 56 Tryz.underlying35 hi hz0 hz1 hz2 rfl (by decide) _ _ _ rfl (HN2.out.alloc _).1 ⟨w.heap.size + 1 + 1, 0, none⟩ 1 1 (FGr.enc g) rfl rfl HX2.out (FGr.one g) ?c3 ?c4 ?c5 ?_)
    case c3 => first | (unfold maxLen; omega) | (simp [maxLen])
    case c4 => first | omega | simp
    case c5 => simp; omega
    intro v8 w8 hown8 hgrow8 _
    have H8 : Hid (GsOwn w8 base base2 v8 ([] ++ [g])) := (HN2.out.alloc _).more (HGO.out.keep (alloc_keep _ _)) HDN.out HDR.out hown8 hgrow8
    have HF8 : Hid (Fr base base2 w w8) := (HFR.out.trans (Fr.alloc base base2 _ _ (by simp; omega) (by simp; omega))).trans (Fr.row (HN2.out.alloc _).1 hgrow8 (by simp; omega))
    clear hown8 hgrow8
    go_wp2
    go_ret2
    exact ⟨v8, [] ++ [g], rfl, H8.out, by rw [List.map_append, List.map_cons, List.map_nil, HGN.out]; rfl, HF8.out⟩
  | false =>
    have hnb : nameB rs = true := by
      have := HC.out
      unfold callB at this
      rw [hstar] at this
      exact this
    go_enter Tryz.func114, Tryz.ntmps114
    go_wp2_with (first | (go_at_call 44; refine (specName_any rs _ (by unfold maxLen; omega)).mono ?_; rintro e w1 ⟨rfl, e1⟩; have e2 := e1.symm; subst e2) | (at_builtin; refine wpList_append_own _ rfl _ _ 35 rfl base 29 i0 (.agg #[.slice none 0 0, .slice none 0 0, .int .i64 0]) 3 56 Tryz.underlying35 hi hz0 hz1 hz2 rfl (by decide) _ _ _ rfl (HN2.out.alloc _).1 ⟨w.heap.size + 1 + 1, 0, none⟩ 1 1 (FGr.enc g) rfl rfl HX2.out (FGr.one g) ?c3 ?c4 ?c5 ?_))
    case c3 => first | (unfold maxLen; omega) | (simp [maxLen])
    case c4 => first | omega | simp
    case c5 => simp; omega
    intro v8 w8 hown8 hgrow8 _
    have H8 : Hid (GsOwn w8 base base2 v8 ([] ++ [g])) := (HN2.out.alloc _).more (HGO.out.keep (alloc_keep _ _)) HDN.out HDR.out hown8 hgrow8
    have HF8 : Hid (Fr base base2 w w8) := (HFR.out.trans (Fr.alloc base base2 _ _ (by simp; omega) (by simp; omega))).trans (Fr.row (HN2.out.alloc _).1 hgrow8 (by simp; omega))
    clear hown8 hgrow8
    go_wp2
    go_ret2
    exact ⟨v8, [] ++ [g], rfl, H8.out, by rw [List.map_append, List.map_cons, List.map_nil, HGN.out]; rfl, HF8.out⟩
end Go.Proofs.YtmgcdfmgmpnonaaGreatDoor.NrS
