/- Several texts in one: PgA1, PgA2, PgA3. -/
import Derived.Test.YtjeohndfgamiaaaGreatDoorDraw10
import Derived.Test.YtjeohndfgamiaaaGreatDoorPage3Pk
import Derived.Test.YtjeohndfgamiaaaGreatDoorReadMathPk
import Derived.Deep.AppendLies
/- Where pages lead: mathematics, and joins by texts of any length. -/
namespace Go.Proofs.YtjeohndfgamiaaaGreatDoor.PgA
open Go.RowKit Go.Proofs.YtjeohndfgamiaaaGreatDoor.EscM Go.Proofs.YtjeohndfgamiaaaGreatDoor.St Go.Proofs.YtjeohndfgamiaaaGreatDoor.AddrM Go.Proofs.YtjeohndfgamiaaaGreatDoor.ReadM Go.Proofs.YtjeohndfgamiaaaGreatDoor.EscL Go.Proofs.YtjeohndfgamiaaaGreatDoor.Ad1 Go.Proofs.YtjeohndfgamiaaaGreatDoor.Dr Go.Proofs.YtjeohndfgamiaaaGreatDoor.Im Go.Proofs.YtjeohndfgamiaaaGreatDoor.Rd1 Go.Proofs.YtjeohndfgamiaaaGreatDoor.Door Go.Proofs.YtjeohndfgamiaaaGreatDoor.JnM Go.Proofs.YtjeohndfgamiaaaGreatDoor.Jn Go.Proofs.YtjeohndfgamiaaaGreatDoor.PgM Go.Proofs.YtjeohndfgamiaaaGreatDoor.RB

theorem join_long {A : Ad} {l : List UInt8} (h : 60 < l.length) : joinF A l = none := by
  unfold joinF
  cases okB A with
  | false => rfl
  | true => rw [if_pos h]; rfl

set_option maxRecDepth 100000 in
set_option maxHeartbeats 3200000 in
theorem implJoin_long (A : Ad) (ref : ByteArray) (a0 : Option Addr) (cap : Nat) (w : World) (hS : IsStrs w a0 cap A.parts) (hB : bulkA A ≤ 1000) (hr : 60 < ref.size) (hm : ref.size ≤ 1000000) :
    Calls Tryz.prog 15 #[.agg #[.string A.house, .slice a0 A.parts.length cap, .bool A.asks, .string A.ask], .string ref] w fun e w' => Reads (joinF A ref.data.toList) w e w' := by
  have HN : Hid (joinF A ref.data.toList = none) := join_long (by simp; exact hr)
  have HS : Hid (IsStrs w a0 cap A.parts) := hS
  have hb4 : bulkA A ≤ 4194304 := by omega
  clear hS
  generalize joinF A ref.data.toList = R at *
  go_enter Tryz.func15, Tryz.ntmps15
  go_wp2_with fail
  refine (implOk_any A a0 cap _ (HS.out.keep (fun k hk => by rw [alloc_keep _ _ k (by simp; omega), alloc_keep _ _ k hk])) hb4).mono ?_
  rintro e w1 ⟨rfl, hb1⟩
  have HB1 : Hid (Below (w.heap.size + 1 + 1) ((w.alloc (.cells #[.string A.house, .slice a0 A.parts.length cap, .bool A.asks, .string A.ask] 25)).alloc (.cells #[.string ⟨#[]⟩, .slice none 0 0, .bool false, .string ⟨#[]⟩] 25)) w1) := hb1.mono (by simp)
  have hb1' := HB1.out
  obtain ⟨⟨c0, c1, c2, c3⟩, ⟨d0, d1, d2, d3⟩, dz⟩ := two_cells hb1'
  clear hb1 hb1'
  cases hok : okB A with
  | false =>
    go_wp2
    refine bodyPost_ret (v := .tuple #[.agg #[.string ⟨#[]⟩, .slice none 0 0, .bool false, .string ⟨#[]⟩], .bool false]) (by simp [results, Tryz.results15, go_sem, d0, d1, d2, d3]) rfl ?_
    refine ⟨zeroAd, false, none, 0, rfl, Or.inr ⟨rfl, HN.out, rfl⟩, Owns.nil _ _, ?_⟩
    have hbw := two_below HB1.out
    iterate 4 refine Below.setCell ?_ (by dsimp only; omega) _
    exact hbw
  | true =>
    go_wp2
    refine bodyPost_ret (v := .tuple #[.agg #[.string ⟨#[]⟩, .slice none 0 0, .bool false, .string ⟨#[]⟩], .bool false]) (by simp [results, Tryz.results15, go_sem, d0, d1, d2, d3]) rfl ?_
    refine ⟨zeroAd, false, none, 0, rfl, Or.inr ⟨rfl, HN.out, rfl⟩, Owns.nil _ _, ?_⟩
    have hbw := two_below HB1.out
    iterate 4 refine Below.setCell ?_ (by dsimp only; omega) _
    exact hbw

set_option maxRecDepth 100000 in
set_option maxHeartbeats 3200000 in
theorem specJoin_long (A : Ad) (ref : ByteArray) (a0 : Option Addr) (cap : Nat) (w : World) (hS : IsStrs w a0 cap A.parts) (hB : bulkA A ≤ 1000) (hr : 60 < ref.size) (hm : ref.size ≤ 1000000) :
    Calls Tryz.prog 26 #[.agg #[.string A.house, .slice a0 A.parts.length cap, .bool A.asks, .string A.ask], .string ref] w fun e w' => Reads (joinF A ref.data.toList) w e w' := by
  have HN : Hid (joinF A ref.data.toList = none) := join_long (by simp; exact hr)
  have HS : Hid (IsStrs w a0 cap A.parts) := hS
  have hb4 : bulkA A ≤ 4194304 := by omega
  have HC : Hid _ := fun W => specCut_any ref 35 W (by omega) (by omega) (by omega)
  clear hS
  generalize bs (cutL 35 ref.data.toList).1 = t at *
  generalize bs (cutL 35 ref.data.toList).2.1 = u at *
  generalize (cutL 35 ref.data.toList).2.2 = z at *
  generalize joinF A ref.data.toList = R at *
  go_enter Tryz.func26, Tryz.ntmps26
  go_wp2_with fail
  refine (HC.out _).mono ?_
  rintro e w0 ⟨rfl, nq, hw0⟩
  have HB0 : Hid (Below (w.heap.size + 1 + 1) ((w.alloc (.cells #[.string A.house, .slice a0 A.parts.length cap, .bool A.asks, .string A.ask] 25)).alloc (.cells #[.string ⟨#[]⟩, .slice none 0 0, .bool false, .string ⟨#[]⟩] 25)) w0) := by subst hw0; exact below_drewN (Below.refl _ _) nq
  have hb0' := HB0.out
  obtain ⟨⟨c0, c1, c2, c3⟩, ⟨d0, d1, d2, d3⟩, dz⟩ := two_cells hb0'
  clear hw0 hb0' HC
  go_wp2_with fail
  refine (specOk_any A a0 cap _ (HS.out.below (two_below HB0.out)) hb4).mono ?_
  rintro e w2 ⟨rfl, hb2⟩
  have HB2 : Hid _ := two_next HB0.out hb2
  clear hb2 HB0 c0 c1 c2 c3 d0 d1 d2 d3 dz
  have hb2' := HB2.out
  obtain ⟨⟨c0, c1, c2, c3⟩, ⟨d0, d1, d2, d3⟩, dz⟩ := two_cells hb2'
  clear hb2'
  cases hok : okB A with
  | false =>
    go_wp2
    refine bodyPost_ret (v := .tuple #[.agg #[.string ⟨#[]⟩, .slice none 0 0, .bool false, .string ⟨#[]⟩], .bool false]) (by simp [results, Tryz.results26, go_sem, d0, d1, d2, d3]) rfl ?_
    refine ⟨zeroAd, false, none, 0, rfl, Or.inr ⟨rfl, HN.out, rfl⟩, Owns.nil _ _, ?_⟩
    have hbw := two_below HB2.out
    iterate 4 refine Below.setCell ?_ (by dsimp only; omega) _
    exact hbw
  | true =>
    go_wp2
    refine bodyPost_ret (v := .tuple #[.agg #[.string ⟨#[]⟩, .slice none 0 0, .bool false, .string ⟨#[]⟩], .bool false]) (by simp [results, Tryz.results26, go_sem, d0, d1, d2, d3]) rfl ?_
    refine ⟨zeroAd, false, none, 0, rfl, Or.inr ⟨rfl, HN.out, rfl⟩, Owns.nil _ _, ?_⟩
    have hbw := two_below HB2.out
    iterate 4 refine Below.setCell ?_ (by dsimp only; omega) _
    exact hbw

theorem implJoin_page (A : Ad) (ref : ByteArray) (a0 : Option Addr) (cap : Nat) (w : World) (hM : Mx w) (hS : IsStrs w a0 cap A.parts) (hB : bulkA A ≤ 1000) (hr : ref.size ≤ 300) (ha : ascii ref) :
    Calls Tryz.prog 15 #[.agg #[.string A.house, .slice a0 A.parts.length cap, .bool A.asks, .string A.ask], .string ref] w fun e w' => Reads (joinF A ref.data.toList) w e w' := by
  by_cases h : ref.size ≤ 60
  · exact implJoin_ascii A ref a0 cap w hM hS hB h ha
  · exact implJoin_long A ref a0 cap w hS hB (by omega) (by omega)
theorem specJoin_page (A : Ad) (ref : ByteArray) (a0 : Option Addr) (cap : Nat) (w : World) (hS : IsStrs w a0 cap A.parts) (hB : bulkA A ≤ 1000) (hr : ref.size ≤ 300) :
    Calls Tryz.prog 26 #[.agg #[.string A.house, .slice a0 A.parts.length cap, .bool A.asks, .string A.ask], .string ref] w fun e w' => Reads (joinF A ref.data.toList) w e w' := by
  by_cases h : ref.size ≤ 60
  · exact specJoin_any A ref a0 cap w hS hB h
  · exact specJoin_long A ref a0 cap w hS hB (by omega) (by omega)

/-- from where links of a page lead -/
def fromF (A : Ad) (t : ByteArray) : Ad := if (baseF t).2 then (match joinF A (baseF t).1.data.toList with | some B => B | none => A) else A
def putL (L : List ByteArray) (x : ByteArray) : List ByteArray := if hasB x L then L else L ++ [x]
def pageStep (B : Ad) (acc : List ByteArray) (l : ByteArray) : List ByteArray := match joinF B l.data.toList with | some C => putL acc (textF C) | none => acc
def pageL (B : Ad) (links : List ByteArray) : List ByteArray := links.foldl (pageStep B) []
/-- where one comes from a page -/
def pageF (A : Ad) (t : ByteArray) : List ByteArray := if okB A then pageL (fromF A t) (linksF t) else []
theorem page_bad {A : Ad} {t : ByteArray} (h : okB A = false) : pageF A t = [] := by unfold pageF; rw [h]; rfl
theorem page_ok {A : Ad} {t : ByteArray} (h : okB A = true) : pageF A t = pageL (fromF A t) (linksF t) := by unfold pageF; rw [h]; rfl
theorem from_ok {A : Ad} {t : ByteArray} (h : okB A = true) : okB (fromF A t) = true := by
  unfold fromF
  split
  · split
    · rename_i B hj; exact join_ok hj
    · exact h
  · exact h
theorem from_bulk {A : Ad} {t : ByteArray} (h : okB A = true) : bulkA (fromF A t) ≤ 1000 := (ok_sum (from_ok h)).2
theorem page_snoc {B : Ad} {L : List ByteArray} {k : Nat} (h : k < L.length) : pageL B (L.take (k + 1)) = pageStep B (pageL B (L.take k)) L[k] := by
  unfold pageL
  rw [List.take_succ_eq_append_getElem h, List.foldl_append]; rfl
theorem put_len (L : List ByteArray) (x : ByteArray) : (putL L x).length ≤ L.length + 1 := by unfold putL; split <;> simp
theorem step_len (B : Ad) (L : List ByteArray) (x : ByteArray) : (pageStep B L x).length ≤ L.length + 1 := by
  unfold pageStep; split
  · exact put_len _ _
  · omega
theorem pageL_len (B : Ad) : ∀ (L acc : List ByteArray), (L.foldl (pageStep B) acc).length ≤ acc.length + L.length := by
  intro L
  induction L with
  | nil => intro acc; simp
  | cons x L ih => intro acc; have := ih (pageStep B acc x); have := step_len B acc x; simp only [List.foldl_cons, List.length_cons]; omega
theorem ascii_mk : ∀ (r : List UInt8) (p : Nat) (m : List UInt8), (∀ b ∈ m, b.toNat < 128) → (∀ b ∈ r, b.toNat < 128) → ∀ s ∈ mk p m r, ∀ b ∈ s.data.toList, b.toNat < 128 := by
  intro r
  induction r with
  | nil => intro p m _ _ s hs; cases hs
  | cons c r ih =>
    intro p m hm hr s hs b hb
    rw [mk_cons] at hs
    have hc := hr c (by simp)
    have hr' : ∀ b ∈ r, b.toNat < 128 := fun b hb => hr b (by simp [hb])
    rcases List.mem_append.1 hs with hs | hs
    · unfold outM at hs
      split at hs
      · simp at hs; subst hs
        exact hm b (by simpa [bs] using hb)
      · cases hs
    · refine ih _ _ ?_ hr' s hs b hb
      intro x hx
      unfold nextM at hx
      split at hx
      · split at hx
        · exact hm x hx
        · rcases List.mem_append.1 hx with hx | hx
          · exact hm x hx
          · simp at hx; subst hx; exact hc
      · split at hx
        · exact hm x hx
        · split at hx
          · cases hx
          · exact hm x hx
theorem marks_ascii {t : ByteArray} (h : asciiB t = true) : ∀ x ∈ marksF t, ascii x := by
  intro x hx
  unfold marksF at hx
  split at hx
  · cases hx
  · rw [ascii_mem]
    exact ascii_mk _ 0 [] (by simp) (fun b hb => (ascii_mem.1 (ascii_of h)) b hb) x hx
theorem links_ascii {t : ByteArray} (h : asciiB t = true) : ∀ x ∈ linksF t, ascii x := fun x hx => marks_ascii h x (List.mem_filter.1 hx).1
theorem base_ascii {t : ByteArray} (h : asciiB t = true) : ascii (baseF t).1 := by
  unfold baseF baseL
  cases hf : (marksF t).find? (headIs 64) with
  | none => rw [ascii_mem]; intro b hb; cases hb
  | some m =>
    have hm := marks_ascii h m (List.mem_of_find?_eq_some hf)
    rw [ascii_mem] at hm ⊢
    intro b hb
    exact hm b (List.mem_of_mem_tail (by simpa [tailS, bs] using hb))
end Go.Proofs.YtjeohndfgamiaaaGreatDoor.PgA
/- Where pages lead: lists in which each stands once. -/
namespace Go.Proofs.YtjeohndfgamiaaaGreatDoor.PgA
open Go.RowKit Go.Proofs.YtjeohndfgamiaaaGreatDoor.EscM Go.Proofs.YtjeohndfgamiaaaGreatDoor.St Go.Proofs.YtjeohndfgamiaaaGreatDoor.AddrM Go.Proofs.YtjeohndfgamiaaaGreatDoor.ReadM Go.Proofs.YtjeohndfgamiaaaGreatDoor.EscL Go.Proofs.YtjeohndfgamiaaaGreatDoor.Ad1 Go.Proofs.YtjeohndfgamiaaaGreatDoor.Dr Go.Proofs.YtjeohndfgamiaaaGreatDoor.Im Go.Proofs.YtjeohndfgamiaaaGreatDoor.Rd1 Go.Proofs.YtjeohndfgamiaaaGreatDoor.Door Go.Proofs.YtjeohndfgamiaaaGreatDoor.JnM Go.Proofs.YtjeohndfgamiaaaGreatDoor.Jn Go.Proofs.YtjeohndfgamiaaaGreatDoor.PgM Go.Proofs.YtjeohndfgamiaaaGreatDoor.RB

theorem has_take {L : List ByteArray} {k : Nat} {x : ByteArray} (h : k < L.length) (hn : x ∉ L.take k) (he : ¬ L[k] = x) : x ∉ L.take (k + 1) := by
  rw [List.take_succ_eq_append_getElem h, List.mem_append]
  rintro (h' | h')
  · exact hn h'
  · simp at h'; exact he h'.symm

set_option maxRecDepth 100000 in
set_option maxHeartbeats 1600000 in
theorem index_any (a0 : Option Addr) (cap : Nat) (L : List ByteArray) (x : ByteArray) (w : World) (hA : IsStrs w a0 cap L) (hl : L.length ≤ 4194304) :
    Calls Tryz.prog 53 #[.slice a0 L.length cap, .string x] w fun e w' => (∃ z : Int, e = .returned (.int .i64 z) ∧ (0 ≤ z ↔ hasB x L = true)) ∧ ∃ n, w' = w.drewN n := by
  have HA : Hid (IsStrs w a0 cap L) := hA
  clear hA
  go_enter Tryz.func53, Tryz.ntmps53
  go_wp2
  go_loopw [8] (fun i wr => ∃ k : Nat, k ≤ L.length ∧ i = .int .i64 (k : Int) ∧ Hid (x ∉ L.take k) ∧ Hid (∃ n, wr = w.drewN n)) (fun i _ => L.length - (intOf i).toNat)
  case atStart => exact ⟨0, Nat.zero_le _, rfl, by show x ∉ _; simp, ⟨0, rfl⟩⟩
  case round =>
    obtain ⟨k, hk, rfl, HN, HW⟩ := hrel
    by_cases hlt : k < L.length
    · have hpw := HW.out
      obtain ⟨n, hn⟩ := hpw
      obtain ⟨b1, o1, e1, c1⟩ := (IsStrs.drewN HA.out n).at hlt
      rw [← hn] at c1
      clear hn
      subst e1
      cases he : (x.toList == L[k].toList) with
      | true =>
        have HE : Hid (hasB x L = true) := by
          apply hasB_iff.2
          rw [str_eq_iff] at he
          have := of_decide_eq_true he
          rw [this]; exact List.getElem_mem hlt
        go_wp2
        go_ret
        exact ⟨⟨_, rfl, by rw [HE.out]; simp⟩, HW.out⟩
      | false =>
        have HE : Hid (x ∉ L.take (k + 1)) := by
          rw [str_eq_iff] at he
          exact has_take hlt HN.out (fun e => of_decide_eq_false he e.symm)
        go_wp2
        go_roundw
        case rel => exact ⟨k + 1, by omega, by go_num, HE, HW⟩
        case measure => simp [intOf]; omega
    · have HE : Hid (hasB x L = false) := by
        apply hasB_no.2
        have e1 : L.take k = L := List.take_of_length_le (by omega)
        rw [← e1]; exact HN.out
      go_wp2
      go_ret
      exact ⟨⟨-1, rfl, by rw [HE.out]; simp⟩, HW.out⟩
theorem contains_any (a0 : Option Addr) (cap : Nat) (L : List ByteArray) (x : ByteArray) (w : World) (hA : IsStrs w a0 cap L) (hl : L.length ≤ 4194304) :
    Calls Tryz.prog 25 #[.slice a0 L.length cap, .string x] w fun e w' => e = .returned (.bool (hasB x L)) ∧ ∃ n, w' = w.drewN n := by
  have HA : Hid (IsStrs w a0 cap L) := hA
  clear hA
  go_enter Tryz.func25, Tryz.ntmps25
  go_wp2_with fail
  refine (index_any a0 cap L x _ HA.out hl).mono ?_
  rintro e w1 ⟨⟨z, rfl, hz⟩, n, rfl⟩
  have HZ : Hid (decide (0 ≤ z) = hasB x L) := by
    show _ = _
    rw [Bool.eq_iff_iff, decide_eq_true_eq]; exact hz
  clear hz
  go_wp2
  go_ret
  exact ⟨ret_bool HZ.out, n, rfl⟩

set_option maxRecDepth 100000 in
set_option maxHeartbeats 1600000 in
theorem put_any (base : Nat) (v : Value) (L : List ByteArray) (x : ByteArray) (w : World) (hO : Owns w base v L) (hb : base ≤ w.heap.size) (hl : L.length ≤ 100000) :
    Calls Tryz.prog 28 #[v, .string x] w fun e w' => ∃ v', e = .returned v' ∧ Owns w' base v' (putL L x) ∧ w.grownBy w' v.ownBlock ∧ (v'.ownBlock = v.ownBlock ∨ ∃ g, v'.ownBlock = some g ∧ w.heap.size ≤ g) := by
  obtain ⟨i0, hi, hz0, hz1, hz2⟩ := info_parts Tryz.infoS
  obtain ⟨a0, cap, hv, hS⟩ := hO.strs
  subst hv
  have HO : Hid (Owns w base (.slice a0 L.length cap) L) := hO
  have HA : Hid (IsStrs w a0 cap L) := hS
  clear hO hS
  go_enter Tryz.func28, Tryz.ntmps28
  go_wp2
  go_loop [5] (fun i => ∃ k : Nat, k ≤ L.length ∧ i = .int .i64 (k : Int) ∧ Hid (x ∉ L.take k)) (fun i => L.length - (intOf i).toNat)
  case atStart => exact ⟨0, Nat.zero_le _, rfl, by show x ∉ _; simp⟩
  case round =>
    obtain ⟨k, hk, rfl, HN⟩ := hrel
    by_cases hlt : k < L.length
    · obtain ⟨b1, o1, e1, c1⟩ := HA.out.at hlt
      subst e1
      cases he : (L[k].toList == x.toList) with
      | true =>
        have HE : Hid (putL L x = L) := by
          show _ = _
          rw [str_eq_iff] at he
          have := of_decide_eq_true he
          unfold putL
          rw [hasB_iff.2 (by rw [← this]; exact List.getElem_mem hlt)]; rfl
        go_wp2
        go_ret
        exact ⟨_, rfl, by rw [HE.out]; exact HO.out, Dr.grown_refl _ _, Or.inl rfl⟩
      | false =>
        have HE : Hid (x ∉ L.take (k + 1)) := by
          rw [str_eq_iff] at he
          exact has_take hlt HN.out (of_decide_eq_false he)
        go_wp2
        go_round
        case rel => exact ⟨k + 1, by omega, by go_num, HE⟩
        case measure => simp [intOf]; omega
    · have HE : Hid (putL L x = L ++ [x]) := by
        show _ = _
        have e1 : L.take k = L := List.take_of_length_le (by omega)
        have hn := HN.out
        rw [e1] at hn
        unfold putL
        rw [hasB_no.2 hn]; rfl
      go_wp2_with (at_builtin; refine wpList_append_lies _ rfl _ _ 23 rfl base 9 i0 (.string ⟨#[]⟩) 1 16 Tryz.underlying23 hi hz0 hz1 hz2 rfl (by decide) _ _ _ rfl (World.ownsRow.alloc HO.out _) ⟨w.heap.size, 0, none⟩ 1 1 [.string x] rfl rfl (cell_one_new _ _ _) ?c2 (by omega) ?c3 ?c4 ?c5 (w.heap.size + 1) ?c6 ?_)
      case c2 => first | rfl | (intro u hu; simp at hu; subst hu; rfl)
      case c3 => unfold maxLen; omega
      case c4 => omega
      case c5 => first | omega | (simp; omega)
      intro g c2 w2 hown' hgrow hat _
      have HO' : Hid _ := hown'
      have HG : Hid (w.grownBy w2 (Value.slice a0 L.length cap).ownBlock) := Dr.grown_trans (grown_alloc w _ _) hgrow
      have HAT : Hid ((Value.slice (some ⟨g, 0, none⟩) (L.length + 1) c2).ownBlock = (Value.slice a0 L.length cap).ownBlock ∨ ∃ g', (Value.slice (some ⟨g, 0, none⟩) (L.length + 1) c2).ownBlock = some g' ∧ w.heap.size ≤ g') := by
        rcases hat with h | h
        · exact Or.inl h.symm
        · exact Or.inr ⟨g, rfl, by omega⟩
      clear hown' hgrow hat
      go_wp2
      go_ret
      exact ⟨_, rfl, by rw [HE.out]; exact Owns.append HO'.out, HG.out, HAT.out⟩
theorem strs_apart {w w' : World} {a0 : Option Addr} {cap : Nat} {L : List ByteArray} {row : Option Nat} (h : IsStrs w a0 cap L) (hg : w.grownBy w' row) (hne : ∀ a, a0 = some a → row ≠ some a.block) : IsStrs w' a0 cap L := by
  obtain ⟨h1, h2, h3, h4⟩ := h
  refine ⟨h1, h2, h3, fun hn => ?_⟩
  obtain ⟨b, off, e, hc⟩ := h4 hn
  refine ⟨b, off, e, fun i hi => ?_⟩
  have hb := St.cell_block (hc i hi)
  rw [World.cell?_of_block (w := w) (hg.block _ hb (fun e' => hne _ e e'.symm))]; exact hc i hi
end Go.Proofs.YtjeohndfgamiaaaGreatDoor.PgA
/- Where pages lead: the program's. -/
namespace Go.Proofs.YtjeohndfgamiaaaGreatDoor.PgA
open Go.RowKit Go.Proofs.YtjeohndfgamiaaaGreatDoor.EscM Go.Proofs.YtjeohndfgamiaaaGreatDoor.St Go.Proofs.YtjeohndfgamiaaaGreatDoor.AddrM Go.Proofs.YtjeohndfgamiaaaGreatDoor.ReadM Go.Proofs.YtjeohndfgamiaaaGreatDoor.EscL Go.Proofs.YtjeohndfgamiaaaGreatDoor.Ad1 Go.Proofs.YtjeohndfgamiaaaGreatDoor.Dr Go.Proofs.YtjeohndfgamiaaaGreatDoor.Im Go.Proofs.YtjeohndfgamiaaaGreatDoor.Rd1 Go.Proofs.YtjeohndfgamiaaaGreatDoor.Door Go.Proofs.YtjeohndfgamiaaaGreatDoor.JnM Go.Proofs.YtjeohndfgamiaaaGreatDoor.Jn Go.Proofs.YtjeohndfgamiaaaGreatDoor.PgM Go.Proofs.YtjeohndfgamiaaaGreatDoor.RB Go.Proofs.YtjeohndfgamiaaaGreatDoor.Pg

set_option maxRecDepth 100000 in
set_option maxHeartbeats 3200000 in
theorem from_any (A : Ad) (t : ByteArray) (a0 : Option Addr) (cap : Nat) (w : World) (hM : Mx w) (hS : IsStrs w a0 cap A.parts) (hB : bulkA A ≤ 1000) (ht : t.size ≤ 4194304) (ha : asciiB t = true) :
    Calls Tryz.prog 24 #[.agg #[.string A.house, .slice a0 A.parts.length cap, .bool A.asks, .string A.ask], .string t] w fun e w' => ∃ a1 c1, e = .returned (.agg #[.string (fromF A t).house, .slice a1 (fromF A t).parts.length c1, .bool (fromF A t).asks, .string (fromF A t).ask]) ∧ IsStrs w' a1 c1 (fromF A t).parts ∧ Below w.heap.size w w' := by
  have HS : Hid (IsStrs w a0 cap A.parts) := hS
  have HM : Hid (Mx w) := hM
  have HBA : Hid _ := base_ascii ha
  have hbs := base_size t
  have HF : Hid (fromF A t = if (baseF t).2 then (match joinF A (baseF t).1.data.toList with | some B => B | none => A) else A) := rfl
  have htm : t.size ≤ maxLen := by unfold maxLen; omega
  have HIB : Hid _ := fun W => implBase_any t W htm
  clear hS hM ha
  generalize (baseF t).1 = ref at *
  generalize (baseF t).2 = told at *
  generalize fromF A t = R at *
  go_enter Tryz.func24, Tryz.ntmps24
  go_wp2_with fail
  refine (HIB.out _).mono ?_
  rintro e w1 ⟨rfl, hb1⟩
  have HB1 : Hid (Below (w.heap.size + 1 + 1) ((w.alloc (.cells #[.string A.house, .slice a0 A.parts.length cap, .bool A.asks, .string A.ask] 25)).alloc (.cells #[.string ⟨#[]⟩, .slice none 0 0, .bool false, .string ⟨#[]⟩] 25)) w1) := hb1.mono (by simp)
  have hb1' := HB1.out
  obtain ⟨⟨c0, c1, c2, c3⟩, ⟨d0, d1, d2, d3⟩, dz⟩ := two_cells hb1'
  clear hb1 hb1'
  cases told with
  | false =>
    have HR : Hid (R = A) := by show _ = _; rw [HF.out]; rfl
    clear HF
    go_wp2
    refine bodyPost_ret (v := .agg #[.string A.house, .slice a0 A.parts.length cap, .bool A.asks, .string A.ask]) (by simp [results, Tryz.results24, go_sem, d0, d1, d2, d3]) rfl ?_
    rw [HR.out]
    have hbw : Below w.heap.size w ((((w1.setCell ⟨w.heap.size + 1, 0, none⟩ (.string A.house)).setCell ⟨w.heap.size + 1, 1, none⟩ (.slice a0 A.parts.length cap)).setCell ⟨w.heap.size + 1, 2, none⟩ (.bool A.asks)).setCell ⟨w.heap.size + 1, 3, none⟩ (.string A.ask)) := by
      iterate 4 refine Below.setCell ?_ (by dsimp only; omega) _
      exact two_below HB1.out
    exact ⟨a0, cap, rfl, HS.out.below hbw, hbw⟩
  | true =>
    have HM1 : Hid (Mx w1) := HM.out.keep fun k hk => (two_below HB1.out).block k hk
    have HS1 : Hid (IsStrs w1 a0 cap A.parts) := HS.out.below (two_below HB1.out)
    go_wp2_with fail
    refine (implJoin_page A ref a0 cap _ HM1.out HS1.out hB hbs HBA.out).mono ?_
    rintro e w2 ⟨B, ok, x1, y1, rfl, hans, hO, hb2⟩
    have HB2 : Hid _ := two_next HB1.out hb2
    have HB3 : Hid _ := two_next HB2.out ((Below.refl _ w2).alloc (Nat.le_refl _) (.cells #[.string B.house, .slice x1 B.parts.length y1, .bool B.asks, .string B.ask] 25))
    have HO2 : Hid (Owns w2 w1.heap.size (.slice x1 B.parts.length y1) B.parts) := hO
    have hz1 : w.heap.size + 1 + 1 ≤ w1.heap.size := by have := HB1.out.size; simp at this; omega
    have hz2 : w.heap.size + 1 + 1 ≤ w2.heap.size := by have := HB2.out.size; simp at this; omega
    clear hO hb2 c0 c1 c2 c3 d0 d1 d2 d3 dz HB1
    have hb2' := HB3.out
    obtain ⟨⟨c0, c1, c2, c3⟩, ⟨d0, d1, d2, d3⟩, dz⟩ := two_cells hb2'
    clear hb2'
    rcases hans with ⟨rfl, hj⟩ | ⟨rfl, hj, rfl⟩
    · have HR : Hid (R = B) := by show _ = _; rw [HF.out, hj]; rfl
      clear HF hj
      go_wp2
      refine bodyPost_ret (v := .agg #[.string B.house, .slice x1 B.parts.length y1, .bool B.asks, .string B.ask]) (by simp [results, Tryz.results24, go_sem, d0, d1, d2, d3]) rfl ?_
      rw [HR.out]
      refine ⟨x1, y1, rfl, Owns.strsOf (base := w1.heap.size) (n := B.parts.length) ?_, ?_⟩
      · have hO := Owns.keep HO2.out (alloc_keep w2 (.cells #[.string B.house, .slice x1 B.parts.length y1, .bool B.asks, .string B.ask] 25))
        iterate 4 refine ownsRow_setCell_below ?_ (by dsimp only; omega) _
        exact hO
      · have hbw := two_below HB3.out
        iterate 4 refine Below.setCell ?_ (by dsimp only; omega) _
        exact hbw
    · have HR : Hid (R = A) := by show _ = _; rw [HF.out, hj]; rfl
      clear HF hj
      go_wp2
      refine bodyPost_ret (v := .agg #[.string A.house, .slice a0 A.parts.length cap, .bool A.asks, .string A.ask]) (by simp [results, Tryz.results24, go_sem, d0, d1, d2, d3]) rfl ?_
      rw [HR.out]
      have hbw := two_below HB3.out
      refine ⟨a0, cap, rfl, HS.out.below ?_, ?_⟩
      · iterate 4 refine Below.setCell ?_ (by dsimp only; omega) _
        exact hbw
      · iterate 4 refine Below.setCell ?_ (by dsimp only; omega) _
        exact hbw
end Go.Proofs.YtjeohndfgamiaaaGreatDoor.PgA
