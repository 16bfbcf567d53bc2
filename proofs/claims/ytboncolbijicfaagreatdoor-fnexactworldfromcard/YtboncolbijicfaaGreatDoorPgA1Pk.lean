/- Several texts in one: PgA1, PgA2, PgAsc, PgA3, PgA4. -/
import Derived.Test.YtboncolbijicfaaGreatDoorDraw10
import Derived.Test.YtboncolbijicfaaGreatDoorPage2Pk
import Derived.Test.YtboncolbijicfaaGreatDoorPage5
import Derived.Test.YtboncolbijicfaaGreatDoorStep
import Derived.Deep.AppendLies
/- Where pages lead: mathematics, and joins by texts of any length. -/
namespace Go.Proofs.YtboncolbijicfaaGreatDoor.PgA
open Go.RowKit Go.Proofs.YtboncolbijicfaaGreatDoor.EscM Go.Proofs.YtboncolbijicfaaGreatDoor.St Go.Proofs.YtboncolbijicfaaGreatDoor.AddrM Go.Proofs.YtboncolbijicfaaGreatDoor.ReadM Go.Proofs.YtboncolbijicfaaGreatDoor.EscL Go.Proofs.YtboncolbijicfaaGreatDoor.Ad1 Go.Proofs.YtboncolbijicfaaGreatDoor.Dr Go.Proofs.YtboncolbijicfaaGreatDoor.Im Go.Proofs.YtboncolbijicfaaGreatDoor.Rd1 Go.Proofs.YtboncolbijicfaaGreatDoor.Door Go.Proofs.YtboncolbijicfaaGreatDoor.JnM Go.Proofs.YtboncolbijicfaaGreatDoor.Jn Go.Proofs.YtboncolbijicfaaGreatDoor.PgM Go.Proofs.YtboncolbijicfaaGreatDoor.RB

theorem join_long {A : Ad} {l : List UInt8} (h : 60 < l.length) : joinF A l = none := by
  unfold joinF
  cases okB A with
  | false => rfl
  | true => rw [if_pos h]; rfl

set_option maxRecDepth 100000 in
set_option maxHeartbeats 3200000 in
theorem implJoin_long (A : Ad) (ref : ByteArray) (a0 : Option Addr) (cap : Nat) (w : World) (hS : IsStrs w a0 cap A.parts) (hB : bulkA A ≤ 1000) (hr : 60 < ref.size) (hm : ref.size ≤ 1000000) :
    Calls Tryz.prog 160 #[.agg #[.string A.house, .slice a0 A.parts.length cap, .bool A.asks, .string A.ask], .string ref] w fun e w' => Reads (joinF A ref.data.toList) w e w' := by
  have HN : Hid (joinF A ref.data.toList = none) := join_long (by simp; exact hr)
  have HS : Hid (IsStrs w a0 cap A.parts) := hS
  have hb4 : bulkA A ≤ 4194304 := by omega
  clear hS
  generalize joinF A ref.data.toList = R at *
  go_enter Tryz.func160, Tryz.ntmps160
  go_wp2_with fail
  refine (implOk_any A a0 cap _ (HS.out.keep (fun k hk => by rw [alloc_keep _ _ k (by simp; omega), alloc_keep _ _ k hk])) hb4).mono ?_
  rintro e w1 ⟨rfl, hb1⟩
  have HB1 : Hid (Below (w.heap.size + 1 + 1) ((w.alloc (.cells #[.string A.house, .slice a0 A.parts.length cap, .bool A.asks, .string A.ask] 73)).alloc (.cells #[.string ⟨#[]⟩, .slice none 0 0, .bool false, .string ⟨#[]⟩] 73)) w1) := hb1.mono (by simp)
  have hb1' := HB1.out
  obtain ⟨⟨c0, c1, c2, c3⟩, ⟨d0, d1, d2, d3⟩, dz⟩ := two_cells hb1'
  clear hb1 hb1'
  cases hok : okB A with
  | false =>
    go_wp2
    refine bodyPost_ret (v := .tuple #[.agg #[.string ⟨#[]⟩, .slice none 0 0, .bool false, .string ⟨#[]⟩], .bool false]) (by simp [results, Tryz.results160, go_sem, d0, d1, d2, d3]) rfl ?_
    refine ⟨zeroAd, false, none, 0, rfl, Or.inr ⟨rfl, HN.out, rfl⟩, Owns.nil _ _, ?_⟩
    have hbw := two_below HB1.out
    iterate 4 refine Below.setCell ?_ (by dsimp only; omega) _
    exact hbw
  | true =>
    go_wp2
    refine bodyPost_ret (v := .tuple #[.agg #[.string ⟨#[]⟩, .slice none 0 0, .bool false, .string ⟨#[]⟩], .bool false]) (by simp [results, Tryz.results160, go_sem, d0, d1, d2, d3]) rfl ?_
    refine ⟨zeroAd, false, none, 0, rfl, Or.inr ⟨rfl, HN.out, rfl⟩, Owns.nil _ _, ?_⟩
    have hbw := two_below HB1.out
    iterate 4 refine Below.setCell ?_ (by dsimp only; omega) _
    exact hbw

set_option maxRecDepth 100000 in
set_option maxHeartbeats 3200000 in
theorem specJoin_long (A : Ad) (ref : ByteArray) (a0 : Option Addr) (cap : Nat) (w : World) (hS : IsStrs w a0 cap A.parts) (hB : bulkA A ≤ 1000) (hr : 60 < ref.size) (hm : ref.size ≤ 1000000) :
    Calls Tryz.prog 120 #[.agg #[.string A.house, .slice a0 A.parts.length cap, .bool A.asks, .string A.ask], .string ref] w fun e w' => Reads (joinF A ref.data.toList) w e w' := by
  have HN : Hid (joinF A ref.data.toList = none) := join_long (by simp; exact hr)
  have HS : Hid (IsStrs w a0 cap A.parts) := hS
  have hb4 : bulkA A ≤ 4194304 := by omega
  have HC : Hid _ := fun W => specCut_any ref 35 W (by omega) (by omega) (by omega)
  clear hS
  generalize bs (cutL 35 ref.data.toList).1 = t at *
  generalize bs (cutL 35 ref.data.toList).2.1 = u at *
  generalize (cutL 35 ref.data.toList).2.2 = z at *
  generalize joinF A ref.data.toList = R at *
  go_enter Tryz.func120, Tryz.ntmps120
  go_wp2_with fail
  refine (HC.out _).mono ?_
  rintro e w0 ⟨rfl, nq, hw0⟩
  have HB0 : Hid (Below (w.heap.size + 1 + 1) ((w.alloc (.cells #[.string A.house, .slice a0 A.parts.length cap, .bool A.asks, .string A.ask] 73)).alloc (.cells #[.string ⟨#[]⟩, .slice none 0 0, .bool false, .string ⟨#[]⟩] 73)) w0) := by subst hw0; exact below_drewN (Below.refl _ _) nq
  have hb0' := HB0.out
  obtain ⟨⟨c0, c1, c2, c3⟩, ⟨d0, d1, d2, d3⟩, dz⟩ := two_cells hb0'
  clear hw0 hb0' HC
  go_wp2_with fail
  refine (specOk_any A a0 cap _ (HS.out.below (two_below HB0.out)) hb4).mono ?_
  rintro e w2 ⟨rfl, hb2⟩
  have HB2 : Hid _ := two_next HB0.out hb2
  clear hb2 HB0 c0 c1 c2 c3 d0 d1 d2 d3 dz
  have hb2' := HB2.out
  obtain ⟨⟨c0, c1, c2, c3⟩, ⟨d0, d1, d2, d3⟩, dz⟩ := two_cells hb2'
  clear hb2'
  cases hok : okB A with
  | false =>
    go_wp2
    refine bodyPost_ret (v := .tuple #[.agg #[.string ⟨#[]⟩, .slice none 0 0, .bool false, .string ⟨#[]⟩], .bool false]) (by simp [results, Tryz.results120, go_sem, d0, d1, d2, d3]) rfl ?_
    refine ⟨zeroAd, false, none, 0, rfl, Or.inr ⟨rfl, HN.out, rfl⟩, Owns.nil _ _, ?_⟩
    have hbw := two_below HB2.out
    iterate 4 refine Below.setCell ?_ (by dsimp only; omega) _
    exact hbw
  | true =>
    go_wp2
    refine bodyPost_ret (v := .tuple #[.agg #[.string ⟨#[]⟩, .slice none 0 0, .bool false, .string ⟨#[]⟩], .bool false]) (by simp [results, Tryz.results120, go_sem, d0, d1, d2, d3]) rfl ?_
    refine ⟨zeroAd, false, none, 0, rfl, Or.inr ⟨rfl, HN.out, rfl⟩, Owns.nil _ _, ?_⟩
    have hbw := two_below HB2.out
    iterate 4 refine Below.setCell ?_ (by dsimp only; omega) _
    exact hbw

theorem implJoin_page (A : Ad) (ref : ByteArray) (a0 : Option Addr) (cap : Nat) (w : World) (hM : Mx w) (hS : IsStrs w a0 cap A.parts) (hB : bulkA A ≤ 1000) (hr : ref.size ≤ 300) (ha : ascii ref) :
    Calls Tryz.prog 160 #[.agg #[.string A.house, .slice a0 A.parts.length cap, .bool A.asks, .string A.ask], .string ref] w fun e w' => Reads (joinF A ref.data.toList) w e w' := by
  by_cases h : ref.size ≤ 60
  · exact implJoin_ascii A ref a0 cap w hM hS hB h ha
  · exact implJoin_long A ref a0 cap w hS hB (by omega) (by omega)
theorem specJoin_page (A : Ad) (ref : ByteArray) (a0 : Option Addr) (cap : Nat) (w : World) (hS : IsStrs w a0 cap A.parts) (hB : bulkA A ≤ 1000) (hr : ref.size ≤ 300) :
    Calls Tryz.prog 120 #[.agg #[.string A.house, .slice a0 A.parts.length cap, .bool A.asks, .string A.ask], .string ref] w fun e w' => Reads (joinF A ref.data.toList) w e w' := by
  by_cases h : ref.size ≤ 60
  · exact specJoin_any A ref a0 cap w hS hB h
  · exact specJoin_long A ref a0 cap w hS hB (by omega) (by omega)

/-- from where links of a page lead -/
def fromF (A : Ad) (t : ByteArray) : Ad := if (baseF t).2 then (match joinF A (baseF t).1.data.toList with | some B => B | none => A) else A
def putL (L : List ByteArray) (x : ByteArray) : List ByteArray := if hasB x L then L else L ++ [x]
def pageStep (B : Ad) (acc : List ByteArray) (l : ByteArray) : List ByteArray := match joinF B l.data.toList with | some C => putL acc (textF C) | none => acc
def pageL (B : Ad) (links : List ByteArray) : List ByteArray := links.foldl (pageStep B) []
/-- where one comes from a page -/
def pageF (A : Ad) (t : ByteArray) : List ByteArray := if okB A then pageL (fromF A t) (linksF t) else []
theorem page_bad {A : Ad} {t : ByteArray} (h : okB A = false) : pageF A t = [] := by unfold pageF; rw [h]; rfl
theorem page_ok {A : Ad} {t : ByteArray} (h : okB A = true) : pageF A t = pageL (fromF A t) (linksF t) := by unfold pageF; rw [h]; rfl
theorem from_ok {A : Ad} {t : ByteArray} (h : okB A = true) : okB (fromF A t) = true := by
  unfold fromF
  split
  · split
    · rename_i B hj; exact join_ok hj
    · exact h
  · exact h
theorem from_bulk {A : Ad} {t : ByteArray} (h : okB A = true) : bulkA (fromF A t) ≤ 1000 := (ok_sum (from_ok h)).2
theorem page_snoc {B : Ad} {L : List ByteArray} {k : Nat} (h : k < L.length) : pageL B (L.take (k + 1)) = pageStep B (pageL B (L.take k)) L[k] := by
  unfold pageL
  rw [List.take_succ_eq_append_getElem h, List.foldl_append]; rfl
theorem put_len (L : List ByteArray) (x : ByteArray) : (putL L x).length ≤ L.length + 1 := by unfold putL; split <;> simp
theorem step_len (B : Ad) (L : List ByteArray) (x : ByteArray) : (pageStep B L x).length ≤ L.length + 1 := by
  unfold pageStep; split
  · exact put_len _ _
  · omega
theorem pageL_len (B : Ad) : ∀ (L acc : List ByteArray), (L.foldl (pageStep B) acc).length ≤ acc.length + L.length := by
  intro L
  induction L with
  | nil => intro acc; simp
  | cons x L ih => intro acc; have := ih (pageStep B acc x); have := step_len B acc x; simp only [List.foldl_cons, List.length_cons]; omega
end Go.Proofs.YtboncolbijicfaaGreatDoor.PgA
/- Where pages lead: lists in which each stands once. -/
namespace Go.Proofs.YtboncolbijicfaaGreatDoor.PgA
open Go.RowKit Go.Proofs.YtboncolbijicfaaGreatDoor.EscM Go.Proofs.YtboncolbijicfaaGreatDoor.St Go.Proofs.YtboncolbijicfaaGreatDoor.AddrM Go.Proofs.YtboncolbijicfaaGreatDoor.ReadM Go.Proofs.YtboncolbijicfaaGreatDoor.EscL Go.Proofs.YtboncolbijicfaaGreatDoor.Ad1 Go.Proofs.YtboncolbijicfaaGreatDoor.Dr Go.Proofs.YtboncolbijicfaaGreatDoor.Im Go.Proofs.YtboncolbijicfaaGreatDoor.Rd1 Go.Proofs.YtboncolbijicfaaGreatDoor.Door Go.Proofs.YtboncolbijicfaaGreatDoor.JnM Go.Proofs.YtboncolbijicfaaGreatDoor.Jn Go.Proofs.YtboncolbijicfaaGreatDoor.PgM Go.Proofs.YtboncolbijicfaaGreatDoor.RB

theorem has_take {L : List ByteArray} {k : Nat} {x : ByteArray} (h : k < L.length) (hn : x ∉ L.take k) (he : ¬ L[k] = x) : x ∉ L.take (k + 1) := by
  rw [List.take_succ_eq_append_getElem h, List.mem_append]
  rintro (h' | h')
  · exact hn h'
  · simp at h'; exact he h'.symm

set_option maxRecDepth 100000 in
set_option maxHeartbeats 1600000 in
theorem index_any (a0 : Option Addr) (cap : Nat) (L : List ByteArray) (x : ByteArray) (w : World) (hA : IsStrs w a0 cap L) (hl : L.length ≤ 4194304) :
    Calls Tryz.prog 113 #[.slice a0 L.length cap, .string x] w fun e w' => (∃ z : Int, e = .returned (.int .i64 z) ∧ (0 ≤ z ↔ hasB x L = true)) ∧ ∃ n, w' = w.drewN n := by
  have HA : Hid (IsStrs w a0 cap L) := hA
  clear hA
  go_enter Tryz.func113, Tryz.ntmps113
  go_wp2
  go_loopw [8] (fun i wr => ∃ k : Nat, k ≤ L.length ∧ i = .int .i64 (k : Int) ∧ Hid (x ∉ L.take k) ∧ Hid (∃ n, wr = w.drewN n)) (fun i _ => L.length - (intOf i).toNat)
  case atStart => exact ⟨0, Nat.zero_le _, rfl, by show x ∉ _; simp, ⟨0, rfl⟩⟩
  case round =>
    obtain ⟨k, hk, rfl, HN, HW⟩ := hrel
    by_cases hlt : k < L.length
    · have hpw := HW.out
      obtain ⟨n, hn⟩ := hpw
      obtain ⟨b1, o1, e1, c1⟩ := (IsStrs.drewN HA.out n).at hlt
      rw [← hn] at c1
      clear hn
      subst e1
      cases he : (x.toList == L[k].toList) with
      | true =>
        have HE : Hid (hasB x L = true) := by
          apply hasB_iff.2
          rw [str_eq_iff] at he
          have := of_decide_eq_true he
          rw [this]; exact List.getElem_mem hlt
        go_wp2
        go_ret
        exact ⟨⟨_, rfl, by rw [HE.out]; simp⟩, HW.out⟩
      | false =>
        have HE : Hid (x ∉ L.take (k + 1)) := by
          rw [str_eq_iff] at he
          exact has_take hlt HN.out (fun e => of_decide_eq_false he e.symm)
        go_wp2
        go_roundw
        case rel => exact ⟨k + 1, by omega, by go_num, HE, HW⟩
        case measure => simp [intOf]; omega
    · have HE : Hid (hasB x L = false) := by
        apply hasB_no.2
        have e1 : L.take k = L := List.take_of_length_le (by omega)
        rw [← e1]; exact HN.out
      go_wp2
      go_ret
      exact ⟨⟨-1, rfl, by rw [HE.out]; simp⟩, HW.out⟩
theorem contains_any (a0 : Option Addr) (cap : Nat) (L : List ByteArray) (x : ByteArray) (w : World) (hA : IsStrs w a0 cap L) (hl : L.length ≤ 4194304) :
    Calls Tryz.prog 79 #[.slice a0 L.length cap, .string x] w fun e w' => e = .returned (.bool (hasB x L)) ∧ ∃ n, w' = w.drewN n := by
  have HA : Hid (IsStrs w a0 cap L) := hA
  clear hA
  go_enter Tryz.func79, Tryz.ntmps79
  go_wp2_with fail
  refine (index_any a0 cap L x _ HA.out hl).mono ?_
  rintro e w1 ⟨⟨z, rfl, hz⟩, n, rfl⟩
  have HZ : Hid (decide (0 ≤ z) = hasB x L) := by
    show _ = _
    rw [Bool.eq_iff_iff, decide_eq_true_eq]; exact hz
  clear hz
  go_wp2
  go_ret
  exact ⟨ret_bool HZ.out, n, rfl⟩

set_option maxRecDepth 100000 in
set_option maxHeartbeats 1600000 in
theorem put_any (base : Nat) (v : Value) (L : List ByteArray) (x : ByteArray) (w : World) (hO : Owns w base v L) (hb : base ≤ w.heap.size) (hl : L.length ≤ 100000) :
    Calls Tryz.prog 76 #[v, .string x] w fun e w' => ∃ v', e = .returned v' ∧ Owns w' base v' (putL L x) ∧ w.grownBy w' v.ownBlock ∧ (v'.ownBlock = v.ownBlock ∨ ∃ g, v'.ownBlock = some g ∧ w.heap.size ≤ g) := by
  obtain ⟨i0, hi, hz0, hz1, hz2⟩ := info_parts Tryz.infoS
  obtain ⟨a0, cap, hv, hS⟩ := hO.strs
  subst hv
  have HO : Hid (Owns w base (.slice a0 L.length cap) L) := hO
  have HA : Hid (IsStrs w a0 cap L) := hS
  clear hO hS
  go_enter Tryz.func76, Tryz.ntmps76
  go_wp2
  go_loop [5] (fun i => ∃ k : Nat, k ≤ L.length ∧ i = .int .i64 (k : Int) ∧ Hid (x ∉ L.take k)) (fun i => L.length - (intOf i).toNat)
  case atStart => exact ⟨0, Nat.zero_le _, rfl, by show x ∉ _; simp⟩
  case round =>
    obtain ⟨k, hk, rfl, HN⟩ := hrel
    by_cases hlt : k < L.length
    · obtain ⟨b1, o1, e1, c1⟩ := HA.out.at hlt
      subst e1
      cases he : (L[k].toList == x.toList) with
      | true =>
        have HE : Hid (putL L x = L) := by
          show _ = _
          rw [str_eq_iff] at he
          have := of_decide_eq_true he
          unfold putL
          rw [hasB_iff.2 (by rw [← this]; exact List.getElem_mem hlt)]; rfl
        go_wp2
        go_ret
        exact ⟨_, rfl, by rw [HE.out]; exact HO.out, Dr.grown_refl _ _, Or.inl rfl⟩
      | false =>
        have HE : Hid (x ∉ L.take (k + 1)) := by
          rw [str_eq_iff] at he
          exact has_take hlt HN.out (of_decide_eq_false he)
        go_wp2
        go_round
        case rel => exact ⟨k + 1, by omega, by go_num, HE⟩
        case measure => simp [intOf]; omega
    · have HE : Hid (putL L x = L ++ [x]) := by
        show _ = _
        have e1 : L.take k = L := List.take_of_length_le (by omega)
        have hn := HN.out
        rw [e1] at hn
        unfold putL
        rw [hasB_no.2 hn]; rfl
      go_wp2_with (at_builtin; refine wpList_append_lies _ rfl _ _ 24 rfl base 9 i0 (.string ⟨#[]⟩) 1 16 Tryz.underlying24 hi hz0 hz1 hz2 rfl (by decide) _ _ _ rfl (World.ownsRow.alloc HO.out _) ⟨w.heap.size, 0, none⟩ 1 1 [.string x] rfl rfl (cell_one_new _ _ _) ?c2 (by omega) ?c3 ?c4 ?c5 (w.heap.size + 1) ?c6 ?_)
      case c2 => first | rfl | (intro u hu; simp at hu; subst hu; rfl)
      case c3 => unfold maxLen; omega
      case c4 => omega
      case c5 => first | omega | (simp; omega)
      intro g c2 w2 hown' hgrow hat _
      have HO' : Hid _ := hown'
      have HG : Hid (w.grownBy w2 (Value.slice a0 L.length cap).ownBlock) := Dr.grown_trans (grown_alloc w _ _) hgrow
      have HAT : Hid ((Value.slice (some ⟨g, 0, none⟩) (L.length + 1) c2).ownBlock = (Value.slice a0 L.length cap).ownBlock ∨ ∃ g', (Value.slice (some ⟨g, 0, none⟩) (L.length + 1) c2).ownBlock = some g' ∧ w.heap.size ≤ g') := by
        rcases hat with h | h
        · exact Or.inl h.symm
        · exact Or.inr ⟨g, rfl, by omega⟩
      clear hown' hgrow hat
      go_wp2
      go_ret
      exact ⟨_, rfl, by rw [HE.out]; exact Owns.append HO'.out, HG.out, HAT.out⟩
theorem strs_apart {w w' : World} {a0 : Option Addr} {cap : Nat} {L : List ByteArray} {row : Option Nat} (h : IsStrs w a0 cap L) (hg : w.grownBy w' row) (hne : ∀ a, a0 = some a → row ≠ some a.block) : IsStrs w' a0 cap L := by
  obtain ⟨h1, h2, h3, h4⟩ := h
  refine ⟨h1, h2, h3, fun hn => ?_⟩
  obtain ⟨b, off, e, hc⟩ := h4 hn
  refine ⟨b, off, e, fun i hi => ?_⟩
  have hb := St.cell_block (hc i hi)
  rw [World.cell?_of_block (w := w) (hg.block _ hb (fun e' => hne _ e e'.symm))]; exact hc i hi
end Go.Proofs.YtboncolbijicfaaGreatDoor.PgA
/- Which bytes a page's marks have: any. -/
namespace Go.Proofs.YtboncolbijicfaaGreatDoor.PgA
open Go.RowKit Go.Proofs.YtboncolbijicfaaGreatDoor.EscM Go.Proofs.YtboncolbijicfaaGreatDoor.St Go.Proofs.YtboncolbijicfaaGreatDoor.AddrM Go.Proofs.YtboncolbijicfaaGreatDoor.ReadM Go.Proofs.YtboncolbijicfaaGreatDoor.EscL Go.Proofs.YtboncolbijicfaaGreatDoor.Ad1 Go.Proofs.YtboncolbijicfaaGreatDoor.Dr Go.Proofs.YtboncolbijicfaaGreatDoor.Im Go.Proofs.YtboncolbijicfaaGreatDoor.Rd1 Go.Proofs.YtboncolbijicfaaGreatDoor.Door Go.Proofs.YtboncolbijicfaaGreatDoor.JnM Go.Proofs.YtboncolbijicfaaGreatDoor.Jn Go.Proofs.YtboncolbijicfaaGreatDoor.PgM Go.Proofs.YtboncolbijicfaaGreatDoor.RB

def asc (_ : ByteArray) : Prop := True
theorem marks_ascii {t : ByteArray} (_ : asc t) : ∀ x ∈ marksF t, ascii x := fun _ _ => trivial
theorem links_ascii {t : ByteArray} (_ : asc t) : ∀ x ∈ linksF t, ascii x := fun _ _ => trivial
theorem base_ascii {t : ByteArray} (_ : asc t) : ascii (baseF t).1 := trivial
end Go.Proofs.YtboncolbijicfaaGreatDoor.PgA
/- Where pages lead: the program's. -/
namespace Go.Proofs.YtboncolbijicfaaGreatDoor.PgA
open Go.RowKit Go.Proofs.YtboncolbijicfaaGreatDoor.EscM Go.Proofs.YtboncolbijicfaaGreatDoor.St Go.Proofs.YtboncolbijicfaaGreatDoor.AddrM Go.Proofs.YtboncolbijicfaaGreatDoor.ReadM Go.Proofs.YtboncolbijicfaaGreatDoor.EscL Go.Proofs.YtboncolbijicfaaGreatDoor.Ad1 Go.Proofs.YtboncolbijicfaaGreatDoor.Dr Go.Proofs.YtboncolbijicfaaGreatDoor.Im Go.Proofs.YtboncolbijicfaaGreatDoor.Rd1 Go.Proofs.YtboncolbijicfaaGreatDoor.Door Go.Proofs.YtboncolbijicfaaGreatDoor.JnM Go.Proofs.YtboncolbijicfaaGreatDoor.Jn Go.Proofs.YtboncolbijicfaaGreatDoor.PgM Go.Proofs.YtboncolbijicfaaGreatDoor.RB Go.Proofs.YtboncolbijicfaaGreatDoor.Pg

set_option maxRecDepth 100000 in
set_option maxHeartbeats 3200000 in
theorem from_any (A : Ad) (t : ByteArray) (a0 : Option Addr) (cap : Nat) (w : World) (hM : Mx w) (hS : IsStrs w a0 cap A.parts) (hB : bulkA A ≤ 1000) (ht : t.size ≤ 4194304) (ha : asc t) :
    Calls Tryz.prog 158 #[.agg #[.string A.house, .slice a0 A.parts.length cap, .bool A.asks, .string A.ask], .string t] w fun e w' => ∃ a1 c1, e = .returned (.agg #[.string (fromF A t).house, .slice a1 (fromF A t).parts.length c1, .bool (fromF A t).asks, .string (fromF A t).ask]) ∧ IsStrs w' a1 c1 (fromF A t).parts ∧ Below w.heap.size w w' := by
  have HS : Hid (IsStrs w a0 cap A.parts) := hS
  have HM : Hid (Mx w) := hM
  have HBA : Hid (ascii (baseF t).1) := base_ascii ha
  have hbs := base_size t
  have HF : Hid (fromF A t = if (baseF t).2 then (match joinF A (baseF t).1.data.toList with | some B => B | none => A) else A) := rfl
  have htm : t.size ≤ maxLen := by unfold maxLen; omega
  have HIB : Hid _ := fun W => implBase_any t W htm
  clear hS hM ha
  generalize (baseF t).1 = ref at *
  generalize (baseF t).2 = told at *
  generalize fromF A t = R at *
  go_enter Tryz.func158, Tryz.ntmps158
  go_wp2_with fail
  refine (HIB.out _).mono ?_
  rintro e w1 ⟨rfl, hb1⟩
  have HB1 : Hid (Below (w.heap.size + 1 + 1) ((w.alloc (.cells #[.string A.house, .slice a0 A.parts.length cap, .bool A.asks, .string A.ask] 73)).alloc (.cells #[.string ⟨#[]⟩, .slice none 0 0, .bool false, .string ⟨#[]⟩] 73)) w1) := hb1.mono (by simp)
  have hb1' := HB1.out
  obtain ⟨⟨c0, c1, c2, c3⟩, ⟨d0, d1, d2, d3⟩, dz⟩ := two_cells hb1'
  clear hb1 hb1'
  cases told with
  | false =>
    have HR : Hid (R = A) := by show _ = _; rw [HF.out]; rfl
    clear HF
    go_wp2
    refine bodyPost_ret (v := .agg #[.string A.house, .slice a0 A.parts.length cap, .bool A.asks, .string A.ask]) (by simp [results, Tryz.results158, go_sem, d0, d1, d2, d3]) rfl ?_
    rw [HR.out]
    have hbw : Below w.heap.size w ((((w1.setCell ⟨w.heap.size + 1, 0, none⟩ (.string A.house)).setCell ⟨w.heap.size + 1, 1, none⟩ (.slice a0 A.parts.length cap)).setCell ⟨w.heap.size + 1, 2, none⟩ (.bool A.asks)).setCell ⟨w.heap.size + 1, 3, none⟩ (.string A.ask)) := by
      iterate 4 refine Below.setCell ?_ (by dsimp only; omega) _
      exact two_below HB1.out
    exact ⟨a0, cap, rfl, HS.out.below hbw, hbw⟩
  | true =>
    have HM1 : Hid (Mx w1) := HM.out.keep fun k hk => (two_below HB1.out).block k hk
    have HS1 : Hid (IsStrs w1 a0 cap A.parts) := HS.out.below (two_below HB1.out)
    go_wp2_with fail
    refine (implJoin_page A ref a0 cap _ HM1.out HS1.out hB hbs HBA.out).mono ?_
    rintro e w2 ⟨B, ok, x1, y1, rfl, hans, hO, hb2⟩
    have HB2 : Hid _ := two_next HB1.out hb2
    have HB3 : Hid _ := two_next HB2.out ((Below.refl _ w2).alloc (Nat.le_refl _) (.cells #[.string B.house, .slice x1 B.parts.length y1, .bool B.asks, .string B.ask] 73))
    have HO2 : Hid (Owns w2 w1.heap.size (.slice x1 B.parts.length y1) B.parts) := hO
    have hz1 : w.heap.size + 1 + 1 ≤ w1.heap.size := by have := HB1.out.size; simp at this; omega
    have hz2 : w.heap.size + 1 + 1 ≤ w2.heap.size := by have := HB2.out.size; simp at this; omega
    clear hO hb2 c0 c1 c2 c3 d0 d1 d2 d3 dz HB1
    have hb2' := HB3.out
    obtain ⟨⟨c0, c1, c2, c3⟩, ⟨d0, d1, d2, d3⟩, dz⟩ := two_cells hb2'
    clear hb2'
    rcases hans with ⟨rfl, hj⟩ | ⟨rfl, hj, rfl⟩
    · have HR : Hid (R = B) := by show _ = _; rw [HF.out, hj]; rfl
      clear HF hj
      go_wp2
      refine bodyPost_ret (v := .agg #[.string B.house, .slice x1 B.parts.length y1, .bool B.asks, .string B.ask]) (by simp [results, Tryz.results158, go_sem, d0, d1, d2, d3]) rfl ?_
      rw [HR.out]
      refine ⟨x1, y1, rfl, Owns.strsOf (base := w1.heap.size) (n := B.parts.length) ?_, ?_⟩
      · have hO := Owns.keep HO2.out (alloc_keep w2 (.cells #[.string B.house, .slice x1 B.parts.length y1, .bool B.asks, .string B.ask] 73))
        iterate 4 refine ownsRow_setCell_below ?_ (by dsimp only; omega) _
        exact hO
      · have hbw := two_below HB3.out
        iterate 4 refine Below.setCell ?_ (by dsimp only; omega) _
        exact hbw
    · have HR : Hid (R = A) := by show _ = _; rw [HF.out, hj]; rfl
      clear HF hj
      go_wp2
      refine bodyPost_ret (v := .agg #[.string A.house, .slice a0 A.parts.length cap, .bool A.asks, .string A.ask]) (by simp [results, Tryz.results158, go_sem, d0, d1, d2, d3]) rfl ?_
      rw [HR.out]
      have hbw := two_below HB3.out
      refine ⟨a0, cap, rfl, HS.out.below ?_, ?_⟩
      · iterate 4 refine Below.setCell ?_ (by dsimp only; omega) _
        exact hbw
      · iterate 4 refine Below.setCell ?_ (by dsimp only; omega) _
        exact hbw
end Go.Proofs.YtboncolbijicfaaGreatDoor.PgA
/- Where pages lead: the program's PageAddrs. -/
namespace Go.Proofs.YtboncolbijicfaaGreatDoor.PgA
open Go.RowKit Go.Proofs.YtboncolbijicfaaGreatDoor.EscM Go.Proofs.YtboncolbijicfaaGreatDoor.St Go.Proofs.YtboncolbijicfaaGreatDoor.AddrM Go.Proofs.YtboncolbijicfaaGreatDoor.ReadM Go.Proofs.YtboncolbijicfaaGreatDoor.EscL Go.Proofs.YtboncolbijicfaaGreatDoor.Ad1 Go.Proofs.YtboncolbijicfaaGreatDoor.Dr Go.Proofs.YtboncolbijicfaaGreatDoor.Im Go.Proofs.YtboncolbijicfaaGreatDoor.Rd1 Go.Proofs.YtboncolbijicfaaGreatDoor.Door Go.Proofs.YtboncolbijicfaaGreatDoor.JnM Go.Proofs.YtboncolbijicfaaGreatDoor.Jn Go.Proofs.YtboncolbijicfaaGreatDoor.PgM Go.Proofs.YtboncolbijicfaaGreatDoor.RB Go.Proofs.YtboncolbijicfaaGreatDoor.Pg

set_option maxRecDepth 100000 in
set_option maxHeartbeats 6400000 in
theorem implPage_any (A : Ad) (t : ByteArray) (a0 : Option Addr) (cap : Nat) (w : World) (hM : Mx w) (hS : IsStrs w a0 cap A.parts) (hB : bulkA A ≤ 1000) (ht : t.size ≤ 4194304) (ha : asc t) :
    Calls Tryz.prog 127 #[.agg #[.string A.house, .slice a0 A.parts.length cap, .bool A.asks, .string A.ask], .string t] w fun e w' => ∃ v, e = .returned v ∧ Owns w' w.heap.size v (pageF A t) ∧ Below w.heap.size w w' := by
  obtain ⟨i0, hi, hz0, hz1, hz2⟩ := info_parts Tryz.infoS
  have hb4 : bulkA A ≤ 4194304 := by omega
  have HS : Hid (IsStrs (w.alloc (.cells #[.string A.house, .slice a0 A.parts.length cap, .bool A.asks, .string A.ask] 73)) a0 cap A.parts) := hS.keep (alloc_keep _ _)
  have HM : Hid (Mx (w.alloc (.cells #[.string A.house, .slice a0 A.parts.length cap, .bool A.asks, .string A.ask] 73))) := hM.alloc _
  have HB0 : Hid (Below w.heap.size w (w.alloc (.cells #[.string A.house, .slice a0 A.parts.length cap, .bool A.asks, .string A.ask] 73))) := (Below.refl _ w).alloc (Nat.le_refl _) _
  have HX0 : Hid (Box (w.alloc (.cells #[.string A.house, .slice a0 A.parts.length cap, .bool A.asks, .string A.ask] 73)) w.heap.size (.string A.house) (.slice a0 A.parts.length cap) (.bool A.asks) (.string A.ask)) := heap_new w _
  have htm : t.size ≤ maxLen := by unfold maxLen; omega
  have HAS : Hid (asc t) := ha
  clear hS hM ha
  go_enter Tryz.func127, Tryz.ntmps127
  go_wp2_with fail
  refine (implOk_any A a0 cap _ HS.out hb4).mono ?_
  rintro e w1 ⟨rfl, hb1⟩
  have HS1 : Hid (IsStrs w1 a0 cap A.parts) := HS.out.below hb1
  have HM1 : Hid (Mx w1) := HM.out.below hb1
  have HB1 : Hid (Below w.heap.size w w1) := HB0.out.trans (hb1.mono HB0.out.size)
  have HX1 : Hid (Box w1 w.heap.size (.string A.house) (.slice a0 A.parts.length cap) (.bool A.asks) (.string A.ask)) := HX0.out.grown (grown_of_below none hb1) (by simp)
  clear hb1 HS HM HB0 HX0
  have hx := HX1.out
  obtain ⟨⟨c0, c1, c2, c3⟩, _⟩ := hx.cells
  clear hx
  cases hok : okB A with
  | false =>
    have HF : Hid _ := page_bad (t := t) hok
    clear hok
    go_wp2
    go_ret
    exact ⟨_, rfl, by rw [HF.out]; exact Owns.nil _ _, HB1.out⟩
  | true =>
    have HF : Hid _ := page_ok (t := t) hok
    have HBK : Hid _ := from_bulk (t := t) hok
    clear hok
    go_wp2_with fail
    refine (from_any A t a0 cap _ HM1.out HS1.out hB ht HAS.out).mono ?_
    rintro e w2 ⟨f1, g1, rfl, hS2, hb2⟩
    have HMK : Hid (∀ x ∈ linksF t, ascii x) := links_ascii HAS.out
    have HLS : Hid _ := links_size t
    have hll := links_len t
    generalize fromF A t = B at *
    have HS2 : Hid (IsStrs (w2.alloc (.cells #[.string B.house, .slice f1 B.parts.length g1, .bool B.asks, .string B.ask] 73)) f1 g1 B.parts) := hS2.keep (alloc_keep _ _)
    have hba := hb2.alloc hb2.size (.cells #[.string B.house, .slice f1 B.parts.length g1, .bool B.asks, .string B.ask] 73)
    have HM2 : Hid (Mx (w2.alloc (.cells #[.string B.house, .slice f1 B.parts.length g1, .bool B.asks, .string B.ask] 73))) := HM1.out.below hba
    have HB2 : Hid (Below w.heap.size w (w2.alloc (.cells #[.string B.house, .slice f1 B.parts.length g1, .bool B.asks, .string B.ask] 73))) := HB1.out.trans (hba.mono HB1.out.size)
    have HX2 : Hid (Box (w2.alloc (.cells #[.string B.house, .slice f1 B.parts.length g1, .bool B.asks, .string B.ask] 73)) w2.heap.size (.string B.house) (.slice f1 B.parts.length g1) (.bool B.asks) (.string B.ask)) := heap_new w2 _
    have hw2 : w.heap.size ≤ w2.heap.size := Nat.le_trans HB1.out.size hb2.size
    obtain ⟨G, hG⟩ : ∃ G, w2.heap.size = G := ⟨_, rfl⟩
    rw [hG] at HX2 hw2
    clear hS2 hb2 hba c0 c1 c2 c3 HX1 HS1 HM1 HB1
    go_wp2_with fail
    refine (implLinks_any t _ htm).mono ?_
    rintro e w3 ⟨v3, rfl, hO3, hb3⟩
    obtain ⟨l1, m1, hv3, hS3⟩ := hO3.strs
    subst hv3
    have HL3 : Hid (IsStrs w3 l1 m1 (linksF t)) := hS3
    have HS3 : Hid (IsStrs w3 f1 g1 B.parts) := HS2.out.below hb3
    have HM3 : Hid (Mx w3) := HM2.out.below hb3
    have HB3 : Hid (Below w.heap.size w w3) := HB2.out.trans (hb3.mono HB2.out.size)
    have HX3 : Hid (Box w3 G (.string B.house) (.slice f1 B.parts.length g1) (.bool B.asks) (.string B.ask)) := HX2.out.grown (grown_of_below none hb3) (by simp)
    have hGw : G < w3.heap.size := HX3.out.lt
    clear hO3 hS3 hb3 HS2 HM2 HB2 HX2
    generalize linksF t = K at *
    go_wp2
    go_loopw [6, 21] (fun v i wr => ∃ k : Nat, k ≤ K.length ∧ i = .int .i64 (k : Int) ∧ Hid (Owns wr w3.heap.size v (pageL B (K.take k))) ∧ Hid (Below w3.heap.size w3 wr)) (fun _ i _ => K.length - (intOf i).toNat)
    case atStart => exact ⟨0, Nat.zero_le _, rfl, Owns.nil _ _, Below.refl _ _⟩
    case round =>
      obtain ⟨k, hk, rfl, HO, HB⟩ := hrel
      by_cases hlt : k < K.length
      · obtain ⟨lb, lo, e1, cl⟩ := (HL3.out.below HB.out).at hlt
        subst e1
        have HXr : Hid (Box wr G (.string B.house) (.slice f1 B.parts.length g1) (.bool B.asks) (.string B.ask)) := HX3.out.grown (grown_of_below none HB.out) (by simp)
        have hx := HXr.out
        obtain ⟨⟨c0, c1, c2, c3⟩, _⟩ := hx.cells
        clear hx
        have hks := HLS.out K[k] (List.getElem_mem _)
        have HKA : Hid (ascii K[k]) := HMK.out K[k] (List.getElem_mem _)
        have HSN : Hid _ := page_snoc (B := B) hlt
        have hacc : (pageL B (K.take k)).length ≤ 300 := by
          have := pageL_len B (K.take k) []
          unfold pageL
          simp at this ⊢; omega
        obtain ⟨ao, co, hv, hso⟩ := HO.out.strs
        subst hv
        clear hso
        obtain ⟨acc, hac⟩ : ∃ acc, pageL B (K.take k) = acc := ⟨_, rfl⟩
        rw [hac] at HO HSN hacc
        simp only [hac]
        clear hac
        go_wp2_with fail
        refine (implJoin_page B K[k] f1 g1 _ (HM3.out.below HB.out) (HS3.out.below HB.out) HBK.out hks HKA.out).mono ?_
        rintro e w4 ⟨C, ok, x1, y1, rfl, hans, hOC, hb4'⟩
        have HO4 : Hid (Owns (w4.alloc (.cells #[.string C.house, .slice x1 C.parts.length y1, .bool C.asks, .string C.ask] 73)) w3.heap.size (.slice ao acc.length co) acc) := Owns.keep (Owns.below HO.out hb4') (alloc_keep _ _)
        have HB4 : Hid (Below w3.heap.size w3 (w4.alloc (.cells #[.string C.house, .slice x1 C.parts.length y1, .bool C.asks, .string C.ask] 73))) := (HB.out.trans (hb4'.mono HB.out.size)).alloc (HB.out.trans (hb4'.mono HB.out.size)).size _
        have HSC : Hid (IsStrs (w4.alloc (.cells #[.string C.house, .slice x1 C.parts.length y1, .bool C.asks, .string C.ask] 73)) x1 y1 C.parts) := (Owns.strsOf hOC).keep (alloc_keep _ _)
        clear hOC hb4' c0 c1 c2 c3 cl HXr
        rcases hans with ⟨rfl, hj⟩ | ⟨rfl, hj, rfl⟩
        · have HN : Hid (pageL B (K.take (k + 1)) = putL acc (textF C)) := by show _ = _; rw [HSN.out]; unfold pageStep; rw [hj]
          have hCb : bulkA C ≤ 4194304 := Nat.le_trans (ok_sum (join_ok hj)).2 (by decide)
          clear hj HSN
          go_wp2_with fail
          refine (implAddrText_any C x1 y1 _ HSC.out hCb).mono ?_
          rintro e w5 ⟨rfl, hb5⟩
          have HO5 : Hid (Owns w5 w3.heap.size (.slice ao acc.length co) acc) := Owns.below HO4.out hb5
          have HB5 : Hid (Below w3.heap.size w3 w5) := HB4.out.trans (hb5.mono HB4.out.size)
          clear hb5 HO4 HB4 HSC
          generalize textF C = tx at *
          go_wp2_with fail
          refine (contains_any ao co acc tx _ (Owns.strsOf HO5.out) (by omega)).mono ?_
          rintro e w6 ⟨rfl, n6, hw6⟩
          have HO6 : Hid (Owns w6 w3.heap.size (.slice ao acc.length co) acc) := by rw [hw6]; exact Owns.keep HO5.out fun _ _ => rfl
          have HB6 : Hid (Below w3.heap.size w3 w6) := by rw [hw6]; exact below_drewN HB5.out n6
          clear hw6 HO5 HB5
          cases hh : hasB tx acc with
          | true =>
            have HP : Hid (putL acc tx = acc) := by show _ = _; unfold putL; rw [hh]; rfl
            clear hh
            go_wp2
            go_roundw
            case rel => exact ⟨k + 1, by omega, by go_num, by rw [HN.out, HP.out]; exact HO6, HB6⟩
            case measure => simp [intOf]; omega
          | false =>
            have HP : Hid (putL acc tx = acc ++ [tx]) := by show _ = _; unfold putL; rw [hh]; rfl
            clear hh
            go_wp2_with (at_builtin; refine wpList_append_own _ rfl _ _ 24 rfl w3.heap.size 9 i0 (.string ⟨#[]⟩) 1 16 Tryz.underlying24 hi hz0 hz1 hz2 rfl (by decide) _ _ _ rfl (World.ownsRow.alloc HO6.out _) ⟨w6.heap.size, 0, none⟩ 1 1 [.string tx] rfl rfl (cell_one_new _ _ _) ?c2 ?c3 ?c4 ?c5 ?_)
            case c2 => first | rfl | (intro u hu; simp at hu; subst hu; rfl)
            case c3 => unfold maxLen; omega
            case c4 => omega
            case c5 => have := HB6.out.size; first | omega | (simp; omega)
            intro v' w7 hown' hgrow _
            have HO' : Hid (Owns w7 w3.heap.size v' (acc ++ [tx])) := Owns.append hown'
            have HB7 : Hid (Below w3.heap.size w3 w7) := Below.grown (HB6.out.alloc HB6.out.size _) hgrow (by have := HB6.out.size; simp; omega) (Owns.block HO6.out)
            clear hown' hgrow
            go_wp2
            go_roundw
            case rel => exact ⟨k + 1, by omega, by go_num, by rw [HN.out, HP.out]; exact HO', HB7⟩
            case measure => simp [intOf]; omega
        · have HN : Hid (pageL B (K.take (k + 1)) = acc) := by show _ = _; rw [HSN.out]; unfold pageStep; rw [hj]
          clear hj HSN
          go_wp2
          go_roundw
          case rel => exact ⟨k + 1, by omega, by go_num, by rw [HN.out]; exact HO4, HB4⟩
          case measure => simp [intOf]; omega
      · have HR : Hid (pageF A t = pageL B (K.take k)) := by show _ = _; rw [List.take_of_length_le (by omega)]; exact HF.out
        go_wp2
        go_ret
        exact ⟨_, rfl, by rw [HR.out]; exact Owns.mono HO.out HB3.out.size, HB3.out.trans (HB.out.mono HB3.out.size)⟩
end Go.Proofs.YtboncolbijicfaaGreatDoor.PgA
