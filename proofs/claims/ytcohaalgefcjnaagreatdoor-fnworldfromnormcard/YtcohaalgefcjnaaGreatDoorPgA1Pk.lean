/- Several texts in one: PgA1, PgA2, PgAsc, PgA3, PgA4, Wd4, PgA5, Wd5, PgLaws, WdF. -/
import Derived.Test.YtcohaalgefcjnaaGreatDoorDraw10
import Derived.Test.YtcohaalgefcjnaaGreatDoorPage4
import Derived.Test.YtcohaalgefcjnaaGreatDoorDraw5Pk
import Derived.Test.YtcohaalgefcjnaaGreatDoorStep
import Derived.Deep.AppendLies
import Derived.Test.YtcohaalgefcjnaaGreatDoorWd2
import Derived.Test.YtcohaalgefcjnaaGreatDoorWd3
import Derived.Test.YtcohaalgefcjnaaGreatDoorRead3Pk
/- Where pages lead: mathematics, and joins by texts of any length. -/
namespace Go.Proofs.YtcohaalgefcjnaaGreatDoor.PgA
open Go.RowKit Go.Proofs.YtcohaalgefcjnaaGreatDoor.EscM Go.Proofs.YtcohaalgefcjnaaGreatDoor.St Go.Proofs.YtcohaalgefcjnaaGreatDoor.AddrM Go.Proofs.YtcohaalgefcjnaaGreatDoor.ReadM Go.Proofs.YtcohaalgefcjnaaGreatDoor.EscL Go.Proofs.YtcohaalgefcjnaaGreatDoor.Ad1 Go.Proofs.YtcohaalgefcjnaaGreatDoor.Dr Go.Proofs.YtcohaalgefcjnaaGreatDoor.Im Go.Proofs.YtcohaalgefcjnaaGreatDoor.Rd1 Go.Proofs.YtcohaalgefcjnaaGreatDoor.Door Go.Proofs.YtcohaalgefcjnaaGreatDoor.JnM Go.Proofs.YtcohaalgefcjnaaGreatDoor.Jn Go.Proofs.YtcohaalgefcjnaaGreatDoor.PgM Go.Proofs.YtcohaalgefcjnaaGreatDoor.RB

theorem join_long {A : Ad} {l : List UInt8} (h : 60 < l.length) : joinF A l = none := by
  unfold joinF
  cases okB A with
  | false => rfl
  | true => rw [if_pos h]; rfl

set_option maxRecDepth 100000 in
set_option maxHeartbeats 3200000 in
theorem implJoin_long (A : Ad) (ref : ByteArray) (a0 : Option Addr) (cap : Nat) (w : World) (hS : IsStrs w a0 cap A.parts) (hB : bulkA A ≤ 1000) (hr : 60 < ref.size) (hm : ref.size ≤ 1000000) :
    Calls Tryz.prog 49 #[.agg #[.string A.house, .slice a0 A.parts.length cap, .bool A.asks, .string A.ask], .string ref] w fun e w' => Reads (joinF A ref.data.toList) w e w' := by
  have HN : Hid (joinF A ref.data.toList = none) := join_long (by simp; exact hr)
  have HS : Hid (IsStrs w a0 cap A.parts) := hS
  have hb4 : bulkA A ≤ 4194304 := by omega
  clear hS
  generalize joinF A ref.data.toList = R at *
  go_enter Tryz.func49, Tryz.ntmps49
  go_wp2_with fail
  refine (implOk_any A a0 cap _ (HS.out.keep (fun k hk => by rw [alloc_keep _ _ k (by simp; omega), alloc_keep _ _ k hk])) hb4).mono ?_
  rintro e w1 ⟨rfl, hb1⟩
  have HB1 : Hid (Below (w.heap.size + 1 + 1) ((w.alloc (.cells #[.string A.house, .slice a0 A.parts.length cap, .bool A.asks, .string A.ask] 28)).alloc (.cells #[.string ⟨#[]⟩, .slice none 0 0, .bool false, .string ⟨#[]⟩] 28)) w1) := hb1.mono (by simp)
  have hb1' := HB1.out
  obtain ⟨⟨c0, c1, c2, c3⟩, ⟨d0, d1, d2, d3⟩, dz⟩ := two_cells hb1'
  clear hb1 hb1'
  cases hok : okB A with
  | false =>
    go_wp2
    refine bodyPost_ret (v := .tuple #[.agg #[.string ⟨#[]⟩, .slice none 0 0, .bool false, .string ⟨#[]⟩], .bool false]) (by simp [results, Tryz.results49, go_sem, d0, d1, d2, d3]) rfl ?_
    refine ⟨zeroAd, false, none, 0, rfl, Or.inr ⟨rfl, HN.out, rfl⟩, Owns.nil _ _, ?_⟩
    have hbw := two_below HB1.out
    iterate 4 refine Below.setCell ?_ (by dsimp only; omega) _
    exact hbw
  | true =>
    go_wp2
    refine bodyPost_ret (v := .tuple #[.agg #[.string ⟨#[]⟩, .slice none 0 0, .bool false, .string ⟨#[]⟩], .bool false]) (by simp [results, Tryz.results49, go_sem, d0, d1, d2, d3]) rfl ?_
    refine ⟨zeroAd, false, none, 0, rfl, Or.inr ⟨rfl, HN.out, rfl⟩, Owns.nil _ _, ?_⟩
    have hbw := two_below HB1.out
    iterate 4 refine Below.setCell ?_ (by dsimp only; omega) _
    exact hbw

set_option maxRecDepth 100000 in
set_option maxHeartbeats 3200000 in
theorem specJoin_long (A : Ad) (ref : ByteArray) (a0 : Option Addr) (cap : Nat) (w : World) (hS : IsStrs w a0 cap A.parts) (hB : bulkA A ≤ 1000) (hr : 60 < ref.size) (hm : ref.size ≤ 1000000) :
    Calls Tryz.prog 116 #[.agg #[.string A.house, .slice a0 A.parts.length cap, .bool A.asks, .string A.ask], .string ref] w fun e w' => Reads (joinF A ref.data.toList) w e w' := by
  have HN : Hid (joinF A ref.data.toList = none) := join_long (by simp; exact hr)
  have HS : Hid (IsStrs w a0 cap A.parts) := hS
  have hb4 : bulkA A ≤ 4194304 := by omega
  have HC : Hid _ := fun W => specCut_any ref 35 W (by omega) (by omega) (by omega)
  clear hS
  generalize bs (cutL 35 ref.data.toList).1 = t at *
  generalize bs (cutL 35 ref.data.toList).2.1 = u at *
  generalize (cutL 35 ref.data.toList).2.2 = z at *
  generalize joinF A ref.data.toList = R at *
  go_enter Tryz.func116, Tryz.ntmps116
  go_wp2_with fail
  refine (HC.out _).mono ?_
  rintro e w0 ⟨rfl, nq, hw0⟩
  have HB0 : Hid (Below (w.heap.size + 1 + 1) ((w.alloc (.cells #[.string A.house, .slice a0 A.parts.length cap, .bool A.asks, .string A.ask] 28)).alloc (.cells #[.string ⟨#[]⟩, .slice none 0 0, .bool false, .string ⟨#[]⟩] 28)) w0) := by subst hw0; exact below_drewN (Below.refl _ _) nq
  have hb0' := HB0.out
  obtain ⟨⟨c0, c1, c2, c3⟩, ⟨d0, d1, d2, d3⟩, dz⟩ := two_cells hb0'
  clear hw0 hb0' HC
  go_wp2_with fail
  refine (specOk_any A a0 cap _ (HS.out.below (two_below HB0.out)) hb4).mono ?_
  rintro e w2 ⟨rfl, hb2⟩
  have HB2 : Hid _ := two_next HB0.out hb2
  clear hb2 HB0 c0 c1 c2 c3 d0 d1 d2 d3 dz
  have hb2' := HB2.out
  obtain ⟨⟨c0, c1, c2, c3⟩, ⟨d0, d1, d2, d3⟩, dz⟩ := two_cells hb2'
  clear hb2'
  cases hok : okB A with
  | false =>
    go_wp2
    refine bodyPost_ret (v := .tuple #[.agg #[.string ⟨#[]⟩, .slice none 0 0, .bool false, .string ⟨#[]⟩], .bool false]) (by simp [results, Tryz.results116, go_sem, d0, d1, d2, d3]) rfl ?_
    refine ⟨zeroAd, false, none, 0, rfl, Or.inr ⟨rfl, HN.out, rfl⟩, Owns.nil _ _, ?_⟩
    have hbw := two_below HB2.out
    iterate 4 refine Below.setCell ?_ (by dsimp only; omega) _
    exact hbw
  | true =>
    go_wp2
    refine bodyPost_ret (v := .tuple #[.agg #[.string ⟨#[]⟩, .slice none 0 0, .bool false, .string ⟨#[]⟩], .bool false]) (by simp [results, Tryz.results116, go_sem, d0, d1, d2, d3]) rfl ?_
    refine ⟨zeroAd, false, none, 0, rfl, Or.inr ⟨rfl, HN.out, rfl⟩, Owns.nil _ _, ?_⟩
    have hbw := two_below HB2.out
    iterate 4 refine Below.setCell ?_ (by dsimp only; omega) _
    exact hbw

theorem implJoin_page (A : Ad) (ref : ByteArray) (a0 : Option Addr) (cap : Nat) (w : World) (hM : Mx w) (hS : IsStrs w a0 cap A.parts) (hB : bulkA A ≤ 1000) (hr : ref.size ≤ 300) (ha : ascii ref) :
    Calls Tryz.prog 49 #[.agg #[.string A.house, .slice a0 A.parts.length cap, .bool A.asks, .string A.ask], .string ref] w fun e w' => Reads (joinF A ref.data.toList) w e w' := by
  by_cases h : ref.size ≤ 60
  · exact implJoin_ascii A ref a0 cap w hM hS hB h ha
  · exact implJoin_long A ref a0 cap w hS hB (by omega) (by omega)
theorem specJoin_page (A : Ad) (ref : ByteArray) (a0 : Option Addr) (cap : Nat) (w : World) (hS : IsStrs w a0 cap A.parts) (hB : bulkA A ≤ 1000) (hr : ref.size ≤ 300) :
    Calls Tryz.prog 116 #[.agg #[.string A.house, .slice a0 A.parts.length cap, .bool A.asks, .string A.ask], .string ref] w fun e w' => Reads (joinF A ref.data.toList) w e w' := by
  by_cases h : ref.size ≤ 60
  · exact specJoin_any A ref a0 cap w hS hB h
  · exact specJoin_long A ref a0 cap w hS hB (by omega) (by omega)

/-- from where links of a page lead -/
def fromF (A : Ad) (t : ByteArray) : Ad := if (baseF t).2 then (match joinF A (baseF t).1.data.toList with | some B => B | none => A) else A
def putL (L : List ByteArray) (x : ByteArray) : List ByteArray := if hasB x L then L else L ++ [x]
def pageStep (B : Ad) (acc : List ByteArray) (l : ByteArray) : List ByteArray := match joinF B l.data.toList with | some C => putL acc (textF C) | none => acc
def pageL (B : Ad) (links : List ByteArray) : List ByteArray := links.foldl (pageStep B) []
/-- where one comes from a page -/
def pageF (A : Ad) (t : ByteArray) : List ByteArray := if okB A then pageL (fromF A t) (linksF t) else []
theorem page_bad {A : Ad} {t : ByteArray} (h : okB A = false) : pageF A t = [] := by unfold pageF; rw [h]; rfl
theorem page_ok {A : Ad} {t : ByteArray} (h : okB A = true) : pageF A t = pageL (fromF A t) (linksF t) := by unfold pageF; rw [h]; rfl
theorem from_ok {A : Ad} {t : ByteArray} (h : okB A = true) : okB (fromF A t) = true := by
  unfold fromF
  split
  · split
    · rename_i B hj; exact join_ok hj
    · exact h
  · exact h
theorem from_bulk {A : Ad} {t : ByteArray} (h : okB A = true) : bulkA (fromF A t) ≤ 1000 := (ok_sum (from_ok h)).2
theorem page_snoc {B : Ad} {L : List ByteArray} {k : Nat} (h : k < L.length) : pageL B (L.take (k + 1)) = pageStep B (pageL B (L.take k)) L[k] := by
  unfold pageL
  rw [List.take_succ_eq_append_getElem h, List.foldl_append]; rfl
theorem put_len (L : List ByteArray) (x : ByteArray) : (putL L x).length ≤ L.length + 1 := by unfold putL; split <;> simp
theorem step_len (B : Ad) (L : List ByteArray) (x : ByteArray) : (pageStep B L x).length ≤ L.length + 1 := by
  unfold pageStep; split
  · exact put_len _ _
  · omega
theorem pageL_len (B : Ad) : ∀ (L acc : List ByteArray), (L.foldl (pageStep B) acc).length ≤ acc.length + L.length := by
  intro L
  induction L with
  | nil => intro acc; simp
  | cons x L ih => intro acc; have := ih (pageStep B acc x); have := step_len B acc x; simp only [List.foldl_cons, List.length_cons]; omega
end Go.Proofs.YtcohaalgefcjnaaGreatDoor.PgA
/- Where pages lead: lists in which each stands once. -/
namespace Go.Proofs.YtcohaalgefcjnaaGreatDoor.PgA
open Go.RowKit Go.Proofs.YtcohaalgefcjnaaGreatDoor.EscM Go.Proofs.YtcohaalgefcjnaaGreatDoor.St Go.Proofs.YtcohaalgefcjnaaGreatDoor.AddrM Go.Proofs.YtcohaalgefcjnaaGreatDoor.ReadM Go.Proofs.YtcohaalgefcjnaaGreatDoor.EscL Go.Proofs.YtcohaalgefcjnaaGreatDoor.Ad1 Go.Proofs.YtcohaalgefcjnaaGreatDoor.Dr Go.Proofs.YtcohaalgefcjnaaGreatDoor.Im Go.Proofs.YtcohaalgefcjnaaGreatDoor.Rd1 Go.Proofs.YtcohaalgefcjnaaGreatDoor.Door Go.Proofs.YtcohaalgefcjnaaGreatDoor.JnM Go.Proofs.YtcohaalgefcjnaaGreatDoor.Jn Go.Proofs.YtcohaalgefcjnaaGreatDoor.PgM Go.Proofs.YtcohaalgefcjnaaGreatDoor.RB

theorem has_take {L : List ByteArray} {k : Nat} {x : ByteArray} (h : k < L.length) (hn : x ∉ L.take k) (he : ¬ L[k] = x) : x ∉ L.take (k + 1) := by
  rw [List.take_succ_eq_append_getElem h, List.mem_append]
  rintro (h' | h')
  · exact hn h'
  · simp at h'; exact he h'.symm

set_option maxRecDepth 100000 in
set_option maxHeartbeats 1600000 in
theorem index_any (a0 : Option Addr) (cap : Nat) (L : List ByteArray) (x : ByteArray) (w : World) (hA : IsStrs w a0 cap L) (hl : L.length ≤ 4194304) :
    Calls Tryz.prog 89 #[.slice a0 L.length cap, .string x] w fun e w' => (∃ z : Int, e = .returned (.int .i64 z) ∧ (0 ≤ z ↔ hasB x L = true)) ∧ ∃ n, w' = w.drewN n := by
  have HA : Hid (IsStrs w a0 cap L) := hA
  clear hA
  go_enter Tryz.func89, Tryz.ntmps89
  go_wp2
  go_loopw [8] (fun i wr => ∃ k : Nat, k ≤ L.length ∧ i = .int .i64 (k : Int) ∧ Hid (x ∉ L.take k) ∧ Hid (∃ n, wr = w.drewN n)) (fun i _ => L.length - (intOf i).toNat)
  case atStart => exact ⟨0, Nat.zero_le _, rfl, by show x ∉ _; simp, ⟨0, rfl⟩⟩
  case round =>
    obtain ⟨k, hk, rfl, HN, HW⟩ := hrel
    by_cases hlt : k < L.length
    · have hpw := HW.out
      obtain ⟨n, hn⟩ := hpw
      obtain ⟨b1, o1, e1, c1⟩ := (IsStrs.drewN HA.out n).at hlt
      rw [← hn] at c1
      clear hn
      subst e1
      cases he : (x.toList == L[k].toList) with
      | true =>
        have HE : Hid (hasB x L = true) := by
          apply hasB_iff.2
          rw [str_eq_iff] at he
          have := of_decide_eq_true he
          rw [this]; exact List.getElem_mem hlt
        go_wp2
        go_ret
        exact ⟨⟨_, rfl, by rw [HE.out]; simp⟩, HW.out⟩
      | false =>
        have HE : Hid (x ∉ L.take (k + 1)) := by
          rw [str_eq_iff] at he
          exact has_take hlt HN.out (fun e => of_decide_eq_false he e.symm)
        go_wp2
        go_roundw
        case rel => exact ⟨k + 1, by omega, by go_num, HE, HW⟩
        case measure => simp [intOf]; omega
    · have HE : Hid (hasB x L = false) := by
        apply hasB_no.2
        have e1 : L.take k = L := List.take_of_length_le (by omega)
        rw [← e1]; exact HN.out
      go_wp2
      go_ret
      exact ⟨⟨-1, rfl, by rw [HE.out]; simp⟩, HW.out⟩
theorem contains_any (a0 : Option Addr) (cap : Nat) (L : List ByteArray) (x : ByteArray) (w : World) (hA : IsStrs w a0 cap L) (hl : L.length ≤ 4194304) :
    Calls Tryz.prog 50 #[.slice a0 L.length cap, .string x] w fun e w' => e = .returned (.bool (hasB x L)) ∧ ∃ n, w' = w.drewN n := by
  have HA : Hid (IsStrs w a0 cap L) := hA
  clear hA
  go_enter Tryz.func50, Tryz.ntmps50
  go_wp2_with fail
  refine (index_any a0 cap L x _ HA.out hl).mono ?_
  rintro e w1 ⟨⟨z, rfl, hz⟩, n, rfl⟩
  have HZ : Hid (decide (0 ≤ z) = hasB x L) := by
    show _ = _
    rw [Bool.eq_iff_iff, decide_eq_true_eq]; exact hz
  clear hz
  go_wp2
  go_ret
  exact ⟨ret_bool HZ.out, n, rfl⟩

set_option maxRecDepth 100000 in
set_option maxHeartbeats 1600000 in
theorem put_any (base : Nat) (v : Value) (L : List ByteArray) (x : ByteArray) (w : World) (hO : Owns w base v L) (hb : base ≤ w.heap.size) (hl : L.length ≤ 100000) :
    Calls Tryz.prog 118 #[v, .string x] w fun e w' => ∃ v', e = .returned v' ∧ Owns w' base v' (putL L x) ∧ w.grownBy w' v.ownBlock ∧ (v'.ownBlock = v.ownBlock ∨ ∃ g, v'.ownBlock = some g ∧ w.heap.size ≤ g) := by
  obtain ⟨i0, hi, hz0, hz1, hz2⟩ := info_parts Tryz.infoS
  obtain ⟨a0, cap, hv, hS⟩ := hO.strs
  subst hv
  have HO : Hid (Owns w base (.slice a0 L.length cap) L) := hO
  have HA : Hid (IsStrs w a0 cap L) := hS
  clear hO hS
  go_enter Tryz.func118, Tryz.ntmps118
  go_wp2
  go_loop [5] (fun i => ∃ k : Nat, k ≤ L.length ∧ i = .int .i64 (k : Int) ∧ Hid (x ∉ L.take k)) (fun i => L.length - (intOf i).toNat)
  case atStart => exact ⟨0, Nat.zero_le _, rfl, by show x ∉ _; simp⟩
  case round =>
    obtain ⟨k, hk, rfl, HN⟩ := hrel
    by_cases hlt : k < L.length
    · obtain ⟨b1, o1, e1, c1⟩ := HA.out.at hlt
      subst e1
      cases he : (L[k].toList == x.toList) with
      | true =>
        have HE : Hid (putL L x = L) := by
          show _ = _
          rw [str_eq_iff] at he
          have := of_decide_eq_true he
          unfold putL
          rw [hasB_iff.2 (by rw [← this]; exact List.getElem_mem hlt)]; rfl
        go_wp2
        go_ret
        exact ⟨_, rfl, by rw [HE.out]; exact HO.out, Dr.grown_refl _ _, Or.inl rfl⟩
      | false =>
        have HE : Hid (x ∉ L.take (k + 1)) := by
          rw [str_eq_iff] at he
          exact has_take hlt HN.out (of_decide_eq_false he)
        go_wp2
        go_round
        case rel => exact ⟨k + 1, by omega, by go_num, HE⟩
        case measure => simp [intOf]; omega
    · have HE : Hid (putL L x = L ++ [x]) := by
        show _ = _
        have e1 : L.take k = L := List.take_of_length_le (by omega)
        have hn := HN.out
        rw [e1] at hn
        unfold putL
        rw [hasB_no.2 hn]; rfl
      go_wp2_with (at_builtin; refine wpList_append_lies _ rfl _ _ 26 rfl base 9 i0 (.string ⟨#[]⟩) 1 16 Tryz.underlying26 hi hz0 hz1 hz2 rfl (by decide) _ _ _ rfl (World.ownsRow.alloc HO.out _) ⟨w.heap.size, 0, none⟩ 1 1 [.string x] rfl rfl (cell_one_new _ _ _) ?c2 (by omega) ?c3 ?c4 ?c5 (w.heap.size + 1) ?c6 ?_)
      case c2 => first | rfl | (intro u hu; simp at hu; subst hu; rfl)
      case c3 => unfold maxLen; omega
      case c4 => omega
      case c5 => first | omega | (simp; omega)
      intro g c2 w2 hown' hgrow hat _
      have HO' : Hid _ := hown'
      have HG : Hid (w.grownBy w2 (Value.slice a0 L.length cap).ownBlock) := Dr.grown_trans (grown_alloc w _ _) hgrow
      have HAT : Hid ((Value.slice (some ⟨g, 0, none⟩) (L.length + 1) c2).ownBlock = (Value.slice a0 L.length cap).ownBlock ∨ ∃ g', (Value.slice (some ⟨g, 0, none⟩) (L.length + 1) c2).ownBlock = some g' ∧ w.heap.size ≤ g') := by
        rcases hat with h | h
        · exact Or.inl h.symm
        · exact Or.inr ⟨g, rfl, by omega⟩
      clear hown' hgrow hat
      go_wp2
      go_ret
      exact ⟨_, rfl, by rw [HE.out]; exact Owns.append HO'.out, HG.out, HAT.out⟩
theorem strs_apart {w w' : World} {a0 : Option Addr} {cap : Nat} {L : List ByteArray} {row : Option Nat} (h : IsStrs w a0 cap L) (hg : w.grownBy w' row) (hne : ∀ a, a0 = some a → row ≠ some a.block) : IsStrs w' a0 cap L := by
  obtain ⟨h1, h2, h3, h4⟩ := h
  refine ⟨h1, h2, h3, fun hn => ?_⟩
  obtain ⟨b, off, e, hc⟩ := h4 hn
  refine ⟨b, off, e, fun i hi => ?_⟩
  have hb := St.cell_block (hc i hi)
  rw [World.cell?_of_block (w := w) (hg.block _ hb (fun e' => hne _ e e'.symm))]; exact hc i hi
end Go.Proofs.YtcohaalgefcjnaaGreatDoor.PgA
/- Which bytes a page's marks have: any. -/
namespace Go.Proofs.YtcohaalgefcjnaaGreatDoor.PgA
open Go.RowKit Go.Proofs.YtcohaalgefcjnaaGreatDoor.EscM Go.Proofs.YtcohaalgefcjnaaGreatDoor.St Go.Proofs.YtcohaalgefcjnaaGreatDoor.AddrM Go.Proofs.YtcohaalgefcjnaaGreatDoor.ReadM Go.Proofs.YtcohaalgefcjnaaGreatDoor.EscL Go.Proofs.YtcohaalgefcjnaaGreatDoor.Ad1 Go.Proofs.YtcohaalgefcjnaaGreatDoor.Dr Go.Proofs.YtcohaalgefcjnaaGreatDoor.Im Go.Proofs.YtcohaalgefcjnaaGreatDoor.Rd1 Go.Proofs.YtcohaalgefcjnaaGreatDoor.Door Go.Proofs.YtcohaalgefcjnaaGreatDoor.JnM Go.Proofs.YtcohaalgefcjnaaGreatDoor.Jn Go.Proofs.YtcohaalgefcjnaaGreatDoor.PgM Go.Proofs.YtcohaalgefcjnaaGreatDoor.RB

def asc (_ : ByteArray) : Prop := True
theorem marks_ascii {t : ByteArray} (_ : asc t) : ∀ x ∈ marksF t, ascii x := fun _ _ => trivial
theorem links_ascii {t : ByteArray} (_ : asc t) : ∀ x ∈ linksF t, ascii x := fun _ _ => trivial
theorem base_ascii {t : ByteArray} (_ : asc t) : ascii (baseF t).1 := trivial
end Go.Proofs.YtcohaalgefcjnaaGreatDoor.PgA
/- Where pages lead: the program's. -/
namespace Go.Proofs.YtcohaalgefcjnaaGreatDoor.PgA
open Go.RowKit Go.Proofs.YtcohaalgefcjnaaGreatDoor.EscM Go.Proofs.YtcohaalgefcjnaaGreatDoor.St Go.Proofs.YtcohaalgefcjnaaGreatDoor.AddrM Go.Proofs.YtcohaalgefcjnaaGreatDoor.ReadM Go.Proofs.YtcohaalgefcjnaaGreatDoor.EscL Go.Proofs.YtcohaalgefcjnaaGreatDoor.Ad1 Go.Proofs.YtcohaalgefcjnaaGreatDoor.Dr Go.Proofs.YtcohaalgefcjnaaGreatDoor.Im Go.Proofs.YtcohaalgefcjnaaGreatDoor.Rd1 Go.Proofs.YtcohaalgefcjnaaGreatDoor.Door Go.Proofs.YtcohaalgefcjnaaGreatDoor.JnM Go.Proofs.YtcohaalgefcjnaaGreatDoor.Jn Go.Proofs.YtcohaalgefcjnaaGreatDoor.PgM Go.Proofs.YtcohaalgefcjnaaGreatDoor.RB Go.Proofs.YtcohaalgefcjnaaGreatDoor.Pg

set_option maxRecDepth 100000 in
set_option maxHeartbeats 3200000 in
theorem from_any (A : Ad) (t : ByteArray) (a0 : Option Addr) (cap : Nat) (w : World) (hM : Mx w) (hS : IsStrs w a0 cap A.parts) (hB : bulkA A ≤ 1000) (ht : t.size ≤ 4194304) (ha : asc t) :
    Calls Tryz.prog 47 #[.agg #[.string A.house, .slice a0 A.parts.length cap, .bool A.asks, .string A.ask], .string t] w fun e w' => ∃ a1 c1, e = .returned (.agg #[.string (fromF A t).house, .slice a1 (fromF A t).parts.length c1, .bool (fromF A t).asks, .string (fromF A t).ask]) ∧ IsStrs w' a1 c1 (fromF A t).parts ∧ Below w.heap.size w w' := by
  have HS : Hid (IsStrs w a0 cap A.parts) := hS
  have HM : Hid (Mx w) := hM
  have HBA : Hid (ascii (baseF t).1) := base_ascii ha
  have hbs := base_size t
  have HF : Hid (fromF A t = if (baseF t).2 then (match joinF A (baseF t).1.data.toList with | some B => B | none => A) else A) := rfl
  have htm : t.size ≤ maxLen := by unfold maxLen; omega
  have HIB : Hid _ := fun W => implBase_any t W htm
  clear hS hM ha
  generalize (baseF t).1 = ref at *
  generalize (baseF t).2 = told at *
  generalize fromF A t = R at *
  go_enter Tryz.func47, Tryz.ntmps47
  go_wp2_with fail
  refine (HIB.out _).mono ?_
  rintro e w1 ⟨rfl, hb1⟩
  have HB1 : Hid (Below (w.heap.size + 1 + 1) ((w.alloc (.cells #[.string A.house, .slice a0 A.parts.length cap, .bool A.asks, .string A.ask] 28)).alloc (.cells #[.string ⟨#[]⟩, .slice none 0 0, .bool false, .string ⟨#[]⟩] 28)) w1) := hb1.mono (by simp)
  have hb1' := HB1.out
  obtain ⟨⟨c0, c1, c2, c3⟩, ⟨d0, d1, d2, d3⟩, dz⟩ := two_cells hb1'
  clear hb1 hb1'
  cases told with
  | false =>
    have HR : Hid (R = A) := by show _ = _; rw [HF.out]; rfl
    clear HF
    go_wp2
    refine bodyPost_ret (v := .agg #[.string A.house, .slice a0 A.parts.length cap, .bool A.asks, .string A.ask]) (by simp [results, Tryz.results47, go_sem, d0, d1, d2, d3]) rfl ?_
    rw [HR.out]
    have hbw : Below w.heap.size w ((((w1.setCell ⟨w.heap.size + 1, 0, none⟩ (.string A.house)).setCell ⟨w.heap.size + 1, 1, none⟩ (.slice a0 A.parts.length cap)).setCell ⟨w.heap.size + 1, 2, none⟩ (.bool A.asks)).setCell ⟨w.heap.size + 1, 3, none⟩ (.string A.ask)) := by
      iterate 4 refine Below.setCell ?_ (by dsimp only; omega) _
      exact two_below HB1.out
    exact ⟨a0, cap, rfl, HS.out.below hbw, hbw⟩
  | true =>
    have HM1 : Hid (Mx w1) := HM.out.keep fun k hk => (two_below HB1.out).block k hk
    have HS1 : Hid (IsStrs w1 a0 cap A.parts) := HS.out.below (two_below HB1.out)
    go_wp2_with fail
    refine (implJoin_page A ref a0 cap _ HM1.out HS1.out hB hbs HBA.out).mono ?_
    rintro e w2 ⟨B, ok, x1, y1, rfl, hans, hO, hb2⟩
    have HB2 : Hid _ := two_next HB1.out hb2
    have HB3 : Hid _ := two_next HB2.out ((Below.refl _ w2).alloc (Nat.le_refl _) (.cells #[.string B.house, .slice x1 B.parts.length y1, .bool B.asks, .string B.ask] 28))
    have HO2 : Hid (Owns w2 w1.heap.size (.slice x1 B.parts.length y1) B.parts) := hO
    have hz1 : w.heap.size + 1 + 1 ≤ w1.heap.size := by have := HB1.out.size; simp at this; omega
    have hz2 : w.heap.size + 1 + 1 ≤ w2.heap.size := by have := HB2.out.size; simp at this; omega
    clear hO hb2 c0 c1 c2 c3 d0 d1 d2 d3 dz HB1
    have hb2' := HB3.out
    obtain ⟨⟨c0, c1, c2, c3⟩, ⟨d0, d1, d2, d3⟩, dz⟩ := two_cells hb2'
    clear hb2'
    rcases hans with ⟨rfl, hj⟩ | ⟨rfl, hj, rfl⟩
    · have HR : Hid (R = B) := by show _ = _; rw [HF.out, hj]; rfl
      clear HF hj
      go_wp2
      refine bodyPost_ret (v := .agg #[.string B.house, .slice x1 B.parts.length y1, .bool B.asks, .string B.ask]) (by simp [results, Tryz.results47, go_sem, d0, d1, d2, d3]) rfl ?_
      rw [HR.out]
      refine ⟨x1, y1, rfl, Owns.strsOf (base := w1.heap.size) (n := B.parts.length) ?_, ?_⟩
      · have hO := Owns.keep HO2.out (alloc_keep w2 (.cells #[.string B.house, .slice x1 B.parts.length y1, .bool B.asks, .string B.ask] 28))
        iterate 4 refine ownsRow_setCell_below ?_ (by dsimp only; omega) _
        exact hO
      · have hbw := two_below HB3.out
        iterate 4 refine Below.setCell ?_ (by dsimp only; omega) _
        exact hbw
    · have HR : Hid (R = A) := by show _ = _; rw [HF.out, hj]; rfl
      clear HF hj
      go_wp2
      refine bodyPost_ret (v := .agg #[.string A.house, .slice a0 A.parts.length cap, .bool A.asks, .string A.ask]) (by simp [results, Tryz.results47, go_sem, d0, d1, d2, d3]) rfl ?_
      rw [HR.out]
      have hbw := two_below HB3.out
      refine ⟨a0, cap, rfl, HS.out.below ?_, ?_⟩
      · iterate 4 refine Below.setCell ?_ (by dsimp only; omega) _
        exact hbw
      · iterate 4 refine Below.setCell ?_ (by dsimp only; omega) _
        exact hbw
end Go.Proofs.YtcohaalgefcjnaaGreatDoor.PgA
/- Where pages lead: the program's PageAddrs. -/
namespace Go.Proofs.YtcohaalgefcjnaaGreatDoor.PgA
open Go.RowKit Go.Proofs.YtcohaalgefcjnaaGreatDoor.EscM Go.Proofs.YtcohaalgefcjnaaGreatDoor.St Go.Proofs.YtcohaalgefcjnaaGreatDoor.AddrM Go.Proofs.YtcohaalgefcjnaaGreatDoor.ReadM Go.Proofs.YtcohaalgefcjnaaGreatDoor.EscL Go.Proofs.YtcohaalgefcjnaaGreatDoor.Ad1 Go.Proofs.YtcohaalgefcjnaaGreatDoor.Dr Go.Proofs.YtcohaalgefcjnaaGreatDoor.Im Go.Proofs.YtcohaalgefcjnaaGreatDoor.Rd1 Go.Proofs.YtcohaalgefcjnaaGreatDoor.Door Go.Proofs.YtcohaalgefcjnaaGreatDoor.JnM Go.Proofs.YtcohaalgefcjnaaGreatDoor.Jn Go.Proofs.YtcohaalgefcjnaaGreatDoor.PgM Go.Proofs.YtcohaalgefcjnaaGreatDoor.RB Go.Proofs.YtcohaalgefcjnaaGreatDoor.Pg

set_option maxRecDepth 100000 in
set_option maxHeartbeats 6400000 in
theorem implPage_any (A : Ad) (t : ByteArray) (a0 : Option Addr) (cap : Nat) (w : World) (hM : Mx w) (hS : IsStrs w a0 cap A.parts) (hB : bulkA A ≤ 1000) (ht : t.size ≤ 4194304) (ha : asc t) :
    Calls Tryz.prog 21 #[.agg #[.string A.house, .slice a0 A.parts.length cap, .bool A.asks, .string A.ask], .string t] w fun e w' => ∃ v, e = .returned v ∧ Owns w' w.heap.size v (pageF A t) ∧ Below w.heap.size w w' := by
  obtain ⟨i0, hi, hz0, hz1, hz2⟩ := info_parts Tryz.infoS
  have hb4 : bulkA A ≤ 4194304 := by omega
  have HS : Hid (IsStrs (w.alloc (.cells #[.string A.house, .slice a0 A.parts.length cap, .bool A.asks, .string A.ask] 28)) a0 cap A.parts) := hS.keep (alloc_keep _ _)
  have HM : Hid (Mx (w.alloc (.cells #[.string A.house, .slice a0 A.parts.length cap, .bool A.asks, .string A.ask] 28))) := hM.alloc _
  have HB0 : Hid (Below w.heap.size w (w.alloc (.cells #[.string A.house, .slice a0 A.parts.length cap, .bool A.asks, .string A.ask] 28))) := (Below.refl _ w).alloc (Nat.le_refl _) _
  have HX0 : Hid (Box (w.alloc (.cells #[.string A.house, .slice a0 A.parts.length cap, .bool A.asks, .string A.ask] 28)) w.heap.size (.string A.house) (.slice a0 A.parts.length cap) (.bool A.asks) (.string A.ask)) := heap_new w _
  have htm : t.size ≤ maxLen := by unfold maxLen; omega
  have HAS : Hid (asc t) := ha
  clear hS hM ha
  go_enter Tryz.func21, Tryz.ntmps21
  go_wp2_with fail
  refine (implOk_any A a0 cap _ HS.out hb4).mono ?_
  rintro e w1 ⟨rfl, hb1⟩
  have HS1 : Hid (IsStrs w1 a0 cap A.parts) := HS.out.below hb1
  have HM1 : Hid (Mx w1) := HM.out.below hb1
  have HB1 : Hid (Below w.heap.size w w1) := HB0.out.trans (hb1.mono HB0.out.size)
  have HX1 : Hid (Box w1 w.heap.size (.string A.house) (.slice a0 A.parts.length cap) (.bool A.asks) (.string A.ask)) := HX0.out.grown (grown_of_below none hb1) (by simp)
  clear hb1 HS HM HB0 HX0
  have hx := HX1.out
  obtain ⟨⟨c0, c1, c2, c3⟩, _⟩ := hx.cells
  clear hx
  cases hok : okB A with
  | false =>
    have HF : Hid _ := page_bad (t := t) hok
    clear hok
    go_wp2
    go_ret
    exact ⟨_, rfl, by rw [HF.out]; exact Owns.nil _ _, HB1.out⟩
  | true =>
    have HF : Hid _ := page_ok (t := t) hok
    have HBK : Hid _ := from_bulk (t := t) hok
    clear hok
    go_wp2_with fail
    refine (from_any A t a0 cap _ HM1.out HS1.out hB ht HAS.out).mono ?_
    rintro e w2 ⟨f1, g1, rfl, hS2, hb2⟩
    have HMK : Hid (∀ x ∈ linksF t, ascii x) := links_ascii HAS.out
    have HLS : Hid _ := links_size t
    have hll := links_len t
    generalize fromF A t = B at *
    have HS2 : Hid (IsStrs (w2.alloc (.cells #[.string B.house, .slice f1 B.parts.length g1, .bool B.asks, .string B.ask] 28)) f1 g1 B.parts) := hS2.keep (alloc_keep _ _)
    have hba := hb2.alloc hb2.size (.cells #[.string B.house, .slice f1 B.parts.length g1, .bool B.asks, .string B.ask] 28)
    have HM2 : Hid (Mx (w2.alloc (.cells #[.string B.house, .slice f1 B.parts.length g1, .bool B.asks, .string B.ask] 28))) := HM1.out.below hba
    have HB2 : Hid (Below w.heap.size w (w2.alloc (.cells #[.string B.house, .slice f1 B.parts.length g1, .bool B.asks, .string B.ask] 28))) := HB1.out.trans (hba.mono HB1.out.size)
    have HX2 : Hid (Box (w2.alloc (.cells #[.string B.house, .slice f1 B.parts.length g1, .bool B.asks, .string B.ask] 28)) w2.heap.size (.string B.house) (.slice f1 B.parts.length g1) (.bool B.asks) (.string B.ask)) := heap_new w2 _
    have hw2 : w.heap.size ≤ w2.heap.size := Nat.le_trans HB1.out.size hb2.size
    obtain ⟨G, hG⟩ : ∃ G, w2.heap.size = G := ⟨_, rfl⟩
    rw [hG] at HX2 hw2
    clear hS2 hb2 hba c0 c1 c2 c3 HX1 HS1 HM1 HB1
    go_wp2_with fail
    refine (implLinks_any t _ htm).mono ?_
    rintro e w3 ⟨v3, rfl, hO3, hb3⟩
    obtain ⟨l1, m1, hv3, hS3⟩ := hO3.strs
    subst hv3
    have HL3 : Hid (IsStrs w3 l1 m1 (linksF t)) := hS3
    have HS3 : Hid (IsStrs w3 f1 g1 B.parts) := HS2.out.below hb3
    have HM3 : Hid (Mx w3) := HM2.out.below hb3
    have HB3 : Hid (Below w.heap.size w w3) := HB2.out.trans (hb3.mono HB2.out.size)
    have HX3 : Hid (Box w3 G (.string B.house) (.slice f1 B.parts.length g1) (.bool B.asks) (.string B.ask)) := HX2.out.grown (grown_of_below none hb3) (by simp)
    have hGw : G < w3.heap.size := HX3.out.lt
    clear hO3 hS3 hb3 HS2 HM2 HB2 HX2
    generalize linksF t = K at *
    go_wp2
    go_loopw [6, 21] (fun v i wr => ∃ k : Nat, k ≤ K.length ∧ i = .int .i64 (k : Int) ∧ Hid (Owns wr w3.heap.size v (pageL B (K.take k))) ∧ Hid (Below w3.heap.size w3 wr)) (fun _ i _ => K.length - (intOf i).toNat)
    case atStart => exact ⟨0, Nat.zero_le _, rfl, Owns.nil _ _, Below.refl _ _⟩
    case round =>
      obtain ⟨k, hk, rfl, HO, HB⟩ := hrel
      by_cases hlt : k < K.length
      · obtain ⟨lb, lo, e1, cl⟩ := (HL3.out.below HB.out).at hlt
        subst e1
        have HXr : Hid (Box wr G (.string B.house) (.slice f1 B.parts.length g1) (.bool B.asks) (.string B.ask)) := HX3.out.grown (grown_of_below none HB.out) (by simp)
        have hx := HXr.out
        obtain ⟨⟨c0, c1, c2, c3⟩, _⟩ := hx.cells
        clear hx
        have hks := HLS.out K[k] (List.getElem_mem _)
        have HKA : Hid (ascii K[k]) := HMK.out K[k] (List.getElem_mem _)
        have HSN : Hid _ := page_snoc (B := B) hlt
        have hacc : (pageL B (K.take k)).length ≤ 300 := by
          have := pageL_len B (K.take k) []
          unfold pageL
          simp at this ⊢; omega
        obtain ⟨ao, co, hv, hso⟩ := HO.out.strs
        subst hv
        clear hso
        obtain ⟨acc, hac⟩ : ∃ acc, pageL B (K.take k) = acc := ⟨_, rfl⟩
        rw [hac] at HO HSN hacc
        simp only [hac]
        clear hac
        go_wp2_with fail
        refine (implJoin_page B K[k] f1 g1 _ (HM3.out.below HB.out) (HS3.out.below HB.out) HBK.out hks HKA.out).mono ?_
        rintro e w4 ⟨C, ok, x1, y1, rfl, hans, hOC, hb4'⟩
        have HO4 : Hid (Owns (w4.alloc (.cells #[.string C.house, .slice x1 C.parts.length y1, .bool C.asks, .string C.ask] 28)) w3.heap.size (.slice ao acc.length co) acc) := Owns.keep (Owns.below HO.out hb4') (alloc_keep _ _)
        have HB4 : Hid (Below w3.heap.size w3 (w4.alloc (.cells #[.string C.house, .slice x1 C.parts.length y1, .bool C.asks, .string C.ask] 28))) := (HB.out.trans (hb4'.mono HB.out.size)).alloc (HB.out.trans (hb4'.mono HB.out.size)).size _
        have HSC : Hid (IsStrs (w4.alloc (.cells #[.string C.house, .slice x1 C.parts.length y1, .bool C.asks, .string C.ask] 28)) x1 y1 C.parts) := (Owns.strsOf hOC).keep (alloc_keep _ _)
        clear hOC hb4' c0 c1 c2 c3 cl HXr
        rcases hans with ⟨rfl, hj⟩ | ⟨rfl, hj, rfl⟩
        · have HN : Hid (pageL B (K.take (k + 1)) = putL acc (textF C)) := by show _ = _; rw [HSN.out]; unfold pageStep; rw [hj]
          have hCb : bulkA C ≤ 4194304 := Nat.le_trans (ok_sum (join_ok hj)).2 (by decide)
          clear hj HSN
          go_wp2_with fail
          refine (implAddrText_any C x1 y1 _ HSC.out hCb).mono ?_
          rintro e w5 ⟨rfl, hb5⟩
          have HO5 : Hid (Owns w5 w3.heap.size (.slice ao acc.length co) acc) := Owns.below HO4.out hb5
          have HB5 : Hid (Below w3.heap.size w3 w5) := HB4.out.trans (hb5.mono HB4.out.size)
          clear hb5 HO4 HB4 HSC
          generalize textF C = tx at *
          go_wp2_with fail
          refine (contains_any ao co acc tx _ (Owns.strsOf HO5.out) (by omega)).mono ?_
          rintro e w6 ⟨rfl, n6, hw6⟩
          have HO6 : Hid (Owns w6 w3.heap.size (.slice ao acc.length co) acc) := by rw [hw6]; exact Owns.keep HO5.out fun _ _ => rfl
          have HB6 : Hid (Below w3.heap.size w3 w6) := by rw [hw6]; exact below_drewN HB5.out n6
          clear hw6 HO5 HB5
          cases hh : hasB tx acc with
          | true =>
            have HP : Hid (putL acc tx = acc) := by show _ = _; unfold putL; rw [hh]; rfl
            clear hh
            go_wp2
            go_roundw
            case rel => exact ⟨k + 1, by omega, by go_num, by rw [HN.out, HP.out]; exact HO6, HB6⟩
            case measure => simp [intOf]; omega
          | false =>
            have HP : Hid (putL acc tx = acc ++ [tx]) := by show _ = _; unfold putL; rw [hh]; rfl
            clear hh
            go_wp2_with (at_builtin; refine wpList_append_own _ rfl _ _ 26 rfl w3.heap.size 9 i0 (.string ⟨#[]⟩) 1 16 Tryz.underlying26 hi hz0 hz1 hz2 rfl (by decide) _ _ _ rfl (World.ownsRow.alloc HO6.out _) ⟨w6.heap.size, 0, none⟩ 1 1 [.string tx] rfl rfl (cell_one_new _ _ _) ?c2 ?c3 ?c4 ?c5 ?_)
            case c2 => first | rfl | (intro u hu; simp at hu; subst hu; rfl)
            case c3 => unfold maxLen; omega
            case c4 => omega
            case c5 => have := HB6.out.size; first | omega | (simp; omega)
            intro v' w7 hown' hgrow _
            have HO' : Hid (Owns w7 w3.heap.size v' (acc ++ [tx])) := Owns.append hown'
            have HB7 : Hid (Below w3.heap.size w3 w7) := Below.grown (HB6.out.alloc HB6.out.size _) hgrow (by have := HB6.out.size; simp; omega) (Owns.block HO6.out)
            clear hown' hgrow
            go_wp2
            go_roundw
            case rel => exact ⟨k + 1, by omega, by go_num, by rw [HN.out, HP.out]; exact HO', HB7⟩
            case measure => simp [intOf]; omega
        · have HN : Hid (pageL B (K.take (k + 1)) = acc) := by show _ = _; rw [HSN.out]; unfold pageStep; rw [hj]
          clear hj HSN
          go_wp2
          go_roundw
          case rel => exact ⟨k + 1, by omega, by go_num, by rw [HN.out]; exact HO4, HB4⟩
          case measure => simp [intOf]; omega
      · have HR : Hid (pageF A t = pageL B (K.take k)) := by show _ = _; rw [List.take_of_length_le (by omega)]; exact HF.out
        go_wp2
        go_ret
        exact ⟨_, rfl, by rw [HR.out]; exact Owns.mono HO.out HB3.out.size, HB3.out.trans (HB.out.mono HB3.out.size)⟩
end Go.Proofs.YtcohaalgefcjnaaGreatDoor.PgA
/- Where one comes from an address of a world. -/
namespace Go.Proofs.YtcohaalgefcjnaaGreatDoor.Wd
open Go.RowKit Go.Proofs.YtcohaalgefcjnaaGreatDoor.EscM Go.Proofs.YtcohaalgefcjnaaGreatDoor.AddrM Go.Proofs.YtcohaalgefcjnaaGreatDoor.ReadM Go.Proofs.YtcohaalgefcjnaaGreatDoor.St Go.Proofs.YtcohaalgefcjnaaGreatDoor.EscL Go.Proofs.YtcohaalgefcjnaaGreatDoor.PathM Go.Proofs.YtcohaalgefcjnaaGreatDoor.Ad1 Go.Proofs.YtcohaalgefcjnaaGreatDoor.Rd1 Go.Proofs.YtcohaalgefcjnaaGreatDoor.LibM Go.Proofs.YtcohaalgefcjnaaGreatDoor.Im Go.Proofs.YtcohaalgefcjnaaGreatDoor.RdA Go.Proofs.YtcohaalgefcjnaaGreatDoor.MkA Go.Proofs.YtcohaalgefcjnaaGreatDoor.Mp Go.Proofs.YtcohaalgefcjnaaGreatDoor.WdM Go.Proofs.YtcohaalgefcjnaaGreatDoor.RR Go.Proofs.YtcohaalgefcjnaaGreatDoor.RoPg Go.Proofs.YtcohaalgefcjnaaGreatDoor.PgA Go.Proofs.YtcohaalgefcjnaaGreatDoor.RB

/-- where what one got at A leads -/
def leadF (A : Ad) (k : Int × ByteArray) : List ByteArray := if k.1 = 1 then pageF A k.2 else if k.1 = 2 then [k.2] else []
theorem lead_one (A : Ad) (t : ByteArray) : leadF A (1, t) = pageF A t := rfl
theorem lead_two (A : Ad) (t : ByteArray) : leadF A (2, t) = [t] := rfl
theorem lead_no {A : Ad} {k : Int} {t : ByteArray} (h1 : ¬ k = 1) (h2 : ¬ k = 2) : leadF A (k, t) = [] := by unfold leadF; rw [if_neg h1, if_neg h2]
def fromW (L : List Pg) (a : ByteArray) : List ByteArray := if wOk L then (match normA a with | some A => leadF A (kindF L a 2) | none => []) else []
theorem fromW_bad {L : List Pg} {a : ByteArray} (h : wOk L = false) : fromW L a = [] := by unfold fromW; rw [h]; rfl
theorem fromW_none {L : List Pg} {a : ByteArray} (h : normA a = none) : fromW L a = [] := by unfold fromW; rw [h]; split <;> rfl
theorem fromW_ok {L : List Pg} {a : ByteArray} {A : Ad} (h : wOk L = true) (h2 : normA a = some A) : fromW L a = leadF A (kindF L a 2) := by unfold fromW; rw [h, h2]; rfl
def PgTx (L : List Pg) : Prop := ∀ p ∈ L, asc p.text
theorem norm_some {s : ByteArray} {A : Ad} (h : normA s = some A) : readF s.data.toList = some A ∧ textF A = s := by
  unfold normA at h
  cases hr : readF s.data.toList with
  | none => rw [hr] at h; cases h
  | some B =>
    rw [hr] at h
    dsimp only at h
    split at h
    · rename_i he
      injection h with e
      subst e
      refine ⟨rfl, ?_⟩
      have := eq_of_beq he
      rw [ByteArray.toList_eq, ByteArray.toList_eq] at this
      exact ByteArray.ext (Array.ext' this)
    · cases h
theorem read_le {s : ByteArray} {A : Ad} (h : readF s.data.toList = some A) : bulkA A ≤ 1000 := by
  have := OB.reads_bulk (A := A) (ok := true) (Or.inl ⟨rfl, h⟩)
  omega
theorem kind_text {L : List Pg} (hS : PgSz L) (a : ByteArray) (t : Int) : (kindF L a t).2.size ≤ 4194304 := by
  unfold kindF
  cases hf : L.find? (sameA a) with
  | none => exact Nat.zero_le _
  | some p =>
    have := hS p (List.mem_of_find?_eq_some hf)
    dsimp only
    split
    · exact Nat.zero_le _
    · split
      · exact this.2.1
      · exact this.2.2
theorem kind_asc {L : List Pg} (hT : PgTx L) (a : ByteArray) (t : Int) (h : (kindF L a t).1 = 1) : asc (kindF L a t).2 := by
  unfold kindF at h ⊢
  cases hf : L.find? (sameA a) with
  | none => rw [hf] at h; cases h
  | some p =>
    rw [hf] at h
    have := hT p (List.mem_of_find?_eq_some hf)
    dsimp only at h ⊢
    by_cases h0 : t < p.fails
    · rw [if_pos h0] at h; cases h
    · rw [if_neg h0] at h ⊢
      by_cases h1 : p.lead.toList.isEmpty = true
      · rw [if_pos h1]; exact this
      · rw [if_neg h1] at h; cases h
theorem lit_one (w : World) (base : Nat) (s : ByteArray) (hb : base ≤ w.heap.size) : Owns (w.alloc (.cells #[.string s] 9)) base (.slice (some ⟨w.heap.size, 0, none⟩) 1 1) [s] := by
  refine ⟨by simp [cellsS], Or.inr ⟨w.heap.size, 1, #[.string s], rfl, hb, ?_, Nat.le_refl _, by decide, rfl, by simp [cellsS]⟩⟩
  show (w.heap.push _)[w.heap.size]? = _
  simp

set_option maxRecDepth 100000 in
set_option maxHeartbeats 2000000 in
theorem leadsTo_any (A : Ad) (t : ByteArray) (k : Int) (a0 : Option Addr) (cap : Nat) (w : World) (hM : Mx w) (hS : IsStrs w a0 cap A.parts) (hB : bulkA A ≤ 1000) (ht : t.size ≤ 4194304) (ha : k = 1 → asc t) :
    Calls Tryz.prog 81 #[.agg #[.string A.house, .slice a0 A.parts.length cap, .bool A.asks, .string A.ask], .int .i64 k, .string t] w fun e w' => ∃ v, e = .returned v ∧ Owns w' w.heap.size v (leadF A (k, t)) ∧ Below w.heap.size w w' := by
  have HS : Hid (IsStrs w a0 cap A.parts) := hS
  have HM : Hid (Mx w) := hM
  clear hS hM
  by_cases h1 : k = 1
  · subst h1
    have HA : Hid (asc t) := ha rfl
    clear ha
    rw [lead_one]
    go_enter Tryz.func81, Tryz.ntmps81
    go_wp2_with fail
    refine (implPage_any A t a0 cap _ (HM.out.alloc _) (HS.out.keep (alloc_keep _ _)) hB ht HA.out).mono ?_
    rintro e w1 ⟨v, rfl, hO, hb⟩
    have HO : Hid (Owns w1 w.heap.size v (pageF A t)) := Owns.mono hO (by simp)
    have HB : Hid (Below w.heap.size w w1) := ((Below.refl _ w).alloc (Nat.le_refl _) _).trans (hb.mono (by simp))
    clear hO hb
    go_wp2
    go_ret
    exact ⟨_, rfl, HO.out, HB.out⟩
  · by_cases h2 : k = 2
    · subst h2
      rw [lead_two]
      go_enter Tryz.func81, Tryz.ntmps81
      go_wp2
      go_ret
      refine ⟨_, rfl, ?_, ?_⟩
      · have := lit_one (w.alloc (.cells #[.string A.house, .slice a0 A.parts.length cap, .bool A.asks, .string A.ask] 28)) w.heap.size t (by simp)
        rw [show (w.alloc (.cells #[.string A.house, .slice a0 A.parts.length cap, .bool A.asks, .string A.ask] 28)).heap.size = w.heap.size + 1 by simp] at this
        exact this
      · exact ((Below.refl _ w).alloc (Nat.le_refl _) _).alloc (by simp) _
    · rw [lead_no h1 h2]
      have hk1 : (k == 1) = false := by simpa using h1
      have hk2 : (k == 2) = false := by simpa using h2
      go_enter Tryz.func81, Tryz.ntmps81
      go_wp2
      go_ret
      exact ⟨_, rfl, Owns.nil _ _, (Below.refl _ w).alloc (Nat.le_refl _) _⟩

set_option maxRecDepth 100000 in
set_option maxHeartbeats 2000000 in
theorem getAtLast_any (b : Nat) (L : List Pg) (a : ByteArray) (w : World) (h : IsMap w b (entsL L)) :
    Calls Tryz.prog 80 #[.map (some b), .string a] w fun e w' => e = .returned (.tuple #[.int .i64 (kindF L a 2).1, .string (kindF L a 2).2]) ∧ Below w.heap.size w w' := by
  have HG : Hid _ := getAt_any b L a 2 w h
  generalize kindF L a 2 = R at *
  go_enter Tryz.func80, Tryz.ntmps80
  go_wp2_with fail
  refine Calls.mono HG.out ?_
  rintro e w1 ⟨rfl, hb⟩
  go_wp2
  go_ret2
  exact ⟨rfl, hb⟩

set_option maxRecDepth 100000 in
set_option maxHeartbeats 2000000 in
theorem fromAt_any (A : Ad) (b : Nat) (L : List Pg) (a0 : Option Addr) (cap : Nat) (w : World) (hM : Mx w) (hS : IsStrs w a0 cap A.parts) (hB : bulkA A ≤ 1000) (h : IsMap w b (entsL L)) (hz : PgSz L) (hT : PgTx L) :
    Calls Tryz.prog 44 #[.map (some b), .agg #[.string A.house, .slice a0 A.parts.length cap, .bool A.asks, .string A.ask]] w fun e w' => ∃ v, e = .returned v ∧ Owns w' w.heap.size v (leadF A (kindF L (textF A) 2)) ∧ Below w.heap.size w w' := by
  have HS : Hid (IsStrs (w.alloc (.cells #[.string A.house, .slice a0 A.parts.length cap, .bool A.asks, .string A.ask] 28)) a0 cap A.parts) := hS.keep (alloc_keep _ _)
  have HM : Hid (Mx (w.alloc (.cells #[.string A.house, .slice a0 A.parts.length cap, .bool A.asks, .string A.ask] 28))) := hM.alloc _
  have HP : Hid (IsMap (w.alloc (.cells #[.string A.house, .slice a0 A.parts.length cap, .bool A.asks, .string A.ask] 28)) b (entsL L)) := h.alloc _
  have HX : Hid (Bs 28 (w.alloc (.cells #[.string A.house, .slice a0 A.parts.length cap, .bool A.asks, .string A.ask] 28)) w.heap.size #[.string A.house, .slice a0 A.parts.length cap, .bool A.asks, .string A.ask]) := Bs.new _ _ _
  have HKT : Hid _ := kind_text hz (textF A) 2
  have HKA : Hid _ := kind_asc hT (textF A) 2
  have HB0 : Hid (Below w.heap.size w (w.alloc (.cells #[.string A.house, .slice a0 A.parts.length cap, .bool A.asks, .string A.ask] 28))) := (Below.refl _ w).alloc (Nat.le_refl _) _
  have HGL : Hid _ := fun W hW => getAtLast_any b L (textF A) W hW
  have HTX : Hid _ := fun W hW => implAddrText_any A a0 cap W hW (by omega)
  clear hS hM h hz hT
  generalize kindF L (textF A) 2 = R at *
  generalize textF A = t at *
  go_enter Tryz.func44, Tryz.ntmps44
  go_wp2_with fail
  refine (HTX.out _ HS.out).mono ?_
  rintro e w1 ⟨rfl, hb1⟩
  have HB1 : Hid (Below w.heap.size w w1) := HB0.out.trans (hb1.mono (by simp))
  have HS1 : Hid (IsStrs w1 a0 cap A.parts) := HS.out.below hb1
  have HM1 : Hid (Mx w1) := HM.out.below hb1
  have HP1 : Hid (IsMap w1 b (entsL L)) := HP.out.below hb1
  have HX1 : Hid (Bs 28 w1 w.heap.size #[.string A.house, .slice a0 A.parts.length cap, .bool A.asks, .string A.ask]) := HX.out.below hb1
  clear hb1 HS HM HP HX HB0
  go_wp2_with fail
  refine (HGL.out _ HP1.out).mono ?_
  rintro e w2 ⟨rfl, hb2⟩
  have HB2 : Hid (Below w.heap.size w w2) := HB1.out.trans (hb2.mono HB1.out.size)
  have HS2 : Hid (IsStrs w2 a0 cap A.parts) := HS1.out.below hb2
  have HM2 : Hid (Mx w2) := HM1.out.below hb2
  have HX2 : Hid (Bs 28 w2 w.heap.size #[.string A.house, .slice a0 A.parts.length cap, .bool A.asks, .string A.ask]) := HX1.out.below hb2
  clear hb2 HS1 HM1 HP1 HX1 HB1
  have c0 : w2.cell? ⟨w.heap.size, 0, none⟩ = some (.string A.house) := HX2.out.cell 0 rfl
  have c1 : w2.cell? ⟨w.heap.size, 1, none⟩ = some (.slice a0 A.parts.length cap) := HX2.out.cell 1 rfl
  have c2 : w2.cell? ⟨w.heap.size, 2, none⟩ = some (.bool A.asks) := HX2.out.cell 2 rfl
  have c3 : w2.cell? ⟨w.heap.size, 3, none⟩ = some (.string A.ask) := HX2.out.cell 3 rfl
  go_wp2_with fail
  refine (leadsTo_any A R.2 R.1 a0 cap _ HM2.out HS2.out hB HKT.out HKA.out).mono ?_
  rintro e w3 ⟨v, rfl, hO, hb3⟩
  have HO3 : Hid (Owns w3 w.heap.size v (leadF A R)) := Owns.mono hO HB2.out.size
  have HB3 : Hid (Below w.heap.size w w3) := HB2.out.trans (hb3.mono HB2.out.size)
  clear hO hb3 c0 c1 c2 c3
  go_wp2
  go_ret
  exact ⟨_, rfl, HO3.out, HB3.out⟩

set_option maxRecDepth 100000 in
set_option maxHeartbeats 2000000 in
theorem implFrom_any (a0 : Option Addr) (cap : Nat) (L : List Pg) (a : ByteArray) (w : World) (hM : Mx w) (hI : IsRows FPg w a0 cap L) (hz : PgSz L) (hA : PgAs L) (hT : PgTx L) (hs : a.size ≤ 4194304) (ha : ascii a) :
    Calls Tryz.prog 18 #[.slice a0 L.length cap, .string a] w fun e w' => ∃ v, e = .returned v ∧ Owns w' w.heap.size v (fromW L a) ∧ Below w.heap.size w w' := by
  have HM : Hid (Mx w) := hM
  have HWP : Hid _ := worldPages_any a0 cap L w hM hI hz hA
  have HRA : Hid _ := fun W hW => readAddress_any a W hW hs ha
  have HBD : Hid (wOk L = false → fromW L a = []) := fun h => fromW_bad h
  have HNN : Hid (normA a = none → fromW L a = []) := fun h => fromW_none h
  have HOK : Hid (∀ A, wOk L = true → normA a = some A → fromW L a = leadF A (kindF L (textF A) 2) ∧ bulkA A ≤ 1000) := fun A h h2 => by
    obtain ⟨h3, h4⟩ := norm_some h2
    rw [h4]
    exact ⟨fromW_ok h h2, read_le h3⟩
  have HFA : Hid _ := fun A b a1 c1 W hW hS hB h => fromAt_any A b L a1 c1 W hW hS hB h hz hT
  clear hM hI hz hA hT hs ha
  generalize normA a = N at *
  generalize fromW L a = R at *
  go_enter Tryz.func18, Tryz.ntmps18
  go_wp2_with fail
  refine Calls.mono HWP.out ?_
  rintro e w1 ⟨⟨hw, b, rfl, hbb, hm⟩ | ⟨hw, rfl⟩, hb1⟩
  · have HW : Hid (wOk L = true) := hw
    have HMP : Hid (IsMap w1 b (entsL L)) := hm
    have HB1 : Hid (Below w.heap.size w w1) := hb1
    clear hw hm hb1 HBD HWP
    go_wp2_with fail
    refine (HRA.out _ (HM.out.below HB1.out)).mono ?_
    rintro e w2 ⟨A, ok, a1, c1, rfl, hans, hO, hb2⟩
    have HANS : Hid _ := hans
    have HB2 : Hid (Below w.heap.size w w2) := HB1.out.trans (hb2.mono HB1.out.size)
    have HMP2 : Hid (IsMap w2 b (entsL L)) := HMP.out.below hb2
    have HS2 : Hid (IsStrs w2 a1 c1 A.parts) := hO.strsOf
    clear hans hO hb2 HMP HB1
    cases ok with
    | false =>
      have HR : Hid (R = []) := by
        rcases HANS.out with ⟨h, _⟩ | ⟨_, h, _⟩
        · cases h
        · exact HNN.out h
      clear HANS HNN HOK
      go_wp2
      go_ret
      exact ⟨_, rfl, by rw [HR.out]; exact Owns.nil _ _, HB2.out.alloc HB2.out.size _⟩
    | true =>
      have HR : Hid (R = leadF A (kindF L (textF A) 2) ∧ bulkA A ≤ 1000) := by
        rcases HANS.out with ⟨_, h⟩ | ⟨h, _⟩
        · exact HOK.out A HW.out h
        · cases h
      clear HANS HNN HOK
      go_wp2_with fail
      refine (HFA.out A b a1 c1 _ ((HM.out.below HB2.out).alloc _) (HS2.out.keep (alloc_keep _ _)) HR.out.2 (HMP2.out.alloc _)).mono ?_
      rintro e w3 ⟨v, rfl, hO, hb3⟩
      have HB3 : Hid (Below w.heap.size w w3) := (HB2.out.alloc HB2.out.size _).trans (hb3.mono (by simp; exact Nat.le_succ_of_le HB2.out.size))
      have HO3 : Hid (Owns w3 w.heap.size v R) := by
        show Owns _ _ _ _
        rw [HR.out.1]
        exact Owns.mono hO (by simp; exact Nat.le_succ_of_le HB2.out.size)
      clear hO hb3
      go_wp2
      go_ret
      exact ⟨_, rfl, HO3.out, HB3.out⟩
  · have HR : Hid (R = []) := HBD.out hw
    have HB1 : Hid (Below w.heap.size w w1) := hb1
    clear hw hb1 HBD HWP HNN HOK
    go_wp2_with fail
    refine (HRA.out _ (HM.out.below HB1.out)).mono ?_
    rintro e w2 ⟨A, ok, a1, c1, rfl, hans, hO, hb2⟩
    have HB2 : Hid (Below w.heap.size w w2) := HB1.out.trans (hb2.mono HB1.out.size)
    clear hans hO hb2
    go_wp2
    go_ret
    exact ⟨_, rfl, by rw [HR.out]; exact Owns.nil _ _, HB2.out.alloc HB2.out.size _⟩
end Go.Proofs.YtcohaalgefcjnaaGreatDoor.Wd
/- Where pages lead: the model's PageAddrs. -/
namespace Go.Proofs.YtcohaalgefcjnaaGreatDoor.PgA
open Go.RowKit Go.Proofs.YtcohaalgefcjnaaGreatDoor.EscM Go.Proofs.YtcohaalgefcjnaaGreatDoor.St Go.Proofs.YtcohaalgefcjnaaGreatDoor.AddrM Go.Proofs.YtcohaalgefcjnaaGreatDoor.ReadM Go.Proofs.YtcohaalgefcjnaaGreatDoor.EscL Go.Proofs.YtcohaalgefcjnaaGreatDoor.Ad1 Go.Proofs.YtcohaalgefcjnaaGreatDoor.Dr Go.Proofs.YtcohaalgefcjnaaGreatDoor.Im Go.Proofs.YtcohaalgefcjnaaGreatDoor.Rd1 Go.Proofs.YtcohaalgefcjnaaGreatDoor.Door Go.Proofs.YtcohaalgefcjnaaGreatDoor.JnM Go.Proofs.YtcohaalgefcjnaaGreatDoor.Jn Go.Proofs.YtcohaalgefcjnaaGreatDoor.PgM Go.Proofs.YtcohaalgefcjnaaGreatDoor.RB Go.Proofs.YtcohaalgefcjnaaGreatDoor.Pg

theorem from_no {A : Ad} {t : ByteArray} (h : (baseF t).2 = false) : fromF A t = A := by unfold fromF; rw [h]; rfl
theorem from_none {A : Ad} {t : ByteArray} (h : joinF A (baseF t).1.data.toList = none) : fromF A t = A := by unfold fromF; rw [h]; split <;> rfl
theorem from_some {A B : Ad} {t : ByteArray} (h0 : (baseF t).2 = true) (h : joinF A (baseF t).1.data.toList = some B) : fromF A t = B := by unfold fromF; rw [h0, h]; rfl
theorem box_grown_row {w w' : World} {F : Nat} {x0 x1 x2 x3 : Value} {row : Option Nat} (h : Box w F x0 x1 x2 x3) (hg : w.grownBy w' row) (hne : row ≠ some F) : Box w' F x0 x1 x2 x3 := h.grown hg hne

set_option maxRecDepth 100000 in
set_option maxHeartbeats 6400000 in
theorem specPage_any (A : Ad) (t : ByteArray) (a0 : Option Addr) (cap : Nat) (w : World) (hS : IsStrs w a0 cap A.parts) (hB : bulkA A ≤ 1000) (ht : t.size ≤ 4194304) :
    Calls Tryz.prog 82 #[.agg #[.string A.house, .slice a0 A.parts.length cap, .bool A.asks, .string A.ask], .string t] w fun e w' => ∃ v, e = .returned v ∧ Owns w' w.heap.size v (pageF A t) ∧ Below w.heap.size w w' := by
  have hb4 : bulkA A ≤ 4194304 := by omega
  have hbs := base_size t
  have HSB : Hid _ := fun W => specBase_any t W ht
  have HLS : Hid _ := links_size t
  have hll := links_len t
  have HSL : Hid _ := fun W => specLinks_any t W ht
  obtain ⟨F, hF⟩ : ∃ F, w.heap.size = F := ⟨_, rfl⟩
  have hap0 : ∀ a, a0 = some a → A.parts ≠ [] → a.block < F := by
    intro a e hne
    obtain ⟨b, off, e', hc⟩ := hS.2.2.2 hne
    rw [e] at e'; injection e' with e'
    have := St.cell_block (hc 0 (by cases hp : A.parts with | nil => exact absurd hp hne | cons => simp))
    rw [e']; rw [hF] at this; exact this
  have HAP0 : Hid _ := hap0
  have HS0 : Hid (IsStrs ((w.alloc (.cells #[.string A.house, .slice a0 A.parts.length cap, .bool A.asks, .string A.ask] 28)).alloc (.cells #[] 9)) a0 cap A.parts) := hS.keep (fun k hk => by rw [alloc_keep _ _ k (by simp; omega), alloc_keep _ _ k hk])
  have HB0 : Hid (Below w.heap.size w ((w.alloc (.cells #[.string A.house, .slice a0 A.parts.length cap, .bool A.asks, .string A.ask] 28)).alloc (.cells #[] 9))) := ((Below.refl _ w).alloc (Nat.le_refl _) _).alloc (by simp) _
  have HX0 : Hid (Box ((w.alloc (.cells #[.string A.house, .slice a0 A.parts.length cap, .bool A.asks, .string A.ask] 28)).alloc (.cells #[] 9)) F (.string A.house) (.slice a0 A.parts.length cap) (.bool A.asks) (.string A.ask)) := by
    have h := heap_new w (.cells #[.string A.house, .slice a0 A.parts.length cap, .bool A.asks, .string A.ask] 28)
    rw [hF] at h
    exact Box.grown h (grown_alloc _ _ none) (by simp)
  have HO0 : Hid (Owns ((w.alloc (.cells #[.string A.house, .slice a0 A.parts.length cap, .bool A.asks, .string A.ask] 28)).alloc (.cells #[] 9)) (F + 1) (.slice (some ⟨F + 1, 0, none⟩) 0 0) []) := by
    have h := Owns.empty (w.alloc (.cells #[.string A.house, .slice a0 A.parts.length cap, .bool A.asks, .string A.ask] 28)) (F + 1) (by simp; omega)
    simp only [World.size_alloc, hF] at h
    exact h
  clear hS hap0
  go_enter Tryz.func82, Tryz.ntmps82
  go_wp2_with fail
  refine (specOk_any A a0 cap _ HS0.out hb4).mono ?_
  rintro e w1 ⟨rfl, hb⟩
  have HS1 : Hid (IsStrs w1 a0 cap A.parts) := HS0.out.below hb
  have HX1 : Hid (Box w1 F (.string A.house) (.slice a0 A.parts.length cap) (.bool A.asks) (.string A.ask)) := HX0.out.grown (grown_of_below none hb) (by simp)
  have HO1 : Hid (Owns w1 (F + 1) (.slice (some ⟨F + 1, 0, none⟩) 0 0) []) := Owns.below HO0.out hb
  have HB1 : Hid (Below w.heap.size w w1) := HB0.out.trans (hb.mono HB0.out.size)
  clear hb HS0 HX0 HO0 HB0
  cases hok : okB A with
  | false =>
    have HF : Hid _ := page_bad (t := t) hok
    clear hok
    go_wp2
    go_ret
    exact ⟨_, rfl, by rw [HF.out]; exact Owns.mono HO1.out (by omega), HB1.out⟩
  | true =>
    have HF : Hid _ := page_ok (t := t) hok
    have HBK : Hid _ := from_bulk (t := t) hok
    clear hok
    go_wp2_with fail
    refine (HSB.out _).mono ?_
    rintro e w2 ⟨rfl, hb⟩
    have HS2 : Hid (IsStrs w2 a0 cap A.parts) := HS1.out.below hb
    have HX2 : Hid (Box w2 F (.string A.house) (.slice a0 A.parts.length cap) (.bool A.asks) (.string A.ask)) := HX1.out.grown (grown_of_below none hb) (by simp)
    have HO2 : Hid (Owns w2 (F + 1) (.slice (some ⟨F + 1, 0, none⟩) 0 0) []) := Owns.below HO1.out hb
    have HB2 : Hid (Below w.heap.size w w2) := HB1.out.trans (hb.mono HB1.out.size)
    have hFw2 : F < w2.heap.size := HX2.out.lt
    have hFo2 : F + 1 < w2.heap.size := (World.ownsRow.lt HO2.out (F + 1) rfl).2
    clear hb HS1 HX1 HO1 HB1
    have hx := HX2.out
    obtain ⟨⟨c0, c1, c2, c3⟩, cz⟩ := hx.cells
    clear hx
    cases htold : (baseF t).2 with
    | false =>
      have HE : Hid (fromF A t = A) := from_no htold
      have HXz : Hid (Box w2 F (.string A.house) (.slice a0 A.parts.length cap) (.bool A.asks) (.string A.ask)) := HX2
      have HSz : Hid (IsStrs w2 a0 cap A.parts) := HS2
      have HOz : Hid (Owns w2 (F + 1) (.slice (some ⟨F + 1, 0, none⟩) 0 0) []) := HO2
      have HBz : Hid (Below w.heap.size w w2) := HB2
      have HZz : Hid (F + 1 < w2.heap.size) := hFo2
      have HAPz : Hid (∀ a, a0 = some a → A.parts ≠ [] → a.block ≠ F + 1 ∧ a.block < w2.heap.size) := fun a e hne => by have := HAP0.out a e hne; omega
      clear htold
      rw [HE.out] at HF HBK
      go_wp2_with fail
      refine (HSL.out _).mono ?_
      rintro e w4 ⟨v4, rfl, hO4, hb⟩
      obtain ⟨l1, m1, hv4, hS4⟩ := hO4.strs
      subst hv4
      have HL4 : Hid (IsStrs w4 l1 m1 (linksF t)) := hS4
      have HLO4 : Hid (∀ a, l1 = some a → linksF t ≠ [] → F + 1 < a.block ∧ a.block < w4.heap.size) := by
        intro a e hne
        obtain ⟨b, off, e', hc⟩ := hS4.2.2.2 hne
        have hg := Owns.block hO4 a.block (by rw [e]; rfl)
        have := St.cell_block (hc 0 (by cases hp : linksF t with | nil => exact absurd hp hne | cons => simp))
        rw [e] at e'; injection e' with e'
        have hz := HZz.out
        rw [e'] at hg ⊢
        exact ⟨by omega, this⟩
      have HS4 : Hid (IsStrs w4 a0 cap A.parts) := HSz.out.below hb
      have HX4 : Hid (Box w4 F (.string A.house) (.slice a0 A.parts.length cap) (.bool A.asks) (.string A.ask)) := HXz.out.grown (grown_of_below none hb) (by simp)
      have HO4 : Hid (Owns w4 (F + 1) (.slice (some ⟨F + 1, 0, none⟩) 0 0) []) := Owns.below HOz.out hb
      have HB4 : Hid (Below w.heap.size w w4) := HBz.out.trans (hb.mono HBz.out.size)
      have HAP4 : Hid (∀ a, a0 = some a → A.parts ≠ [] → a.block ≠ F + 1 ∧ a.block < w4.heap.size) := fun a e hne => ⟨(HAPz.out a e hne).1, Nat.lt_of_lt_of_le (HAPz.out a e hne).2 hb.size⟩
      clear hO4 hS4 hb HSz HXz HOz HBz HAPz
      generalize linksF t = K at *
      go_wp2
      go_loopw [5, 11] (fun v i wr => ∃ k : Nat, k ≤ K.length ∧ i = .int .i64 (k : Int) ∧ Hid (Owns wr (F + 1) v (pageL A (K.take k))) ∧ Hid (Box wr F (.string A.house) (.slice a0 A.parts.length cap) (.bool A.asks) (.string A.ask)) ∧ Hid (IsStrs wr a0 cap A.parts) ∧ Hid (IsStrs wr l1 m1 K) ∧ Hid (Below w.heap.size w wr) ∧ Hid (w4.heap.size ≤ wr.heap.size) ∧ Hid (v.ownBlock = some (F + 1) ∨ ∃ g, v.ownBlock = some g ∧ w4.heap.size ≤ g)) (fun _ i _ => K.length - (intOf i).toNat)
      case atStart => exact ⟨0, Nat.zero_le _, rfl, HO4, HX4, HS4, HL4, HB4, Nat.le_refl _, Or.inl rfl⟩
      case round =>
        obtain ⟨k, hk, rfl, HO, HX, HS, HL, HB, HSZ, HV⟩ := hrel
        by_cases hlt : k < K.length
        · obtain ⟨lb, lo, e1, cl⟩ := HL.out.at hlt
          subst e1
          have hx := HX.out
          obtain ⟨⟨c0, c1, c2, c3⟩, _⟩ := hx.cells
          clear hx
          have hks := HLS.out K[k] (List.getElem_mem _)
          have HSN : Hid _ := page_snoc (B := A) hlt
          have hacc : (pageL A (K.take k)).length ≤ 300 := by
            have := pageL_len A (K.take k) []
            unfold pageL
            simp at this ⊢; omega
          obtain ⟨acc, hac⟩ : ∃ acc, pageL A (K.take k) = acc := ⟨_, rfl⟩
          rw [hac] at HO HSN hacc
          clear hac
          have hFr : F < wr.heap.size := HX.out.lt
          have n0 : wr.drew.cell? ⟨F, 0, none⟩ = some (.string A.house) := c0
          have n1 : wr.drew.cell? ⟨F, 1, none⟩ = some (.slice a0 A.parts.length cap) := c1
          have n2 : wr.drew.cell? ⟨F, 2, none⟩ = some (.bool A.asks) := c2
          have n3 : wr.drew.cell? ⟨F, 3, none⟩ = some (.string A.ask) := c3
          have nl : wr.drew.cell? ⟨lb, lo + k, none⟩ = some (.string K[k]) := cl
          have hlr : lb < wr.heap.size := St.cell_block cl
          have hFd : F < wr.drew.heap.size := hFr
          have hld : lb < wr.drew.heap.size := hlr
          go_wp2
          go_region_with (first
            | (go_at_call 116
               first
                | (refine (specJoin_page A K[k] a0 cap wr.drew (HS.out.below ((Below.refl _ wr).drew)) HBK.out hks).mono ?_
                   rintro e w5 ⟨C, ok, x1, y1, rfl, hans, hOC, hb⟩
                   have HANS : Hid (Ans (joinF A K[k].data.toList) C ok) := hans
                   have HBD : Hid (Below wr.heap.size wr w5) := Below.trans ((Below.refl _ wr).drew) (hb.mono (by simp))
                   have hz5 := HBD.out.size
                   have HOC : Hid (Owns w5 wr.heap.size (.slice x1 C.parts.length y1) C.parts) := Owns.mono hOC (by simp)
                   clear hans hOC hb)
                | (refine (specJoin_page A K[k] a0 cap (wr.alloc (.cells #[.string ⟨#[]⟩, .slice none 0 0, .bool false, .string ⟨#[]⟩] 28)).drew (HS.out.below (((Below.refl _ wr).alloc (Nat.le_refl _) _).drew)) HBK.out hks).mono ?_
                   rintro e w5 ⟨C, ok, x1, y1, rfl, hans, hOC, hb⟩
                   have HANS : Hid (Ans (joinF A K[k].data.toList) C ok) := hans
                   have HBD : Hid (Below wr.heap.size wr w5) := Below.trans (((Below.refl _ wr).alloc (Nat.le_refl _) _).drew) (hb.mono (by simp))
                   have hz5 := HBD.out.size
                   have HOC : Hid (Owns w5 (wr.heap.size + 1) (.slice x1 C.parts.length y1) C.parts) := Owns.mono hOC (by simp)
                   have HZ5 : Hid (Box w5 wr.heap.size (.string ⟨#[]⟩) (.slice none 0 0) (.bool false) (.string ⟨#[]⟩)) := Box.grown (Box.heapEq (heap_new wr _) rfl) (grown_of_below none hb) (by simp)
                   have hpz := HZ5.out
                   obtain ⟨⟨z0', z1', z2', z3'⟩, zf⟩ := hpz.cells
                   clear hpz
                   clear hans hOC hb)
                | (refine (specJoin_page A K[k] a0 cap (wr.drew.alloc (.cells #[.string ⟨#[]⟩, .slice none 0 0, .bool false, .string ⟨#[]⟩] 28)) (HS.out.below (((Below.refl _ wr).drew).alloc (Nat.le_refl _) _)) HBK.out hks).mono ?_
                   rintro e w5 ⟨C, ok, x1, y1, rfl, hans, hOC, hb⟩
                   have HANS : Hid (Ans (joinF A K[k].data.toList) C ok) := hans
                   have HBD : Hid (Below wr.heap.size wr w5) := Below.trans (((Below.refl _ wr).drew).alloc (Nat.le_refl _) _) (hb.mono (by simp))
                   have hz5 := HBD.out.size
                   have HOC : Hid (Owns w5 (wr.heap.size + 1) (.slice x1 C.parts.length y1) C.parts) := Owns.mono hOC (by simp)
                   have HZ5 : Hid (Box w5 wr.heap.size (.string ⟨#[]⟩) (.slice none 0 0) (.bool false) (.string ⟨#[]⟩)) := Box.grown (heap_new wr.drew _) (grown_of_below none hb) (by simp)
                   have hpz := HZ5.out
                   obtain ⟨⟨z0', z1', z2', z3'⟩, zf⟩ := hpz.cells
                   clear hpz
                   clear hans hOC hb)
                | fail)
            | fail)
          all_goals (
            clear n0 n1 n2 n3 nl c0 c1 c2 c3 cl
            first
              | (have HBS : Hid (Below wr.heap.size wr ((((w5.setCell ⟨wr.heap.size, 0, none⟩ (.string C.house)).setCell ⟨wr.heap.size, 1, none⟩ (.slice x1 C.parts.length y1)).setCell ⟨wr.heap.size, 2, none⟩ (.bool C.asks)).setCell ⟨wr.heap.size, 3, none⟩ (.string C.ask))) := by
                   show Below _ _ _
                   iterate 4 refine Below.setCell ?_ (by dsimp only; omega) _
                   exact HBD.out
                 have HSC : Hid (IsStrs ((((w5.setCell ⟨wr.heap.size, 0, none⟩ (.string C.house)).setCell ⟨wr.heap.size, 1, none⟩ (.slice x1 C.parts.length y1)).setCell ⟨wr.heap.size, 2, none⟩ (.bool C.asks)).setCell ⟨wr.heap.size, 3, none⟩ (.string C.ask)) x1 y1 C.parts) := by
                   refine Owns.strsOf (base := wr.heap.size + 1) (n := C.parts.length) ?_
                   iterate 4 refine ownsRow_setCell_below ?_ (by dsimp only; omega) _
                   exact HOC.out
                 have HXC : Hid (Box ((((w5.setCell ⟨wr.heap.size, 0, none⟩ (.string C.house)).setCell ⟨wr.heap.size, 1, none⟩ (.slice x1 C.parts.length y1)).setCell ⟨wr.heap.size, 2, none⟩ (.bool C.asks)).setCell ⟨wr.heap.size, 3, none⟩ (.string C.ask)) wr.heap.size (.string C.house) (.slice x1 C.parts.length y1) (.bool C.asks) (.string C.ask)) := Box.set3 (Box.set2 (Box.set1 (Box.set0 HZ5.out _) _) _) _
                 have HO5 : Hid (Owns ((((w5.setCell ⟨wr.heap.size, 0, none⟩ (.string C.house)).setCell ⟨wr.heap.size, 1, none⟩ (.slice x1 C.parts.length y1)).setCell ⟨wr.heap.size, 2, none⟩ (.bool C.asks)).setCell ⟨wr.heap.size, 3, none⟩ (.string C.ask)) (F + 1) u5 acc) := Owns.below HO.out HBS.out
                 have HX5 : Hid (Box ((((w5.setCell ⟨wr.heap.size, 0, none⟩ (.string C.house)).setCell ⟨wr.heap.size, 1, none⟩ (.slice x1 C.parts.length y1)).setCell ⟨wr.heap.size, 2, none⟩ (.bool C.asks)).setCell ⟨wr.heap.size, 3, none⟩ (.string C.ask)) F (.string A.house) (.slice a0 A.parts.length cap) (.bool A.asks) (.string A.ask)) := HX.out.grown (grown_of_below none HBS.out) (by simp)
                 have HS5 : Hid (IsStrs ((((w5.setCell ⟨wr.heap.size, 0, none⟩ (.string C.house)).setCell ⟨wr.heap.size, 1, none⟩ (.slice x1 C.parts.length y1)).setCell ⟨wr.heap.size, 2, none⟩ (.bool C.asks)).setCell ⟨wr.heap.size, 3, none⟩ (.string C.ask)) a0 cap A.parts) := HS.out.below HBS.out
                 have HL5 : Hid (IsStrs ((((w5.setCell ⟨wr.heap.size, 0, none⟩ (.string C.house)).setCell ⟨wr.heap.size, 1, none⟩ (.slice x1 C.parts.length y1)).setCell ⟨wr.heap.size, 2, none⟩ (.bool C.asks)).setCell ⟨wr.heap.size, 3, none⟩ (.string C.ask)) (some ⟨lb, lo, none⟩) m1 K) := HL.out.below HBS.out
                 have HB5 : Hid (Below w.heap.size w ((((w5.setCell ⟨wr.heap.size, 0, none⟩ (.string C.house)).setCell ⟨wr.heap.size, 1, none⟩ (.slice x1 C.parts.length y1)).setCell ⟨wr.heap.size, 2, none⟩ (.bool C.asks)).setCell ⟨wr.heap.size, 3, none⟩ (.string C.ask))) := HB.out.trans (HBS.out.mono HB.out.size)
                 have HSZ5 : Hid (w4.heap.size ≤ (((((w5.setCell ⟨wr.heap.size, 0, none⟩ (.string C.house)).setCell ⟨wr.heap.size, 1, none⟩ (.slice x1 C.parts.length y1)).setCell ⟨wr.heap.size, 2, none⟩ (.bool C.asks)).setCell ⟨wr.heap.size, 3, none⟩ (.string C.ask))).heap.size) := Nat.le_trans HSZ.out HBS.out.size
                 have hx := HXC.out
                 obtain ⟨⟨c0, c1, c2, c3⟩, _⟩ := hx.cells
                 clear hx
                 have hpa := HANS.out
                 rcases hpa with ⟨rfl, hj⟩ | ⟨rfl, hj, rfl⟩
                 · have HN : Hid (pageL A (K.take (k + 1)) = putL acc (textF C)) := by show _ = _; rw [HSN.out]; unfold pageStep; rw [hj]
                   have hCb : bulkA C ≤ 4194304 := Nat.le_trans (ok_sum (join_ok hj)).2 (by decide)
                   clear hj
                   go_wp2_with fail
                   refine (specAddrText_any C x1 y1 _ HSC.out hCb).mono ?_
                   rintro e w6 ⟨rfl, hb⟩
                   have HO6 : Hid (Owns w6 (F + 1) u5 acc) := Owns.below HO5.out hb
                   have HX6 : Hid (Box w6 F (.string A.house) (.slice a0 A.parts.length cap) (.bool A.asks) (.string A.ask)) := HX5.out.grown (grown_of_below none hb) (by simp)
                   have HS6 : Hid (IsStrs w6 a0 cap A.parts) := HS5.out.below hb
                   have HL6 : Hid (IsStrs w6 (some ⟨lb, lo, none⟩) m1 K) := HL5.out.below hb
                   have HB6 : Hid (Below w.heap.size w w6) := HB5.out.trans (hb.mono HB5.out.size)
                   have HSZ6 : Hid (w4.heap.size ≤ w6.heap.size) := Nat.le_trans HSZ5.out hb.size
                   clear hb c0 c1 c2 c3
                   have hbd6 : F + 1 ≤ w6.heap.size := by have := HX6.out.lt; omega
                   generalize textF C = tx at *
                   go_wp2_with fail
                   refine (put_any (F + 1) u5 acc tx _ HO6.out hbd6 (by omega)).mono ?_
                   rintro e w7 ⟨v7, rfl, hO7, hg7, hv7⟩
                   have HV7 : Hid (v7.ownBlock = some (F + 1) ∨ ∃ g, v7.ownBlock = some g ∧ w4.heap.size ≤ g) := by
                     rcases hv7 with h | ⟨g, h, hg⟩
                     · rw [h]; exact HV.out
                     · exact Or.inr ⟨g, h, Nat.le_trans HSZ6.out hg⟩
                   have HO7 : Hid (Owns w7 (F + 1) v7 (putL acc tx)) := hO7
                   have HX7 : Hid (Box w7 F (.string A.house) (.slice a0 A.parts.length cap) (.bool A.asks) (.string A.ask)) := box_grown_row HX6.out hg7 (by intro e; have := Owns.block HO6.out F e; omega)
                   have HS7 : Hid (IsStrs w7 a0 cap A.parts) := by
                     by_cases hne : A.parts = []
                     · rw [hne]; have := HS6.out; rw [hne] at this; exact ⟨this.1, this.2.1, this.2.2.1, fun h => absurd rfl h⟩
                     · refine strs_apart HS6.out hg7 fun a e => ?_
                       have h1 := HAP4.out a e hne
                       rcases HV.out with h | ⟨g, h, hg⟩
                       · rw [h]; intro e'; injection e' with e'; exact h1.1 e'.symm
                       · rw [h]; intro e'; injection e' with e'; omega
                   have HL7 : Hid (IsStrs w7 (some ⟨lb, lo, none⟩) m1 K) := by
                     refine strs_apart HL6.out hg7 fun a e => ?_
                     have h1 := HLO4.out a e (by intro e'; rw [e'] at hlt; simp at hlt)
                     rcases HV.out with h | ⟨g, h, hg⟩
                     · rw [h]; intro e'; injection e' with e'; omega
                     · rw [h]; intro e'; injection e' with e'; omega
                   have HB7 : Hid (Below w.heap.size w w7) := HB6.out.trans (grown_low w.heap.size hg7 (by omega) (fun k hk => by have := Owns.block HO6.out k hk; omega))
                   have HSZ7 : Hid (w4.heap.size ≤ w7.heap.size) := Nat.le_trans HSZ6.out hg7.size
                   clear hO7 hg7 hv7
                   go_wp2
                   go_roundw
                   case rel => exact ⟨k + 1, by omega, by go_num, by rw [HN.out]; exact HO7, HX7, HS7, HL7, HB7, HSZ7, HV7⟩
                   case measure => simp [intOf]; omega
                 · have HN : Hid (pageL A (K.take (k + 1)) = acc) := by show _ = _; rw [HSN.out]; unfold pageStep; rw [hj]
                   clear hj c0 c1 c2 c3
                   go_wp2
                   go_roundw
                   case rel => exact ⟨k + 1, by omega, by go_num, by rw [HN.out]; exact HO5, HX5, HS5, HL5, HB5, HSZ5, HV⟩
                   case measure => simp [intOf]; omega)
              | (have HBS : Hid (Below wr.heap.size wr (w5.alloc (.cells #[.string C.house, .slice x1 C.parts.length y1, .bool C.asks, .string C.ask] 28))) := HBD.out.alloc HBD.out.size _
                 have HSC : Hid (IsStrs (w5.alloc (.cells #[.string C.house, .slice x1 C.parts.length y1, .bool C.asks, .string C.ask] 28)) x1 y1 C.parts) := (Owns.strsOf HOC.out).keep (alloc_keep _ _)
                 have HXC : Hid (Box (w5.alloc (.cells #[.string C.house, .slice x1 C.parts.length y1, .bool C.asks, .string C.ask] 28)) w5.heap.size (.string C.house) (.slice x1 C.parts.length y1) (.bool C.asks) (.string C.ask)) := heap_new w5 _
                 have HO5 : Hid (Owns (w5.alloc (.cells #[.string C.house, .slice x1 C.parts.length y1, .bool C.asks, .string C.ask] 28)) (F + 1) u5 acc) := Owns.below HO.out HBS.out
                 have HX5 : Hid (Box (w5.alloc (.cells #[.string C.house, .slice x1 C.parts.length y1, .bool C.asks, .string C.ask] 28)) F (.string A.house) (.slice a0 A.parts.length cap) (.bool A.asks) (.string A.ask)) := HX.out.grown (grown_of_below none HBS.out) (by simp)
                 have HS5 : Hid (IsStrs (w5.alloc (.cells #[.string C.house, .slice x1 C.parts.length y1, .bool C.asks, .string C.ask] 28)) a0 cap A.parts) := HS.out.below HBS.out
                 have HL5 : Hid (IsStrs (w5.alloc (.cells #[.string C.house, .slice x1 C.parts.length y1, .bool C.asks, .string C.ask] 28)) (some ⟨lb, lo, none⟩) m1 K) := HL.out.below HBS.out
                 have HB5 : Hid (Below w.heap.size w (w5.alloc (.cells #[.string C.house, .slice x1 C.parts.length y1, .bool C.asks, .string C.ask] 28))) := HB.out.trans (HBS.out.mono HB.out.size)
                 have HSZ5 : Hid (w4.heap.size ≤ ((w5.alloc (.cells #[.string C.house, .slice x1 C.parts.length y1, .bool C.asks, .string C.ask] 28))).heap.size) := Nat.le_trans HSZ.out HBS.out.size
                 have hx := HXC.out
                 obtain ⟨⟨c0, c1, c2, c3⟩, _⟩ := hx.cells
                 clear hx
                 have hpa := HANS.out
                 rcases hpa with ⟨rfl, hj⟩ | ⟨rfl, hj, rfl⟩
                 · have HN : Hid (pageL A (K.take (k + 1)) = putL acc (textF C)) := by show _ = _; rw [HSN.out]; unfold pageStep; rw [hj]
                   have hCb : bulkA C ≤ 4194304 := Nat.le_trans (ok_sum (join_ok hj)).2 (by decide)
                   clear hj
                   go_wp2_with fail
                   refine (specAddrText_any C x1 y1 _ HSC.out hCb).mono ?_
                   rintro e w6 ⟨rfl, hb⟩
                   have HO6 : Hid (Owns w6 (F + 1) u5 acc) := Owns.below HO5.out hb
                   have HX6 : Hid (Box w6 F (.string A.house) (.slice a0 A.parts.length cap) (.bool A.asks) (.string A.ask)) := HX5.out.grown (grown_of_below none hb) (by simp)
                   have HS6 : Hid (IsStrs w6 a0 cap A.parts) := HS5.out.below hb
                   have HL6 : Hid (IsStrs w6 (some ⟨lb, lo, none⟩) m1 K) := HL5.out.below hb
                   have HB6 : Hid (Below w.heap.size w w6) := HB5.out.trans (hb.mono HB5.out.size)
                   have HSZ6 : Hid (w4.heap.size ≤ w6.heap.size) := Nat.le_trans HSZ5.out hb.size
                   clear hb c0 c1 c2 c3
                   have hbd6 : F + 1 ≤ w6.heap.size := by have := HX6.out.lt; omega
                   generalize textF C = tx at *
                   go_wp2_with fail
                   refine (put_any (F + 1) u5 acc tx _ HO6.out hbd6 (by omega)).mono ?_
                   rintro e w7 ⟨v7, rfl, hO7, hg7, hv7⟩
                   have HV7 : Hid (v7.ownBlock = some (F + 1) ∨ ∃ g, v7.ownBlock = some g ∧ w4.heap.size ≤ g) := by
                     rcases hv7 with h | ⟨g, h, hg⟩
                     · rw [h]; exact HV.out
                     · exact Or.inr ⟨g, h, Nat.le_trans HSZ6.out hg⟩
                   have HO7 : Hid (Owns w7 (F + 1) v7 (putL acc tx)) := hO7
                   have HX7 : Hid (Box w7 F (.string A.house) (.slice a0 A.parts.length cap) (.bool A.asks) (.string A.ask)) := box_grown_row HX6.out hg7 (by intro e; have := Owns.block HO6.out F e; omega)
                   have HS7 : Hid (IsStrs w7 a0 cap A.parts) := by
                     by_cases hne : A.parts = []
                     · rw [hne]; have := HS6.out; rw [hne] at this; exact ⟨this.1, this.2.1, this.2.2.1, fun h => absurd rfl h⟩
                     · refine strs_apart HS6.out hg7 fun a e => ?_
                       have h1 := HAP4.out a e hne
                       rcases HV.out with h | ⟨g, h, hg⟩
                       · rw [h]; intro e'; injection e' with e'; exact h1.1 e'.symm
                       · rw [h]; intro e'; injection e' with e'; omega
                   have HL7 : Hid (IsStrs w7 (some ⟨lb, lo, none⟩) m1 K) := by
                     refine strs_apart HL6.out hg7 fun a e => ?_
                     have h1 := HLO4.out a e (by intro e'; rw [e'] at hlt; simp at hlt)
                     rcases HV.out with h | ⟨g, h, hg⟩
                     · rw [h]; intro e'; injection e' with e'; omega
                     · rw [h]; intro e'; injection e' with e'; omega
                   have HB7 : Hid (Below w.heap.size w w7) := HB6.out.trans (grown_low w.heap.size hg7 (by omega) (fun k hk => by have := Owns.block HO6.out k hk; omega))
                   have HSZ7 : Hid (w4.heap.size ≤ w7.heap.size) := Nat.le_trans HSZ6.out hg7.size
                   clear hO7 hg7 hv7
                   go_wp2
                   go_roundw
                   case rel => exact ⟨k + 1, by omega, by go_num, by rw [HN.out]; exact HO7, HX7, HS7, HL7, HB7, HSZ7, HV7⟩
                   case measure => simp [intOf]; omega
                 · have HN : Hid (pageL A (K.take (k + 1)) = acc) := by show _ = _; rw [HSN.out]; unfold pageStep; rw [hj]
                   clear hj c0 c1 c2 c3
                   go_wp2
                   go_roundw
                   case rel => exact ⟨k + 1, by omega, by go_num, by rw [HN.out]; exact HO5, HX5, HS5, HL5, HB5, HSZ5, HV⟩
                   case measure => simp [intOf]; omega)
              | fail)

        · have HR : Hid (pageF A t = pageL A (K.take k)) := by show _ = _; rw [List.take_of_length_le (by omega)]; exact HF.out
          go_wp2
          go_ret
          exact ⟨_, rfl, by rw [HR.out]; exact Owns.mono HO.out (by omega), HB.out⟩
    | true =>
      have HTO : Hid _ := htold
      clear htold
      go_wp2_with fail
      refine (specJoin_page A (baseF t).1 a0 cap _ HS2.out hB hbs).mono ?_
      rintro e w3 ⟨B, ok, f1, g1, rfl, hans, hO, hb⟩
      have hba := hb.alloc hb.size (.cells #[.string B.house, .slice f1 B.parts.length g1, .bool B.asks, .string B.ask] 28)
      have HX3 : Hid (Box (w3.alloc (.cells #[.string B.house, .slice f1 B.parts.length g1, .bool B.asks, .string B.ask] 28)) F (.string A.house) (.slice a0 A.parts.length cap) (.bool A.asks) (.string A.ask)) := HX2.out.grown (grown_of_below none hba) (by simp)
      have HY3 : Hid (Box (w3.alloc (.cells #[.string B.house, .slice f1 B.parts.length g1, .bool B.asks, .string B.ask] 28)) w3.heap.size (.string B.house) (.slice f1 B.parts.length g1) (.bool B.asks) (.string B.ask)) := heap_new w3 _
      have HO3 : Hid (Owns (w3.alloc (.cells #[.string B.house, .slice f1 B.parts.length g1, .bool B.asks, .string B.ask] 28)) (F + 1) (.slice (some ⟨F + 1, 0, none⟩) 0 0) []) := Owns.below HO2.out hba
      have HB3 : Hid (Below w.heap.size w (w3.alloc (.cells #[.string B.house, .slice f1 B.parts.length g1, .bool B.asks, .string B.ask] 28))) := HB2.out.trans (hba.mono HB2.out.size)
      have HSA3 : Hid (IsStrs (w3.alloc (.cells #[.string B.house, .slice f1 B.parts.length g1, .bool B.asks, .string B.ask] 28)) a0 cap A.parts) := HS2.out.below hba
      have HOB3 : Hid (Owns (w3.alloc (.cells #[.string B.house, .slice f1 B.parts.length g1, .bool B.asks, .string B.ask] 28)) w2.heap.size (.slice f1 B.parts.length g1) B.parts) := Owns.keep hO (alloc_keep _ _)
      have hz3 : w2.heap.size ≤ w3.heap.size := hb.size
      clear hb hba hO c0 c1 c2 c3 cz HX2 HO2 HB2
      have hx := HX3.out
      obtain ⟨⟨c0, c1, c2, c3⟩, cz⟩ := hx.cells
      clear hx
      have hy := HY3.out
      obtain ⟨⟨d0, d1, d2, d3⟩, _⟩ := hy.cells
      clear hy
      rcases hans with ⟨rfl, hj⟩ | ⟨rfl, hj, rfl⟩
      · have HE : Hid (fromF A t = B) := from_some HTO.out hj
        have HXz : Hid (Box (((((w3.alloc (.cells #[.string B.house, .slice f1 B.parts.length g1, .bool B.asks, .string B.ask] 28)).setCell ⟨F, 0, none⟩ (.string B.house)).setCell ⟨F, 1, none⟩ (.slice f1 B.parts.length g1)).setCell ⟨F, 2, none⟩ (.bool B.asks)).setCell ⟨F, 3, none⟩ (.string B.ask)) F (.string B.house) (.slice f1 B.parts.length g1) (.bool B.asks) (.string B.ask)) := Box.set3 (Box.set2 (Box.set1 (Box.set0 HX3.out _) _) _) _
        have HSz : Hid (IsStrs (((((w3.alloc (.cells #[.string B.house, .slice f1 B.parts.length g1, .bool B.asks, .string B.ask] 28)).setCell ⟨F, 0, none⟩ (.string B.house)).setCell ⟨F, 1, none⟩ (.slice f1 B.parts.length g1)).setCell ⟨F, 2, none⟩ (.bool B.asks)).setCell ⟨F, 3, none⟩ (.string B.ask)) f1 g1 B.parts) := by
          refine Owns.strsOf (base := w2.heap.size) (n := B.parts.length) ?_
          iterate 4 refine ownsRow_setCell_below ?_ (by dsimp only; omega) _
          exact HOB3.out
        have HOz : Hid (Owns (((((w3.alloc (.cells #[.string B.house, .slice f1 B.parts.length g1, .bool B.asks, .string B.ask] 28)).setCell ⟨F, 0, none⟩ (.string B.house)).setCell ⟨F, 1, none⟩ (.slice f1 B.parts.length g1)).setCell ⟨F, 2, none⟩ (.bool B.asks)).setCell ⟨F, 3, none⟩ (.string B.ask)) (F + 1) (.slice (some ⟨F + 1, 0, none⟩) 0 0) []) := by
          show Owns _ _ _ _
          iterate 4 refine ownsRow_setCell_below ?_ (by dsimp only; omega) _
          exact HO3.out
        have HBz : Hid (Below w.heap.size w (((((w3.alloc (.cells #[.string B.house, .slice f1 B.parts.length g1, .bool B.asks, .string B.ask] 28)).setCell ⟨F, 0, none⟩ (.string B.house)).setCell ⟨F, 1, none⟩ (.slice f1 B.parts.length g1)).setCell ⟨F, 2, none⟩ (.bool B.asks)).setCell ⟨F, 3, none⟩ (.string B.ask))) := by
          show Below _ _ _
          iterate 4 refine Below.setCell ?_ (by dsimp only; omega) _
          exact HB3.out
        have hszt : (((((w3.alloc (.cells #[.string B.house, .slice f1 B.parts.length g1, .bool B.asks, .string B.ask] 28)).setCell ⟨F, 0, none⟩ (.string B.house)).setCell ⟨F, 1, none⟩ (.slice f1 B.parts.length g1)).setCell ⟨F, 2, none⟩ (.bool B.asks)).setCell ⟨F, 3, none⟩ (.string B.ask)).heap.size = w3.heap.size + 1 := by simp [World.setCell]
        have HSZT : Hid _ := hszt
        have HZz : Hid (F + 1 < (((((w3.alloc (.cells #[.string B.house, .slice f1 B.parts.length g1, .bool B.asks, .string B.ask] 28)).setCell ⟨F, 0, none⟩ (.string B.house)).setCell ⟨F, 1, none⟩ (.slice f1 B.parts.length g1)).setCell ⟨F, 2, none⟩ (.bool B.asks)).setCell ⟨F, 3, none⟩ (.string B.ask)).heap.size) := by show _ < _; rw [hszt]; omega
        have HAPz : Hid (∀ a, f1 = some a → B.parts ≠ [] → a.block ≠ F + 1 ∧ a.block < (((((w3.alloc (.cells #[.string B.house, .slice f1 B.parts.length g1, .bool B.asks, .string B.ask] 28)).setCell ⟨F, 0, none⟩ (.string B.house)).setCell ⟨F, 1, none⟩ (.slice f1 B.parts.length g1)).setCell ⟨F, 2, none⟩ (.bool B.asks)).setCell ⟨F, 3, none⟩ (.string B.ask)).heap.size) := by
          intro a e hne
          have hg := Owns.block HOB3.out a.block (by rw [e]; rfl)
          have hl := (World.ownsRow.lt HOB3.out a.block (by rw [e]; rfl)).2
          rw [HSZT.out]
          simp at hl
          exact ⟨by omega, hl⟩
        clear hszt hj
        rw [HE.out] at HF HBK
        go_wp2_with fail
        refine (HSL.out _).mono ?_
        rintro e w4 ⟨v4, rfl, hO4, hb⟩
        obtain ⟨l1, m1, hv4, hS4⟩ := hO4.strs
        subst hv4
        have HL4 : Hid (IsStrs w4 l1 m1 (linksF t)) := hS4
        have HLO4 : Hid (∀ a, l1 = some a → linksF t ≠ [] → F + 1 < a.block ∧ a.block < w4.heap.size) := by
          intro a e hne
          obtain ⟨b, off, e', hc⟩ := hS4.2.2.2 hne
          have hg := Owns.block hO4 a.block (by rw [e]; rfl)
          have := St.cell_block (hc 0 (by cases hp : linksF t with | nil => exact absurd hp hne | cons => simp))
          rw [e] at e'; injection e' with e'
          have hz := HZz.out
          rw [e'] at hg ⊢
          exact ⟨by omega, this⟩
        have HS4 : Hid (IsStrs w4 f1 g1 B.parts) := HSz.out.below hb
        have HX4 : Hid (Box w4 F (.string B.house) (.slice f1 B.parts.length g1) (.bool B.asks) (.string B.ask)) := HXz.out.grown (grown_of_below none hb) (by simp)
        have HO4 : Hid (Owns w4 (F + 1) (.slice (some ⟨F + 1, 0, none⟩) 0 0) []) := Owns.below HOz.out hb
        have HB4 : Hid (Below w.heap.size w w4) := HBz.out.trans (hb.mono HBz.out.size)
        have HAP4 : Hid (∀ a, f1 = some a → B.parts ≠ [] → a.block ≠ F + 1 ∧ a.block < w4.heap.size) := fun a e hne => ⟨(HAPz.out a e hne).1, Nat.lt_of_lt_of_le (HAPz.out a e hne).2 hb.size⟩
        clear hO4 hS4 hb HSz HXz HOz HBz HAPz
        generalize linksF t = K at *
        go_wp2
        go_loopw [5, 11] (fun v i wr => ∃ k : Nat, k ≤ K.length ∧ i = .int .i64 (k : Int) ∧ Hid (Owns wr (F + 1) v (pageL B (K.take k))) ∧ Hid (Box wr F (.string B.house) (.slice f1 B.parts.length g1) (.bool B.asks) (.string B.ask)) ∧ Hid (IsStrs wr f1 g1 B.parts) ∧ Hid (IsStrs wr l1 m1 K) ∧ Hid (Below w.heap.size w wr) ∧ Hid (w4.heap.size ≤ wr.heap.size) ∧ Hid (v.ownBlock = some (F + 1) ∨ ∃ g, v.ownBlock = some g ∧ w4.heap.size ≤ g)) (fun _ i _ => K.length - (intOf i).toNat)
        case atStart => exact ⟨0, Nat.zero_le _, rfl, HO4, HX4, HS4, HL4, HB4, Nat.le_refl _, Or.inl rfl⟩
        case round =>
          obtain ⟨k, hk, rfl, HO, HX, HS, HL, HB, HSZ, HV⟩ := hrel
          by_cases hlt : k < K.length
          · obtain ⟨lb, lo, e1, cl⟩ := HL.out.at hlt
            subst e1
            have hx := HX.out
            obtain ⟨⟨c0, c1, c2, c3⟩, _⟩ := hx.cells
            clear hx
            have hks := HLS.out K[k] (List.getElem_mem _)
            have HSN : Hid _ := page_snoc (B := B) hlt
            have hacc : (pageL B (K.take k)).length ≤ 300 := by
              have := pageL_len B (K.take k) []
              unfold pageL
              simp at this ⊢; omega
            obtain ⟨acc, hac⟩ : ∃ acc, pageL B (K.take k) = acc := ⟨_, rfl⟩
            rw [hac] at HO HSN hacc
            clear hac
            have hFr : F < wr.heap.size := HX.out.lt
            have n0 : wr.drew.cell? ⟨F, 0, none⟩ = some (.string B.house) := c0
            have n1 : wr.drew.cell? ⟨F, 1, none⟩ = some (.slice f1 B.parts.length g1) := c1
            have n2 : wr.drew.cell? ⟨F, 2, none⟩ = some (.bool B.asks) := c2
            have n3 : wr.drew.cell? ⟨F, 3, none⟩ = some (.string B.ask) := c3
            have nl : wr.drew.cell? ⟨lb, lo + k, none⟩ = some (.string K[k]) := cl
            have hlr : lb < wr.heap.size := St.cell_block cl
            have hFd : F < wr.drew.heap.size := hFr
            have hld : lb < wr.drew.heap.size := hlr
            go_wp2
            go_region_with (first
              | (go_at_call 116
                 first
                  | (refine (specJoin_page B K[k] f1 g1 wr.drew (HS.out.below ((Below.refl _ wr).drew)) HBK.out hks).mono ?_
                     rintro e w5 ⟨C, ok, x1, y1, rfl, hans, hOC, hb⟩
                     have HANS : Hid (Ans (joinF B K[k].data.toList) C ok) := hans
                     have HBD : Hid (Below wr.heap.size wr w5) := Below.trans ((Below.refl _ wr).drew) (hb.mono (by simp))
                     have hz5 := HBD.out.size
                     have HOC : Hid (Owns w5 wr.heap.size (.slice x1 C.parts.length y1) C.parts) := Owns.mono hOC (by simp)
                     clear hans hOC hb)
                  | (refine (specJoin_page B K[k] f1 g1 (wr.alloc (.cells #[.string ⟨#[]⟩, .slice none 0 0, .bool false, .string ⟨#[]⟩] 28)).drew (HS.out.below (((Below.refl _ wr).alloc (Nat.le_refl _) _).drew)) HBK.out hks).mono ?_
                     rintro e w5 ⟨C, ok, x1, y1, rfl, hans, hOC, hb⟩
                     have HANS : Hid (Ans (joinF B K[k].data.toList) C ok) := hans
                     have HBD : Hid (Below wr.heap.size wr w5) := Below.trans (((Below.refl _ wr).alloc (Nat.le_refl _) _).drew) (hb.mono (by simp))
                     have hz5 := HBD.out.size
                     have HOC : Hid (Owns w5 (wr.heap.size + 1) (.slice x1 C.parts.length y1) C.parts) := Owns.mono hOC (by simp)
                     have HZ5 : Hid (Box w5 wr.heap.size (.string ⟨#[]⟩) (.slice none 0 0) (.bool false) (.string ⟨#[]⟩)) := Box.grown (Box.heapEq (heap_new wr _) rfl) (grown_of_below none hb) (by simp)
                     have hpz := HZ5.out
                     obtain ⟨⟨z0', z1', z2', z3'⟩, zf⟩ := hpz.cells
                     clear hpz
                     clear hans hOC hb)
                  | (refine (specJoin_page B K[k] f1 g1 (wr.drew.alloc (.cells #[.string ⟨#[]⟩, .slice none 0 0, .bool false, .string ⟨#[]⟩] 28)) (HS.out.below (((Below.refl _ wr).drew).alloc (Nat.le_refl _) _)) HBK.out hks).mono ?_
                     rintro e w5 ⟨C, ok, x1, y1, rfl, hans, hOC, hb⟩
                     have HANS : Hid (Ans (joinF B K[k].data.toList) C ok) := hans
                     have HBD : Hid (Below wr.heap.size wr w5) := Below.trans (((Below.refl _ wr).drew).alloc (Nat.le_refl _) _) (hb.mono (by simp))
                     have hz5 := HBD.out.size
                     have HOC : Hid (Owns w5 (wr.heap.size + 1) (.slice x1 C.parts.length y1) C.parts) := Owns.mono hOC (by simp)
                     have HZ5 : Hid (Box w5 wr.heap.size (.string ⟨#[]⟩) (.slice none 0 0) (.bool false) (.string ⟨#[]⟩)) := Box.grown (heap_new wr.drew _) (grown_of_below none hb) (by simp)
                     have hpz := HZ5.out
                     obtain ⟨⟨z0', z1', z2', z3'⟩, zf⟩ := hpz.cells
                     clear hpz
                     clear hans hOC hb)
                  | fail)
              | fail)
            all_goals (
              clear n0 n1 n2 n3 nl c0 c1 c2 c3 cl
              first
                | (have HBS : Hid (Below wr.heap.size wr ((((w5.setCell ⟨wr.heap.size, 0, none⟩ (.string C.house)).setCell ⟨wr.heap.size, 1, none⟩ (.slice x1 C.parts.length y1)).setCell ⟨wr.heap.size, 2, none⟩ (.bool C.asks)).setCell ⟨wr.heap.size, 3, none⟩ (.string C.ask))) := by
                     show Below _ _ _
                     iterate 4 refine Below.setCell ?_ (by dsimp only; omega) _
                     exact HBD.out
                   have HSC : Hid (IsStrs ((((w5.setCell ⟨wr.heap.size, 0, none⟩ (.string C.house)).setCell ⟨wr.heap.size, 1, none⟩ (.slice x1 C.parts.length y1)).setCell ⟨wr.heap.size, 2, none⟩ (.bool C.asks)).setCell ⟨wr.heap.size, 3, none⟩ (.string C.ask)) x1 y1 C.parts) := by
                     refine Owns.strsOf (base := wr.heap.size + 1) (n := C.parts.length) ?_
                     iterate 4 refine ownsRow_setCell_below ?_ (by dsimp only; omega) _
                     exact HOC.out
                   have HXC : Hid (Box ((((w5.setCell ⟨wr.heap.size, 0, none⟩ (.string C.house)).setCell ⟨wr.heap.size, 1, none⟩ (.slice x1 C.parts.length y1)).setCell ⟨wr.heap.size, 2, none⟩ (.bool C.asks)).setCell ⟨wr.heap.size, 3, none⟩ (.string C.ask)) wr.heap.size (.string C.house) (.slice x1 C.parts.length y1) (.bool C.asks) (.string C.ask)) := Box.set3 (Box.set2 (Box.set1 (Box.set0 HZ5.out _) _) _) _
                   have HO5 : Hid (Owns ((((w5.setCell ⟨wr.heap.size, 0, none⟩ (.string C.house)).setCell ⟨wr.heap.size, 1, none⟩ (.slice x1 C.parts.length y1)).setCell ⟨wr.heap.size, 2, none⟩ (.bool C.asks)).setCell ⟨wr.heap.size, 3, none⟩ (.string C.ask)) (F + 1) u5 acc) := Owns.below HO.out HBS.out
                   have HX5 : Hid (Box ((((w5.setCell ⟨wr.heap.size, 0, none⟩ (.string C.house)).setCell ⟨wr.heap.size, 1, none⟩ (.slice x1 C.parts.length y1)).setCell ⟨wr.heap.size, 2, none⟩ (.bool C.asks)).setCell ⟨wr.heap.size, 3, none⟩ (.string C.ask)) F (.string B.house) (.slice f1 B.parts.length g1) (.bool B.asks) (.string B.ask)) := HX.out.grown (grown_of_below none HBS.out) (by simp)
                   have HS5 : Hid (IsStrs ((((w5.setCell ⟨wr.heap.size, 0, none⟩ (.string C.house)).setCell ⟨wr.heap.size, 1, none⟩ (.slice x1 C.parts.length y1)).setCell ⟨wr.heap.size, 2, none⟩ (.bool C.asks)).setCell ⟨wr.heap.size, 3, none⟩ (.string C.ask)) f1 g1 B.parts) := HS.out.below HBS.out
                   have HL5 : Hid (IsStrs ((((w5.setCell ⟨wr.heap.size, 0, none⟩ (.string C.house)).setCell ⟨wr.heap.size, 1, none⟩ (.slice x1 C.parts.length y1)).setCell ⟨wr.heap.size, 2, none⟩ (.bool C.asks)).setCell ⟨wr.heap.size, 3, none⟩ (.string C.ask)) (some ⟨lb, lo, none⟩) m1 K) := HL.out.below HBS.out
                   have HB5 : Hid (Below w.heap.size w ((((w5.setCell ⟨wr.heap.size, 0, none⟩ (.string C.house)).setCell ⟨wr.heap.size, 1, none⟩ (.slice x1 C.parts.length y1)).setCell ⟨wr.heap.size, 2, none⟩ (.bool C.asks)).setCell ⟨wr.heap.size, 3, none⟩ (.string C.ask))) := HB.out.trans (HBS.out.mono HB.out.size)
                   have HSZ5 : Hid (w4.heap.size ≤ (((((w5.setCell ⟨wr.heap.size, 0, none⟩ (.string C.house)).setCell ⟨wr.heap.size, 1, none⟩ (.slice x1 C.parts.length y1)).setCell ⟨wr.heap.size, 2, none⟩ (.bool C.asks)).setCell ⟨wr.heap.size, 3, none⟩ (.string C.ask))).heap.size) := Nat.le_trans HSZ.out HBS.out.size
                   have hx := HXC.out
                   obtain ⟨⟨c0, c1, c2, c3⟩, _⟩ := hx.cells
                   clear hx
                   have hpa := HANS.out
                   rcases hpa with ⟨rfl, hj⟩ | ⟨rfl, hj, rfl⟩
                   · have HN : Hid (pageL B (K.take (k + 1)) = putL acc (textF C)) := by show _ = _; rw [HSN.out]; unfold pageStep; rw [hj]
                     have hCb : bulkA C ≤ 4194304 := Nat.le_trans (ok_sum (join_ok hj)).2 (by decide)
                     clear hj
                     go_wp2_with fail
                     refine (specAddrText_any C x1 y1 _ HSC.out hCb).mono ?_
                     rintro e w6 ⟨rfl, hb⟩
                     have HO6 : Hid (Owns w6 (F + 1) u5 acc) := Owns.below HO5.out hb
                     have HX6 : Hid (Box w6 F (.string B.house) (.slice f1 B.parts.length g1) (.bool B.asks) (.string B.ask)) := HX5.out.grown (grown_of_below none hb) (by simp)
                     have HS6 : Hid (IsStrs w6 f1 g1 B.parts) := HS5.out.below hb
                     have HL6 : Hid (IsStrs w6 (some ⟨lb, lo, none⟩) m1 K) := HL5.out.below hb
                     have HB6 : Hid (Below w.heap.size w w6) := HB5.out.trans (hb.mono HB5.out.size)
                     have HSZ6 : Hid (w4.heap.size ≤ w6.heap.size) := Nat.le_trans HSZ5.out hb.size
                     clear hb c0 c1 c2 c3
                     have hbd6 : F + 1 ≤ w6.heap.size := by have := HX6.out.lt; omega
                     generalize textF C = tx at *
                     go_wp2_with fail
                     refine (put_any (F + 1) u5 acc tx _ HO6.out hbd6 (by omega)).mono ?_
                     rintro e w7 ⟨v7, rfl, hO7, hg7, hv7⟩
                     have HV7 : Hid (v7.ownBlock = some (F + 1) ∨ ∃ g, v7.ownBlock = some g ∧ w4.heap.size ≤ g) := by
                       rcases hv7 with h | ⟨g, h, hg⟩
                       · rw [h]; exact HV.out
                       · exact Or.inr ⟨g, h, Nat.le_trans HSZ6.out hg⟩
                     have HO7 : Hid (Owns w7 (F + 1) v7 (putL acc tx)) := hO7
                     have HX7 : Hid (Box w7 F (.string B.house) (.slice f1 B.parts.length g1) (.bool B.asks) (.string B.ask)) := box_grown_row HX6.out hg7 (by intro e; have := Owns.block HO6.out F e; omega)
                     have HS7 : Hid (IsStrs w7 f1 g1 B.parts) := by
                       by_cases hne : B.parts = []
                       · rw [hne]; have := HS6.out; rw [hne] at this; exact ⟨this.1, this.2.1, this.2.2.1, fun h => absurd rfl h⟩
                       · refine strs_apart HS6.out hg7 fun a e => ?_
                         have h1 := HAP4.out a e hne
                         rcases HV.out with h | ⟨g, h, hg⟩
                         · rw [h]; intro e'; injection e' with e'; exact h1.1 e'.symm
                         · rw [h]; intro e'; injection e' with e'; omega
                     have HL7 : Hid (IsStrs w7 (some ⟨lb, lo, none⟩) m1 K) := by
                       refine strs_apart HL6.out hg7 fun a e => ?_
                       have h1 := HLO4.out a e (by intro e'; rw [e'] at hlt; simp at hlt)
                       rcases HV.out with h | ⟨g, h, hg⟩
                       · rw [h]; intro e'; injection e' with e'; omega
                       · rw [h]; intro e'; injection e' with e'; omega
                     have HB7 : Hid (Below w.heap.size w w7) := HB6.out.trans (grown_low w.heap.size hg7 (by omega) (fun k hk => by have := Owns.block HO6.out k hk; omega))
                     have HSZ7 : Hid (w4.heap.size ≤ w7.heap.size) := Nat.le_trans HSZ6.out hg7.size
                     clear hO7 hg7 hv7
                     go_wp2
                     go_roundw
                     case rel => exact ⟨k + 1, by omega, by go_num, by rw [HN.out]; exact HO7, HX7, HS7, HL7, HB7, HSZ7, HV7⟩
                     case measure => simp [intOf]; omega
                   · have HN : Hid (pageL B (K.take (k + 1)) = acc) := by show _ = _; rw [HSN.out]; unfold pageStep; rw [hj]
                     clear hj c0 c1 c2 c3
                     go_wp2
                     go_roundw
                     case rel => exact ⟨k + 1, by omega, by go_num, by rw [HN.out]; exact HO5, HX5, HS5, HL5, HB5, HSZ5, HV⟩
                     case measure => simp [intOf]; omega)
                | (have HBS : Hid (Below wr.heap.size wr (w5.alloc (.cells #[.string C.house, .slice x1 C.parts.length y1, .bool C.asks, .string C.ask] 28))) := HBD.out.alloc HBD.out.size _
                   have HSC : Hid (IsStrs (w5.alloc (.cells #[.string C.house, .slice x1 C.parts.length y1, .bool C.asks, .string C.ask] 28)) x1 y1 C.parts) := (Owns.strsOf HOC.out).keep (alloc_keep _ _)
                   have HXC : Hid (Box (w5.alloc (.cells #[.string C.house, .slice x1 C.parts.length y1, .bool C.asks, .string C.ask] 28)) w5.heap.size (.string C.house) (.slice x1 C.parts.length y1) (.bool C.asks) (.string C.ask)) := heap_new w5 _
                   have HO5 : Hid (Owns (w5.alloc (.cells #[.string C.house, .slice x1 C.parts.length y1, .bool C.asks, .string C.ask] 28)) (F + 1) u5 acc) := Owns.below HO.out HBS.out
                   have HX5 : Hid (Box (w5.alloc (.cells #[.string C.house, .slice x1 C.parts.length y1, .bool C.asks, .string C.ask] 28)) F (.string B.house) (.slice f1 B.parts.length g1) (.bool B.asks) (.string B.ask)) := HX.out.grown (grown_of_below none HBS.out) (by simp)
                   have HS5 : Hid (IsStrs (w5.alloc (.cells #[.string C.house, .slice x1 C.parts.length y1, .bool C.asks, .string C.ask] 28)) f1 g1 B.parts) := HS.out.below HBS.out
                   have HL5 : Hid (IsStrs (w5.alloc (.cells #[.string C.house, .slice x1 C.parts.length y1, .bool C.asks, .string C.ask] 28)) (some ⟨lb, lo, none⟩) m1 K) := HL.out.below HBS.out
                   have HB5 : Hid (Below w.heap.size w (w5.alloc (.cells #[.string C.house, .slice x1 C.parts.length y1, .bool C.asks, .string C.ask] 28))) := HB.out.trans (HBS.out.mono HB.out.size)
                   have HSZ5 : Hid (w4.heap.size ≤ ((w5.alloc (.cells #[.string C.house, .slice x1 C.parts.length y1, .bool C.asks, .string C.ask] 28))).heap.size) := Nat.le_trans HSZ.out HBS.out.size
                   have hx := HXC.out
                   obtain ⟨⟨c0, c1, c2, c3⟩, _⟩ := hx.cells
                   clear hx
                   have hpa := HANS.out
                   rcases hpa with ⟨rfl, hj⟩ | ⟨rfl, hj, rfl⟩
                   · have HN : Hid (pageL B (K.take (k + 1)) = putL acc (textF C)) := by show _ = _; rw [HSN.out]; unfold pageStep; rw [hj]
                     have hCb : bulkA C ≤ 4194304 := Nat.le_trans (ok_sum (join_ok hj)).2 (by decide)
                     clear hj
                     go_wp2_with fail
                     refine (specAddrText_any C x1 y1 _ HSC.out hCb).mono ?_
                     rintro e w6 ⟨rfl, hb⟩
                     have HO6 : Hid (Owns w6 (F + 1) u5 acc) := Owns.below HO5.out hb
                     have HX6 : Hid (Box w6 F (.string B.house) (.slice f1 B.parts.length g1) (.bool B.asks) (.string B.ask)) := HX5.out.grown (grown_of_below none hb) (by simp)
                     have HS6 : Hid (IsStrs w6 f1 g1 B.parts) := HS5.out.below hb
                     have HL6 : Hid (IsStrs w6 (some ⟨lb, lo, none⟩) m1 K) := HL5.out.below hb
                     have HB6 : Hid (Below w.heap.size w w6) := HB5.out.trans (hb.mono HB5.out.size)
                     have HSZ6 : Hid (w4.heap.size ≤ w6.heap.size) := Nat.le_trans HSZ5.out hb.size
                     clear hb c0 c1 c2 c3
                     have hbd6 : F + 1 ≤ w6.heap.size := by have := HX6.out.lt; omega
                     generalize textF C = tx at *
                     go_wp2_with fail
                     refine (put_any (F + 1) u5 acc tx _ HO6.out hbd6 (by omega)).mono ?_
                     rintro e w7 ⟨v7, rfl, hO7, hg7, hv7⟩
                     have HV7 : Hid (v7.ownBlock = some (F + 1) ∨ ∃ g, v7.ownBlock = some g ∧ w4.heap.size ≤ g) := by
                       rcases hv7 with h | ⟨g, h, hg⟩
                       · rw [h]; exact HV.out
                       · exact Or.inr ⟨g, h, Nat.le_trans HSZ6.out hg⟩
                     have HO7 : Hid (Owns w7 (F + 1) v7 (putL acc tx)) := hO7
                     have HX7 : Hid (Box w7 F (.string B.house) (.slice f1 B.parts.length g1) (.bool B.asks) (.string B.ask)) := box_grown_row HX6.out hg7 (by intro e; have := Owns.block HO6.out F e; omega)
                     have HS7 : Hid (IsStrs w7 f1 g1 B.parts) := by
                       by_cases hne : B.parts = []
                       · rw [hne]; have := HS6.out; rw [hne] at this; exact ⟨this.1, this.2.1, this.2.2.1, fun h => absurd rfl h⟩
                       · refine strs_apart HS6.out hg7 fun a e => ?_
                         have h1 := HAP4.out a e hne
                         rcases HV.out with h | ⟨g, h, hg⟩
                         · rw [h]; intro e'; injection e' with e'; exact h1.1 e'.symm
                         · rw [h]; intro e'; injection e' with e'; omega
                     have HL7 : Hid (IsStrs w7 (some ⟨lb, lo, none⟩) m1 K) := by
                       refine strs_apart HL6.out hg7 fun a e => ?_
                       have h1 := HLO4.out a e (by intro e'; rw [e'] at hlt; simp at hlt)
                       rcases HV.out with h | ⟨g, h, hg⟩
                       · rw [h]; intro e'; injection e' with e'; omega
                       · rw [h]; intro e'; injection e' with e'; omega
                     have HB7 : Hid (Below w.heap.size w w7) := HB6.out.trans (grown_low w.heap.size hg7 (by omega) (fun k hk => by have := Owns.block HO6.out k hk; omega))
                     have HSZ7 : Hid (w4.heap.size ≤ w7.heap.size) := Nat.le_trans HSZ6.out hg7.size
                     clear hO7 hg7 hv7
                     go_wp2
                     go_roundw
                     case rel => exact ⟨k + 1, by omega, by go_num, by rw [HN.out]; exact HO7, HX7, HS7, HL7, HB7, HSZ7, HV7⟩
                     case measure => simp [intOf]; omega
                   · have HN : Hid (pageL B (K.take (k + 1)) = acc) := by show _ = _; rw [HSN.out]; unfold pageStep; rw [hj]
                     clear hj c0 c1 c2 c3
                     go_wp2
                     go_roundw
                     case rel => exact ⟨k + 1, by omega, by go_num, by rw [HN.out]; exact HO5, HX5, HS5, HL5, HB5, HSZ5, HV⟩
                     case measure => simp [intOf]; omega)
                | fail)

          · have HR : Hid (pageF A t = pageL B (K.take k)) := by show _ = _; rw [List.take_of_length_le (by omega)]; exact HF.out
            go_wp2
            go_ret
            exact ⟨_, rfl, by rw [HR.out]; exact Owns.mono HO.out (by omega), HB.out⟩
      · have HE : Hid (fromF A t = A) := from_none hj
        have HXz : Hid (Box (w3.alloc (.cells #[.string zeroAd.house, .slice f1 zeroAd.parts.length g1, .bool zeroAd.asks, .string zeroAd.ask] 28)) F (.string A.house) (.slice a0 A.parts.length cap) (.bool A.asks) (.string A.ask)) := HX3
        have HSz : Hid (IsStrs (w3.alloc (.cells #[.string zeroAd.house, .slice f1 zeroAd.parts.length g1, .bool zeroAd.asks, .string zeroAd.ask] 28)) a0 cap A.parts) := HSA3
        have HOz : Hid (Owns (w3.alloc (.cells #[.string zeroAd.house, .slice f1 zeroAd.parts.length g1, .bool zeroAd.asks, .string zeroAd.ask] 28)) (F + 1) (.slice (some ⟨F + 1, 0, none⟩) 0 0) []) := HO3
        have HBz : Hid (Below w.heap.size w (w3.alloc (.cells #[.string zeroAd.house, .slice f1 zeroAd.parts.length g1, .bool zeroAd.asks, .string zeroAd.ask] 28))) := HB3
        have HZz : Hid (F + 1 < (w3.alloc (.cells #[.string zeroAd.house, .slice f1 zeroAd.parts.length g1, .bool zeroAd.asks, .string zeroAd.ask] 28)).heap.size) := by show _ < _; simp; omega
        have HAPz : Hid (∀ a, a0 = some a → A.parts ≠ [] → a.block ≠ F + 1 ∧ a.block < (w3.alloc (.cells #[.string zeroAd.house, .slice f1 zeroAd.parts.length g1, .bool zeroAd.asks, .string zeroAd.ask] 28)).heap.size) := fun a e hne => by have := HAP0.out a e hne; simp; omega
        clear hj
        rw [HE.out] at HF HBK
        go_wp2_with fail
        refine (HSL.out _).mono ?_
        rintro e w4 ⟨v4, rfl, hO4, hb⟩
        obtain ⟨l1, m1, hv4, hS4⟩ := hO4.strs
        subst hv4
        have HL4 : Hid (IsStrs w4 l1 m1 (linksF t)) := hS4
        have HLO4 : Hid (∀ a, l1 = some a → linksF t ≠ [] → F + 1 < a.block ∧ a.block < w4.heap.size) := by
          intro a e hne
          obtain ⟨b, off, e', hc⟩ := hS4.2.2.2 hne
          have hg := Owns.block hO4 a.block (by rw [e]; rfl)
          have := St.cell_block (hc 0 (by cases hp : linksF t with | nil => exact absurd hp hne | cons => simp))
          rw [e] at e'; injection e' with e'
          have hz := HZz.out
          rw [e'] at hg ⊢
          exact ⟨by omega, this⟩
        have HS4 : Hid (IsStrs w4 a0 cap A.parts) := HSz.out.below hb
        have HX4 : Hid (Box w4 F (.string A.house) (.slice a0 A.parts.length cap) (.bool A.asks) (.string A.ask)) := HXz.out.grown (grown_of_below none hb) (by simp)
        have HO4 : Hid (Owns w4 (F + 1) (.slice (some ⟨F + 1, 0, none⟩) 0 0) []) := Owns.below HOz.out hb
        have HB4 : Hid (Below w.heap.size w w4) := HBz.out.trans (hb.mono HBz.out.size)
        have HAP4 : Hid (∀ a, a0 = some a → A.parts ≠ [] → a.block ≠ F + 1 ∧ a.block < w4.heap.size) := fun a e hne => ⟨(HAPz.out a e hne).1, Nat.lt_of_lt_of_le (HAPz.out a e hne).2 hb.size⟩
        clear hO4 hS4 hb HSz HXz HOz HBz HAPz
        generalize linksF t = K at *
        go_wp2
        go_loopw [5, 11] (fun v i wr => ∃ k : Nat, k ≤ K.length ∧ i = .int .i64 (k : Int) ∧ Hid (Owns wr (F + 1) v (pageL A (K.take k))) ∧ Hid (Box wr F (.string A.house) (.slice a0 A.parts.length cap) (.bool A.asks) (.string A.ask)) ∧ Hid (IsStrs wr a0 cap A.parts) ∧ Hid (IsStrs wr l1 m1 K) ∧ Hid (Below w.heap.size w wr) ∧ Hid (w4.heap.size ≤ wr.heap.size) ∧ Hid (v.ownBlock = some (F + 1) ∨ ∃ g, v.ownBlock = some g ∧ w4.heap.size ≤ g)) (fun _ i _ => K.length - (intOf i).toNat)
        case atStart => exact ⟨0, Nat.zero_le _, rfl, HO4, HX4, HS4, HL4, HB4, Nat.le_refl _, Or.inl rfl⟩
        case round =>
          obtain ⟨k, hk, rfl, HO, HX, HS, HL, HB, HSZ, HV⟩ := hrel
          by_cases hlt : k < K.length
          · obtain ⟨lb, lo, e1, cl⟩ := HL.out.at hlt
            subst e1
            have hx := HX.out
            obtain ⟨⟨c0, c1, c2, c3⟩, _⟩ := hx.cells
            clear hx
            have hks := HLS.out K[k] (List.getElem_mem _)
            have HSN : Hid _ := page_snoc (B := A) hlt
            have hacc : (pageL A (K.take k)).length ≤ 300 := by
              have := pageL_len A (K.take k) []
              unfold pageL
              simp at this ⊢; omega
            obtain ⟨acc, hac⟩ : ∃ acc, pageL A (K.take k) = acc := ⟨_, rfl⟩
            rw [hac] at HO HSN hacc
            clear hac
            have hFr : F < wr.heap.size := HX.out.lt
            have n0 : wr.drew.cell? ⟨F, 0, none⟩ = some (.string A.house) := c0
            have n1 : wr.drew.cell? ⟨F, 1, none⟩ = some (.slice a0 A.parts.length cap) := c1
            have n2 : wr.drew.cell? ⟨F, 2, none⟩ = some (.bool A.asks) := c2
            have n3 : wr.drew.cell? ⟨F, 3, none⟩ = some (.string A.ask) := c3
            have nl : wr.drew.cell? ⟨lb, lo + k, none⟩ = some (.string K[k]) := cl
            have hlr : lb < wr.heap.size := St.cell_block cl
            have hFd : F < wr.drew.heap.size := hFr
            have hld : lb < wr.drew.heap.size := hlr
            go_wp2
            go_region_with (first
              | (go_at_call 116
                 first
                  | (refine (specJoin_page A K[k] a0 cap wr.drew (HS.out.below ((Below.refl _ wr).drew)) HBK.out hks).mono ?_
                     rintro e w5 ⟨C, ok, x1, y1, rfl, hans, hOC, hb⟩
                     have HANS : Hid (Ans (joinF A K[k].data.toList) C ok) := hans
                     have HBD : Hid (Below wr.heap.size wr w5) := Below.trans ((Below.refl _ wr).drew) (hb.mono (by simp))
                     have hz5 := HBD.out.size
                     have HOC : Hid (Owns w5 wr.heap.size (.slice x1 C.parts.length y1) C.parts) := Owns.mono hOC (by simp)
                     clear hans hOC hb)
                  | (refine (specJoin_page A K[k] a0 cap (wr.alloc (.cells #[.string ⟨#[]⟩, .slice none 0 0, .bool false, .string ⟨#[]⟩] 28)).drew (HS.out.below (((Below.refl _ wr).alloc (Nat.le_refl _) _).drew)) HBK.out hks).mono ?_
                     rintro e w5 ⟨C, ok, x1, y1, rfl, hans, hOC, hb⟩
                     have HANS : Hid (Ans (joinF A K[k].data.toList) C ok) := hans
                     have HBD : Hid (Below wr.heap.size wr w5) := Below.trans (((Below.refl _ wr).alloc (Nat.le_refl _) _).drew) (hb.mono (by simp))
                     have hz5 := HBD.out.size
                     have HOC : Hid (Owns w5 (wr.heap.size + 1) (.slice x1 C.parts.length y1) C.parts) := Owns.mono hOC (by simp)
                     have HZ5 : Hid (Box w5 wr.heap.size (.string ⟨#[]⟩) (.slice none 0 0) (.bool false) (.string ⟨#[]⟩)) := Box.grown (Box.heapEq (heap_new wr _) rfl) (grown_of_below none hb) (by simp)
                     have hpz := HZ5.out
                     obtain ⟨⟨z0', z1', z2', z3'⟩, zf⟩ := hpz.cells
                     clear hpz
                     clear hans hOC hb)
                  | (refine (specJoin_page A K[k] a0 cap (wr.drew.alloc (.cells #[.string ⟨#[]⟩, .slice none 0 0, .bool false, .string ⟨#[]⟩] 28)) (HS.out.below (((Below.refl _ wr).drew).alloc (Nat.le_refl _) _)) HBK.out hks).mono ?_
                     rintro e w5 ⟨C, ok, x1, y1, rfl, hans, hOC, hb⟩
                     have HANS : Hid (Ans (joinF A K[k].data.toList) C ok) := hans
                     have HBD : Hid (Below wr.heap.size wr w5) := Below.trans (((Below.refl _ wr).drew).alloc (Nat.le_refl _) _) (hb.mono (by simp))
                     have hz5 := HBD.out.size
                     have HOC : Hid (Owns w5 (wr.heap.size + 1) (.slice x1 C.parts.length y1) C.parts) := Owns.mono hOC (by simp)
                     have HZ5 : Hid (Box w5 wr.heap.size (.string ⟨#[]⟩) (.slice none 0 0) (.bool false) (.string ⟨#[]⟩)) := Box.grown (heap_new wr.drew _) (grown_of_below none hb) (by simp)
                     have hpz := HZ5.out
                     obtain ⟨⟨z0', z1', z2', z3'⟩, zf⟩ := hpz.cells
                     clear hpz
                     clear hans hOC hb)
                  | fail)
              | fail)
            all_goals (
              clear n0 n1 n2 n3 nl c0 c1 c2 c3 cl
              first
                | (have HBS : Hid (Below wr.heap.size wr ((((w5.setCell ⟨wr.heap.size, 0, none⟩ (.string C.house)).setCell ⟨wr.heap.size, 1, none⟩ (.slice x1 C.parts.length y1)).setCell ⟨wr.heap.size, 2, none⟩ (.bool C.asks)).setCell ⟨wr.heap.size, 3, none⟩ (.string C.ask))) := by
                     show Below _ _ _
                     iterate 4 refine Below.setCell ?_ (by dsimp only; omega) _
                     exact HBD.out
                   have HSC : Hid (IsStrs ((((w5.setCell ⟨wr.heap.size, 0, none⟩ (.string C.house)).setCell ⟨wr.heap.size, 1, none⟩ (.slice x1 C.parts.length y1)).setCell ⟨wr.heap.size, 2, none⟩ (.bool C.asks)).setCell ⟨wr.heap.size, 3, none⟩ (.string C.ask)) x1 y1 C.parts) := by
                     refine Owns.strsOf (base := wr.heap.size + 1) (n := C.parts.length) ?_
                     iterate 4 refine ownsRow_setCell_below ?_ (by dsimp only; omega) _
                     exact HOC.out
                   have HXC : Hid (Box ((((w5.setCell ⟨wr.heap.size, 0, none⟩ (.string C.house)).setCell ⟨wr.heap.size, 1, none⟩ (.slice x1 C.parts.length y1)).setCell ⟨wr.heap.size, 2, none⟩ (.bool C.asks)).setCell ⟨wr.heap.size, 3, none⟩ (.string C.ask)) wr.heap.size (.string C.house) (.slice x1 C.parts.length y1) (.bool C.asks) (.string C.ask)) := Box.set3 (Box.set2 (Box.set1 (Box.set0 HZ5.out _) _) _) _
                   have HO5 : Hid (Owns ((((w5.setCell ⟨wr.heap.size, 0, none⟩ (.string C.house)).setCell ⟨wr.heap.size, 1, none⟩ (.slice x1 C.parts.length y1)).setCell ⟨wr.heap.size, 2, none⟩ (.bool C.asks)).setCell ⟨wr.heap.size, 3, none⟩ (.string C.ask)) (F + 1) u5 acc) := Owns.below HO.out HBS.out
                   have HX5 : Hid (Box ((((w5.setCell ⟨wr.heap.size, 0, none⟩ (.string C.house)).setCell ⟨wr.heap.size, 1, none⟩ (.slice x1 C.parts.length y1)).setCell ⟨wr.heap.size, 2, none⟩ (.bool C.asks)).setCell ⟨wr.heap.size, 3, none⟩ (.string C.ask)) F (.string A.house) (.slice a0 A.parts.length cap) (.bool A.asks) (.string A.ask)) := HX.out.grown (grown_of_below none HBS.out) (by simp)
                   have HS5 : Hid (IsStrs ((((w5.setCell ⟨wr.heap.size, 0, none⟩ (.string C.house)).setCell ⟨wr.heap.size, 1, none⟩ (.slice x1 C.parts.length y1)).setCell ⟨wr.heap.size, 2, none⟩ (.bool C.asks)).setCell ⟨wr.heap.size, 3, none⟩ (.string C.ask)) a0 cap A.parts) := HS.out.below HBS.out
                   have HL5 : Hid (IsStrs ((((w5.setCell ⟨wr.heap.size, 0, none⟩ (.string C.house)).setCell ⟨wr.heap.size, 1, none⟩ (.slice x1 C.parts.length y1)).setCell ⟨wr.heap.size, 2, none⟩ (.bool C.asks)).setCell ⟨wr.heap.size, 3, none⟩ (.string C.ask)) (some ⟨lb, lo, none⟩) m1 K) := HL.out.below HBS.out
                   have HB5 : Hid (Below w.heap.size w ((((w5.setCell ⟨wr.heap.size, 0, none⟩ (.string C.house)).setCell ⟨wr.heap.size, 1, none⟩ (.slice x1 C.parts.length y1)).setCell ⟨wr.heap.size, 2, none⟩ (.bool C.asks)).setCell ⟨wr.heap.size, 3, none⟩ (.string C.ask))) := HB.out.trans (HBS.out.mono HB.out.size)
                   have HSZ5 : Hid (w4.heap.size ≤ (((((w5.setCell ⟨wr.heap.size, 0, none⟩ (.string C.house)).setCell ⟨wr.heap.size, 1, none⟩ (.slice x1 C.parts.length y1)).setCell ⟨wr.heap.size, 2, none⟩ (.bool C.asks)).setCell ⟨wr.heap.size, 3, none⟩ (.string C.ask))).heap.size) := Nat.le_trans HSZ.out HBS.out.size
                   have hx := HXC.out
                   obtain ⟨⟨c0, c1, c2, c3⟩, _⟩ := hx.cells
                   clear hx
                   have hpa := HANS.out
                   rcases hpa with ⟨rfl, hj⟩ | ⟨rfl, hj, rfl⟩
                   · have HN : Hid (pageL A (K.take (k + 1)) = putL acc (textF C)) := by show _ = _; rw [HSN.out]; unfold pageStep; rw [hj]
                     have hCb : bulkA C ≤ 4194304 := Nat.le_trans (ok_sum (join_ok hj)).2 (by decide)
                     clear hj
                     go_wp2_with fail
                     refine (specAddrText_any C x1 y1 _ HSC.out hCb).mono ?_
                     rintro e w6 ⟨rfl, hb⟩
                     have HO6 : Hid (Owns w6 (F + 1) u5 acc) := Owns.below HO5.out hb
                     have HX6 : Hid (Box w6 F (.string A.house) (.slice a0 A.parts.length cap) (.bool A.asks) (.string A.ask)) := HX5.out.grown (grown_of_below none hb) (by simp)
                     have HS6 : Hid (IsStrs w6 a0 cap A.parts) := HS5.out.below hb
                     have HL6 : Hid (IsStrs w6 (some ⟨lb, lo, none⟩) m1 K) := HL5.out.below hb
                     have HB6 : Hid (Below w.heap.size w w6) := HB5.out.trans (hb.mono HB5.out.size)
                     have HSZ6 : Hid (w4.heap.size ≤ w6.heap.size) := Nat.le_trans HSZ5.out hb.size
                     clear hb c0 c1 c2 c3
                     have hbd6 : F + 1 ≤ w6.heap.size := by have := HX6.out.lt; omega
                     generalize textF C = tx at *
                     go_wp2_with fail
                     refine (put_any (F + 1) u5 acc tx _ HO6.out hbd6 (by omega)).mono ?_
                     rintro e w7 ⟨v7, rfl, hO7, hg7, hv7⟩
                     have HV7 : Hid (v7.ownBlock = some (F + 1) ∨ ∃ g, v7.ownBlock = some g ∧ w4.heap.size ≤ g) := by
                       rcases hv7 with h | ⟨g, h, hg⟩
                       · rw [h]; exact HV.out
                       · exact Or.inr ⟨g, h, Nat.le_trans HSZ6.out hg⟩
                     have HO7 : Hid (Owns w7 (F + 1) v7 (putL acc tx)) := hO7
                     have HX7 : Hid (Box w7 F (.string A.house) (.slice a0 A.parts.length cap) (.bool A.asks) (.string A.ask)) := box_grown_row HX6.out hg7 (by intro e; have := Owns.block HO6.out F e; omega)
                     have HS7 : Hid (IsStrs w7 a0 cap A.parts) := by
                       by_cases hne : A.parts = []
                       · rw [hne]; have := HS6.out; rw [hne] at this; exact ⟨this.1, this.2.1, this.2.2.1, fun h => absurd rfl h⟩
                       · refine strs_apart HS6.out hg7 fun a e => ?_
                         have h1 := HAP4.out a e hne
                         rcases HV.out with h | ⟨g, h, hg⟩
                         · rw [h]; intro e'; injection e' with e'; exact h1.1 e'.symm
                         · rw [h]; intro e'; injection e' with e'; omega
                     have HL7 : Hid (IsStrs w7 (some ⟨lb, lo, none⟩) m1 K) := by
                       refine strs_apart HL6.out hg7 fun a e => ?_
                       have h1 := HLO4.out a e (by intro e'; rw [e'] at hlt; simp at hlt)
                       rcases HV.out with h | ⟨g, h, hg⟩
                       · rw [h]; intro e'; injection e' with e'; omega
                       · rw [h]; intro e'; injection e' with e'; omega
                     have HB7 : Hid (Below w.heap.size w w7) := HB6.out.trans (grown_low w.heap.size hg7 (by omega) (fun k hk => by have := Owns.block HO6.out k hk; omega))
                     have HSZ7 : Hid (w4.heap.size ≤ w7.heap.size) := Nat.le_trans HSZ6.out hg7.size
                     clear hO7 hg7 hv7
                     go_wp2
                     go_roundw
                     case rel => exact ⟨k + 1, by omega, by go_num, by rw [HN.out]; exact HO7, HX7, HS7, HL7, HB7, HSZ7, HV7⟩
                     case measure => simp [intOf]; omega
                   · have HN : Hid (pageL A (K.take (k + 1)) = acc) := by show _ = _; rw [HSN.out]; unfold pageStep; rw [hj]
                     clear hj c0 c1 c2 c3
                     go_wp2
                     go_roundw
                     case rel => exact ⟨k + 1, by omega, by go_num, by rw [HN.out]; exact HO5, HX5, HS5, HL5, HB5, HSZ5, HV⟩
                     case measure => simp [intOf]; omega)
                | (have HBS : Hid (Below wr.heap.size wr (w5.alloc (.cells #[.string C.house, .slice x1 C.parts.length y1, .bool C.asks, .string C.ask] 28))) := HBD.out.alloc HBD.out.size _
                   have HSC : Hid (IsStrs (w5.alloc (.cells #[.string C.house, .slice x1 C.parts.length y1, .bool C.asks, .string C.ask] 28)) x1 y1 C.parts) := (Owns.strsOf HOC.out).keep (alloc_keep _ _)
                   have HXC : Hid (Box (w5.alloc (.cells #[.string C.house, .slice x1 C.parts.length y1, .bool C.asks, .string C.ask] 28)) w5.heap.size (.string C.house) (.slice x1 C.parts.length y1) (.bool C.asks) (.string C.ask)) := heap_new w5 _
                   have HO5 : Hid (Owns (w5.alloc (.cells #[.string C.house, .slice x1 C.parts.length y1, .bool C.asks, .string C.ask] 28)) (F + 1) u5 acc) := Owns.below HO.out HBS.out
                   have HX5 : Hid (Box (w5.alloc (.cells #[.string C.house, .slice x1 C.parts.length y1, .bool C.asks, .string C.ask] 28)) F (.string A.house) (.slice a0 A.parts.length cap) (.bool A.asks) (.string A.ask)) := HX.out.grown (grown_of_below none HBS.out) (by simp)
                   have HS5 : Hid (IsStrs (w5.alloc (.cells #[.string C.house, .slice x1 C.parts.length y1, .bool C.asks, .string C.ask] 28)) a0 cap A.parts) := HS.out.below HBS.out
                   have HL5 : Hid (IsStrs (w5.alloc (.cells #[.string C.house, .slice x1 C.parts.length y1, .bool C.asks, .string C.ask] 28)) (some ⟨lb, lo, none⟩) m1 K) := HL.out.below HBS.out
                   have HB5 : Hid (Below w.heap.size w (w5.alloc (.cells #[.string C.house, .slice x1 C.parts.length y1, .bool C.asks, .string C.ask] 28))) := HB.out.trans (HBS.out.mono HB.out.size)
                   have HSZ5 : Hid (w4.heap.size ≤ ((w5.alloc (.cells #[.string C.house, .slice x1 C.parts.length y1, .bool C.asks, .string C.ask] 28))).heap.size) := Nat.le_trans HSZ.out HBS.out.size
                   have hx := HXC.out
                   obtain ⟨⟨c0, c1, c2, c3⟩, _⟩ := hx.cells
                   clear hx
                   have hpa := HANS.out
                   rcases hpa with ⟨rfl, hj⟩ | ⟨rfl, hj, rfl⟩
                   · have HN : Hid (pageL A (K.take (k + 1)) = putL acc (textF C)) := by show _ = _; rw [HSN.out]; unfold pageStep; rw [hj]
                     have hCb : bulkA C ≤ 4194304 := Nat.le_trans (ok_sum (join_ok hj)).2 (by decide)
                     clear hj
                     go_wp2_with fail
                     refine (specAddrText_any C x1 y1 _ HSC.out hCb).mono ?_
                     rintro e w6 ⟨rfl, hb⟩
                     have HO6 : Hid (Owns w6 (F + 1) u5 acc) := Owns.below HO5.out hb
                     have HX6 : Hid (Box w6 F (.string A.house) (.slice a0 A.parts.length cap) (.bool A.asks) (.string A.ask)) := HX5.out.grown (grown_of_below none hb) (by simp)
                     have HS6 : Hid (IsStrs w6 a0 cap A.parts) := HS5.out.below hb
                     have HL6 : Hid (IsStrs w6 (some ⟨lb, lo, none⟩) m1 K) := HL5.out.below hb
                     have HB6 : Hid (Below w.heap.size w w6) := HB5.out.trans (hb.mono HB5.out.size)
                     have HSZ6 : Hid (w4.heap.size ≤ w6.heap.size) := Nat.le_trans HSZ5.out hb.size
                     clear hb c0 c1 c2 c3
                     have hbd6 : F + 1 ≤ w6.heap.size := by have := HX6.out.lt; omega
                     generalize textF C = tx at *
                     go_wp2_with fail
                     refine (put_any (F + 1) u5 acc tx _ HO6.out hbd6 (by omega)).mono ?_
                     rintro e w7 ⟨v7, rfl, hO7, hg7, hv7⟩
                     have HV7 : Hid (v7.ownBlock = some (F + 1) ∨ ∃ g, v7.ownBlock = some g ∧ w4.heap.size ≤ g) := by
                       rcases hv7 with h | ⟨g, h, hg⟩
                       · rw [h]; exact HV.out
                       · exact Or.inr ⟨g, h, Nat.le_trans HSZ6.out hg⟩
                     have HO7 : Hid (Owns w7 (F + 1) v7 (putL acc tx)) := hO7
                     have HX7 : Hid (Box w7 F (.string A.house) (.slice a0 A.parts.length cap) (.bool A.asks) (.string A.ask)) := box_grown_row HX6.out hg7 (by intro e; have := Owns.block HO6.out F e; omega)
                     have HS7 : Hid (IsStrs w7 a0 cap A.parts) := by
                       by_cases hne : A.parts = []
                       · rw [hne]; have := HS6.out; rw [hne] at this; exact ⟨this.1, this.2.1, this.2.2.1, fun h => absurd rfl h⟩
                       · refine strs_apart HS6.out hg7 fun a e => ?_
                         have h1 := HAP4.out a e hne
                         rcases HV.out with h | ⟨g, h, hg⟩
                         · rw [h]; intro e'; injection e' with e'; exact h1.1 e'.symm
                         · rw [h]; intro e'; injection e' with e'; omega
                     have HL7 : Hid (IsStrs w7 (some ⟨lb, lo, none⟩) m1 K) := by
                       refine strs_apart HL6.out hg7 fun a e => ?_
                       have h1 := HLO4.out a e (by intro e'; rw [e'] at hlt; simp at hlt)
                       rcases HV.out with h | ⟨g, h, hg⟩
                       · rw [h]; intro e'; injection e' with e'; omega
                       · rw [h]; intro e'; injection e' with e'; omega
                     have HB7 : Hid (Below w.heap.size w w7) := HB6.out.trans (grown_low w.heap.size hg7 (by omega) (fun k hk => by have := Owns.block HO6.out k hk; omega))
                     have HSZ7 : Hid (w4.heap.size ≤ w7.heap.size) := Nat.le_trans HSZ6.out hg7.size
                     clear hO7 hg7 hv7
                     go_wp2
                     go_roundw
                     case rel => exact ⟨k + 1, by omega, by go_num, by rw [HN.out]; exact HO7, HX7, HS7, HL7, HB7, HSZ7, HV7⟩
                     case measure => simp [intOf]; omega
                   · have HN : Hid (pageL A (K.take (k + 1)) = acc) := by show _ = _; rw [HSN.out]; unfold pageStep; rw [hj]
                     clear hj c0 c1 c2 c3
                     go_wp2
                     go_roundw
                     case rel => exact ⟨k + 1, by omega, by go_num, by rw [HN.out]; exact HO5, HX5, HS5, HL5, HB5, HSZ5, HV⟩
                     case measure => simp [intOf]; omega)
                | fail)

          · have HR : Hid (pageF A t = pageL A (K.take k)) := by show _ = _; rw [List.take_of_length_le (by omega)]; exact HF.out
            go_wp2
            go_ret
            exact ⟨_, rfl, by rw [HR.out]; exact Owns.mono HO.out (by omega), HB.out⟩
end Go.Proofs.YtcohaalgefcjnaaGreatDoor.PgA
/- Where one comes from an address of a world, of the model. -/
namespace Go.Proofs.YtcohaalgefcjnaaGreatDoor.Wd
open Go.RowKit Go.Proofs.YtcohaalgefcjnaaGreatDoor.EscM Go.Proofs.YtcohaalgefcjnaaGreatDoor.AddrM Go.Proofs.YtcohaalgefcjnaaGreatDoor.ReadM Go.Proofs.YtcohaalgefcjnaaGreatDoor.St Go.Proofs.YtcohaalgefcjnaaGreatDoor.EscL Go.Proofs.YtcohaalgefcjnaaGreatDoor.PathM Go.Proofs.YtcohaalgefcjnaaGreatDoor.Ad1 Go.Proofs.YtcohaalgefcjnaaGreatDoor.Rd1 Go.Proofs.YtcohaalgefcjnaaGreatDoor.LibM Go.Proofs.YtcohaalgefcjnaaGreatDoor.Im Go.Proofs.YtcohaalgefcjnaaGreatDoor.RdA Go.Proofs.YtcohaalgefcjnaaGreatDoor.MkA Go.Proofs.YtcohaalgefcjnaaGreatDoor.Mp Go.Proofs.YtcohaalgefcjnaaGreatDoor.WdM Go.Proofs.YtcohaalgefcjnaaGreatDoor.RR Go.Proofs.YtcohaalgefcjnaaGreatDoor.RoPg Go.Proofs.YtcohaalgefcjnaaGreatDoor.PgA Go.Proofs.YtcohaalgefcjnaaGreatDoor.RB

set_option maxRecDepth 100000 in
set_option maxHeartbeats 2000000 in
theorem specLast_any (a0 : Option Addr) (cap : Nat) (L : List Pg) (a : ByteArray) (w : World) (hI : IsRows FPg w a0 cap L) :
    Calls Tryz.prog 45 #[.slice a0 L.length cap, .string a] w fun e w' => e = .returned (.tuple #[.int .i64 (kindF L a 2).1, .string (kindF L a 2).2]) ∧ Below w.heap.size w w' := by
  have HG : Hid _ := specL11Get_any a0 cap L a 2 w hI
  generalize kindF L a 2 = R at *
  go_enter Tryz.func45, Tryz.ntmps45
  go_wp2_with fail
  refine Calls.mono HG.out ?_
  rintro e w1 ⟨rfl, hb⟩
  go_wp2
  go_ret2
  exact ⟨rfl, hb⟩

set_option maxRecDepth 100000 in
set_option maxHeartbeats 2000000 in
theorem specL11From_any (A : Ad) (s t : ByteArray) (k : Int) (w : World) (hr : readF s.data.toList = some A) (hs : s.size ≤ 4194304) (hB : bulkA A ≤ 1000) (ht : t.size ≤ 4194304) :
    Calls Tryz.prog 46 #[.string s, .int .i64 k, .string t] w fun e w' => ∃ v, e = .returned v ∧ Owns w' w.heap.size v (leadF A (k, t)) ∧ Below w.heap.size w w' := by
  by_cases h1 : k = 1
  · subst h1
    rw [lead_one]
    have HRD : Hid _ := specRead_any s w hs
    rw [hr] at HRD
    clear hr
    go_enter Tryz.func46, Tryz.ntmps46
    go_wp2_with fail
    refine Calls.mono HRD.out ?_
    rintro e w1 ⟨B, ok, a1, c1, rfl, hans, hO, hb1⟩
    have hAB : B = A := by
      rcases hans with ⟨_, h⟩ | ⟨_, h, _⟩
      · injection h with h; exact h.symm
      · cases h
    subst hAB
    have HB1 : Hid (Below w.heap.size w w1) := hb1
    have HS1 : Hid (IsStrs w1 a1 c1 B.parts) := hO.strsOf
    clear hans hO hb1 HRD
    go_wp2_with fail
    refine (specPage_any B t a1 c1 _ (HS1.out.keep (alloc_keep _ _)) hB ht).mono ?_
    rintro e w2 ⟨v, rfl, hO, hb⟩
    have HB2 : Hid (Below w.heap.size w w2) := (HB1.out.alloc HB1.out.size _).trans (hb.mono (by simp; exact Nat.le_succ_of_le HB1.out.size))
    have HO2 : Hid (Owns w2 w.heap.size v (pageF B t)) := Owns.mono hO (by simp; exact Nat.le_succ_of_le HB1.out.size)
    clear hO hb
    go_wp2
    go_ret
    exact ⟨_, rfl, HO2.out, HB2.out⟩
  · clear hr
    by_cases h2 : k = 2
    · subst h2
      rw [lead_two]
      go_enter Tryz.func46, Tryz.ntmps46
      go_wp2
      go_ret
      exact ⟨_, rfl, lit_one w w.heap.size t (Nat.le_refl _), (Below.refl _ w).alloc (Nat.le_refl _) _⟩
    · rw [lead_no h1 h2]
      have hk1 : (k == 1) = false := by simpa using h1
      have hk2 : (k == 2) = false := by simpa using h2
      go_enter Tryz.func46, Tryz.ntmps46
      go_wp2
      go_ret
      exact ⟨_, rfl, Owns.empty _ _ (Nat.le_refl _), (Below.refl _ w).alloc (Nat.le_refl _) _⟩

set_option maxRecDepth 100000 in
set_option maxHeartbeats 2000000 in
theorem specFrom_any (a0 : Option Addr) (cap : Nat) (L : List Pg) (a : ByteArray) (w : World) (hI : IsRows FPg w a0 cap L) (hz : PgSz L) (hs : a.size ≤ 4194304) :
    Calls Tryz.prog 20 #[.slice a0 L.length cap, .string a] w fun e w' => ∃ v, e = .returned v ∧ Owns w' w.heap.size v (fromW L a) ∧ Below w.heap.size w w' := by
  have HI : Hid (IsRows FPg w a0 cap L) := hI
  have HWO : Hid _ := specWorldOk_any a0 cap L w hI hz
  have HNO : Hid _ := fun W => specNorm_any a W hs
  have HLA : Hid _ := fun W hW => specLast_any a0 cap L a W hW
  have HBD : Hid (wOk L = false → fromW L a = []) := fun h => fromW_bad h
  have HNN : Hid (normT a = false → fromW L a = []) := fun h => fromW_none (by rw [normT_eq] at h; cases hn : normA a with | none => rfl | some _ => rw [hn] at h; cases h)
  have HOK : Hid (wOk L = true → normT a = true → ∃ A, readF a.data.toList = some A ∧ bulkA A ≤ 1000 ∧ fromW L a = leadF A (kindF L a 2)) := fun h h2 => by
    rw [normT_eq] at h2
    cases hn : normA a with
    | none => rw [hn] at h2; cases h2
    | some A =>
      obtain ⟨h3, _⟩ := norm_some hn
      exact ⟨A, h3, read_le h3, fromW_ok h hn⟩
  have HKT : Hid _ := kind_text hz a 2
  clear hI hz
  generalize normT a = N at *
  generalize fromW L a = R at *
  generalize kindF L a 2 = K at *
  go_enter Tryz.func20, Tryz.ntmps20
  go_wp2_with fail
  refine Calls.mono HWO.out ?_
  rintro e w1 ⟨rfl, hb1⟩
  have HB1 : Hid (Below w.heap.size w w1) := hb1
  clear hb1 HWO
  cases hw : wOk L with
  | false =>
    have HR : Hid (R = []) := HBD.out hw
    clear hw HBD HNN HOK
    go_wp2
    go_ret
    exact ⟨_, rfl, by rw [HR.out]; exact Owns.empty _ _ HB1.out.size, HB1.out.alloc HB1.out.size _⟩
  | true =>
    have HW : Hid (wOk L = true) := hw
    clear hw HBD
    go_wp2_with fail
    refine (HNO.out _).mono ?_
    rintro e w2 ⟨rfl, hb2⟩
    have HB2 : Hid (Below w.heap.size w w2) := HB1.out.trans (hb2.mono HB1.out.size)
    clear hb2 HB1
    cases hn : N with
    | false =>
      have HR : Hid (R = []) := HNN.out hn
      clear hn HNN HOK
      go_wp2
      go_ret
      exact ⟨_, rfl, by rw [HR.out]; exact Owns.empty _ _ HB2.out.size, HB2.out.alloc HB2.out.size _⟩
    | true =>
      obtain ⟨A, h1, h2, h3⟩ := HOK.out HW.out hn
      have HRD : Hid (readF a.data.toList = some A) := h1
      have HR : Hid (R = leadF A K) := h3
      clear hn HNN HOK h1 h3
      go_wp2_with fail
      refine (HLA.out _ (HI.out.below HB2.out)).mono ?_
      rintro e w3 ⟨rfl, hb3⟩
      have HB3 : Hid (Below w.heap.size w w3) := HB2.out.trans (hb3.mono HB2.out.size)
      clear hb3 HB2
      go_wp2_with fail
      refine (specL11From_any A a K.2 K.1 _ HRD.out hs h2 HKT.out).mono ?_
      rintro e w4 ⟨v, rfl, hO, hb4⟩
      have HB4 : Hid (Below w.heap.size w w4) := HB3.out.trans (hb4.mono HB3.out.size)
      have HO4 : Hid (Owns w4 w.heap.size v R) := by show Owns _ _ _ _; rw [HR.out]; exact Owns.mono hO HB3.out.size
      clear hO hb4
      go_wp2
      go_ret
      exact ⟨_, rfl, HO4.out, HB4.out⟩
end Go.Proofs.YtcohaalgefcjnaaGreatDoor.Wd
/- What holds of where pages lead: mathematics; once, within. -/
namespace Go.Proofs.YtcohaalgefcjnaaGreatDoor.PgA
open Go.RowKit Go.Proofs.YtcohaalgefcjnaaGreatDoor.EscM Go.Proofs.YtcohaalgefcjnaaGreatDoor.St Go.Proofs.YtcohaalgefcjnaaGreatDoor.AddrM Go.Proofs.YtcohaalgefcjnaaGreatDoor.ReadM Go.Proofs.YtcohaalgefcjnaaGreatDoor.EscL Go.Proofs.YtcohaalgefcjnaaGreatDoor.Ad1 Go.Proofs.YtcohaalgefcjnaaGreatDoor.Dr Go.Proofs.YtcohaalgefcjnaaGreatDoor.Im Go.Proofs.YtcohaalgefcjnaaGreatDoor.Rd1 Go.Proofs.YtcohaalgefcjnaaGreatDoor.Door Go.Proofs.YtcohaalgefcjnaaGreatDoor.JnM Go.Proofs.YtcohaalgefcjnaaGreatDoor.Jn Go.Proofs.YtcohaalgefcjnaaGreatDoor.PgM Go.Proofs.YtcohaalgefcjnaaGreatDoor.RB

theorem put_mem {L : List ByteArray} {x y : ByteArray} : y ∈ putL L x ↔ y ∈ L ∨ y = x := by
  unfold putL
  cases h : hasB x L with
  | true =>
    rw [if_pos rfl]
    constructor
    · exact Or.inl
    · rintro (h' | rfl)
      · exact h'
      · exact hasB_iff.1 h
  | false => simp
theorem put_nodup {L : List ByteArray} {x : ByteArray} (h : L.Nodup) : (putL L x).Nodup := by
  unfold putL
  cases hh : hasB x L with
  | true => exact h
  | false =>
    show (L ++ [x]).Nodup
    rw [List.nodup_append]
    refine ⟨h, by simp, ?_⟩
    intro a ha b hb
    simp at hb; subst hb
    rintro rfl
    exact hasB_no.1 hh ha
/-- each is where a link leads -/
theorem fold_each (B : Ad) : ∀ (L acc : List ByteArray), (∀ y ∈ L.foldl (pageStep B) acc, y ∈ acc ∨ ∃ l ∈ L, ∃ C, joinF B l.data.toList = some C ∧ y = textF C) ∧ (acc.Nodup → (L.foldl (pageStep B) acc).Nodup) ∧ (∀ y ∈ acc, y ∈ L.foldl (pageStep B) acc) ∧ (∀ l ∈ L, ∀ C, joinF B l.data.toList = some C → textF C ∈ L.foldl (pageStep B) acc) := by
  intro L
  induction L with
  | nil => intro acc; exact ⟨fun y hy => Or.inl hy, fun h => h, fun y hy => hy, fun l hl => by cases hl⟩
  | cons x L ih =>
    intro acc
    obtain ⟨i1, i2, i3, i4⟩ := ih (pageStep B acc x)
    have hs : ∀ y, y ∈ pageStep B acc x → y ∈ acc ∨ ∃ C, joinF B x.data.toList = some C ∧ y = textF C := by
      intro y hy
      unfold pageStep at hy
      cases hj : joinF B x.data.toList with
      | none => rw [hj] at hy; exact Or.inl hy
      | some C =>
        rw [hj] at hy
        rcases put_mem.1 hy with h | h
        · exact Or.inl h
        · exact Or.inr ⟨C, rfl, h⟩
    have hk : ∀ y ∈ acc, y ∈ pageStep B acc x := by
      intro y hy
      unfold pageStep
      split
      · exact put_mem.2 (Or.inl hy)
      · exact hy
    refine ⟨?_, ?_, ?_, ?_⟩
    · intro y hy
      rcases i1 y hy with h | ⟨l, hl, C, h1, h2⟩
      · rcases hs y h with h | ⟨C, h1, h2⟩
        · exact Or.inl h
        · exact Or.inr ⟨x, by simp, C, h1, h2⟩
      · exact Or.inr ⟨l, by simp [hl], C, h1, h2⟩
    · intro h
      apply i2
      unfold pageStep
      split
      · exact put_nodup h
      · exact h
    · intro y hy; exact i3 y (hk y hy)
    · intro l hl C hC
      rcases List.mem_cons.1 hl with rfl | hl
      · apply i3
        unfold pageStep; rw [hC]; exact put_mem.2 (Or.inr rfl)
      · exact i4 l hl C hC
theorem page_each {A : Ad} {t : ByteArray} {y : ByteArray} (h : y ∈ pageF A t) : ∃ C, okB C = true ∧ y = textF C := by
  unfold pageF at h
  split at h
  · rcases (fold_each _ _ []).1 y h with h | ⟨l, _, C, h1, h2⟩
    · cases h
    · exact ⟨C, join_ok h1, h2⟩
  · cases h
theorem page_nodup (A : Ad) (t : ByteArray) : (pageF A t).Nodup := by
  unfold pageF
  split
  · exact (fold_each _ _ []).2.1 (by simp)
  · simp
theorem page_len (A : Ad) (t : ByteArray) : (pageF A t).length ≤ 300 := by
  unfold pageF
  split
  · have := pageL_len (fromF A t) (linksF t) []
    have h2 := links_len t
    unfold pageL
    simp at this; omega
  · simp

theorem once_take {L : List ByteArray} (h : L.Nodup) {k : Nat} (hk : k < L.length) : hasB L[k] (L.take k) = false := by
  apply hasB_no.2
  intro hm
  obtain ⟨i, hi, e⟩ := List.getElem_of_mem hm
  have hi' : i < k := by simp at hi; omega
  rw [List.getElem_take] at e
  have := (List.pairwise_iff_getElem.1 h) i k (by omega) hk hi'
  exact this e
theorem has_n (a0 : Option Addr) (cap n : Nat) (A : List ByteArray) (x : ByteArray) (w : World) (hn : A.length = n) (hA : IsStrs w a0 cap A) (hl : n ≤ 4194304) :
    Calls Tryz.prog 51 #[.slice a0 n cap, .string x] w fun e w' => e = .returned (.bool (hasB x A)) ∧ w' = w := by
  subst hn; exact has_any a0 cap A x w hA hl
set_option maxRecDepth 100000 in
set_option maxHeartbeats 1600000 in
theorem once_any (a0 : Option Addr) (cap : Nat) (L : List ByteArray) (w : World) (hA : IsStrs w a0 cap L) (hl : L.length ≤ 4194304) (hn : L.Nodup) :
    Calls Tryz.prog 22 #[.slice a0 L.length cap] w fun e w' => e = .returned (.bool true) ∧ ∃ n, w' = w.drewN n := by
  have HA : Hid (IsStrs w a0 cap L) := hA
  have HN : Hid _ := hn
  have hcp := hA.1
  have hcm := hA.2.1
  unfold maxLen at hcm
  clear hA hn
  go_enter Tryz.func22, Tryz.ntmps22
  go_wp2
  go_loopw [3] (fun i wr => ∃ k : Nat, k ≤ L.length ∧ i = .int .i64 (k : Int) ∧ Hid (∃ n, wr = w.drewN n)) (fun i _ => L.length - (intOf i).toNat)
  case atStart => exact ⟨0, Nat.zero_le _, rfl, ⟨0, rfl⟩⟩
  case round =>
    obtain ⟨k, hk, rfl, HW⟩ := hrel
    by_cases hlt : k < L.length
    · have hpw := HW.out
      obtain ⟨n, hn⟩ := hpw
      have hAr : IsStrs wr a0 cap L := by rw [hn]; exact IsStrs.drewN HA.out n
      obtain ⟨b1, o1, e1, c1⟩ := hAr.at hlt
      have HAr : Hid (IsStrs wr a0 cap (L.take k)) := hAr.cut k
      have HO : Hid _ := once_take HN.out hlt
      have hlk : (L.take k).length = k := by simp; omega
      have HLK : Hid _ := hlk
      clear hn hAr hlk
      subst e1
      have hkc : (k : Int) ≤ (cap : Int) := by omega
      have HPW : Hid (∃ n, wr.drew = w.drewN n) := by
        obtain ⟨n, hn⟩ := HW.out
        exact ⟨n + 1, by rw [hn]; rfl⟩
      go_wp2
      go_region_with (go_at_call 51; refine (has_n (some ⟨b1, o1, none⟩) cap k (L.take k) L[k] wr.drew HLK.out (IsStrs.keep HAr.out fun _ _ => rfl) (by omega)).mono ?_; rintro e w1 ⟨rfl, rfl⟩; rw [HO.out])
      all_goals
        go_wp2
        go_roundw
        case rel => exact ⟨k + 1, by omega, by go_num, HPW⟩
        case measure => simp [intOf]; omega
    · go_wp2
      go_ret
      exact ⟨rfl, HW.out⟩
end Go.Proofs.YtcohaalgefcjnaaGreatDoor.PgA
/- Where one comes from an address of a world: what holds of it. -/
namespace Go.Proofs.YtcohaalgefcjnaaGreatDoor.Wd
open Go.RowKit Go.Proofs.YtcohaalgefcjnaaGreatDoor.EscM Go.Proofs.YtcohaalgefcjnaaGreatDoor.AddrM Go.Proofs.YtcohaalgefcjnaaGreatDoor.ReadM Go.Proofs.YtcohaalgefcjnaaGreatDoor.St Go.Proofs.YtcohaalgefcjnaaGreatDoor.EscL Go.Proofs.YtcohaalgefcjnaaGreatDoor.PathM Go.Proofs.YtcohaalgefcjnaaGreatDoor.Ad1 Go.Proofs.YtcohaalgefcjnaaGreatDoor.Rd1 Go.Proofs.YtcohaalgefcjnaaGreatDoor.LibM Go.Proofs.YtcohaalgefcjnaaGreatDoor.Im Go.Proofs.YtcohaalgefcjnaaGreatDoor.RdA Go.Proofs.YtcohaalgefcjnaaGreatDoor.WdM Go.Proofs.YtcohaalgefcjnaaGreatDoor.RR Go.Proofs.YtcohaalgefcjnaaGreatDoor.RoPg Go.Proofs.YtcohaalgefcjnaaGreatDoor.PgA Go.Proofs.YtcohaalgefcjnaaGreatDoor.RB

theorem ok_mem {L : List Pg} (h : wOk L = true) {p : Pg} (hp : p ∈ L) : pgB p = true := by
  obtain ⟨i, hi, rfl⟩ := List.getElem_of_mem hp
  exact (((wOk_iff L).1 h).1 i hi).1
theorem found_norm {L : List Pg} {s : ByteArray} (h : wOk L = true) {p : Pg} (hf : L.find? (sameA s) = some p) : normT s = true := by
  have hp := ok_mem h (List.mem_of_find?_eq_some hf)
  have hs : sameA s p = true := by simpa using List.find?_some hf
  have he : p.addr.toList = s.toList := eq_of_beq hs
  have he2 : p.addr = s := by
    rw [ByteArray.toList_eq, ByteArray.toList_eq] at he
    exact ByteArray.ext (Array.ext' he)
  unfold pgB at hp
  simp only [Bool.and_eq_true] at hp
  rw [← he2]
  exact hp.1.1.1
theorem lead_norm {p : Pg} (h : pgB p = true) (h2 : p.lead.toList.isEmpty = false) : normT p.lead = true := by
  unfold pgB at h
  simp only [Bool.and_eq_true, Bool.or_eq_true] at h
  rcases h.2 with h | h
  · rw [h] at h2; cases h2
  · exact h.2
theorem kind_three {L : List Pg} {s : ByteArray} (h : wOk L = true) :
    ((kindF L s 2).1 = 1 ∧ ∃ A, readF s.data.toList = some A ∧ bulkA A ≤ 1000 ∧ fromW L s = pageF A (kindF L s 2).2) ∨ ((kindF L s 2).1 = 2 ∧ fromW L s = [(kindF L s 2).2]) ∨ ((¬ (kindF L s 2).1 = 1) ∧ (¬ (kindF L s 2).1 = 2) ∧ fromW L s = []) := by
  cases hn : normA s with
  | none =>
    refine Or.inr (Or.inr ?_)
    have hk : kindF L s 2 = (0, ⟨#[]⟩) := by
      unfold kindF
      cases hf : L.find? (sameA s) with
      | none => rfl
      | some p =>
        have := found_norm h hf
        rw [normT_eq, hn] at this; cases this
    rw [hk]
    exact ⟨by decide, by decide, fromW_none hn⟩
  | some A =>
    obtain ⟨h3, _⟩ := norm_some hn
    rw [fromW_ok h hn]
    by_cases h1 : (kindF L s 2).1 = 1
    · exact Or.inl ⟨h1, A, h3, read_le h3, by unfold leadF; rw [if_pos h1]⟩
    · by_cases h2 : (kindF L s 2).1 = 2
      · exact Or.inr (Or.inl ⟨h2, by unfold leadF; rw [if_neg h1, if_pos h2]⟩)
      · exact Or.inr (Or.inr ⟨h1, h2, by unfold leadF; rw [if_neg h1, if_neg h2]⟩)
theorem kind_lead {L : List Pg} {s : ByteArray} (h : wOk L = true) (h2 : (kindF L s 2).1 = 2) : normT (kindF L s 2).2 = true := by
  unfold kindF at h2 ⊢
  cases hf : L.find? (sameA s) with
  | none => rw [hf] at h2; cases h2
  | some p =>
    rw [hf] at h2
    have hp := ok_mem h (List.mem_of_find?_eq_some hf)
    dsimp only at h2 ⊢
    by_cases h0 : (2 : Int) < p.fails
    · rw [if_pos h0] at h2; cases h2
    · rw [if_neg h0] at h2 ⊢
      cases hl : p.lead.toList.isEmpty with
      | true => rw [hl] at h2; cases h2
      | false => exact lead_norm hp hl
/-- what is led to is an address, as it is written -/
theorem from_each {L : List Pg} {s y : ByteArray} (hy : y ∈ fromW L s) : ∃ C, readF y.data.toList = some C ∧ textF C = y ∧ bulkA C ≤ 1000 ∧ y.size ≤ 60 := by
  cases hw : wOk L with
  | false => rw [fromW_bad hw] at hy; cases hy
  | true =>
    rcases kind_three (s := s) hw with ⟨_, A, _, _, h3⟩ | ⟨h1, h3⟩ | ⟨_, _, h3⟩
    · rw [h3] at hy
      obtain ⟨C, hC, rfl⟩ := page_each hy
      refine ⟨C, ?_, rfl, (Door.ok_sum hC).2, Dr.textF_size C⟩
      rw [Door.text_data hC]; exact read_back hC
    · rw [h3] at hy
      simp only [List.mem_singleton] at hy
      have hn := kind_lead hw h1
      rw [← hy] at hn
      have hz := norm_short hn
      rw [normT_eq] at hn
      cases hc : normA y with
      | none => rw [hc] at hn; cases hn
      | some C =>
        obtain ⟨h4, h5⟩ := norm_some hc
        exact ⟨C, h4, h5, read_le h4, hz⟩
    · rw [h3] at hy; cases hy
theorem from_nodup (L : List Pg) (s : ByteArray) : (fromW L s).Nodup := by
  cases hw : wOk L with
  | false => rw [fromW_bad hw]; exact List.nodup_nil
  | true =>
    rcases kind_three (s := s) hw with ⟨_, A, _, _, h3⟩ | ⟨_, h3⟩ | ⟨_, _, h3⟩
    · rw [h3]; exact page_nodup _ _
    · rw [h3]; exact List.nodup_cons.2 ⟨(fun h => nomatch h), List.nodup_nil⟩
    · rw [h3]; exact List.nodup_nil
theorem from_len (L : List Pg) (s : ByteArray) : (fromW L s).length ≤ 300 := by
  cases hw : wOk L with
  | false => rw [fromW_bad hw]; exact Nat.zero_le _
  | true =>
    rcases kind_three (s := s) hw with ⟨_, A, _, _, h3⟩ | ⟨_, h3⟩ | ⟨_, _, h3⟩
    · rw [h3]; exact page_len _ _
    · rw [h3]; show 1 ≤ 300; omega
    · rw [h3]; exact Nat.zero_le _
end Go.Proofs.YtcohaalgefcjnaaGreatDoor.Wd
