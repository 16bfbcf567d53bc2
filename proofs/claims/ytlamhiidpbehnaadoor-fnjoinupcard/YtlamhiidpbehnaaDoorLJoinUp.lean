/- FnJoinUp: for every code, from the address drawn of it, if it is ok, a dot leads to what is above its last part, two dots one up, and a stroke to the door. The card ties two tables of unicode/utf8 to the program's text; no other condition. -/
import Derived.Test.YtlamhiidpbehnaaDoorRows
import Derived.WalkKit
import Derived.ProofKit
import Derived.OpenShut
import Derived.ShutString
import Derived.ChangeOld
import Derived.Below
import Derived.Test.YtlamhiidpbehnaaDoorCards
import Derived.Test.YtlamhiidpbehnaaDoorTie
import Derived.Test.YtlamhiidpbehnaaDoorDraw10
import Derived.Lay
import Derived.LaidOnce
import Derived.SevenTiedAt
import Derived.Deep.RegionHeldLaw
namespace Go.Proofs.YtlamhiidpbehnaaDoor.fnJoinUp
open Go.ChangeShapes Go.WideShapes Go.ChangeAt Go.RowKit
open Go.ChangeMaps (open_string shut_string)
set_option linter.unusedVariables false
open Go.Proofs.YtlamhiidpbehnaaDoor.EscM Go.Proofs.YtlamhiidpbehnaaDoor.St Go.Proofs.YtlamhiidpbehnaaDoor.AddrM Go.Proofs.YtlamhiidpbehnaaDoor.ReadM Go.Proofs.YtlamhiidpbehnaaDoor.EscL Go.Proofs.YtlamhiidpbehnaaDoor.Ad1 Go.Proofs.YtlamhiidpbehnaaDoor.Dr Go.Proofs.YtlamhiidpbehnaaDoor.Tw Go.Proofs.YtlamhiidpbehnaaDoor.RB Go.Proofs.YtlamhiidpbehnaaDoor.Im Go.Proofs.YtlamhiidpbehnaaDoor.Rd1 Go.Proofs.YtlamhiidpbehnaaDoor.Door Go.Proofs.YtlamhiidpbehnaaDoor.JnM Go.Proofs.YtlamhiidpbehnaaDoor.Jn

theorem beside_gen {P : Ad} (h : okB P = true) (l : List UInt8) (hl : ¬ 60 < l.length) (hc : (cutL 35 l).1 = l) (h2 : ¬ l.take 2 = [47, 47]) (h0 : ¬ l = []) (h47 : ¬ l.head? = some 47) (h63 : ¬ l.head? = some 63) (hq : cutL 63 l = (l, [], false)) (N : List ByteArray) (hn : normS (splitS 47 (bs l)) = some N) :
    joinF P l = if okB ⟨P.house, PathM.cleanL (P.parts.dropLast ++ N), false, ⟨#[]⟩⟩ then some ⟨P.house, PathM.cleanL (P.parts.dropLast ++ N), false, ⟨#[]⟩⟩ else none := by
  rw [join_go h hl, hc, go_beside h2 h0 h47 h63, way_cut hq, hn]
  have e3 : escB (bs []) = true := by decide +kernel
  have e4 : escS (bs []) = ⟨#[]⟩ := by decide +kernel
  simp only [e3, e4, if_true]
theorem good_parts {P : Ad} (h : okB P = true) : ∀ p ∈ P.parts.dropLast, PathM.good p := by
  obtain ⟨_, _, h3, _, _, _⟩ := ok_parts h
  exact fun p hp => (part_norm' (List.all_eq_true.1 h3 p ((List.dropLast_sublist _).subset hp))).2
theorem joinL_drop : ∀ L : List ByteArray, (joinL L.dropLast).length ≤ (joinL L).length := by
  intro L
  by_cases hL : L = []
  · subst hL; exact Nat.le_refl _
  · have e := List.dropLast_concat_getLast hL
    by_cases hD : L.dropLast = []
    · rw [hD]; simp [joinL]
    · conv => rhs; rw [← e]
      rw [joinL_snoc _ _ hD]; simp
theorem ok_less {P : Ad} (h : okB P = true) {D : List ByteArray} (hl : D.length ≤ P.parts.length) (hm : ∀ p ∈ D, p ∈ P.parts) (hj : (joinL D).length ≤ (joinL P.parts).length) : okB ⟨P.house, D, false, ⟨#[]⟩⟩ = true := by
  have h0 := h
  unfold okB at h ⊢
  simp only [Bool.and_eq_true, decide_eq_true_eq] at h ⊢
  obtain ⟨⟨⟨⟨⟨h1, h2⟩, h3⟩, _⟩, _⟩, h6⟩ := h
  refine ⟨⟨⟨⟨⟨h1, by omega⟩, ?_⟩, ?_⟩, by decide +kernel⟩, ?_⟩
  · rw [List.all_eq_true]; exact fun p hp => List.all_eq_true.1 h3 p (hm p hp)
  · simp [ByteArray.toList_eq]
  · unfold textL pathL at h6 ⊢
    simp only [List.length_cons, List.length_append] at h6 ⊢
    rw [if_neg (by decide)]
    simp only [List.length_nil]
    omega
theorem ok_one {P : Ad} (h : okB P = true) : okB ⟨P.house, P.parts.dropLast, false, ⟨#[]⟩⟩ = true := ok_less h (by simp) (fun p hp => (List.dropLast_sublist _).subset hp) (joinL_drop _)
theorem ok_two {P : Ad} (h : okB P = true) : okB ⟨P.house, P.parts.dropLast.dropLast, false, ⟨#[]⟩⟩ = true := ok_less h (by simp; omega) (fun p hp => (List.dropLast_sublist _).subset ((List.dropLast_sublist _).subset hp)) (Nat.le_trans (joinL_drop _) (joinL_drop _))
theorem ok_door {P : Ad} (h : okB P = true) : okB ⟨P.house, [], false, ⟨#[]⟩⟩ = true := ok_less h (by simp) (fun p hp => by cases hp) (by simp [joinL])
theorem lp_n (A B : Ad) (a0 : Option Addr) (cap : Nat) (b0 : Option Addr) (dap n : Nat) (w : World) (hn : B.parts.length = n) (hA : IsStrs w a0 cap A.parts) (hB : IsStrs w b0 dap B.parts) (hl : A.parts.length ≤ 4194304) (hl2 : n ≤ 4194304) (he : A = B) :
    Calls Tryd.prog 9 #[.agg #[.string A.house, .slice a0 A.parts.length cap, .bool A.asks, .string A.ask], .agg #[.string B.house, .slice b0 n dap, .bool B.asks, .string B.ask]] w fun e w' => e = .returned (.bool true) ∧ Below w.heap.size w w' := by
  subst hn
  refine (lpAddr_any A B a0 cap b0 dap w hA hB hl hl2).mono ?_
  rintro e w1 ⟨rfl, hb⟩
  exact ⟨by rw [he, same_self], hb⟩
theorem sees {w w' : World} {F K7 K8 K9 : Nat} {P B7 B8 B9 : Ad} {pa : Option Addr} {q1 : Nat} {x7 x8 x9 : Option Addr} {y7 y8 y9 : Nat} (hp : At w w' F P pa q1) (h7 : At w w' K7 B7 x7 y7) (h8 : At w w' K8 B8 x8 y8) (h9 : At w w' K9 B9 x9 y9) : w'.cell? ⟨F, 0, none⟩ = some (.string P.house) ∧ w'.cell? ⟨F, 1, none⟩ = some (.slice pa P.parts.length q1) ∧ w'.cell? ⟨K7, 0, none⟩ = some (.string B7.house) ∧ w'.cell? ⟨K7, 1, none⟩ = some (.slice x7 B7.parts.length y7) ∧ w'.cell? ⟨K7, 2, none⟩ = some (.bool B7.asks) ∧ w'.cell? ⟨K7, 3, none⟩ = some (.string B7.ask) ∧ w'.cell? ⟨K8, 0, none⟩ = some (.string B8.house) ∧ w'.cell? ⟨K8, 1, none⟩ = some (.slice x8 B8.parts.length y8) ∧ w'.cell? ⟨K8, 2, none⟩ = some (.bool B8.asks) ∧ w'.cell? ⟨K8, 3, none⟩ = some (.string B8.ask) ∧ w'.cell? ⟨K9, 0, none⟩ = some (.string B9.house) ∧ w'.cell? ⟨K9, 1, none⟩ = some (.slice x9 B9.parts.length y9) ∧ w'.cell? ⟨K9, 2, none⟩ = some (.bool B9.asks) ∧ w'.cell? ⟨K9, 3, none⟩ = some (.string B9.ask) :=
  ⟨hp.cells.1, hp.cells.2.1, h7.cells.1, h7.cells.2.1, h7.cells.2.2.1, h7.cells.2.2.2, h8.cells.1, h8.cells.2.1, h8.cells.2.2.1, h8.cells.2.2.2, h9.cells.1, h9.cells.2.1, h9.cells.2.2.1, h9.cells.2.2.2⟩
theorem join_dot {P : Ad} (h : okB P = true) : joinF P (⟨#[46]⟩ : ByteArray).data.toList = some ⟨P.house, P.parts.dropLast, false, ⟨#[]⟩⟩ := by
  have e := beside_gen h [46] (by decide) (by decide) (by decide) (by decide) (by decide) (by decide) (by decide) [⟨#[46]⟩] (by decide +kernel)
  have ec : PathM.cleanL (P.parts.dropLast ++ [⟨#[46]⟩]) = P.parts.dropLast := by rw [PathM.clean_snoc, PathM.clean_same _ (good_parts h), PathM.do_dot]
  rw [ec, ok_one h] at e
  exact e
theorem join_up {P : Ad} (h : okB P = true) : joinF P (⟨#[46, 46]⟩ : ByteArray).data.toList = some ⟨P.house, P.parts.dropLast.dropLast, false, ⟨#[]⟩⟩ := by
  have e := beside_gen h [46, 46] (by decide) (by decide) (by decide) (by decide) (by decide) (by decide) (by decide) [⟨#[46, 46]⟩] (by decide +kernel)
  have ec : PathM.cleanL (P.parts.dropLast ++ [⟨#[46, 46]⟩]) = P.parts.dropLast.dropLast := by rw [PathM.clean_snoc, PathM.clean_same _ (good_parts h), PathM.do_up]
  rw [ec, ok_two h] at e
  exact e
theorem join_door {P : Ad} (h : okB P = true) : joinF P (⟨#[47]⟩ : ByteArray).data.toList = some ⟨P.house, [], false, ⟨#[]⟩⟩ := by
  show joinF P [47] = _
  rw [join_go h (by decide)]
  have e : (cutL 35 [47]).1 = [47] := by decide
  rw [e, go_door (by decide) rfl, way_cut (show cutL 63 [47] = ([47], [], false) by decide)]
  have en : normS (splitS 47 (bs [47])) = some [⟨#[]⟩, ⟨#[]⟩] := by decide +kernel
  rw [en]
  have e3 : escB (bs []) = true := by decide +kernel
  have e4 : escS (bs []) = ⟨#[]⟩ := by decide +kernel
  have ec : PathM.cleanL ([] ++ [(⟨#[]⟩ : ByteArray), ⟨#[]⟩]) = [] := by decide +kernel
  simp only [e3, e4, if_true, ec]
  rw [ok_door h]; rfl

set_option maxRecDepth 100000 in
set_option maxHeartbeats 25600000 in
theorem walk (a0 : Option Addr) (len0 cap0 : Nat) (z0 : List Int) (w : World) (w0 : Dr.IsRow .u8 w a0 len0 cap0 z0) (hL : laidMetH Tryd.prog Rows.fnJoinUpRow.laid w) (hsh : w.ShapedOpen Tryd.prog) :
    Calls Tryd.prog 4 #[.slice a0 len0 cap0] w fun e w' => e = .returned (.bool true) ∧ Below w.heap.size w w' := by
  have HM : Hid (Mx w) := mx_of hsh
  clear hsh hL
  by_cases hlong : (1048576 : Int) < len0
  · go_enter Tryd.func4, Tryd.ntmps4
    go_wp2
    go_ret
    exact ⟨rfl, Below.refl _ _⟩
  · go_enter Tryd.func4, Tryd.ntmps4
    go_wp2_with fail
    refine (Dr.drawJoin_any a0 len0 cap0 z0 w w0).mono ?_
    rintro e w1 ⟨P, p1, q1, ref, rfl, hO1, hbk, hrs, hra, hb1⟩
    have HA : Hid (ascii ref) := ascii_of hra
    have HP1 : Hid (At w (w1.alloc (.cells #[.string P.house, .slice p1 P.parts.length q1, .bool P.asks, .string P.ask] 25)) w1.heap.size P p1 q1) := At.new hO1 (Nat.le_refl _)
    have HB1 : Hid (Below w.heap.size w (w1.alloc (.cells #[.string P.house, .slice p1 P.parts.length q1, .bool P.asks, .string P.ask] 25))) := hb1.alloc hb1.size _
    have hbk4 : bulkA P ≤ 4194304 := by omega
    have hpl4 : P.parts.length ≤ 4194304 := by have := bulkA_bd P; omega
    obtain ⟨F, hF⟩ : ∃ F, w1.heap.size = F := ⟨_, rfl⟩
    rw [hF] at HP1
    clear hO1 hb1 hra
    go_wp2_with fail
    refine (specJoin_any P ref p1 q1 _ HP1.out.strs hbk hrs).mono ?_
    rintro e w2 ⟨A, told, a1, c1, rfl, hans, hO2, hb2⟩
    have HANS : Hid (Ans (joinF P ref.data.toList) A told) := hans
    have hb2a := hb2.alloc hb2.size (.cells #[.string A.house, .slice a1 A.parts.length c1, .bool A.asks, .string A.ask] 25)
    have HP2 : Hid _ := HP1.out.below hb2a
    have HX2 : Hid (At w (w2.alloc (.cells #[.string A.house, .slice a1 A.parts.length c1, .bool A.asks, .string A.ask] 25)) w2.heap.size A a1 c1) := At.new hO2 HB1.out.size
    have HB2 : Hid (Below w.heap.size w (w2.alloc (.cells #[.string A.house, .slice a1 A.parts.length c1, .bool A.asks, .string A.ask] 25))) := HB1.out.trans (hb2a.mono HB1.out.size)
    have HM2 : Hid (Mx (w2.alloc (.cells #[.string A.house, .slice a1 A.parts.length c1, .bool A.asks, .string A.ask] 25))) := HM.out.keep fun k hk => HB2.out.block k hk
    obtain ⟨G, hG⟩ : ∃ G, w2.heap.size = G := ⟨_, rfl⟩
    rw [hG] at HX2
    clear hb2 hb2a hO2 hans HB1 HP1 hF
    have hpp := HP2.out
    obtain ⟨f0, f1, f2, f3⟩ := hpp.cells
    clear hpp
    go_wp2_with fail
    refine (implJoin_ascii P ref p1 q1 _ HM2.out HP2.out.strs hbk hrs HA.out).mono ?_
    rintro e w3 ⟨A', ok, b1, d1, rfl, hans, hO3, hb3⟩
    obtain ⟨hA', hok'⟩ := ans_same HANS.out hans
    subst hA' hok'
    clear hans f0 f1 f2 f3
    have hb3a := hb3.alloc hb3.size (.cells #[.string A'.house, .slice b1 A'.parts.length d1, .bool A'.asks, .string A'.ask] 25)
    have HP3 : Hid _ := HP2.out.below hb3a
    have HX3 : Hid _ := HX2.out.below hb3a
    have HY3 : Hid (At w (w3.alloc (.cells #[.string A'.house, .slice b1 A'.parts.length d1, .bool A'.asks, .string A'.ask] 25)) w3.heap.size A' b1 d1) := At.new hO3 HB2.out.size
    have HB3 : Hid (Below w.heap.size w (w3.alloc (.cells #[.string A'.house, .slice b1 A'.parts.length d1, .bool A'.asks, .string A'.ask] 25))) := HB2.out.trans (hb3a.mono HB2.out.size)
    obtain ⟨hl4, hk4⟩ := ansJ_bulk HANS.out
    obtain ⟨H, hH⟩ : ∃ H, w3.heap.size = H := ⟨_, rfl⟩
    rw [hH] at HY3
    clear hb3 hb3a hO3 HB2 HP2 HX2 HM2 hG
    have hpp := HX3.out
    obtain ⟨c0, c1', c2, c3⟩ := hpp.cells
    clear hpp
    have hpp := HY3.out
    obtain ⟨d0, d1', d2, d3⟩ := hpp.cells
    clear hpp
    go_wp2_with fail
    refine (lpAddr_any A' A' b1 d1 a1 c1 _ HY3.out.strs HX3.out.strs hl4 hl4).mono ?_
    rintro e w5 ⟨rfl, hb5⟩
    rw [same_self]
    have HP5 : Hid (At w w5 F P p1 q1) := HP3.out.below hb5
    have HX5 : Hid (At w w5 G A' a1 c1) := HX3.out.below hb5
    have HY5 : Hid (At w w5 H A' b1 d1) := HY3.out.below hb5
    have HB5 : Hid (Below w.heap.size w w5) := HB3.out.trans (hb5.mono HB3.out.size)
    have HM5 : Hid (Mx w5) := HM.out.keep fun k hk => HB5.out.block k hk
    clear hb5 hH HB3 HP3 HX3 HY3 c0 c1' c2 c3 d0 d1' d2 d3
    have hpp := HP5.out
    obtain ⟨f0, f1, f2, f3⟩ := hpp.cells
    clear hpp
    have hpp := HX5.out
    obtain ⟨c0, c1', c2, c3⟩ := hpp.cells
    clear hpp
    have hpp := HY5.out
    obtain ⟨d0, d1', d2, d3⟩ := hpp.cells
    clear hpp
    cases hok : okB P with
    | false =>
      have HOK : Hid _ := hok
      clear hok
      go_wp2_with fail
      refine (specOk_any P p1 q1 _ HP5.out.strs hbk4).mono ?_
      rintro e w6 ⟨rfl, hb6⟩
      rw [HOK.out]
      have HX6 : Hid _ := HX5.out.below hb6
      have HY6 : Hid _ := HY5.out.below hb6
      have HB6 : Hid (Below w.heap.size w w6) := HB5.out.trans (hb6.mono HB5.out.size)
      clear hb6 f0 f1 f2 f3 c0 c1' c2 c3 d0 d1' d2 d3
      have hpp := HX6.out
      obtain ⟨c0, c1', c2, c3⟩ := hpp.cells
      clear hpp
      have hpp := HY6.out
      obtain ⟨d0, d1', d2, d3⟩ := hpp.cells
      clear hpp
      go_wp2_with fail
      refine (lpAddr_any A' A' b1 d1 a1 c1 _ HY6.out.strs HX6.out.strs hl4 hl4).mono ?_
      rintro e w7 ⟨rfl, hb7⟩
      rw [same_self]
      have HB7 : Hid (Below w.heap.size w w7) := HB6.out.trans (hb7.mono HB6.out.size)
      clear hb7
      go_wp2
      go_ret
      exact ⟨rfl, HB7.out⟩
    | true =>
      have HOK : Hid _ := hok
      clear hok
      have HJ1 : Hid _ := join_dot HOK.out
      have HJ2 : Hid _ := join_up HOK.out
      have HJ3 : Hid _ := join_door HOK.out
      clear HANS
      go_wp2_with fail
      refine (specOk_any P p1 q1 _ HP5.out.strs hbk4).mono ?_
      rintro e w6 ⟨rfl, hb6⟩
      rw [HOK.out]
      have HP6 : Hid (At w w6 F P p1 q1) := HP5.out.below hb6
      have HB6 : Hid (Below w.heap.size w w6) := HB5.out.trans (hb6.mono HB5.out.size)
      have HM6 : Hid (Mx w6) := HM5.out.below hb6
      clear hb6 HB5 HM5 f0 f1 f2 f3 c0 c1' c2 c3 d0 d1' d2 d3
      have hpp := HP6.out
      obtain ⟨f0, f1, f2, f3⟩ := hpp.cells
      clear hpp
      go_wp2_with fail
      refine (implJoin_ascii P _ p1 q1 _ HM6.out HP6.out.strs hbk (by decide) (ascii_of (by decide))).mono ?_
      rintro e w7 ⟨B7, o7, x7, y7, rfl, hans, hO, hb⟩
      have HR7 : Hid (Ans _ B7 o7) := hans
      have hba := hb.alloc hb.size (.cells #[.string B7.house, .slice x7 B7.parts.length y7, .bool B7.asks, .string B7.ask] 25)
      have HP7 : Hid (At w (w7.alloc (.cells #[.string B7.house, .slice x7 B7.parts.length y7, .bool B7.asks, .string B7.ask] 25)) F P p1 q1) := HP6.out.below hba
      have HB7 : Hid (Below w.heap.size w (w7.alloc (.cells #[.string B7.house, .slice x7 B7.parts.length y7, .bool B7.asks, .string B7.ask] 25))) := HB6.out.trans (hba.mono HB6.out.size)
      have HM7 : Hid (Mx (w7.alloc (.cells #[.string B7.house, .slice x7 B7.parts.length y7, .bool B7.asks, .string B7.ask] 25))) := HM6.out.below hba
      have HK7 : Hid (At w (w7.alloc (.cells #[.string B7.house, .slice x7 B7.parts.length y7, .bool B7.asks, .string B7.ask] 25)) w7.heap.size B7 x7 y7) := At.new hO HB6.out.size
      obtain ⟨K7, hK7⟩ : ∃ K, w7.heap.size = K := ⟨_, rfl⟩
      rw [hK7] at HK7
      obtain ⟨hl7, hk7⟩ := ansJ_bulk HR7.out
      clear hans hO hb hba HP6 HB6 HM6 f0 f1 f2 f3
      have hpp := HP7.out
      obtain ⟨f0, f1, f2, f3⟩ := hpp.cells
      clear hpp
      obtain ⟨ho7, hB7⟩ := ans_is HR7.out HJ1.out
      subst ho7
      have HB7e : Hid _ := hB7
      clear HR7 HJ1 hB7
      go_wp2_with fail
      refine (implJoin_ascii P _ p1 q1 _ HM7.out HP7.out.strs hbk (by decide) (ascii_of (by decide))).mono ?_
      rintro e w8 ⟨B8, o8, x8, y8, rfl, hans, hO, hb⟩
      have HR8 : Hid (Ans _ B8 o8) := hans
      have hba := hb.alloc hb.size (.cells #[.string B8.house, .slice x8 B8.parts.length y8, .bool B8.asks, .string B8.ask] 25)
      have HP8 : Hid (At w (w8.alloc (.cells #[.string B8.house, .slice x8 B8.parts.length y8, .bool B8.asks, .string B8.ask] 25)) F P p1 q1) := HP7.out.below hba
      have HB8 : Hid (Below w.heap.size w (w8.alloc (.cells #[.string B8.house, .slice x8 B8.parts.length y8, .bool B8.asks, .string B8.ask] 25))) := HB7.out.trans (hba.mono HB7.out.size)
      have HM8 : Hid (Mx (w8.alloc (.cells #[.string B8.house, .slice x8 B8.parts.length y8, .bool B8.asks, .string B8.ask] 25))) := HM7.out.below hba
      have HK8 : Hid (At w (w8.alloc (.cells #[.string B8.house, .slice x8 B8.parts.length y8, .bool B8.asks, .string B8.ask] 25)) w8.heap.size B8 x8 y8) := At.new hO HB7.out.size
      have HT7 : Hid (At w (w8.alloc (.cells #[.string B8.house, .slice x8 B8.parts.length y8, .bool B8.asks, .string B8.ask] 25)) K7 B7 x7 y7) := HK7.out.below hba
      clear HK7
      have HK7 : Hid (At w (w8.alloc (.cells #[.string B8.house, .slice x8 B8.parts.length y8, .bool B8.asks, .string B8.ask] 25)) K7 B7 x7 y7) := HT7
      clear HT7
      obtain ⟨K8, hK8⟩ : ∃ K, w8.heap.size = K := ⟨_, rfl⟩
      rw [hK8] at HK8
      obtain ⟨hl8, hk8⟩ := ansJ_bulk HR8.out
      clear hans hO hb hba HP7 HB7 HM7 f0 f1 f2 f3
      have hpp := HP8.out
      obtain ⟨f0, f1, f2, f3⟩ := hpp.cells
      clear hpp
      obtain ⟨ho8, hB8⟩ := ans_is HR8.out HJ2.out
      subst ho8
      have HB8e : Hid _ := hB8
      clear HR8 HJ2 hB8
      go_wp2_with fail
      refine (implJoin_ascii P _ p1 q1 _ HM8.out HP8.out.strs hbk (by decide) (ascii_of (by decide))).mono ?_
      rintro e w9 ⟨B9, o9, x9, y9, rfl, hans, hO, hb⟩
      have HR9 : Hid (Ans _ B9 o9) := hans
      have hba := hb.alloc hb.size (.cells #[.string B9.house, .slice x9 B9.parts.length y9, .bool B9.asks, .string B9.ask] 25)
      have HP9 : Hid (At w (w9.alloc (.cells #[.string B9.house, .slice x9 B9.parts.length y9, .bool B9.asks, .string B9.ask] 25)) F P p1 q1) := HP8.out.below hba
      have HB9 : Hid (Below w.heap.size w (w9.alloc (.cells #[.string B9.house, .slice x9 B9.parts.length y9, .bool B9.asks, .string B9.ask] 25))) := HB8.out.trans (hba.mono HB8.out.size)
      have HM9 : Hid (Mx (w9.alloc (.cells #[.string B9.house, .slice x9 B9.parts.length y9, .bool B9.asks, .string B9.ask] 25))) := HM8.out.below hba
      have HK9 : Hid (At w (w9.alloc (.cells #[.string B9.house, .slice x9 B9.parts.length y9, .bool B9.asks, .string B9.ask] 25)) w9.heap.size B9 x9 y9) := At.new hO HB8.out.size
      have HT7 : Hid (At w (w9.alloc (.cells #[.string B9.house, .slice x9 B9.parts.length y9, .bool B9.asks, .string B9.ask] 25)) K7 B7 x7 y7) := HK7.out.below hba
      clear HK7
      have HK7 : Hid (At w (w9.alloc (.cells #[.string B9.house, .slice x9 B9.parts.length y9, .bool B9.asks, .string B9.ask] 25)) K7 B7 x7 y7) := HT7
      clear HT7
      have HT8 : Hid (At w (w9.alloc (.cells #[.string B9.house, .slice x9 B9.parts.length y9, .bool B9.asks, .string B9.ask] 25)) K8 B8 x8 y8) := HK8.out.below hba
      clear HK8
      have HK8 : Hid (At w (w9.alloc (.cells #[.string B9.house, .slice x9 B9.parts.length y9, .bool B9.asks, .string B9.ask] 25)) K8 B8 x8 y8) := HT8
      clear HT8
      obtain ⟨K9, hK9⟩ : ∃ K, w9.heap.size = K := ⟨_, rfl⟩
      rw [hK9] at HK9
      obtain ⟨hl9, hk9⟩ := ansJ_bulk HR9.out
      clear hans hO hb hba HP8 HB8 HM8 f0 f1 f2 f3
      have hpp := HP9.out
      obtain ⟨f0, f1, f2, f3⟩ := hpp.cells
      clear hpp
      obtain ⟨ho9, hB9⟩ := ans_is HR9.out HJ3.out
      subst ho9
      have HB9e : Hid _ := hB9
      clear HR9 HJ3 hB9
      go_wp2_with fail
      generalize w9.alloc (.cells #[.string B9.house, .slice x9 B9.parts.length y9, .bool B9.asks, .string B9.ask] 25) = W at *
      have hst := HP9.out.strs
      have hqc := hst.1
      have hqm := hst.2.1
      unfold maxLen at hqm
      have HD1 : Hid (IsStrs W p1 q1 P.parts.dropLast) := by
        have h2 := hst.cut (P.parts.length - 1)
        rwa [← List.dropLast_eq_take] at h2
      have HD2 : Hid (IsStrs W p1 q1 P.parts.dropLast.dropLast) := by
        have h2 := HD1.out.cut (P.parts.dropLast.length - 1)
        rwa [← List.dropLast_eq_take] at h2
      clear hst
      have hl1 : P.parts.dropLast.length = P.parts.length - 1 := by simp
      have hl2 : P.parts.dropLast.dropLast.length = P.parts.length - 2 := by simp; omega
      have HL1 : Hid _ := hl1
      have HL2 : Hid _ := hl2
      have hm1 : max ((P.parts.length : Int) - 1) 0 = ((P.parts.length - 1 : Nat) : Int) := by omega
      have hm2 : max ((P.parts.length : Int) - 2) 0 = ((P.parts.length - 2 : Nat) : Int) := by omega
      clear hl1 hl2
      obtain ⟨B1, hB1⟩ : ∃ B1 : Ad, B1 = ⟨P.house, P.parts.dropLast, false, ⟨#[]⟩⟩ := ⟨_, rfl⟩
      have k0' : W.drew.cell? ⟨F, 0, none⟩ = some (.string P.house) := f0
      have k1' : W.drew.cell? ⟨F, 1, none⟩ = some (.slice p1 P.parts.length q1) := f1
      have hpp := HK7.out
      obtain ⟨a70, a71, a72, a73⟩ := hpp.cells
      clear hpp
      have n70 : W.drew.cell? ⟨K7, 0, none⟩ = some (.string B7.house) := a70
      have n71 : W.drew.cell? ⟨K7, 1, none⟩ = some (.slice x7 B7.parts.length y7) := a71
      have n72 : W.drew.cell? ⟨K7, 2, none⟩ = some (.bool B7.asks) := a72
      have n73 : W.drew.cell? ⟨K7, 3, none⟩ = some (.string B7.ask) := a73
      clear hB1 B1 a70 a71 a72 a73 f0 f1 f2 f3
      have hq1 : ((P.parts.length - 1 : Nat) : Int) ≤ (q1 : Int) := by omega
      have hq2 : ((P.parts.length - 2 : Nat) : Int) ≤ (q1 : Int) := by omega
      have hnn : P.parts.length ≤ 4194304 := hpl4
      have hww1 : IntKind.i64.wrap ((P.parts.length : Int) - 1) = (P.parts.length : Int) - 1 := IntWalk.i64_in _ (by omega)
      have hww2 : IntKind.i64.wrap ((P.parts.length : Int) - 2) = (P.parts.length : Int) - 2 := IntWalk.i64_in _ (by omega)
      have hq01 : (0 : Int) ≤ ((P.parts.length - 1 : Nat) : Int) := by omega
      have hq02 : (0 : Int) ≤ ((P.parts.length - 2 : Nat) : Int) := by omega
      cases p1 with
      | none =>
        obtain rfl : q1 = 0 := (HP9.out.strs.none rfl).2
        have hpn := (HP9.out.strs.none rfl).1
        obtain ⟨ph, pp, pq, pk⟩ := P
        have hpe : pp = [] := List.eq_nil_of_length_eq_zero hpn
        subst hpe
        clear hpn HD1 HD2 HL1 HL2 hm1 hm2 hq1 hq2 hww1 hww2 hq01 hq02 hqc hqm
        have hw3 : IntKind.i64.wrap (0 - 1) = (-1 : Int) := IntWalk.i64_in _ (by omega)
        have hw4 : IntKind.i64.wrap (0 - 2) = (-2 : Int) := IntWalk.i64_in _ (by omega)
        have hw5 : IntKind.i64.wrap (-1) = (-1 : Int) := IntWalk.i64_in _ (by omega)
        have hw6 : IntKind.i64.wrap (-2) = (-2 : Int) := IntWalk.i64_in _ (by omega)
        have hmx : max (-1 : Int) 0 = 0 := by decide
        have hmy : max (-2 : Int) 0 = 0 := by decide
        clear k0' k1' n70 n71 n72 n73
        have hS9 : W.cell? ⟨F, 0, none⟩ = some (.string ph) ∧ W.cell? ⟨F, 1, none⟩ = some (.slice none 0 0) ∧ W.cell? ⟨K7, 0, none⟩ = some (.string B7.house) ∧ W.cell? ⟨K7, 1, none⟩ = some (.slice x7 B7.parts.length y7) ∧ W.cell? ⟨K7, 2, none⟩ = some (.bool B7.asks) ∧ W.cell? ⟨K7, 3, none⟩ = some (.string B7.ask) ∧ W.cell? ⟨K8, 0, none⟩ = some (.string B8.house) ∧ W.cell? ⟨K8, 1, none⟩ = some (.slice x8 B8.parts.length y8) ∧ W.cell? ⟨K8, 2, none⟩ = some (.bool B8.asks) ∧ W.cell? ⟨K8, 3, none⟩ = some (.string B8.ask) ∧ W.cell? ⟨K9, 0, none⟩ = some (.string B9.house) ∧ W.cell? ⟨K9, 1, none⟩ = some (.slice x9 B9.parts.length y9) ∧ W.cell? ⟨K9, 2, none⟩ = some (.bool B9.asks) ∧ W.cell? ⟨K9, 3, none⟩ = some (.string B9.ask) := sees HP9.out HK7.out HK8.out HK9.out
        obtain ⟨s0, s1, s2, s3, s4, s5, s6, s7, s8, s9, s10, s11, s12, s13⟩ := hS9
        go_wp2
        go_region_held_law (fun w' => w'.cell? ⟨F, 0, none⟩ = some (.string ph) ∧ w'.cell? ⟨F, 1, none⟩ = some (.slice none 0 0) ∧ w'.cell? ⟨K7, 0, none⟩ = some (.string B7.house) ∧ w'.cell? ⟨K7, 1, none⟩ = some (.slice x7 B7.parts.length y7) ∧ w'.cell? ⟨K7, 2, none⟩ = some (.bool B7.asks) ∧ w'.cell? ⟨K7, 3, none⟩ = some (.string B7.ask) ∧ w'.cell? ⟨K8, 0, none⟩ = some (.string B8.house) ∧ w'.cell? ⟨K8, 1, none⟩ = some (.slice x8 B8.parts.length y8) ∧ w'.cell? ⟨K8, 2, none⟩ = some (.bool B8.asks) ∧ w'.cell? ⟨K8, 3, none⟩ = some (.string B8.ask) ∧ w'.cell? ⟨K9, 0, none⟩ = some (.string B9.house) ∧ w'.cell? ⟨K9, 1, none⟩ = some (.slice x9 B9.parts.length y9) ∧ w'.cell? ⟨K9, 2, none⟩ = some (.bool B9.asks) ∧ w'.cell? ⟨K9, 3, none⟩ = some (.string B9.ask)) (first | go_keep | exact hS10 | exact hS11 | exact hS12)
          ((first
          | (go_at_call 9
             first
              | (refine (lp_n B9 ⟨ph, [], false, ⟨#[]⟩⟩ x9 y9 none 0 0 w11 rfl HK911.out.strs (strs_nil _) hl9 (by omega) HB9e.out).mono ?_
                 rintro e w12 ⟨rfl, hb12⟩
                 have HB12 : Hid (Below w.heap.size w w12) := HB11.out.trans (hb12.mono HB11.out.size)
                 have hS12 : w12.cell? ⟨F, 0, none⟩ = some (.string ph) ∧ w12.cell? ⟨F, 1, none⟩ = some (.slice none 0 0) ∧ w12.cell? ⟨K7, 0, none⟩ = some (.string B7.house) ∧ w12.cell? ⟨K7, 1, none⟩ = some (.slice x7 B7.parts.length y7) ∧ w12.cell? ⟨K7, 2, none⟩ = some (.bool B7.asks) ∧ w12.cell? ⟨K7, 3, none⟩ = some (.string B7.ask) ∧ w12.cell? ⟨K8, 0, none⟩ = some (.string B8.house) ∧ w12.cell? ⟨K8, 1, none⟩ = some (.slice x8 B8.parts.length y8) ∧ w12.cell? ⟨K8, 2, none⟩ = some (.bool B8.asks) ∧ w12.cell? ⟨K8, 3, none⟩ = some (.string B8.ask) ∧ w12.cell? ⟨K9, 0, none⟩ = some (.string B9.house) ∧ w12.cell? ⟨K9, 1, none⟩ = some (.slice x9 B9.parts.length y9) ∧ w12.cell? ⟨K9, 2, none⟩ = some (.bool B9.asks) ∧ w12.cell? ⟨K9, 3, none⟩ = some (.string B9.ask) := sees (HP11.out.below hb12) (HK711.out.below hb12) (HK811.out.below hb12) (HK911.out.below hb12)
                 clear hb12)
              | (refine (lp_n B8 ⟨ph, [], false, ⟨#[]⟩⟩ x8 y8 none 0 0 w10 rfl HK810.out.strs (strs_nil _) hl8 (by omega) HB8e.out).mono ?_
                 rintro e w11 ⟨rfl, hb11⟩
                 have HB11 : Hid (Below w.heap.size w w11) := HB10.out.trans (hb11.mono HB10.out.size)
                 have HP11 : Hid (At w w11 F ⟨ph, [], pq, pk⟩ none 0) := HP10.out.below hb11
                 have HK711 : Hid (At w w11 K7 B7 x7 y7) := HK710.out.below hb11
                 have HK811 : Hid (At w w11 K8 B8 x8 y8) := HK810.out.below hb11
                 have HK911 : Hid (At w w11 K9 B9 x9 y9) := HK910.out.below hb11
                 have hS11 : w11.cell? ⟨F, 0, none⟩ = some (.string ph) ∧ w11.cell? ⟨F, 1, none⟩ = some (.slice none 0 0) ∧ w11.cell? ⟨K7, 0, none⟩ = some (.string B7.house) ∧ w11.cell? ⟨K7, 1, none⟩ = some (.slice x7 B7.parts.length y7) ∧ w11.cell? ⟨K7, 2, none⟩ = some (.bool B7.asks) ∧ w11.cell? ⟨K7, 3, none⟩ = some (.string B7.ask) ∧ w11.cell? ⟨K8, 0, none⟩ = some (.string B8.house) ∧ w11.cell? ⟨K8, 1, none⟩ = some (.slice x8 B8.parts.length y8) ∧ w11.cell? ⟨K8, 2, none⟩ = some (.bool B8.asks) ∧ w11.cell? ⟨K8, 3, none⟩ = some (.string B8.ask) ∧ w11.cell? ⟨K9, 0, none⟩ = some (.string B9.house) ∧ w11.cell? ⟨K9, 1, none⟩ = some (.slice x9 B9.parts.length y9) ∧ w11.cell? ⟨K9, 2, none⟩ = some (.bool B9.asks) ∧ w11.cell? ⟨K9, 3, none⟩ = some (.string B9.ask) := sees HP11.out HK711.out HK811.out HK911.out
                 clear hb11)
              | (refine (lp_n B7 ⟨ph, [], false, ⟨#[]⟩⟩ x7 y7 none 0 0 W.drew rfl (HK7.out.strs.keep fun _ _ => rfl) (strs_nil _) hl7 (by omega) HB7e.out).mono ?_
                 rintro e w10 ⟨rfl, hb10⟩
                 have hbd : Below W.heap.size W w10 := Below.trans ((Below.refl _ W).drew) (hb10.mono (by simp))
                 have HB10 : Hid (Below w.heap.size w w10) := HB9.out.trans (hbd.mono HB9.out.size)
                 have HP10 : Hid (At w w10 F ⟨ph, [], pq, pk⟩ none 0) := HP9.out.below hbd
                 have HK710 : Hid (At w w10 K7 B7 x7 y7) := HK7.out.below hbd
                 have HK810 : Hid (At w w10 K8 B8 x8 y8) := HK8.out.below hbd
                 have HK910 : Hid (At w w10 K9 B9 x9 y9) := HK9.out.below hbd
                 have hS10 : w10.cell? ⟨F, 0, none⟩ = some (.string ph) ∧ w10.cell? ⟨F, 1, none⟩ = some (.slice none 0 0) ∧ w10.cell? ⟨K7, 0, none⟩ = some (.string B7.house) ∧ w10.cell? ⟨K7, 1, none⟩ = some (.slice x7 B7.parts.length y7) ∧ w10.cell? ⟨K7, 2, none⟩ = some (.bool B7.asks) ∧ w10.cell? ⟨K7, 3, none⟩ = some (.string B7.ask) ∧ w10.cell? ⟨K8, 0, none⟩ = some (.string B8.house) ∧ w10.cell? ⟨K8, 1, none⟩ = some (.slice x8 B8.parts.length y8) ∧ w10.cell? ⟨K8, 2, none⟩ = some (.bool B8.asks) ∧ w10.cell? ⟨K8, 3, none⟩ = some (.string B8.ask) ∧ w10.cell? ⟨K9, 0, none⟩ = some (.string B9.house) ∧ w10.cell? ⟨K9, 1, none⟩ = some (.slice x9 B9.parts.length y9) ∧ w10.cell? ⟨K9, 2, none⟩ = some (.bool B9.asks) ∧ w10.cell? ⟨K9, 3, none⟩ = some (.string B9.ask) := sees HP10.out HK710.out HK810.out HK910.out
                 clear hb10 hbd)
              | fail)
          | fail))
        all_goals
          go_wp2
          go_ret
          exact ⟨rfl, HB12.out⟩
      | some ad =>
        clear k0' k1' n70 n71 n72 n73
        have hS9 : W.cell? ⟨F, 0, none⟩ = some (.string P.house) ∧ W.cell? ⟨F, 1, none⟩ = some (.slice (some ad) P.parts.length q1) ∧ W.cell? ⟨K7, 0, none⟩ = some (.string B7.house) ∧ W.cell? ⟨K7, 1, none⟩ = some (.slice x7 B7.parts.length y7) ∧ W.cell? ⟨K7, 2, none⟩ = some (.bool B7.asks) ∧ W.cell? ⟨K7, 3, none⟩ = some (.string B7.ask) ∧ W.cell? ⟨K8, 0, none⟩ = some (.string B8.house) ∧ W.cell? ⟨K8, 1, none⟩ = some (.slice x8 B8.parts.length y8) ∧ W.cell? ⟨K8, 2, none⟩ = some (.bool B8.asks) ∧ W.cell? ⟨K8, 3, none⟩ = some (.string B8.ask) ∧ W.cell? ⟨K9, 0, none⟩ = some (.string B9.house) ∧ W.cell? ⟨K9, 1, none⟩ = some (.slice x9 B9.parts.length y9) ∧ W.cell? ⟨K9, 2, none⟩ = some (.bool B9.asks) ∧ W.cell? ⟨K9, 3, none⟩ = some (.string B9.ask) := sees HP9.out HK7.out HK8.out HK9.out
        obtain ⟨s0, s1, s2, s3, s4, s5, s6, s7, s8, s9, s10, s11, s12, s13⟩ := hS9
        go_wp2
        go_region_held_law (fun w' => w'.cell? ⟨F, 0, none⟩ = some (.string P.house) ∧ w'.cell? ⟨F, 1, none⟩ = some (.slice (some ad) P.parts.length q1) ∧ w'.cell? ⟨K7, 0, none⟩ = some (.string B7.house) ∧ w'.cell? ⟨K7, 1, none⟩ = some (.slice x7 B7.parts.length y7) ∧ w'.cell? ⟨K7, 2, none⟩ = some (.bool B7.asks) ∧ w'.cell? ⟨K7, 3, none⟩ = some (.string B7.ask) ∧ w'.cell? ⟨K8, 0, none⟩ = some (.string B8.house) ∧ w'.cell? ⟨K8, 1, none⟩ = some (.slice x8 B8.parts.length y8) ∧ w'.cell? ⟨K8, 2, none⟩ = some (.bool B8.asks) ∧ w'.cell? ⟨K8, 3, none⟩ = some (.string B8.ask) ∧ w'.cell? ⟨K9, 0, none⟩ = some (.string B9.house) ∧ w'.cell? ⟨K9, 1, none⟩ = some (.slice x9 B9.parts.length y9) ∧ w'.cell? ⟨K9, 2, none⟩ = some (.bool B9.asks) ∧ w'.cell? ⟨K9, 3, none⟩ = some (.string B9.ask)) (first | go_keep | exact hS10 | exact hS11 | exact hS12)
          ((first
          | (go_at_call 9
             first
              | (refine (lp_n B9 ⟨P.house, [], false, ⟨#[]⟩⟩ x9 y9 none 0 0 w11 rfl HK911.out.strs (strs_nil _) hl9 (by omega) HB9e.out).mono ?_
                 rintro e w12 ⟨rfl, hb12⟩
                 have HB12 : Hid (Below w.heap.size w w12) := HB11.out.trans (hb12.mono HB11.out.size)
                 have hS12 : w12.cell? ⟨F, 0, none⟩ = some (.string P.house) ∧ w12.cell? ⟨F, 1, none⟩ = some (.slice (some ad) P.parts.length q1) ∧ w12.cell? ⟨K7, 0, none⟩ = some (.string B7.house) ∧ w12.cell? ⟨K7, 1, none⟩ = some (.slice x7 B7.parts.length y7) ∧ w12.cell? ⟨K7, 2, none⟩ = some (.bool B7.asks) ∧ w12.cell? ⟨K7, 3, none⟩ = some (.string B7.ask) ∧ w12.cell? ⟨K8, 0, none⟩ = some (.string B8.house) ∧ w12.cell? ⟨K8, 1, none⟩ = some (.slice x8 B8.parts.length y8) ∧ w12.cell? ⟨K8, 2, none⟩ = some (.bool B8.asks) ∧ w12.cell? ⟨K8, 3, none⟩ = some (.string B8.ask) ∧ w12.cell? ⟨K9, 0, none⟩ = some (.string B9.house) ∧ w12.cell? ⟨K9, 1, none⟩ = some (.slice x9 B9.parts.length y9) ∧ w12.cell? ⟨K9, 2, none⟩ = some (.bool B9.asks) ∧ w12.cell? ⟨K9, 3, none⟩ = some (.string B9.ask) := sees (HP11.out.below hb12) (HK711.out.below hb12) (HK811.out.below hb12) (HK911.out.below hb12)
                 clear hb12)
              | (refine (lp_n B8 ⟨P.house, P.parts.dropLast.dropLast, false, ⟨#[]⟩⟩ x8 y8 (some ad) q1 (P.parts.length - 2) w10 HL2.out HK810.out.strs HD210.out hl8 (by omega) HB8e.out).mono ?_
                 rintro e w11 ⟨rfl, hb11⟩
                 have HB11 : Hid (Below w.heap.size w w11) := HB10.out.trans (hb11.mono HB10.out.size)
                 have HP11 : Hid (At w w11 F P (some ad) q1) := HP10.out.below hb11
                 have HK711 : Hid (At w w11 K7 B7 x7 y7) := HK710.out.below hb11
                 have HK811 : Hid (At w w11 K8 B8 x8 y8) := HK810.out.below hb11
                 have HK911 : Hid (At w w11 K9 B9 x9 y9) := HK910.out.below hb11
                 have hS11 : w11.cell? ⟨F, 0, none⟩ = some (.string P.house) ∧ w11.cell? ⟨F, 1, none⟩ = some (.slice (some ad) P.parts.length q1) ∧ w11.cell? ⟨K7, 0, none⟩ = some (.string B7.house) ∧ w11.cell? ⟨K7, 1, none⟩ = some (.slice x7 B7.parts.length y7) ∧ w11.cell? ⟨K7, 2, none⟩ = some (.bool B7.asks) ∧ w11.cell? ⟨K7, 3, none⟩ = some (.string B7.ask) ∧ w11.cell? ⟨K8, 0, none⟩ = some (.string B8.house) ∧ w11.cell? ⟨K8, 1, none⟩ = some (.slice x8 B8.parts.length y8) ∧ w11.cell? ⟨K8, 2, none⟩ = some (.bool B8.asks) ∧ w11.cell? ⟨K8, 3, none⟩ = some (.string B8.ask) ∧ w11.cell? ⟨K9, 0, none⟩ = some (.string B9.house) ∧ w11.cell? ⟨K9, 1, none⟩ = some (.slice x9 B9.parts.length y9) ∧ w11.cell? ⟨K9, 2, none⟩ = some (.bool B9.asks) ∧ w11.cell? ⟨K9, 3, none⟩ = some (.string B9.ask) := sees HP11.out HK711.out HK811.out HK911.out
                 clear hb11)
              | (refine (lp_n B7 ⟨P.house, P.parts.dropLast, false, ⟨#[]⟩⟩ x7 y7 (some ad) q1 (P.parts.length - 1) W.drew HL1.out (HK7.out.strs.keep fun _ _ => rfl) (HD1.out.keep fun _ _ => rfl) hl7 (by omega) HB7e.out).mono ?_
                 rintro e w10 ⟨rfl, hb10⟩
                 have hbd : Below W.heap.size W w10 := Below.trans ((Below.refl _ W).drew) (hb10.mono (by simp))
                 have HB10 : Hid (Below w.heap.size w w10) := HB9.out.trans (hbd.mono HB9.out.size)
                 have HP10 : Hid (At w w10 F P (some ad) q1) := HP9.out.below hbd
                 have HK710 : Hid (At w w10 K7 B7 x7 y7) := HK7.out.below hbd
                 have HK810 : Hid (At w w10 K8 B8 x8 y8) := HK8.out.below hbd
                 have HK910 : Hid (At w w10 K9 B9 x9 y9) := HK9.out.below hbd
                 have HD210 : Hid (IsStrs w10 (some ad) q1 P.parts.dropLast.dropLast) := HD2.out.below hbd
                 have hS10 : w10.cell? ⟨F, 0, none⟩ = some (.string P.house) ∧ w10.cell? ⟨F, 1, none⟩ = some (.slice (some ad) P.parts.length q1) ∧ w10.cell? ⟨K7, 0, none⟩ = some (.string B7.house) ∧ w10.cell? ⟨K7, 1, none⟩ = some (.slice x7 B7.parts.length y7) ∧ w10.cell? ⟨K7, 2, none⟩ = some (.bool B7.asks) ∧ w10.cell? ⟨K7, 3, none⟩ = some (.string B7.ask) ∧ w10.cell? ⟨K8, 0, none⟩ = some (.string B8.house) ∧ w10.cell? ⟨K8, 1, none⟩ = some (.slice x8 B8.parts.length y8) ∧ w10.cell? ⟨K8, 2, none⟩ = some (.bool B8.asks) ∧ w10.cell? ⟨K8, 3, none⟩ = some (.string B8.ask) ∧ w10.cell? ⟨K9, 0, none⟩ = some (.string B9.house) ∧ w10.cell? ⟨K9, 1, none⟩ = some (.slice x9 B9.parts.length y9) ∧ w10.cell? ⟨K9, 2, none⟩ = some (.bool B9.asks) ∧ w10.cell? ⟨K9, 3, none⟩ = some (.string B9.ask) := sees HP10.out HK710.out HK810.out HK910.out
                 clear hb10 hbd)
              | fail)
          | fail))
        all_goals
          go_wp2
          go_ret
          exact ⟨rfl, HB12.out⟩

theorem own : ownKnob Tryd.prog.godebug = none := by kernel_rfl
theorem laidOut : laidOutB Tryd.prog = true := by kernel_rfl

/-! ### THE ROW's STEP -/
set_option maxRecDepth 100000 in
theorem lifted (os : Os) (started : os.Started) (H : Type) (enc : TypeId × Value → H) :
    ReturnsInHanded {} Tryd.checked os 4 .any (fun w args => (Rows.fnJoinUpSpec.pre enc Tryd.prog Tryd.f4 [] false w args ∧ laidMetH Tryd.prog Rows.fnJoinUpRow.laid w) ∧ sizedMet enc Tryd.prog Tryd.f4 (OpenSpec.ofChange Rows.fnJoinUpSpec) false w args)
      (Rows.fnJoinUpSpec.post enc Tryd.prog Tryd.f4 false true false false) := by
  refine returnsInHanded_of_calls own started (by kernel_rfl)
    (ChangeSpec.witness_shaped (enc := enc) (C := Tryd.checked) (os := os) (X := fun w _ => laidMetH Tryd.prog Rows.fnJoinUpRow.laid w) false (World.laidAll Tryd.prog os Rows.fnJoinUpRow.laid) #[.slice none 0 0] 8 (World.laidAll_os _ _ _)
      (World.shaped_of_ZipB (by kernel_rfl) (by kernel_rfl)) (by kernel_rfl) (by kernel_rfl) (by kernel_rfl)
      (by rw [MakeChecks.laidMetH_plain _ _ _ (by kernel_rfl)]; exact laidMet_laidAll _ (by kernel_rfl) (by kernel_rfl))) ?_
  intro w tape i _ hsh _ hok hpre _
  obtain ⟨_, _, _, fn', hfn', _, _, _, _, hval1⟩ := hok
  obtain rfl : fn' = Tryd.f4 := Option.some.inj (hfn'.symm.trans Tryd.func4)
  obtain ⟨⟨⟨ds, gs, before, hw, _⟩, hL0⟩, _⟩ := hpre
  have hW := DataW.Whole.of_heap (w' := w.forCall tape i) (by rfl) hw
  have hL : laidMetH Tryd.prog Rows.fnJoinUpRow.laid (w.forCall tape i) := hL0.of_heap (by rfl)
  have hb : ∃ base, ∀ (j : Nat) t v, Tryd.f4.params[j]? = some t → i.args[j]? = some v → Value.okWide Tryd.prog (w.forCall tape i) .any base t v := ⟨_, hval1⟩
  clear hval1 hfn' hL0 hw
  suffices h : Calls Tryd.checked.prog 4 i.args (w.forCall tape i) fun e W' => ∃ v, e = .returned v ∧ Rows.fnJoinUpSpec.post enc Tryd.checked.prog Tryd.f4 false true false false (w.forCall tape i) i.args v W' from
    h.mono fun e W' ⟨v, he, hp⟩ => by subst he; exact ChangeSpec.post_blind hp
  generalize hWe : w.forCall tape i = W at *
  generalize i.args = args at *
  clear hWe
  obtain ⟨base, hval⟩ := hb
  have hW' := hW
  obtain ⟨p, q, hA0, hV, rfl, hfz, hnd⟩ := hW
  have hA : DataW.TrodAll enc Tryd.prog W 0 (fun _ => true) true Tryd.f4.params.toList args.toList ds p := hA0
  rw [Tryd.params4] at hA hval
  obtain ⟨v0, vs0, d0, ds0, p0, q0, hargs, rfl, rfl, h0, r0⟩ := trodAll_cons hA
  obtain ⟨rfl, rfl, rfl⟩ := trodAll_nil r0
  obtain rfl : args = #[v0] := by cases args; simp_all
  obtain ⟨rfl, rfl⟩ := trodVars_none hV
  obtain ⟨a0, len0, cap0, rfl⟩ := okWide_slice Tryd.underlying22 (hval 0 22 v0 rfl rfl)
  have k0 := h0
  have lt0 : ∀ x ∈ p0, x.block < W.heap.size := by obtain ⟨m, hm⟩ := k0; exact DataW.trod_lt m _ _ _ hm
  obtain ⟨z0, w0⟩ : ∃ zs, Dr.IsRow .u8 W a0 len0 cap0 zs := by
    obtain ⟨fuel, hf⟩ := h0
    rcases open_ints Tryd.underlying22 Tryd.underlying5 (by kernel_rfl) hf with ⟨hcs, _⟩ | ⟨x, l, c, zs, hcs, _, hl, hm, hz, _, hcell, hwz⟩
    · simp [Value.cells] at hcs
      obtain ⟨rfl, rfl, rfl⟩ := hcs
      exact ⟨[], .inl ⟨rfl, rfl, rfl, rfl⟩⟩
    · simp [Value.cells] at hcs
      obtain ⟨rfl, rfl, rfl⟩ := hcs
      exact ⟨zs, .inr ⟨_, rfl, hl, hm, by simpa using hz, hcell, hwz⟩⟩
  clear hA0
  refine (walk a0 len0 cap0 z0 W w0 hL hsh).mono fun e W' ⟨he, bel⟩ => ?_
  subst he
  exact ⟨_, rfl, _, _, _, [], _, [], hW', trodAll_mk1 (shut_bool Tryd.underlying4 _), (trodAll_cons_mk (Below.trod laidOut (by kernel_rfl) (of_decide_eq_true (by kernel_rfl)) k0 bel lt0) trodAll_mk0), rfl, bel.frame _, fun h => by cases h⟩

theorem over : Rows.fnJoinUpRow.holds Tryd.pinned (OpenSpec.ofChange Rows.fnJoinUpSpec) :=
  OpenClaim.holds_of_wide 4 Tryd.f4 rfl rfl rfl rfl rfl rfl rfl ⟨rfl, rfl, rfl, rfl, rfl⟩ rfl rfl rfl rfl rfl (by kernel_rfl) Tryd.func4 (by kernel_rfl)
    (of_decide_eq_true (by kernel_rfl)) (by unfold Func.isWrapper; first | (rw [if_pos (by decide +kernel)]; kernel_rfl) | (rw [if_neg (by decide +kernel)]; exact ⟨rfl, rfl⟩))
    (fun os started H enc _ => lifted os started H enc)

theorem proved : Rows.FnJoinUpCardSaid :=
  Claim7.holds_tied_plain_at .later [] [.data, .pinned] true _ false over (fun _ h => by cases h) (by kernel_rfl) (fun _ h => by cases h) fnJoinUp_row_tie rfl ⟨rfl, rfl⟩ (by kernel_rfl) rfl
    (fun f fn hf hfn => by
      obtain rfl : f = 4 := Option.some.inj ((show Tryd.prog.funcNamed "loop.example/pedlar/laws.FnJoinUp" = some 4 by kernel_rfl).symm.trans hf) |>.symm
      obtain rfl : fn = Tryd.f4 := (Option.some.inj (Tryd.func4.symm.trans hfn)).symm
      exact ⟨by kernel_rfl, fun j t ht => by
        rw [Tryd.params4] at ht
        have hm : t ∈ [22] := by simpa using Array.mem_of_getElem? ht
        have hall : ([22].all fun u => !Tryd.prog.wantsStandIn u) = true := by kernel_rfl
        exact (show Tryd.prog.wantsStandIn t = false by simpa using List.all_eq_true.1 hall t hm)⟩)
    (by kernel_rfl)
end Go.Proofs.YtlamhiidpbehnaaDoor.fnJoinUp
