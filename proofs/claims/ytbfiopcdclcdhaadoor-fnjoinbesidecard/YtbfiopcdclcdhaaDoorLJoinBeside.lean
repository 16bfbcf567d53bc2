/- FnJoinBeside: for every code, a part leads beside the last one of the address drawn of it, by whichever way. The card ties two tables of unicode/utf8 to the program's text; no other condition. -/
import Derived.Test.YtbfiopcdclcdhaaDoorRows
import Derived.WalkKit
import Derived.ProofKit
import Derived.OpenShut
import Derived.ShutString
import Derived.ChangeOld
import Derived.Below
import Derived.Test.YtbfiopcdclcdhaaDoorCards
import Derived.Test.YtbfiopcdclcdhaaDoorTie
import Derived.Test.YtbfiopcdclcdhaaDoorDraw10
import Derived.Lay
import Derived.LaidOnce
import Derived.SevenTiedAt
namespace Go.Proofs.YtbfiopcdclcdhaaDoor.fnJoinBeside
open Go.ChangeShapes Go.WideShapes Go.ChangeAt Go.RowKit
open Go.ChangeMaps (open_string shut_string)
set_option linter.unusedVariables false
open Go.Proofs.YtbfiopcdclcdhaaDoor.EscM Go.Proofs.YtbfiopcdclcdhaaDoor.St Go.Proofs.YtbfiopcdclcdhaaDoor.AddrM Go.Proofs.YtbfiopcdclcdhaaDoor.ReadM Go.Proofs.YtbfiopcdclcdhaaDoor.EscL Go.Proofs.YtbfiopcdclcdhaaDoor.Ad1 Go.Proofs.YtbfiopcdclcdhaaDoor.Dr Go.Proofs.YtbfiopcdclcdhaaDoor.Tw Go.Proofs.YtbfiopcdclcdhaaDoor.RB Go.Proofs.YtbfiopcdclcdhaaDoor.Im Go.Proofs.YtbfiopcdclcdhaaDoor.Rd1 Go.Proofs.YtbfiopcdclcdhaaDoor.Door Go.Proofs.YtbfiopcdclcdhaaDoor.JnM Go.Proofs.YtbfiopcdclcdhaaDoor.Jn

theorem beside_all {P : Ad} (h : okB P = true) (l : List UInt8) (hl : ¬ 60 < l.length) (hc : (cutL 35 l).1 = l) (h2 : ¬ l.take 2 = [47, 47]) (h0 : ¬ l = []) (h47 : ¬ l.head? = some 47) (h63 : ¬ l.head? = some 63) (hq : cutL 63 l = (l, [], false)) (N : List ByteArray) (hn : normS (splitS 47 (bs l)) = some N) (hcl : ∀ D : List ByteArray, (∀ p ∈ D, PathM.good p) → PathM.cleanL (D ++ N) = D ++ [⟨#[113]⟩]) :
    joinF P l = if okB ⟨P.house, P.parts.dropLast ++ [⟨#[113]⟩], false, ⟨#[]⟩⟩ then some ⟨P.house, P.parts.dropLast ++ [⟨#[113]⟩], false, ⟨#[]⟩⟩ else none := by
  obtain ⟨_, _, h3, _, _, _⟩ := ok_parts h
  have hg : ∀ p ∈ P.parts.dropLast, PathM.good p := fun p hp => (part_norm' (List.all_eq_true.1 h3 p ((List.dropLast_sublist _).subset hp))).2
  rw [join_go h hl, hc, go_beside h2 h0 h47 h63, way_cut hq, hn]
  have e3 : escB (bs []) = true := by decide +kernel
  have e4 : escS (bs []) = ⟨#[]⟩ := by decide +kernel
  simp only [e3, e4, if_true]
  rw [hcl _ hg]
theorem join_q {P : Ad} (h : okB P = true) : joinF P (⟨#[113]⟩ : ByteArray).data.toList = if okB ⟨P.house, P.parts.dropLast ++ [⟨#[113]⟩], false, ⟨#[]⟩⟩ then some ⟨P.house, P.parts.dropLast ++ [⟨#[113]⟩], false, ⟨#[]⟩⟩ else none :=
  beside_all h [113] (by decide) (by decide) (by decide) (by decide) (by decide) (by decide) (by decide) [⟨#[113]⟩] (by decide +kernel) (fun D hD => by rw [PathM.clean_snoc, PathM.clean_same _ hD, PathM.step_good _ _ PathM.good_q])
theorem good_w : PathM.good (⟨#[119]⟩ : ByteArray) := ⟨by simp [ByteArray.toList_eq], by simp [ByteArray.toList_eq], by simp [ByteArray.toList_eq]⟩
theorem join_wq {P : Ad} (h : okB P = true) : joinF P (⟨#[46, 47, 119, 47, 46, 46, 47, 113]⟩ : ByteArray).data.toList = if okB ⟨P.house, P.parts.dropLast ++ [⟨#[113]⟩], false, ⟨#[]⟩⟩ then some ⟨P.house, P.parts.dropLast ++ [⟨#[113]⟩], false, ⟨#[]⟩⟩ else none :=
  beside_all h [46, 47, 119, 47, 46, 46, 47, 113] (by decide) (by decide) (by decide) (by decide) (by decide) (by decide) (by decide) [⟨#[46]⟩, ⟨#[119]⟩, ⟨#[46, 46]⟩, ⟨#[113]⟩] (by decide +kernel) (fun D hD => by
    have e : D ++ [⟨#[46]⟩, ⟨#[119]⟩, ⟨#[46, 46]⟩, ⟨#[113]⟩] = (((D ++ [⟨#[46]⟩]) ++ [⟨#[119]⟩]) ++ [⟨#[46, 46]⟩]) ++ [⟨#[113]⟩] := by simp
    rw [e, PathM.clean_snoc, PathM.clean_snoc, PathM.clean_snoc, PathM.clean_snoc, PathM.clean_same _ hD, PathM.do_dot, PathM.step_good _ _ good_w, PathM.do_up, List.dropLast_concat, PathM.step_good _ _ PathM.good_q])

theorem own_next (w : World) (o : Obj) (K : Nat) (h : w.heap.size = K) : ((w.alloc o).alloc (.cells #[] 9)).ownsRow (K + 1) 9 1 (.slice (some ⟨K + 1, 0, none⟩) 0 0) 0 [] := by
  have e : (w.alloc o).heap.size = K + 1 := by simp [h]
  have h := Owns.empty (w.alloc o) (K + 1) (by rw [e]; omega)
  rw [e] at h
  exact h

set_option maxRecDepth 100000 in
set_option maxHeartbeats 6400000 in
theorem walk (a0 : Option Addr) (len0 cap0 : Nat) (z0 : List Int) (w : World) (w0 : Dr.IsRow .u8 w a0 len0 cap0 z0) (hL : laidMetH Tryd.prog Rows.fnJoinBesideRow.laid w) (hsh : w.ShapedOpen Tryd.prog) :
    Calls Tryd.prog 13 #[.slice a0 len0 cap0] w fun e w' => e = .returned (.bool true) ∧ Below w.heap.size w w' := by
  have HM : Hid (Mx w) := mx_of hsh
  clear hsh hL
  by_cases hlong : (1048576 : Int) < len0
  · go_enter Tryd.func13, Tryd.ntmps13
    go_wp2
    go_ret
    exact ⟨rfl, Below.refl _ _⟩
  · go_enter Tryd.func13, Tryd.ntmps13
    go_wp2_with fail
    refine (Dr.drawJoin_any a0 len0 cap0 z0 w w0).mono ?_
    rintro e w1 ⟨P, p1, q1, ref, rfl, hO1, hbk, hrs, hra, hb1⟩
    have HA : Hid (ascii ref) := ascii_of hra
    have HP1 : Hid (At w (w1.alloc (.cells #[.string P.house, .slice p1 P.parts.length q1, .bool P.asks, .string P.ask] 25)) w1.heap.size P p1 q1) := At.new hO1 (Nat.le_refl _)
    have HB1 : Hid (Below w.heap.size w (w1.alloc (.cells #[.string P.house, .slice p1 P.parts.length q1, .bool P.asks, .string P.ask] 25))) := hb1.alloc hb1.size _
    have hbk4 : bulkA P ≤ 4194304 := by omega
    have hpl4 : P.parts.length ≤ 4194304 := by have := bulkA_bd P; omega
    obtain ⟨F, hF⟩ : ∃ F, w1.heap.size = F := ⟨_, rfl⟩
    rw [hF] at HP1
    clear hO1 hb1 hra
    go_wp2_with fail
    refine (specJoin_any P ref p1 q1 _ HP1.out.strs hbk hrs).mono ?_
    rintro e w2 ⟨A, told, a1, c1, rfl, hans, hO2, hb2⟩
    have HANS : Hid (Ans (joinF P ref.data.toList) A told) := hans
    have hb2a := hb2.alloc hb2.size (.cells #[.string A.house, .slice a1 A.parts.length c1, .bool A.asks, .string A.ask] 25)
    have HP2 : Hid _ := HP1.out.below hb2a
    have HX2 : Hid (At w (w2.alloc (.cells #[.string A.house, .slice a1 A.parts.length c1, .bool A.asks, .string A.ask] 25)) w2.heap.size A a1 c1) := At.new hO2 HB1.out.size
    have HB2 : Hid (Below w.heap.size w (w2.alloc (.cells #[.string A.house, .slice a1 A.parts.length c1, .bool A.asks, .string A.ask] 25))) := HB1.out.trans (hb2a.mono HB1.out.size)
    have HM2 : Hid (Mx (w2.alloc (.cells #[.string A.house, .slice a1 A.parts.length c1, .bool A.asks, .string A.ask] 25))) := HM.out.keep fun k hk => HB2.out.block k hk
    obtain ⟨G, hG⟩ : ∃ G, w2.heap.size = G := ⟨_, rfl⟩
    rw [hG] at HX2
    clear hb2 hb2a hO2 hans HB1 HP1 hF
    have hpp := HP2.out
    obtain ⟨f0, f1, f2, f3⟩ := hpp.cells
    clear hpp
    go_wp2_with fail
    refine (implJoin_ascii P ref p1 q1 _ HM2.out HP2.out.strs hbk hrs HA.out).mono ?_
    rintro e w3 ⟨A', ok, b1, d1, rfl, hans, hO3, hb3⟩
    obtain ⟨hA', hok'⟩ := ans_same HANS.out hans
    subst hA' hok'
    clear hans f0 f1 f2 f3
    have hb3a := hb3.alloc hb3.size (.cells #[.string A'.house, .slice b1 A'.parts.length d1, .bool A'.asks, .string A'.ask] 25)
    have HP3 : Hid _ := HP2.out.below hb3a
    have HX3 : Hid _ := HX2.out.below hb3a
    have HY3 : Hid (At w (w3.alloc (.cells #[.string A'.house, .slice b1 A'.parts.length d1, .bool A'.asks, .string A'.ask] 25)) w3.heap.size A' b1 d1) := At.new hO3 HB2.out.size
    have HB3 : Hid (Below w.heap.size w (w3.alloc (.cells #[.string A'.house, .slice b1 A'.parts.length d1, .bool A'.asks, .string A'.ask] 25))) := HB2.out.trans (hb3a.mono HB2.out.size)
    obtain ⟨hl4, hk4⟩ := ansJ_bulk HANS.out
    obtain ⟨H, hH⟩ : ∃ H, w3.heap.size = H := ⟨_, rfl⟩
    rw [hH] at HY3
    clear hb3 hb3a hO3 HB2 HP2 HX2 HM2 hG
    have hpp := HX3.out
    obtain ⟨c0, c1', c2, c3⟩ := hpp.cells
    clear hpp
    have hpp := HY3.out
    obtain ⟨d0, d1', d2, d3⟩ := hpp.cells
    clear hpp
    go_wp2_with fail
    refine (lpAddr_any A' A' b1 d1 a1 c1 _ HY3.out.strs HX3.out.strs hl4 hl4).mono ?_
    rintro e w5 ⟨rfl, hb5⟩
    rw [same_self]
    have HP5 : Hid (At w w5 F P p1 q1) := HP3.out.below hb5
    have HX5 : Hid (At w w5 G A' a1 c1) := HX3.out.below hb5
    have HY5 : Hid (At w w5 H A' b1 d1) := HY3.out.below hb5
    have HB5 : Hid (Below w.heap.size w w5) := HB3.out.trans (hb5.mono HB3.out.size)
    have HM5 : Hid (Mx w5) := HM.out.keep fun k hk => HB5.out.block k hk
    clear hb5 hH HB3 HP3 HX3 HY3 c0 c1' c2 c3 d0 d1' d2 d3
    have hpp := HP5.out
    obtain ⟨f0, f1, f2, f3⟩ := hpp.cells
    clear hpp
    have hpp := HX5.out
    obtain ⟨c0, c1', c2, c3⟩ := hpp.cells
    clear hpp
    have hpp := HY5.out
    obtain ⟨d0, d1', d2, d3⟩ := hpp.cells
    clear hpp
    cases hok : okB P with
    | false =>
      have HOK : Hid _ := hok
      clear hok
      go_wp2_with fail
      refine (specOk_any P p1 q1 _ HP5.out.strs hbk4).mono ?_
      rintro e w6 ⟨rfl, hb6⟩
      rw [HOK.out]
      have HX6 : Hid _ := HX5.out.below hb6
      have HY6 : Hid _ := HY5.out.below hb6
      have HB6 : Hid (Below w.heap.size w w6) := HB5.out.trans (hb6.mono HB5.out.size)
      clear hb6 f0 f1 f2 f3 c0 c1' c2 c3 d0 d1' d2 d3
      have hpp := HX6.out
      obtain ⟨c0, c1', c2, c3⟩ := hpp.cells
      clear hpp
      have hpp := HY6.out
      obtain ⟨d0, d1', d2, d3⟩ := hpp.cells
      clear hpp
      go_wp2_with fail
      refine (lpAddr_any A' A' b1 d1 a1 c1 _ HY6.out.strs HX6.out.strs hl4 hl4).mono ?_
      rintro e w7 ⟨rfl, hb7⟩
      rw [same_self]
      have HB7 : Hid (Below w.heap.size w w7) := HB6.out.trans (hb7.mono HB6.out.size)
      clear hb7
      go_wp2
      go_ret
      exact ⟨rfl, HB7.out⟩
    | true =>
      have HOK : Hid _ := hok
      clear hok
      have HJ1 : Hid _ := join_q HOK.out
      have HJ2 : Hid _ := join_wq HOK.out
      by_cases hlen : P.parts.length = 0
      · have HLEN : Hid (P.parts.length = 0) := hlen
        clear hlen
        go_wp2_with fail
        refine (specOk_any P p1 q1 _ HP5.out.strs hbk4).mono ?_
        rintro e w6 ⟨rfl, hb6⟩
        rw [HOK.out]
        have HP6 : Hid (At w w6 F P p1 q1) := HP5.out.below hb6
        have HX6 : Hid (At w w6 G A' a1 c1) := HX5.out.below hb6
        have HY6 : Hid (At w w6 H A' b1 d1) := HY5.out.below hb6
        have HB6 : Hid (Below w.heap.size w w6) := HB5.out.trans (hb6.mono HB5.out.size)
        clear hb6 f0 f1 f2 f3 c0 c1' c2 c3 d0 d1' d2 d3
        have hpp := HP6.out
        obtain ⟨f0, f1, f2, f3⟩ := hpp.cells
        clear hpp
        have hpp := HX6.out
        obtain ⟨c0, c1', c2, c3⟩ := hpp.cells
        clear hpp
        have hpp := HY6.out
        obtain ⟨d0, d1', d2, d3⟩ := hpp.cells
        clear hpp
        rw [HLEN.out] at f1
        go_wp2_with fail
        refine (lpAddr_any A' A' b1 d1 a1 c1 _ HY6.out.strs HX6.out.strs hl4 hl4).mono ?_
        rintro e w7 ⟨rfl, hb7⟩
        rw [same_self]
        have HB7 : Hid (Below w.heap.size w w7) := HB6.out.trans (hb7.mono HB6.out.size)
        clear hb7
        go_wp2
        go_ret
        exact ⟨rfl, HB7.out⟩
      have hleni : ((P.parts.length : Int) == 0) = false := beq_false_of_ne (by omega)
      obtain ⟨i0, hi, hz0, hz1, hz2⟩ := info_parts Tryd.infoS
      have hst := HP5.out.strs
      obtain ⟨pb, po, hp1, _⟩ := hst.2.2.2 (by intro e; rw [e] at hlen; simp at hlen)
      subst hp1
      have hqc := hst.1
      have hqm := hst.2.1
      unfold maxLen at hqm
      clear hst
      obtain ⟨D, hD⟩ : ∃ D, P.parts.dropLast = D := ⟨_, rfl⟩
      have hDl : D.length = P.parts.length - 1 := by rw [← hD]; simp
      have HDL : Hid _ := hDl
      have HD : Hid _ := hD
      rw [hD] at HJ1 HJ2
      clear hD hDl HANS
      go_wp2_with fail
      refine (specOk_any P (some ⟨pb, po, none⟩) q1 _ HP5.out.strs hbk4).mono ?_
      rintro e w6 ⟨rfl, hb6⟩
      rw [HOK.out]
      have HP6 : Hid (At w w6 F P (some ⟨pb, po, none⟩) q1) := HP5.out.below hb6
      have HB6 : Hid (Below w.heap.size w w6) := HB5.out.trans (hb6.mono HB5.out.size)
      have HM6 : Hid (Mx w6) := HM5.out.below hb6
      clear hb6 HB5 HM5 f0 f1 f2 f3 c0 c1' c2 c3 d0 d1' d2 d3
      have hpp := HP6.out
      obtain ⟨f0, f1, f2, f3⟩ := hpp.cells
      clear hpp
      go_wp2_with fail
      refine (implJoin_ascii P _ (some ⟨pb, po, none⟩) q1 _ HM6.out HP6.out.strs hbk (by decide) (ascii_of (by decide))).mono ?_
      rintro e w7 ⟨B7, o7, x7, y7, rfl, hans, hO, hb⟩
      have HR7 : Hid (Ans _ B7 o7) := hans
      have hba := hb.alloc hb.size (.cells #[.string B7.house, .slice x7 B7.parts.length y7, .bool B7.asks, .string B7.ask] 25)
      have HP7 : Hid (At w (w7.alloc (.cells #[.string B7.house, .slice x7 B7.parts.length y7, .bool B7.asks, .string B7.ask] 25)) F P (some ⟨pb, po, none⟩) q1) := HP6.out.below hba
      have HB7 : Hid (Below w.heap.size w (w7.alloc (.cells #[.string B7.house, .slice x7 B7.parts.length y7, .bool B7.asks, .string B7.ask] 25))) := HB6.out.trans (hba.mono HB6.out.size)
      have HM7 : Hid (Mx (w7.alloc (.cells #[.string B7.house, .slice x7 B7.parts.length y7, .bool B7.asks, .string B7.ask] 25))) := HM6.out.below hba
      have HK7 : Hid (At w (w7.alloc (.cells #[.string B7.house, .slice x7 B7.parts.length y7, .bool B7.asks, .string B7.ask] 25)) w7.heap.size B7 x7 y7) := At.new hO HB6.out.size
      obtain ⟨K7, hK7⟩ : ∃ K, w7.heap.size = K := ⟨_, rfl⟩
      rw [hK7] at HK7
      obtain ⟨hl7, hk7⟩ := ansJ_bulk HR7.out
      clear hans hO hb hba HP6 HB6 HM6 f0 f1 f2 f3
      have hpp := HP7.out
      obtain ⟨f0, f1, f2, f3⟩ := hpp.cells
      clear hpp
      go_wp2_with fail
      refine (implJoin_ascii P _ (some ⟨pb, po, none⟩) q1 _ HM7.out HP7.out.strs hbk (by decide) (ascii_of (by decide))).mono ?_
      rintro e w8 ⟨B8, o8, x8, y8, rfl, hans, hO, hb⟩
      have HR8 : Hid (Ans _ B8 o8) := hans
      have hba := hb.alloc hb.size (.cells #[.string B8.house, .slice x8 B8.parts.length y8, .bool B8.asks, .string B8.ask] 25)
      have HP8 : Hid (At w (w8.alloc (.cells #[.string B8.house, .slice x8 B8.parts.length y8, .bool B8.asks, .string B8.ask] 25)) F P (some ⟨pb, po, none⟩) q1) := HP7.out.below hba
      have HB8 : Hid (Below w.heap.size w (w8.alloc (.cells #[.string B8.house, .slice x8 B8.parts.length y8, .bool B8.asks, .string B8.ask] 25))) := HB7.out.trans (hba.mono HB7.out.size)
      have HM8 : Hid (Mx (w8.alloc (.cells #[.string B8.house, .slice x8 B8.parts.length y8, .bool B8.asks, .string B8.ask] 25))) := HM7.out.below hba
      have HK8 : Hid (At w (w8.alloc (.cells #[.string B8.house, .slice x8 B8.parts.length y8, .bool B8.asks, .string B8.ask] 25)) w8.heap.size B8 x8 y8) := At.new hO HB7.out.size
      have HT7 : Hid (At w (w8.alloc (.cells #[.string B8.house, .slice x8 B8.parts.length y8, .bool B8.asks, .string B8.ask] 25)) K7 B7 x7 y7) := HK7.out.below hba
      clear HK7
      have HK7 : Hid (At w (w8.alloc (.cells #[.string B8.house, .slice x8 B8.parts.length y8, .bool B8.asks, .string B8.ask] 25)) K7 B7 x7 y7) := HT7
      clear HT7
      obtain ⟨K8, hK8⟩ : ∃ K, w8.heap.size = K := ⟨_, rfl⟩
      rw [hK8] at HK8
      obtain ⟨hl8, hk8⟩ := ansJ_bulk HR8.out
      clear hans hO hb hba HP7 HB7 HM7 f0 f1 f2 f3
      have hpp := HP8.out
      obtain ⟨f0, f1, f2, f3⟩ := hpp.cells
      clear hpp
      have HA7 : Hid (Ans (if okB ⟨P.house, D ++ [⟨#[113]⟩], false, ⟨#[]⟩⟩ then some ⟨P.house, D ++ [⟨#[113]⟩], false, ⟨#[]⟩⟩ else none) B7 o7) := by show Ans _ _ _; rw [← HJ1.out]; exact HR7.out
      have HA8 : Hid (Ans (if okB ⟨P.house, D ++ [⟨#[113]⟩], false, ⟨#[]⟩⟩ then some ⟨P.house, D ++ [⟨#[113]⟩], false, ⟨#[]⟩⟩ else none) B8 o8) := by show Ans _ _ _; rw [← HJ2.out]; exact HR8.out
      obtain ⟨hB8, ho8⟩ := ans_same HA7.out HA8.out
      have HE7 : Hid (o7 = true → B7 = ⟨P.house, D ++ [⟨#[113]⟩], false, ⟨#[]⟩⟩) := by
        intro e
        have h := ans_yes HA7.out e
        split at h
        · exact (Option.some.inj h).symm
        · cases h
      clear HR7 HR8 HJ1 HJ2 HA7 HA8
      subst hB8 ho8
      have fA : ∀ o, ((w8.alloc (.cells #[.string B8.house, .slice x8 B8.parts.length y8, .bool B8.asks, .string B8.ask] 25)).alloc o).cell? ⟨F, 1, none⟩ = some (.slice (some ⟨pb, po, none⟩) P.parts.length q1) := fun o => (HP8.out.box.grown (grown_alloc _ o none) (by simp)).cells.1.2.1
      have HC : Hid (IsStrs (w8.alloc (.cells #[.string B8.house, .slice x8 B8.parts.length y8, .bool B8.asks, .string B8.ask] 25)) (some ⟨pb, po, none⟩) q1 D) := by
        have h2 := HP8.out.strs.cut (P.parts.length - 1)
        rw [← List.dropLast_eq_take, HD.out] at h2
        exact h2
      have hsub : IntKind.i64.wrap ((P.parts.length : Int) - 1) = (P.parts.length : Int) - 1 := IntWalk.i64_in _ (by omega)
      have hs0 : (0 : Int) ≤ (P.parts.length : Int) - 1 := by omega
      have hs1 : (P.parts.length : Int) - 1 ≤ (q1 : Int) := by omega
      have hDl2 : D.length ≤ 4194304 := by have := HDL.out; omega
      go_wp2_with (first
        | (at_builtin
           refine wpList_app rfl (.tmp 72) (.tmp 79) 23 rfl (K8 + 1) 9 i0 (.string ⟨#[]⟩) 1 16 Tryd.underlying23 hi hz0 hz1 hz2 rfl (by decide) (.slice (some ⟨K8 + 1, 0, none⟩) 0 0) 0 [] rfl (own_next w8 _ K8 hK8) (some ⟨pb, po, none⟩) (P.parts.length - 1) q1 (cellsS D) rfl (by intro e; cases e) (by rw [cellsS_len, HDL.out]; omega) (HC.out.newsAny (alloc_keep _ _)) (cellsS_one D) (by unfold maxLen; omega) (by omega) (by simp; omega) ?_
           intro v9 w9 ho9 hg9
           have hO9 : Owns w9 (K8 + 1) v9 D := Owns.of_row ho9 (by rw [HDL.out]; omega) (by simp)
           have hb9 : Below (K8 + 1) (w8.alloc (.cells #[.string B8.house, .slice x8 B8.parts.length y8, .bool B8.asks, .string B8.ask] 25)) w9 := Below.grown ((Below.refl _ _).alloc (by simp; omega) _) hg9 (by simp; omega) (by intro k hk; simp [Value.ownBlock] at hk; omega)
           obtain ⟨a9, c9, hv9, hS9⟩ := hO9.strs
           subst hv9
           have HO9 : Hid (Owns w9 (K8 + 1) (.slice a9 D.length c9) D) := hO9
           have HB9 : Hid _ := hb9
           have hz9 : K8 + 1 ≤ w9.heap.size := by have := hb9.size; simp at this; omega
           clear hO9 hS9 ho9 hg9 hb9)
        | (at_builtin
           refine wpList_app rfl (.tmp 80) (.tmp 81) 23 rfl (K8 + 1) 9 i0 (.string ⟨#[]⟩) 1 16 Tryd.underlying23 hi hz0 hz1 hz2 rfl (by decide) (.slice a9 D.length c9) D.length (cellsS D) rfl (Owns.keep HO9.out (alloc_keep w9 _)) (some ⟨w9.heap.size, 0, none⟩) 1 1 [.string ⟨#[113]⟩] rfl (by intro e; cases e) rfl (by intro ad e; cases e; exact cell_one_new w9 _ _) (by intro u hu; simp at hu; subst hu; rfl) (by unfold maxLen; omega) (by omega) (by simp; omega) ?_
           intro v10 w10 ho10 hg10
           have hO10 : Owns w10 (K8 + 1) v10 (D ++ [⟨#[113]⟩]) := Owns.append ho10
           have hb10 : Below (K8 + 1) (w8.alloc (.cells #[.string B8.house, .slice x8 B8.parts.length y8, .bool B8.asks, .string B8.ask] 25)) w10 := Below.grown (HB9.out.alloc hz9 _) hg10 (by simp; omega) (Owns.block HO9.out)
           obtain ⟨a10, c10, hv10, hS10⟩ := hO10.strs
           subst hv10
           have HS10 : Hid (IsStrs w10 a10 c10 (D ++ [⟨#[113]⟩])) := hS10
           have HBX : Hid (Below (w8.alloc (.cells #[.string B8.house, .slice x8 B8.parts.length y8, .bool B8.asks, .string B8.ask] 25)).heap.size (w8.alloc (.cells #[.string B8.house, .slice x8 B8.parts.length y8, .bool B8.asks, .string B8.ask] 25)) w10) := hb10.mono (by simp; omega)
           clear hO10 hS10 ho10 hg10 hb10
           have HP10 : Hid (At w w10 F P (some ⟨pb, po, none⟩) q1) := HP8.out.below HBX.out
           have HK710 : Hid (At w w10 K7 B8 x7 y7) := HK7.out.below HBX.out
           have HK810 : Hid (At w w10 K8 B8 x8 y8) := HK8.out.below HBX.out
           have HB10 : Hid (Below w.heap.size w w10) := HB8.out.trans (HBX.out.mono HB8.out.size)
           have hDq : (D ++ [(⟨#[113]⟩ : ByteArray)]).length ≤ 4194304 := by have := HDL.out; simp; omega
           clear HB8 HBX HP8 HK7 HK8 HO9 HB9 HC HM8 fA f0 f1 f2 f3 hz9
           have hpp := HP10.out
           obtain ⟨f0, f1, f2, f3⟩ := hpp.cells
           clear hpp
           have hpp := HK710.out
           obtain ⟨k0, k1, k2, k3⟩ := hpp.cells
           clear hpp
           have hpp := HK810.out
           obtain ⟨j0, j1, j2, j3⟩ := hpp.cells
           clear hpp
           generalize hDQ : D ++ [(⟨#[113]⟩ : ByteArray)] = DQ at *
           clear hDQ)
        | fail)
      refine (lpAddr_any B8 B8 x7 y7 x8 y8 _ HK710.out.strs HK810.out.strs hl8 hl8).mono ?_
      rintro e w11 ⟨rfl, hb⟩
      rw [same_self]
      have HB11 : Hid (Below w.heap.size w w11) := HB10.out.trans (hb.mono HB10.out.size)
      have HP11 : Hid (At w w11 F P (some ⟨pb, po, none⟩) q1) := HP10.out.below hb
      have HK11 : Hid (At w w11 K7 B8 x7 y7) := HK710.out.below hb
      have HS11 : Hid (IsStrs w11 a10 c10 DQ) := HS10.out.below hb
      clear hb HB10 HP10 HK710 HK810 HS10 f0 f1 f2 f3 k0 k1 k2 k3 j0 j1 j2 j3
      have hpp := HP11.out
      obtain ⟨f0, f1, f2, f3⟩ := hpp.cells
      clear hpp
      have hpp := HK11.out
      obtain ⟨k0, k1, k2, k3⟩ := hpp.cells
      clear hpp
      cases o8 with
      | false =>
        go_wp2
        go_ret
        exact ⟨rfl, HB11.out⟩
      | true =>
        have HE : Hid (B8 = ⟨P.house, DQ, false, ⟨#[]⟩⟩) := HE7.out rfl
        go_wp2_with fail
        refine (lpAddr_any B8 ⟨P.house, DQ, false, ⟨#[]⟩⟩ x7 y7 a10 c10 _ HK11.out.strs HS11.out hl8 hDq).mono ?_
        rintro e w12 ⟨rfl, hb⟩
        rw [HE.out, same_self]
        have HB12 : Hid (Below w.heap.size w w12) := HB11.out.trans (hb.mono HB11.out.size)
        clear hb
        go_wp2
        go_ret
        exact ⟨rfl, HB12.out⟩

theorem own : ownKnob Tryd.prog.godebug = none := by kernel_rfl
theorem laidOut : laidOutB Tryd.prog = true := by kernel_rfl

/-! ### THE ROW's STEP -/
set_option maxRecDepth 100000 in
theorem lifted (os : Os) (started : os.Started) (H : Type) (enc : TypeId × Value → H) :
    ReturnsInHanded {} Tryd.checked os 13 .any (fun w args => (Rows.fnJoinBesideSpec.pre enc Tryd.prog Tryd.f13 [] false w args ∧ laidMetH Tryd.prog Rows.fnJoinBesideRow.laid w) ∧ sizedMet enc Tryd.prog Tryd.f13 (OpenSpec.ofChange Rows.fnJoinBesideSpec) false w args)
      (Rows.fnJoinBesideSpec.post enc Tryd.prog Tryd.f13 false true false false) := by
  refine returnsInHanded_of_calls own started (by kernel_rfl)
    (ChangeSpec.witness_shaped (enc := enc) (C := Tryd.checked) (os := os) (X := fun w _ => laidMetH Tryd.prog Rows.fnJoinBesideRow.laid w) false (World.laidAll Tryd.prog os Rows.fnJoinBesideRow.laid) #[.slice none 0 0] 8 (World.laidAll_os _ _ _)
      (World.shaped_of_ZipB (by kernel_rfl) (by kernel_rfl)) (by kernel_rfl) (by kernel_rfl) (by kernel_rfl)
      (by rw [MakeChecks.laidMetH_plain _ _ _ (by kernel_rfl)]; exact laidMet_laidAll _ (by kernel_rfl) (by kernel_rfl))) ?_
  intro w tape i _ hsh _ hok hpre _
  obtain ⟨_, _, _, fn', hfn', _, _, _, _, hval1⟩ := hok
  obtain rfl : fn' = Tryd.f13 := Option.some.inj (hfn'.symm.trans Tryd.func13)
  obtain ⟨⟨⟨ds, gs, before, hw, _⟩, hL0⟩, _⟩ := hpre
  have hW := DataW.Whole.of_heap (w' := w.forCall tape i) (by rfl) hw
  have hL : laidMetH Tryd.prog Rows.fnJoinBesideRow.laid (w.forCall tape i) := hL0.of_heap (by rfl)
  have hb : ∃ base, ∀ (j : Nat) t v, Tryd.f13.params[j]? = some t → i.args[j]? = some v → Value.okWide Tryd.prog (w.forCall tape i) .any base t v := ⟨_, hval1⟩
  clear hval1 hfn' hL0 hw
  suffices h : Calls Tryd.checked.prog 13 i.args (w.forCall tape i) fun e W' => ∃ v, e = .returned v ∧ Rows.fnJoinBesideSpec.post enc Tryd.checked.prog Tryd.f13 false true false false (w.forCall tape i) i.args v W' from
    h.mono fun e W' ⟨v, he, hp⟩ => by subst he; exact ChangeSpec.post_blind hp
  generalize hWe : w.forCall tape i = W at *
  generalize i.args = args at *
  clear hWe
  obtain ⟨base, hval⟩ := hb
  have hW' := hW
  obtain ⟨p, q, hA0, hV, rfl, hfz, hnd⟩ := hW
  have hA : DataW.TrodAll enc Tryd.prog W 0 (fun _ => true) true Tryd.f13.params.toList args.toList ds p := hA0
  rw [Tryd.params13] at hA hval
  obtain ⟨v0, vs0, d0, ds0, p0, q0, hargs, rfl, rfl, h0, r0⟩ := trodAll_cons hA
  obtain ⟨rfl, rfl, rfl⟩ := trodAll_nil r0
  obtain rfl : args = #[v0] := by cases args; simp_all
  obtain ⟨rfl, rfl⟩ := trodVars_none hV
  obtain ⟨a0, len0, cap0, rfl⟩ := okWide_slice Tryd.underlying22 (hval 0 22 v0 rfl rfl)
  have k0 := h0
  have lt0 : ∀ x ∈ p0, x.block < W.heap.size := by obtain ⟨m, hm⟩ := k0; exact DataW.trod_lt m _ _ _ hm
  obtain ⟨z0, w0⟩ : ∃ zs, Dr.IsRow .u8 W a0 len0 cap0 zs := by
    obtain ⟨fuel, hf⟩ := h0
    rcases open_ints Tryd.underlying22 Tryd.underlying5 (by kernel_rfl) hf with ⟨hcs, _⟩ | ⟨x, l, c, zs, hcs, _, hl, hm, hz, _, hcell, hwz⟩
    · simp [Value.cells] at hcs
      obtain ⟨rfl, rfl, rfl⟩ := hcs
      exact ⟨[], .inl ⟨rfl, rfl, rfl, rfl⟩⟩
    · simp [Value.cells] at hcs
      obtain ⟨rfl, rfl, rfl⟩ := hcs
      exact ⟨zs, .inr ⟨_, rfl, hl, hm, by simpa using hz, hcell, hwz⟩⟩
  clear hA0
  refine (walk a0 len0 cap0 z0 W w0 hL hsh).mono fun e W' ⟨he, bel⟩ => ?_
  subst he
  exact ⟨_, rfl, _, _, _, [], _, [], hW', trodAll_mk1 (shut_bool Tryd.underlying4 _), (trodAll_cons_mk (Below.trod laidOut (by kernel_rfl) (of_decide_eq_true (by kernel_rfl)) k0 bel lt0) trodAll_mk0), rfl, bel.frame _, fun h => by cases h⟩

theorem over : Rows.fnJoinBesideRow.holds Tryd.pinned (OpenSpec.ofChange Rows.fnJoinBesideSpec) :=
  OpenClaim.holds_of_wide 13 Tryd.f13 rfl rfl rfl rfl rfl rfl rfl ⟨rfl, rfl, rfl, rfl, rfl⟩ rfl rfl rfl rfl rfl (by kernel_rfl) Tryd.func13 (by kernel_rfl)
    (of_decide_eq_true (by kernel_rfl)) (by unfold Func.isWrapper; first | (rw [if_pos (by decide +kernel)]; kernel_rfl) | (rw [if_neg (by decide +kernel)]; exact ⟨rfl, rfl⟩))
    (fun os started H enc _ => lifted os started H enc)

theorem proved : Rows.FnJoinBesideCardSaid :=
  Claim7.holds_tied_plain_at .later [] [.data, .pinned] true _ false over (fun _ h => by cases h) (by kernel_rfl) (fun _ h => by cases h) fnJoinBeside_row_tie rfl ⟨rfl, rfl⟩ (by kernel_rfl) rfl
    (fun f fn hf hfn => by
      obtain rfl : f = 13 := Option.some.inj ((show Tryd.prog.funcNamed "loop.example/pedlar/laws.FnJoinBeside" = some 13 by kernel_rfl).symm.trans hf) |>.symm
      obtain rfl : fn = Tryd.f13 := (Option.some.inj (Tryd.func13.symm.trans hfn)).symm
      exact ⟨by kernel_rfl, fun j t ht => by
        rw [Tryd.params13] at ht
        have hm : t ∈ [22] := by simpa using Array.mem_of_getElem? ht
        have hall : ([22].all fun u => !Tryd.prog.wantsStandIn u) = true := by kernel_rfl
        exact (show Tryd.prog.wantsStandIn t = false by simpa using List.all_eq_true.1 hall t hm)⟩)
    (by kernel_rfl)
end Go.Proofs.YtbfiopcdclcdhaaDoor.fnJoinBeside
