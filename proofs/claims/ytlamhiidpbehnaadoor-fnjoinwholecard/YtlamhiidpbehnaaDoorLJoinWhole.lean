/- FnJoinWhole: for every two codes, AddrJoin of the text of the address drawn of the second, if it is ok, is that address, from whichever ok address. The card ties two tables of unicode/utf8 to the program's text; no other condition. -/
import Derived.Test.YtlamhiidpbehnaaDoorRows
import Derived.WalkKit
import Derived.ProofKit
import Derived.OpenShut
import Derived.ShutString
import Derived.ChangeOld
import Derived.Below
import Derived.Test.YtlamhiidpbehnaaDoorCards
import Derived.Test.YtlamhiidpbehnaaDoorTie
import Derived.Test.YtlamhiidpbehnaaDoorDraw10
import Derived.Lay
import Derived.LaidOnce
import Derived.SevenTiedAt
namespace Go.Proofs.YtlamhiidpbehnaaDoor.fnJoinWhole
open Go.ChangeShapes Go.WideShapes Go.ChangeAt Go.RowKit
open Go.ChangeMaps (open_string shut_string)
set_option linter.unusedVariables false
open Go.Proofs.YtlamhiidpbehnaaDoor.EscM Go.Proofs.YtlamhiidpbehnaaDoor.St Go.Proofs.YtlamhiidpbehnaaDoor.AddrM Go.Proofs.YtlamhiidpbehnaaDoor.ReadM Go.Proofs.YtlamhiidpbehnaaDoor.EscL Go.Proofs.YtlamhiidpbehnaaDoor.Ad1 Go.Proofs.YtlamhiidpbehnaaDoor.Dr Go.Proofs.YtlamhiidpbehnaaDoor.Tw Go.Proofs.YtlamhiidpbehnaaDoor.RB Go.Proofs.YtlamhiidpbehnaaDoor.Im Go.Proofs.YtlamhiidpbehnaaDoor.Rd1 Go.Proofs.YtlamhiidpbehnaaDoor.Door Go.Proofs.YtlamhiidpbehnaaDoor.JnM Go.Proofs.YtlamhiidpbehnaaDoor.Jn

theorem join_text {P T : Ad} (h : okB P = true) (ht : okB T = true) : joinF P (textF T).data.toList = some T := by
  have hz := textF_size T
  have hl : ¬ 60 < (textF T).data.toList.length := by simp; omega
  have hc : cutL 35 (textF T).data.toList = ((textF T).data.toList, [], false) := RL.bare_cut fun b hb => by
    rw [text_data ht] at hb; exact (text_bytes ht b hb).1
  have h2 : (textF T).data.toList.take 2 = [47, 47] := by rw [text_data ht]; rfl
  rw [join_go h hl, hc, go_whole h2]
  have hr := read_back ht
  rw [← text_data ht] at hr
  rw [read_is hl (by rw [hc]; exact h2), hc] at hr
  exact hr
theorem text_ascii {T : Ad} (ht : okB T = true) : ascii (textF T) := by
  rw [ascii_mem, text_data ht]
  exact fun b hb => (text_bytes ht b hb).2

theorem box_set {w : World} {G z j : Nat} {y x0 x1 x2 x3 : Value} (h : Dr.Box w G x0 x1 x2 x3) (hne : G ≠ z) : Dr.Box (w.setCell ⟨z, j, none⟩ y) G x0 x1 x2 x3 := by
  unfold Dr.Box
  rw [Below.heap_setCell _ _ _ _ hne]; exact h
theorem At.stored {w w' : World} {G z : Nat} {A : Ad} {a1 : Option Addr} {c1 : Nat} {x0 x1 x2 x3 : Value} (h : At w w' G A a1 c1) (hz : Dr.Box w' z x0 x1 x2 x3) (hne : G ≠ z) (y0 y1 y2 y3 : Value) : At w ((((w'.setCell ⟨z, 0, none⟩ y0).setCell ⟨z, 1, none⟩ y1).setCell ⟨z, 2, none⟩ y2).setCell ⟨z, 3, none⟩ y3) G A a1 c1 := by
  refine ⟨box_set (box_set (box_set (box_set h.box hne) hne) hne) hne, ?_⟩
  exact Dr.Owns.setBox (Dr.Owns.setBox (Dr.Owns.setBox (Dr.Owns.setBox h.own hz) (Dr.Box.set0 hz _)) (Dr.Box.set1 (Dr.Box.set0 hz _) _)) (Dr.Box.set2 (Dr.Box.set1 (Dr.Box.set0 hz _) _) _)
theorem At.made {w w' : World} {z : Nat} {A : Ad} {a1 : Option Addr} {c1 : Nat} {x0 x1 x2 x3 : Value} (h : Owns w' w.heap.size (.slice a1 A.parts.length c1) A.parts) (hz : Dr.Box w' z x0 x1 x2 x3) : At w ((((w'.setCell ⟨z, 0, none⟩ (.string A.house)).setCell ⟨z, 1, none⟩ (.slice a1 A.parts.length c1)).setCell ⟨z, 2, none⟩ (.bool A.asks)).setCell ⟨z, 3, none⟩ (.string A.ask)) z A a1 c1 := by
  refine ⟨Dr.Box.set3 (Dr.Box.set2 (Dr.Box.set1 (Dr.Box.set0 hz _) _) _) _, ?_⟩
  exact Dr.Owns.setBox (Dr.Owns.setBox (Dr.Owns.setBox (Dr.Owns.setBox h hz) (Dr.Box.set0 hz _)) (Dr.Box.set1 (Dr.Box.set0 hz _) _)) (Dr.Box.set2 (Dr.Box.set1 (Dr.Box.set0 hz _) _) _)
theorem below_stored {w w' : World} {z : Nat} {y0 y1 y2 y3 : Value} (h : Below w.heap.size w w') (hz : w.heap.size ≤ z) : Below w.heap.size w ((((w'.setCell ⟨z, 0, none⟩ y0).setCell ⟨z, 1, none⟩ y1).setCell ⟨z, 2, none⟩ y2).setCell ⟨z, 3, none⟩ y3) := by
  iterate 4 refine Below.setCell ?_ (by dsimp only; omega) _
  exact h

set_option maxRecDepth 100000 in
set_option maxHeartbeats 6400000 in
theorem walk (a0 : Option Addr) (len0 cap0 : Nat) (z0 : List Int) (a1 : Option Addr) (len1 cap1 : Nat) (z1 : List Int) (w : World) (w0 : Dr.IsRow .u8 w a0 len0 cap0 z0) (w1 : Dr.IsRow .u8 w a1 len1 cap1 z1) (hL : laidMetH Tryd.prog Rows.fnJoinWholeRow.laid w) (hsh : w.ShapedOpen Tryd.prog) :
    Calls Tryd.prog 3 #[.slice a0 len0 cap0, .slice a1 len1 cap1] w fun e w' => e = .returned (.bool true) ∧ Below w.heap.size w w' := by
  have HM : Hid (Mx w) := mx_of hsh
  have HR1 : Hid (Dr.IsRow .u8 w a1 len1 cap1 z1) := w1
  clear hsh hL w1
  by_cases hlong : (1048576 : Int) < len0
  · go_enter Tryd.func3, Tryd.ntmps3
    go_wp2
    go_ret
    exact ⟨rfl, Below.refl _ _⟩
  by_cases hlong1 : (1048576 : Int) < len1
  · go_enter Tryd.func3, Tryd.ntmps3
    go_wp2
    go_ret
    exact ⟨rfl, Below.refl _ _⟩
  go_enter Tryd.func3, Tryd.ntmps3
  go_wp2_with fail
  refine (Dr.drawJoin_any a0 len0 cap0 z0 w w0).mono ?_
  rintro e wa ⟨P, p1, q1, ref, rfl, hO, hbk, hrs, hra, hb⟩
  have HA : Hid (ascii ref) := ascii_of hra
  clear hra
  have hba := hb.alloc hb.size (.cells #[.string P.house, .slice p1 P.parts.length q1, .bool P.asks, .string P.ask] 25)
  have HB1 : Hid (Below w.heap.size w (wa.alloc (.cells #[.string P.house, .slice p1 P.parts.length q1, .bool P.asks, .string P.ask] 25))) := hba
  have HP1 : Hid (At w (wa.alloc (.cells #[.string P.house, .slice p1 P.parts.length q1, .bool P.asks, .string P.ask] 25)) wa.heap.size P p1 q1) := At.new hO (Nat.le_refl _)
  have HM1 : Hid (Mx (wa.alloc (.cells #[.string P.house, .slice p1 P.parts.length q1, .bool P.asks, .string P.ask] 25))) := HM.out.below hba
  obtain ⟨F, hF⟩ : ∃ F, wa.heap.size = F := ⟨_, rfl⟩
  rw [hF] at HP1
  clear hb hba hO
  have hbk4 : bulkA P ≤ 4194304 := by omega
  have hpl4 : P.parts.length ≤ 4194304 := by have := bulkA_bd P; omega
  go_wp2_with fail
  refine (Dr.drawDrawAddrText_any a1 len1 cap1 z1 _ (HR1.out.below HB1.out)).mono ?_
  rintro e wb ⟨T, t1, s1, rfl, hO, htk, hb⟩
  have htk4 : bulkA T ≤ 4194304 := by omega
  have htl4 : T.parts.length ≤ 4194304 := by have := bulkA_bd T; omega
  have hba := hb.alloc hb.size (.cells #[.string T.house, .slice t1 T.parts.length s1, .bool T.asks, .string T.ask] 25)
  have HP2 : Hid (At w (wb.alloc (.cells #[.string T.house, .slice t1 T.parts.length s1, .bool T.asks, .string T.ask] 25)) F P p1 q1) := HP1.out.below hba
  have HB2 : Hid (Below w.heap.size w (wb.alloc (.cells #[.string T.house, .slice t1 T.parts.length s1, .bool T.asks, .string T.ask] 25))) := HB1.out.trans (hba.mono HB1.out.size)
  have HT2 : Hid (At w (wb.alloc (.cells #[.string T.house, .slice t1 T.parts.length s1, .bool T.asks, .string T.ask] 25)) wb.heap.size T t1 s1) := At.new hO HB1.out.size
  have HM2 : Hid (Mx (wb.alloc (.cells #[.string T.house, .slice t1 T.parts.length s1, .bool T.asks, .string T.ask] 25))) := HM1.out.below hba
  obtain ⟨J, hJ⟩ : ∃ J, wb.heap.size = J := ⟨_, rfl⟩
  rw [hJ] at HT2
  clear hb hba hO HB1 HM1 HP1
  have hpp := HP2.out
  obtain ⟨f0, f1, f2, f3⟩ := hpp.cells
  clear hpp
  go_wp2_with fail
  refine (specJoin_any P ref p1 q1 _ HP2.out.strs hbk hrs).mono ?_
  rintro e wc ⟨A', told, a1', c1, rfl, hans, hO, hb⟩
  have HANS : Hid (Ans (joinF P ref.data.toList) A' told) := hans
  clear hans f0 f1 f2 f3
  have hba := hb.alloc hb.size (.cells #[.string A'.house, .slice a1' A'.parts.length c1, .bool A'.asks, .string A'.ask] 25)
  have HP3 : Hid (At w (wc.alloc (.cells #[.string A'.house, .slice a1' A'.parts.length c1, .bool A'.asks, .string A'.ask] 25)) F P p1 q1) := HP2.out.below hba
  have HT3 : Hid (At w (wc.alloc (.cells #[.string A'.house, .slice a1' A'.parts.length c1, .bool A'.asks, .string A'.ask] 25)) J T t1 s1) := HT2.out.below hba
  have HB3 : Hid (Below w.heap.size w (wc.alloc (.cells #[.string A'.house, .slice a1' A'.parts.length c1, .bool A'.asks, .string A'.ask] 25))) := HB2.out.trans (hba.mono HB2.out.size)
  have HX3 : Hid (At w (wc.alloc (.cells #[.string A'.house, .slice a1' A'.parts.length c1, .bool A'.asks, .string A'.ask] 25)) wc.heap.size A' a1' c1) := At.new hO HB2.out.size
  have HM3 : Hid (Mx (wc.alloc (.cells #[.string A'.house, .slice a1' A'.parts.length c1, .bool A'.asks, .string A'.ask] 25))) := HM2.out.below hba
  obtain ⟨G, hG⟩ : ∃ G, wc.heap.size = G := ⟨_, rfl⟩
  rw [hG] at HX3
  clear hb hba hO HB2 HM2 HP2 HT2
  have hpp := HP3.out
  obtain ⟨f0, f1, f2, f3⟩ := hpp.cells
  clear hpp
  go_wp2_with fail
  refine (implJoin_ascii P ref p1 q1 _ HM3.out HP3.out.strs hbk hrs HA.out).mono ?_
  rintro e wd ⟨B', ok, b1, d1, rfl, hans, hO, hb⟩
  obtain ⟨hA', hok'⟩ := ans_same HANS.out hans
  have hA2 := hA'.symm
  subst hA2 hok'
  clear hans f0 f1 f2 f3
  have hba := hb.alloc hb.size (.cells #[.string A'.house, .slice b1 A'.parts.length d1, .bool A'.asks, .string A'.ask] 25)
  have HP4 : Hid (At w (wd.alloc (.cells #[.string A'.house, .slice b1 A'.parts.length d1, .bool A'.asks, .string A'.ask] 25)) F P p1 q1) := HP3.out.below hba
  have HT4 : Hid (At w (wd.alloc (.cells #[.string A'.house, .slice b1 A'.parts.length d1, .bool A'.asks, .string A'.ask] 25)) J T t1 s1) := HT3.out.below hba
  have HX4 : Hid (At w (wd.alloc (.cells #[.string A'.house, .slice b1 A'.parts.length d1, .bool A'.asks, .string A'.ask] 25)) G A' a1' c1) := HX3.out.below hba
  have HB4 : Hid (Below w.heap.size w (wd.alloc (.cells #[.string A'.house, .slice b1 A'.parts.length d1, .bool A'.asks, .string A'.ask] 25))) := HB3.out.trans (hba.mono HB3.out.size)
  have HY4 : Hid (At w (wd.alloc (.cells #[.string A'.house, .slice b1 A'.parts.length d1, .bool A'.asks, .string A'.ask] 25)) wd.heap.size A' b1 d1) := At.new hO HB3.out.size
  have HM4 : Hid (Mx (wd.alloc (.cells #[.string A'.house, .slice b1 A'.parts.length d1, .bool A'.asks, .string A'.ask] 25))) := HM3.out.below hba
  obtain ⟨H, hH⟩ : ∃ H, wd.heap.size = H := ⟨_, rfl⟩
  rw [hH] at HY4
  clear hb hba hO HB3 HM3 HP3 HT3 HX3
  obtain ⟨hl4, hk4⟩ := ansJ_bulk HANS.out
  have hpp := HX4.out
  obtain ⟨c0, c1', c2, c3⟩ := hpp.cells
  clear hpp
  have hpp := HY4.out
  obtain ⟨d0, d1', d2, d3⟩ := hpp.cells
  clear hpp
  go_wp2_with fail
  refine (lpAddr_any A' A' b1 d1 a1' c1 _ HY4.out.strs HX4.out.strs hl4 hl4).mono ?_
  rintro e w5 ⟨rfl, hb⟩
  rw [same_self]
  clear c0 c1' c2 c3 d0 d1' d2 d3
  have HP5 : Hid (At w w5 F P p1 q1) := HP4.out.below hb
  have HT5 : Hid (At w w5 J T t1 s1) := HT4.out.below hb
  have HX5 : Hid (At w w5 G A' a1' c1) := HX4.out.below hb
  have HY5 : Hid (At w w5 H A' b1 d1) := HY4.out.below hb
  have HB5 : Hid (Below w.heap.size w w5) := HB4.out.trans (hb.mono HB4.out.size)
  have HM5 : Hid (Mx w5) := HM4.out.below hb
  clear hb HB4 HM4 HP4 HT4 HX4 HY4
  have hpp := HP5.out
  obtain ⟨f0, f1, f2, f3⟩ := hpp.cells
  clear hpp
  cases hok : okB P with
  | false =>
    have HOK : Hid _ := hok
    clear hok
    go_wp2_with fail
    refine (specOk_any P p1 q1 _ HP5.out.strs hbk4).mono ?_
    rintro e w6 ⟨rfl, hb⟩
    rw [HOK.out]
    clear f0 f1 f2 f3
    have HP6 : Hid (At w w6 F P p1 q1) := HP5.out.below hb
    have HT6 : Hid (At w w6 J T t1 s1) := HT5.out.below hb
    have HX6 : Hid (At w w6 G A' a1' c1) := HX5.out.below hb
    have HY6 : Hid (At w w6 H A' b1 d1) := HY5.out.below hb
    have HB6 : Hid (Below w.heap.size w w6) := HB5.out.trans (hb.mono HB5.out.size)
    have HM6 : Hid (Mx w6) := HM5.out.below hb
    clear hb HB5 HM5 HP5 HT5 HX5 HY5
    have hpp := HX6.out
    obtain ⟨c0, c1', c2, c3⟩ := hpp.cells
    clear hpp
    have hpp := HY6.out
    obtain ⟨d0, d1', d2, d3⟩ := hpp.cells
    clear hpp
    go_wp2_with fail
    refine (lpAddr_any A' A' b1 d1 a1' c1 _ HY6.out.strs HX6.out.strs hl4 hl4).mono ?_
    rintro e w7 ⟨rfl, hb⟩
    rw [same_self]
    have HB7 : Hid (Below w.heap.size w w7) := HB6.out.trans (hb.mono HB6.out.size)
    clear hb
    go_wp2
    go_ret
    exact ⟨rfl, HB7.out⟩
  | true =>
    have HOK : Hid _ := hok
    clear hok
    go_wp2_with fail
    refine (specOk_any P p1 q1 _ HP5.out.strs hbk4).mono ?_
    rintro e w6 ⟨rfl, hb⟩
    rw [HOK.out]
    clear f0 f1 f2 f3
    have HP6 : Hid (At w w6 F P p1 q1) := HP5.out.below hb
    have HT6 : Hid (At w w6 J T t1 s1) := HT5.out.below hb
    have HX6 : Hid (At w w6 G A' a1' c1) := HX5.out.below hb
    have HY6 : Hid (At w w6 H A' b1 d1) := HY5.out.below hb
    have HB6 : Hid (Below w.heap.size w w6) := HB5.out.trans (hb.mono HB5.out.size)
    have HM6 : Hid (Mx w6) := HM5.out.below hb
    clear hb HB5 HM5 HP5 HT5 HX5 HY5
    have hpp := HT6.out
    obtain ⟨f0, f1, f2, f3⟩ := hpp.cells
    clear hpp
    cases hot : okB T with
    | false =>
      have HOT : Hid _ := hot
      clear hot
      go_wp2_with fail
      refine (specOk_any T t1 s1 _ HT6.out.strs htk4).mono ?_
      rintro e w7 ⟨rfl, hb⟩
      rw [HOT.out]
      clear f0 f1 f2 f3
      have HP7 : Hid (At w w7 F P p1 q1) := HP6.out.below hb
      have HT7 : Hid (At w w7 J T t1 s1) := HT6.out.below hb
      have HX7 : Hid (At w w7 G A' a1' c1) := HX6.out.below hb
      have HY7 : Hid (At w w7 H A' b1 d1) := HY6.out.below hb
      have HB7 : Hid (Below w.heap.size w w7) := HB6.out.trans (hb.mono HB6.out.size)
      have HM7 : Hid (Mx w7) := HM6.out.below hb
      clear hb HB6 HM6 HP6 HT6 HX6 HY6
      have hpp := HX7.out
      obtain ⟨c0, c1', c2, c3⟩ := hpp.cells
      clear hpp
      have hpp := HY7.out
      obtain ⟨d0, d1', d2, d3⟩ := hpp.cells
      clear hpp
      go_wp2_with fail
      refine (lpAddr_any A' A' b1 d1 a1' c1 _ HY7.out.strs HX7.out.strs hl4 hl4).mono ?_
      rintro e w8 ⟨rfl, hb⟩
      rw [same_self]
      have HB8 : Hid (Below w.heap.size w w8) := HB7.out.trans (hb.mono HB7.out.size)
      clear hb
      go_wp2
      go_ret
      exact ⟨rfl, HB8.out⟩
    | true =>
      have HOT : Hid _ := hot
      clear hot
      have HJ3 : Hid _ := join_text HOK.out HOT.out
      have HAP : Hid _ := text_ascii HOT.out
      have hps := textF_size T
      go_wp2_with fail
      refine (specOk_any T t1 s1 _ HT6.out.strs htk4).mono ?_
      rintro e w7 ⟨rfl, hb⟩
      rw [HOT.out]
      clear f0 f1 f2 f3
      have HP7 : Hid (At w w7 F P p1 q1) := HP6.out.below hb
      have HT7 : Hid (At w w7 J T t1 s1) := HT6.out.below hb
      have HB7 : Hid (Below w.heap.size w w7) := HB6.out.trans (hb.mono HB6.out.size)
      have HM7 : Hid (Mx w7) := HM6.out.below hb
      clear hb HB6 HM6 HP6 HT6
      have hpp := HP7.out
      obtain ⟨f0, f1, f2, f3⟩ := hpp.cells
      clear hpp
      have hpp := HT7.out
      obtain ⟨g0, g1, g2, g3⟩ := hpp.cells
      clear hpp
      go_wp2_with fail
      have hFl : F < w7.heap.size := HP7.out.box.lt
      have hJl : J < w7.heap.size := HT7.out.box.lt
      have hwl := HB7.out.size
      have hFd : F < w7.drew.heap.size := hFl
      have hJd : J < w7.drew.heap.size := hJl
      have k0 : w7.drew.cell? ⟨F, 0, none⟩ = some (.string P.house) := f0
      have k1 : w7.drew.cell? ⟨F, 1, none⟩ = some (.slice p1 P.parts.length q1) := f1
      have k2 : w7.drew.cell? ⟨F, 2, none⟩ = some (.bool P.asks) := f2
      have k3 : w7.drew.cell? ⟨F, 3, none⟩ = some (.string P.ask) := f3
      have m0 : w7.drew.cell? ⟨J, 0, none⟩ = some (.string T.house) := g0
      have m1 : w7.drew.cell? ⟨J, 1, none⟩ = some (.slice t1 T.parts.length s1) := g1
      have m2 : w7.drew.cell? ⟨J, 2, none⟩ = some (.bool T.asks) := g2
      have m3 : w7.drew.cell? ⟨J, 3, none⟩ = some (.string T.ask) := g3
      go_region_with (first
        | (go_at_call 11
           first
            | (refine (implAddrText_any T t1 s1 w7.drew (HT7.out.strs.below ((Below.refl _ w7).drew)) htk4).mono ?_
               rintro e w9 ⟨rfl, hb9⟩
               have hbd : Below w7.heap.size w7 w9 := Below.trans ((Below.refl _ w7).drew) (hb9.mono (by simp))
               have HP9 : Hid (At w w9 F P p1 q1) := HP7.out.below hbd
               have HT9 : Hid (At w w9 J T t1 s1) := HT7.out.below hbd
               have HM9 : Hid (Mx w9) := HM7.out.below hbd
               have HB9 : Hid (Below w.heap.size w w9) := HB7.out.trans (hbd.mono HB7.out.size)
               have hz9 := hbd.size
               have hF9 : F < w9.heap.size := by omega
               have hJ9 : J < w9.heap.size := by omega
               have hpp := HP9.out
               obtain ⟨r0, r1, r2, r3⟩ := hpp.cells
               clear hpp hb9 hbd)
            | (refine (implAddrText_any T t1 s1 (w7.alloc (.cells #[.string ⟨#[]⟩, .slice none 0 0, .bool false, .string ⟨#[]⟩] 25)).drew (HT7.out.strs.below (((Below.refl _ w7).alloc (Nat.le_refl _) _).drew)) htk4).mono ?_
               rintro e w9 ⟨rfl, hb9⟩
               have hbd : Below w7.heap.size w7 w9 := Below.trans (((Below.refl _ w7).alloc (Nat.le_refl _) _).drew) (hb9.mono (by simp))
               have HP9 : Hid (At w w9 F P p1 q1) := HP7.out.below hbd
               have HT9 : Hid (At w w9 J T t1 s1) := HT7.out.below hbd
               have HM9 : Hid (Mx w9) := HM7.out.below hbd
               have HB9 : Hid (Below w.heap.size w w9) := HB7.out.trans (hbd.mono HB7.out.size)
               have hz9 := hbd.size
               have hF9 : F < w9.heap.size := by omega
               have hJ9 : J < w9.heap.size := by omega
               have HZ9 : Hid (Dr.Box w9 w7.heap.size (.string ⟨#[]⟩) (.slice none 0 0) (.bool false) (.string ⟨#[]⟩)) := Dr.Box.grown (Dr.Box.heapEq (Dr.heap_new w7 _) rfl) (grown_of_below none hb9) (by simp)
               have hpp := HP9.out
               obtain ⟨r0, r1, r2, r3⟩ := hpp.cells
               clear hpp hb9 hbd)
            | (refine (implAddrText_any T t1 s1 (w7.drew.alloc (.cells #[.string ⟨#[]⟩, .slice none 0 0, .bool false, .string ⟨#[]⟩] 25)) (HT7.out.strs.below (((Below.refl _ w7).drew).alloc (Nat.le_refl _) _)) htk4).mono ?_
               rintro e w9 ⟨rfl, hb9⟩
               have hbd : Below w7.heap.size w7 w9 := Below.trans (((Below.refl _ w7).drew).alloc (Nat.le_refl _) _) (hb9.mono (by simp))
               have HP9 : Hid (At w w9 F P p1 q1) := HP7.out.below hbd
               have HT9 : Hid (At w w9 J T t1 s1) := HT7.out.below hbd
               have HM9 : Hid (Mx w9) := HM7.out.below hbd
               have HB9 : Hid (Below w.heap.size w w9) := HB7.out.trans (hbd.mono HB7.out.size)
               have hz9 := hbd.size
               have hF9 : F < w9.heap.size := by omega
               have hJ9 : J < w9.heap.size := by omega
               have HZ9 : Hid (Dr.Box w9 w7.heap.size (.string ⟨#[]⟩) (.slice none 0 0) (.bool false) (.string ⟨#[]⟩)) := Dr.Box.grown (Dr.heap_new w7.drew _) (grown_of_below none hb9) (by simp)
               have hpp := HP9.out
               obtain ⟨r0, r1, r2, r3⟩ := hpp.cells
               clear hpp hb9 hbd)
            | fail)
        | (go_at_call 8
           first
            | (refine (implJoin_ascii P (textF T) p1 q1 w9 HM9.out HP9.out.strs hbk hps HAP.out).mono ?_
               rintro e w10 ⟨B10, o10, x10, y10, rfl, hans, hO, hb⟩
               obtain ⟨ho10, hB10⟩ := ans_is hans HJ3.out
               subst ho10 hB10
               have hbe : Below w9.heap.size w9 w10 := hb
               have HT10 : Hid (At w w10 J B10 t1 s1) := HT9.out.below hbe
               have HO10 : Hid (Owns w10 w.heap.size (.slice x10 B10.parts.length y10) B10.parts) := Owns.mono hO (Nat.le_trans HB9.out.size (by simp))
               have HB10 : Hid (Below w.heap.size w w10) := HB9.out.trans (hbe.mono HB9.out.size)
               first | (have HZ10 : Hid (Dr.Box w10 w7.heap.size (.string ⟨#[]⟩) (.slice none 0 0) (.bool false) (.string ⟨#[]⟩)) := HZ9.out.grown (grown_of_below none hb) (by simp)) | skip
               first | (have hpz := HZ10.out; obtain ⟨⟨z0', z1', z2', z3'⟩, zf⟩ := hpz.cells; clear hpz) | skip
               clear hans hO hb hbe)
            | (refine (implJoin_ascii P (textF T) p1 q1 (w9.alloc (.cells #[.string ⟨#[]⟩, .slice none 0 0, .bool false, .string ⟨#[]⟩] 25)) (HM9.out.alloc _) (HP9.out.strs.keep (alloc_keep w9 _)) hbk hps HAP.out).mono ?_
               rintro e w10 ⟨B10, o10, x10, y10, rfl, hans, hO, hb⟩
               obtain ⟨ho10, hB10⟩ := ans_is hans HJ3.out
               subst ho10 hB10
               have hbe : Below w9.heap.size w9 w10 := ((Below.refl _ w9).alloc (Nat.le_refl _) _).trans (hb.mono (by simp))
               have HT10 : Hid (At w w10 J B10 t1 s1) := HT9.out.below hbe
               have HO10 : Hid (Owns w10 w.heap.size (.slice x10 B10.parts.length y10) B10.parts) := Owns.mono hO (Nat.le_trans HB9.out.size (by simp))
               have HB10 : Hid (Below w.heap.size w w10) := HB9.out.trans (hbe.mono HB9.out.size)
               have HZ10 : Hid (Dr.Box w10 w9.heap.size (.string ⟨#[]⟩) (.slice none 0 0) (.bool false) (.string ⟨#[]⟩)) := Dr.Box.grown (Dr.heap_new w9 _) (grown_of_below none hb) (by simp)
               have hpz := HZ10.out
               obtain ⟨⟨z0', z1', z2', z3'⟩, zf⟩ := hpz.cells
               clear hpz
               clear hans hO hb hbe)
            | fail)
        | fail)
      all_goals (
        clear k0 k1 k2 k3 m0 m1 m2 m3
        first
        | (have HTf : Hid (At w ((((w10.setCell ⟨w7.heap.size, 0, none⟩ (.string B10.house)).setCell ⟨w7.heap.size, 1, none⟩ (.slice x10 B10.parts.length y10)).setCell ⟨w7.heap.size, 2, none⟩ (.bool B10.asks)).setCell ⟨w7.heap.size, 3, none⟩ (.string B10.ask)) J B10 t1 s1) := At.stored HT10.out HZ10.out (by omega) _ _ _ _
           have HKf : Hid (At w ((((w10.setCell ⟨w7.heap.size, 0, none⟩ (.string B10.house)).setCell ⟨w7.heap.size, 1, none⟩ (.slice x10 B10.parts.length y10)).setCell ⟨w7.heap.size, 2, none⟩ (.bool B10.asks)).setCell ⟨w7.heap.size, 3, none⟩ (.string B10.ask)) w7.heap.size B10 x10 y10) := At.made HO10.out HZ10.out
           have HBf : Hid (Below w.heap.size w ((((w10.setCell ⟨w7.heap.size, 0, none⟩ (.string B10.house)).setCell ⟨w7.heap.size, 1, none⟩ (.slice x10 B10.parts.length y10)).setCell ⟨w7.heap.size, 2, none⟩ (.bool B10.asks)).setCell ⟨w7.heap.size, 3, none⟩ (.string B10.ask))) := below_stored HB10.out (by omega)
           clear f0 f1 f2 f3 g0 g1 g2 g3
           have hpp := HTf.out
           obtain ⟨g0, g1, g2, g3⟩ := hpp.cells
           clear hpp
           have hpp := HKf.out
           obtain ⟨k0, k1, k2, k3⟩ := hpp.cells
           clear hpp
           go_wp2_with fail
           refine (lpAddr_any B10 B10 x10 y10 t1 s1 _ HKf.out.strs HTf.out.strs htl4 htl4).mono ?_
           rintro e w11 ⟨rfl, hb⟩
           rw [same_self]
           have HB11 : Hid (Below w.heap.size w w11) := HBf.out.trans (hb.mono HBf.out.size)
           clear hb
           go_wp2
           go_ret
           exact ⟨rfl, HB11.out⟩)
        | (have HTf : Hid (At w ((((w10.setCell ⟨w9.heap.size, 0, none⟩ (.string B10.house)).setCell ⟨w9.heap.size, 1, none⟩ (.slice x10 B10.parts.length y10)).setCell ⟨w9.heap.size, 2, none⟩ (.bool B10.asks)).setCell ⟨w9.heap.size, 3, none⟩ (.string B10.ask)) J B10 t1 s1) := At.stored HT10.out HZ10.out (by omega) _ _ _ _
           have HKf : Hid (At w ((((w10.setCell ⟨w9.heap.size, 0, none⟩ (.string B10.house)).setCell ⟨w9.heap.size, 1, none⟩ (.slice x10 B10.parts.length y10)).setCell ⟨w9.heap.size, 2, none⟩ (.bool B10.asks)).setCell ⟨w9.heap.size, 3, none⟩ (.string B10.ask)) w9.heap.size B10 x10 y10) := At.made HO10.out HZ10.out
           have HBf : Hid (Below w.heap.size w ((((w10.setCell ⟨w9.heap.size, 0, none⟩ (.string B10.house)).setCell ⟨w9.heap.size, 1, none⟩ (.slice x10 B10.parts.length y10)).setCell ⟨w9.heap.size, 2, none⟩ (.bool B10.asks)).setCell ⟨w9.heap.size, 3, none⟩ (.string B10.ask))) := below_stored HB10.out (by omega)
           clear f0 f1 f2 f3 g0 g1 g2 g3
           have hpp := HTf.out
           obtain ⟨g0, g1, g2, g3⟩ := hpp.cells
           clear hpp
           have hpp := HKf.out
           obtain ⟨k0, k1, k2, k3⟩ := hpp.cells
           clear hpp
           go_wp2_with fail
           refine (lpAddr_any B10 B10 x10 y10 t1 s1 _ HKf.out.strs HTf.out.strs htl4 htl4).mono ?_
           rintro e w11 ⟨rfl, hb⟩
           rw [same_self]
           have HB11 : Hid (Below w.heap.size w w11) := HBf.out.trans (hb.mono HBf.out.size)
           clear hb
           go_wp2
           go_ret
           exact ⟨rfl, HB11.out⟩)
        | (have HTf : Hid (At w (w10.alloc (.cells #[.string B10.house, .slice x10 B10.parts.length y10, .bool B10.asks, .string B10.ask] 25)) J B10 t1 s1) := HT10.out.below ((Below.refl _ _).alloc (Nat.le_refl _) _)
           have HKf : Hid (At w (w10.alloc (.cells #[.string B10.house, .slice x10 B10.parts.length y10, .bool B10.asks, .string B10.ask] 25)) w10.heap.size B10 x10 y10) := At.new HO10.out (Nat.le_refl _)
           have HBf : Hid (Below w.heap.size w (w10.alloc (.cells #[.string B10.house, .slice x10 B10.parts.length y10, .bool B10.asks, .string B10.ask] 25))) := HB10.out.alloc HB10.out.size _
           clear f0 f1 f2 f3 g0 g1 g2 g3
           have hpp := HTf.out
           obtain ⟨g0, g1, g2, g3⟩ := hpp.cells
           clear hpp
           have hpp := HKf.out
           obtain ⟨k0, k1, k2, k3⟩ := hpp.cells
           clear hpp
           go_wp2_with fail
           refine (lpAddr_any B10 B10 x10 y10 t1 s1 _ HKf.out.strs HTf.out.strs htl4 htl4).mono ?_
           rintro e w11 ⟨rfl, hb⟩
           rw [same_self]
           have HB11 : Hid (Below w.heap.size w w11) := HBf.out.trans (hb.mono HBf.out.size)
           clear hb
           go_wp2
           go_ret
           exact ⟨rfl, HB11.out⟩)
        | fail)

theorem own : ownKnob Tryd.prog.godebug = none := by kernel_rfl
theorem laidOut : laidOutB Tryd.prog = true := by kernel_rfl

/-! ### THE ROW's STEP -/
set_option maxRecDepth 100000 in
theorem lifted (os : Os) (started : os.Started) (H : Type) (enc : TypeId × Value → H) :
    ReturnsInHanded {} Tryd.checked os 3 .any (fun w args => (Rows.fnJoinWholeSpec.pre enc Tryd.prog Tryd.f3 [] false w args ∧ laidMetH Tryd.prog Rows.fnJoinWholeRow.laid w) ∧ sizedMet enc Tryd.prog Tryd.f3 (OpenSpec.ofChange Rows.fnJoinWholeSpec) false w args)
      (Rows.fnJoinWholeSpec.post enc Tryd.prog Tryd.f3 false true false false) := by
  refine returnsInHanded_of_calls own started (by kernel_rfl)
    (ChangeSpec.witness_shaped (enc := enc) (C := Tryd.checked) (os := os) (X := fun w _ => laidMetH Tryd.prog Rows.fnJoinWholeRow.laid w) false (World.laidAll Tryd.prog os Rows.fnJoinWholeRow.laid) #[.slice none 0 0, .slice none 0 0] 8 (World.laidAll_os _ _ _)
      (World.shaped_of_ZipB (by kernel_rfl) (by kernel_rfl)) (by kernel_rfl) (by kernel_rfl) (by kernel_rfl)
      (by rw [MakeChecks.laidMetH_plain _ _ _ (by kernel_rfl)]; exact laidMet_laidAll _ (by kernel_rfl) (by kernel_rfl))) ?_
  intro w tape i _ hsh _ hok hpre _
  obtain ⟨_, _, _, fn', hfn', _, _, _, _, hval1⟩ := hok
  obtain rfl : fn' = Tryd.f3 := Option.some.inj (hfn'.symm.trans Tryd.func3)
  obtain ⟨⟨⟨ds, gs, before, hw, _⟩, hL0⟩, _⟩ := hpre
  have hW := DataW.Whole.of_heap (w' := w.forCall tape i) (by rfl) hw
  have hL : laidMetH Tryd.prog Rows.fnJoinWholeRow.laid (w.forCall tape i) := hL0.of_heap (by rfl)
  have hb : ∃ base, ∀ (j : Nat) t v, Tryd.f3.params[j]? = some t → i.args[j]? = some v → Value.okWide Tryd.prog (w.forCall tape i) .any base t v := ⟨_, hval1⟩
  clear hval1 hfn' hL0 hw
  suffices h : Calls Tryd.checked.prog 3 i.args (w.forCall tape i) fun e W' => ∃ v, e = .returned v ∧ Rows.fnJoinWholeSpec.post enc Tryd.checked.prog Tryd.f3 false true false false (w.forCall tape i) i.args v W' from
    h.mono fun e W' ⟨v, he, hp⟩ => by subst he; exact ChangeSpec.post_blind hp
  generalize hWe : w.forCall tape i = W at *
  generalize i.args = args at *
  clear hWe
  obtain ⟨base, hval⟩ := hb
  have hW' := hW
  obtain ⟨p, q, hA0, hV, rfl, hfz, hnd⟩ := hW
  have hA : DataW.TrodAll enc Tryd.prog W 0 (fun _ => true) true Tryd.f3.params.toList args.toList ds p := hA0
  rw [Tryd.params3] at hA hval
  obtain ⟨v0, vs0, d0, ds0, p0, q0, hargs, rfl, rfl, h0, r0⟩ := trodAll_cons hA
  obtain ⟨v1, vs1, d1, ds1, p1, q1, rfl, rfl, rfl, h1, r1⟩ := trodAll_cons r0
  obtain ⟨rfl, rfl, rfl⟩ := trodAll_nil r1
  obtain rfl : args = #[v0, v1] := by cases args; simp_all
  obtain ⟨rfl, rfl⟩ := trodVars_none hV
  obtain ⟨a0, len0, cap0, rfl⟩ := okWide_slice Tryd.underlying22 (hval 0 22 v0 rfl rfl)
  have k0 := h0
  have lt0 : ∀ x ∈ p0, x.block < W.heap.size := by obtain ⟨m, hm⟩ := k0; exact DataW.trod_lt m _ _ _ hm
  obtain ⟨z0, w0⟩ : ∃ zs, Dr.IsRow .u8 W a0 len0 cap0 zs := by
    obtain ⟨fuel, hf⟩ := h0
    rcases open_ints Tryd.underlying22 Tryd.underlying5 (by kernel_rfl) hf with ⟨hcs, _⟩ | ⟨x, l, c, zs, hcs, _, hl, hm, hz, _, hcell, hwz⟩
    · simp [Value.cells] at hcs
      obtain ⟨rfl, rfl, rfl⟩ := hcs
      exact ⟨[], .inl ⟨rfl, rfl, rfl, rfl⟩⟩
    · simp [Value.cells] at hcs
      obtain ⟨rfl, rfl, rfl⟩ := hcs
      exact ⟨zs, .inr ⟨_, rfl, hl, hm, by simpa using hz, hcell, hwz⟩⟩
  obtain ⟨a1, len1, cap1, rfl⟩ := okWide_slice Tryd.underlying22 (hval 1 22 v1 rfl rfl)
  have k1 := h1
  have lt1 : ∀ x ∈ p1, x.block < W.heap.size := by obtain ⟨m, hm⟩ := k1; exact DataW.trod_lt m _ _ _ hm
  obtain ⟨z1, w1⟩ : ∃ zs, Dr.IsRow .u8 W a1 len1 cap1 zs := by
    obtain ⟨fuel, hf⟩ := h1
    rcases open_ints Tryd.underlying22 Tryd.underlying5 (by kernel_rfl) hf with ⟨hcs, _⟩ | ⟨x, l, c, zs, hcs, _, hl, hm, hz, _, hcell, hwz⟩
    · simp [Value.cells] at hcs
      obtain ⟨rfl, rfl, rfl⟩ := hcs
      exact ⟨[], .inl ⟨rfl, rfl, rfl, rfl⟩⟩
    · simp [Value.cells] at hcs
      obtain ⟨rfl, rfl, rfl⟩ := hcs
      exact ⟨zs, .inr ⟨_, rfl, hl, hm, by simpa using hz, hcell, hwz⟩⟩
  clear hA0
  refine (walk a0 len0 cap0 z0 a1 len1 cap1 z1 W w0 w1 hL hsh).mono fun e W' ⟨he, bel⟩ => ?_
  subst he
  exact ⟨_, rfl, _, _, _, [], _, [], hW', trodAll_mk1 (shut_bool Tryd.underlying4 _), (trodAll_cons_mk (Below.trod laidOut (by kernel_rfl) (of_decide_eq_true (by kernel_rfl)) k0 bel lt0) (trodAll_cons_mk (Below.trod laidOut (by kernel_rfl) (of_decide_eq_true (by kernel_rfl)) k1 bel lt1) trodAll_mk0)), rfl, bel.frame _, fun h => by cases h⟩

theorem over : Rows.fnJoinWholeRow.holds Tryd.pinned (OpenSpec.ofChange Rows.fnJoinWholeSpec) :=
  OpenClaim.holds_of_wide 3 Tryd.f3 rfl rfl rfl rfl rfl rfl rfl ⟨rfl, rfl, rfl, rfl, rfl⟩ rfl rfl rfl rfl rfl (by kernel_rfl) Tryd.func3 (by kernel_rfl)
    (of_decide_eq_true (by kernel_rfl)) (by unfold Func.isWrapper; first | (rw [if_pos (by decide +kernel)]; kernel_rfl) | (rw [if_neg (by decide +kernel)]; exact ⟨rfl, rfl⟩))
    (fun os started H enc _ => lifted os started H enc)

theorem proved : Rows.FnJoinWholeCardSaid :=
  Claim7.holds_tied_plain_at .later [] [.data, .pinned] true _ false over (fun _ h => by cases h) (by kernel_rfl) (fun _ h => by cases h) fnJoinWhole_row_tie rfl ⟨rfl, rfl⟩ (by kernel_rfl) rfl
    (fun f fn hf hfn => by
      obtain rfl : f = 3 := Option.some.inj ((show Tryd.prog.funcNamed "loop.example/pedlar/laws.FnJoinWhole" = some 3 by kernel_rfl).symm.trans hf) |>.symm
      obtain rfl : fn = Tryd.f3 := (Option.some.inj (Tryd.func3.symm.trans hfn)).symm
      exact ⟨by kernel_rfl, fun j t ht => by
        rw [Tryd.params3] at ht
        have hm : t ∈ [22, 22] := by simpa using Array.mem_of_getElem? ht
        have hall : ([22, 22].all fun u => !Tryd.prog.wantsStandIn u) = true := by kernel_rfl
        exact (show Tryd.prog.wantsStandIn t = false by simpa using List.all_eq_true.1 hall t hm)⟩)
    (by kernel_rfl)
end Go.Proofs.YtlamhiidpbehnaaDoor.fnJoinWhole
