/- FnJoinSelf: for every code, from the address drawn of it, if it is ok, nothing written, a cross, and its own way lead to it. The card ties two tables of unicode/utf8 to the program's text; no other condition. -/
import Derived.Test.YtbfiopcdclcdhaaDoorRows
import Derived.WalkKit
import Derived.ProofKit
import Derived.OpenShut
import Derived.ShutString
import Derived.ChangeOld
import Derived.Below
import Derived.Test.YtbfiopcdclcdhaaDoorCards
import Derived.Test.YtbfiopcdclcdhaaDoorTie
import Derived.Test.YtbfiopcdclcdhaaDoorDraw10
import Derived.Lay
import Derived.LaidOnce
import Derived.SevenTiedAt
namespace Go.Proofs.YtbfiopcdclcdhaaDoor.fnJoinSelf
open Go.ChangeShapes Go.WideShapes Go.ChangeAt Go.RowKit
open Go.ChangeMaps (open_string shut_string)
set_option linter.unusedVariables false
open Go.Proofs.YtbfiopcdclcdhaaDoor.EscM Go.Proofs.YtbfiopcdclcdhaaDoor.St Go.Proofs.YtbfiopcdclcdhaaDoor.AddrM Go.Proofs.YtbfiopcdclcdhaaDoor.ReadM Go.Proofs.YtbfiopcdclcdhaaDoor.EscL Go.Proofs.YtbfiopcdclcdhaaDoor.Ad1 Go.Proofs.YtbfiopcdclcdhaaDoor.Dr Go.Proofs.YtbfiopcdclcdhaaDoor.Tw Go.Proofs.YtbfiopcdclcdhaaDoor.RB Go.Proofs.YtbfiopcdclcdhaaDoor.Im Go.Proofs.YtbfiopcdclcdhaaDoor.Rd1 Go.Proofs.YtbfiopcdclcdhaaDoor.Door Go.Proofs.YtbfiopcdclcdhaaDoor.JnM Go.Proofs.YtbfiopcdclcdhaaDoor.Jn

theorem join_nothing {P : Ad} (h : okB P = true) : joinF P (⟨#[]⟩ : ByteArray).data.toList = some P := by
  rw [join_go h (by decide)]
  have e : (cutL 35 (⟨#[]⟩ : ByteArray).data.toList).1 = [] := by decide
  rw [e]; exact go_none
theorem join_there {P : Ad} (h : okB P = true) : joinF P (⟨#[35, 116, 104, 101, 114, 101]⟩ : ByteArray).data.toList = some P := by
  rw [join_go h (by decide)]
  have e : (cutL 35 (⟨#[35, 116, 104, 101, 114, 101]⟩ : ByteArray).data.toList).1 = [] := by decide
  rw [e]; exact go_none
theorem path_data {P : Ad} (h : okB P = true) : (pathF P).data.toList = pathL P := by
  have e : pathF P = pathS P := by unfold pathF; rw [h]; rfl
  rw [e]; simp [pathS]
theorem path_bytes {P : Ad} (h : okB P = true) : ∀ b ∈ pathL P, (b.toNat : Int) ≠ 35 ∧ b.toNat < 128 := by
  intro b hb
  exact text_bytes h b (List.mem_cons_of_mem _ (List.mem_cons_of_mem _ (List.mem_append_right _ hb)))
theorem joinL_head (p : ByteArray) (ps : List ByteArray) : ∃ r, joinL (p :: ps) = p.data.toList ++ r := by
  cases ps with
  | nil => exact ⟨[], by simp [joinL]⟩
  | cons q ps => exact ⟨_, rfl⟩
theorem path_two {P : Ad} (h : okB P = true) : ¬ (pathL P).take 2 = [47, 47] := by
  obtain ⟨_, _, h3, _, _, _⟩ := ok_parts h
  intro e
  cases hp : P.parts with
  | nil =>
    unfold pathL at e
    rw [hp] at e
    cases hq : P.asks with
    | false => rw [hq] at e; simp [joinL] at e
    | true => rw [hq] at e; simp [joinL] at e
  | cons p ps =>
    obtain ⟨r, hr⟩ := joinL_head p ps
    have ht := parts_tame h p (by rw [hp]; simp)
    have hn := (part_norm' (List.all_eq_true.1 h3 p (by rw [hp]; simp))).2.1
    unfold pathL at e
    rw [hp, hr] at e
    rw [ByteArray.toList_eq] at hn
    cases hl : p.data.toList with
    | nil => rw [hl] at hn; simp at hn
    | cons a t =>
      rw [hl] at e ht
      simp at e
      have := (ht a (by simp)).1
      rw [e] at this
      exact this rfl
theorem join_path {P : Ad} (h : okB P = true) : joinF P (pathF P).data.toList = some P := by
  have hl : ¬ 60 < (pathF P).data.toList.length := by
    have := pathF_size P
    simp; omega
  rw [join_go h hl, path_data h, RL.bare_cut (c := 35) (fun b hb => (path_bytes h b hb).1)]
  have hd : (pathL P).head? = some 47 := rfl
  rw [go_door (path_two h) hd]
  exact way_back h

theorem box_set {w : World} {G z j : Nat} {y x0 x1 x2 x3 : Value} (h : Dr.Box w G x0 x1 x2 x3) (hne : G ≠ z) : Dr.Box (w.setCell ⟨z, j, none⟩ y) G x0 x1 x2 x3 := by
  unfold Dr.Box
  rw [Below.heap_setCell _ _ _ _ hne]; exact h
theorem At.stored {w w' : World} {G z : Nat} {A : Ad} {a1 : Option Addr} {c1 : Nat} {x0 x1 x2 x3 : Value} (h : At w w' G A a1 c1) (hz : Dr.Box w' z x0 x1 x2 x3) (hne : G ≠ z) (y0 y1 y2 y3 : Value) : At w ((((w'.setCell ⟨z, 0, none⟩ y0).setCell ⟨z, 1, none⟩ y1).setCell ⟨z, 2, none⟩ y2).setCell ⟨z, 3, none⟩ y3) G A a1 c1 := by
  refine ⟨box_set (box_set (box_set (box_set h.box hne) hne) hne) hne, ?_⟩
  exact Dr.Owns.setBox (Dr.Owns.setBox (Dr.Owns.setBox (Dr.Owns.setBox h.own hz) (Dr.Box.set0 hz _)) (Dr.Box.set1 (Dr.Box.set0 hz _) _)) (Dr.Box.set2 (Dr.Box.set1 (Dr.Box.set0 hz _) _) _)
theorem At.made {w w' : World} {z : Nat} {A : Ad} {a1 : Option Addr} {c1 : Nat} {x0 x1 x2 x3 : Value} (h : Owns w' w.heap.size (.slice a1 A.parts.length c1) A.parts) (hz : Dr.Box w' z x0 x1 x2 x3) : At w ((((w'.setCell ⟨z, 0, none⟩ (.string A.house)).setCell ⟨z, 1, none⟩ (.slice a1 A.parts.length c1)).setCell ⟨z, 2, none⟩ (.bool A.asks)).setCell ⟨z, 3, none⟩ (.string A.ask)) z A a1 c1 := by
  refine ⟨Dr.Box.set3 (Dr.Box.set2 (Dr.Box.set1 (Dr.Box.set0 hz _) _) _) _, ?_⟩
  exact Dr.Owns.setBox (Dr.Owns.setBox (Dr.Owns.setBox (Dr.Owns.setBox h hz) (Dr.Box.set0 hz _)) (Dr.Box.set1 (Dr.Box.set0 hz _) _)) (Dr.Box.set2 (Dr.Box.set1 (Dr.Box.set0 hz _) _) _)
theorem below_stored {w w' : World} {z : Nat} {y0 y1 y2 y3 : Value} (h : Below w.heap.size w w') (hz : w.heap.size ≤ z) : Below w.heap.size w ((((w'.setCell ⟨z, 0, none⟩ y0).setCell ⟨z, 1, none⟩ y1).setCell ⟨z, 2, none⟩ y2).setCell ⟨z, 3, none⟩ y3) := by
  iterate 4 refine Below.setCell ?_ (by dsimp only; omega) _
  exact h

set_option maxRecDepth 100000 in
set_option maxHeartbeats 6400000 in
theorem walk (a0 : Option Addr) (len0 cap0 : Nat) (z0 : List Int) (w : World) (w0 : Dr.IsRow .u8 w a0 len0 cap0 z0) (hL : laidMetH Tryd.prog Rows.fnJoinSelfRow.laid w) (hsh : w.ShapedOpen Tryd.prog) :
    Calls Tryd.prog 9 #[.slice a0 len0 cap0] w fun e w' => e = .returned (.bool true) ∧ Below w.heap.size w w' := by
  have HM : Hid (Mx w) := mx_of hsh
  clear hsh hL
  by_cases hlong : (1048576 : Int) < len0
  · go_enter Tryd.func9, Tryd.ntmps9
    go_wp2
    go_ret
    exact ⟨rfl, Below.refl _ _⟩
  · go_enter Tryd.func9, Tryd.ntmps9
    go_wp2_with fail
    refine (Dr.drawJoin_any a0 len0 cap0 z0 w w0).mono ?_
    rintro e w1 ⟨P, p1, q1, ref, rfl, hO1, hbk, hrs, hra, hb1⟩
    have HA : Hid (ascii ref) := ascii_of hra
    have HP1 : Hid (At w (w1.alloc (.cells #[.string P.house, .slice p1 P.parts.length q1, .bool P.asks, .string P.ask] 25)) w1.heap.size P p1 q1) := At.new hO1 (Nat.le_refl _)
    have HB1 : Hid (Below w.heap.size w (w1.alloc (.cells #[.string P.house, .slice p1 P.parts.length q1, .bool P.asks, .string P.ask] 25))) := hb1.alloc hb1.size _
    have hbk4 : bulkA P ≤ 4194304 := by omega
    have hpl4 : P.parts.length ≤ 4194304 := by have := bulkA_bd P; omega
    obtain ⟨F, hF⟩ : ∃ F, w1.heap.size = F := ⟨_, rfl⟩
    rw [hF] at HP1
    clear hO1 hb1 hra
    go_wp2_with fail
    refine (specJoin_any P ref p1 q1 _ HP1.out.strs hbk hrs).mono ?_
    rintro e w2 ⟨A, told, a1, c1, rfl, hans, hO2, hb2⟩
    have HANS : Hid (Ans (joinF P ref.data.toList) A told) := hans
    have hb2a := hb2.alloc hb2.size (.cells #[.string A.house, .slice a1 A.parts.length c1, .bool A.asks, .string A.ask] 25)
    have HP2 : Hid _ := HP1.out.below hb2a
    have HX2 : Hid (At w (w2.alloc (.cells #[.string A.house, .slice a1 A.parts.length c1, .bool A.asks, .string A.ask] 25)) w2.heap.size A a1 c1) := At.new hO2 HB1.out.size
    have HB2 : Hid (Below w.heap.size w (w2.alloc (.cells #[.string A.house, .slice a1 A.parts.length c1, .bool A.asks, .string A.ask] 25))) := HB1.out.trans (hb2a.mono HB1.out.size)
    have HM2 : Hid (Mx (w2.alloc (.cells #[.string A.house, .slice a1 A.parts.length c1, .bool A.asks, .string A.ask] 25))) := HM.out.keep fun k hk => HB2.out.block k hk
    obtain ⟨G, hG⟩ : ∃ G, w2.heap.size = G := ⟨_, rfl⟩
    rw [hG] at HX2
    clear hb2 hb2a hO2 hans HB1 HP1 hF
    have hpp := HP2.out
    obtain ⟨f0, f1, f2, f3⟩ := hpp.cells
    clear hpp
    go_wp2_with fail
    refine (implJoin_ascii P ref p1 q1 _ HM2.out HP2.out.strs hbk hrs HA.out).mono ?_
    rintro e w3 ⟨A', ok, b1, d1, rfl, hans, hO3, hb3⟩
    obtain ⟨hA', hok'⟩ := ans_same HANS.out hans
    subst hA' hok'
    clear hans f0 f1 f2 f3
    have hb3a := hb3.alloc hb3.size (.cells #[.string A'.house, .slice b1 A'.parts.length d1, .bool A'.asks, .string A'.ask] 25)
    have HP3 : Hid _ := HP2.out.below hb3a
    have HX3 : Hid _ := HX2.out.below hb3a
    have HY3 : Hid (At w (w3.alloc (.cells #[.string A'.house, .slice b1 A'.parts.length d1, .bool A'.asks, .string A'.ask] 25)) w3.heap.size A' b1 d1) := At.new hO3 HB2.out.size
    have HB3 : Hid (Below w.heap.size w (w3.alloc (.cells #[.string A'.house, .slice b1 A'.parts.length d1, .bool A'.asks, .string A'.ask] 25))) := HB2.out.trans (hb3a.mono HB2.out.size)
    obtain ⟨hl4, hk4⟩ := ansJ_bulk HANS.out
    obtain ⟨H, hH⟩ : ∃ H, w3.heap.size = H := ⟨_, rfl⟩
    rw [hH] at HY3
    clear hb3 hb3a hO3 HB2 HP2 HX2 HM2 hG
    have hpp := HX3.out
    obtain ⟨c0, c1', c2, c3⟩ := hpp.cells
    clear hpp
    have hpp := HY3.out
    obtain ⟨d0, d1', d2, d3⟩ := hpp.cells
    clear hpp
    go_wp2_with fail
    refine (lpAddr_any A' A' b1 d1 a1 c1 _ HY3.out.strs HX3.out.strs hl4 hl4).mono ?_
    rintro e w5 ⟨rfl, hb5⟩
    rw [same_self]
    have HP5 : Hid (At w w5 F P p1 q1) := HP3.out.below hb5
    have HX5 : Hid (At w w5 G A' a1 c1) := HX3.out.below hb5
    have HY5 : Hid (At w w5 H A' b1 d1) := HY3.out.below hb5
    have HB5 : Hid (Below w.heap.size w w5) := HB3.out.trans (hb5.mono HB3.out.size)
    have HM5 : Hid (Mx w5) := HM.out.keep fun k hk => HB5.out.block k hk
    clear hb5 hH HB3 HP3 HX3 HY3 c0 c1' c2 c3 d0 d1' d2 d3
    have hpp := HP5.out
    obtain ⟨f0, f1, f2, f3⟩ := hpp.cells
    clear hpp
    have hpp := HX5.out
    obtain ⟨c0, c1', c2, c3⟩ := hpp.cells
    clear hpp
    have hpp := HY5.out
    obtain ⟨d0, d1', d2, d3⟩ := hpp.cells
    clear hpp
    cases hok : okB P with
    | false =>
      have HOK : Hid _ := hok
      clear hok
      go_wp2_with fail
      refine (specOk_any P p1 q1 _ HP5.out.strs hbk4).mono ?_
      rintro e w6 ⟨rfl, hb6⟩
      rw [HOK.out]
      have HX6 : Hid _ := HX5.out.below hb6
      have HY6 : Hid _ := HY5.out.below hb6
      have HB6 : Hid (Below w.heap.size w w6) := HB5.out.trans (hb6.mono HB5.out.size)
      clear hb6 f0 f1 f2 f3 c0 c1' c2 c3 d0 d1' d2 d3
      have hpp := HX6.out
      obtain ⟨c0, c1', c2, c3⟩ := hpp.cells
      clear hpp
      have hpp := HY6.out
      obtain ⟨d0, d1', d2, d3⟩ := hpp.cells
      clear hpp
      go_wp2_with fail
      refine (lpAddr_any A' A' b1 d1 a1 c1 _ HY6.out.strs HX6.out.strs hl4 hl4).mono ?_
      rintro e w7 ⟨rfl, hb7⟩
      rw [same_self]
      have HB7 : Hid (Below w.heap.size w w7) := HB6.out.trans (hb7.mono HB6.out.size)
      clear hb7
      go_wp2
      go_ret
      exact ⟨rfl, HB7.out⟩
    | true =>
      have HOK : Hid _ := hok
      clear hok
      have HJ1 : Hid _ := join_nothing HOK.out
      have HJ2 : Hid _ := join_there HOK.out
      have HJ3 : Hid _ := join_path HOK.out
      have HAP : Hid (ascii (pathF P)) := by
        show ascii _
        rw [ascii_mem, path_data HOK.out]
        exact fun b hb => (path_bytes HOK.out b hb).2
      have hps := pathF_size P
      clear HANS
      go_wp2_with fail
      refine (specOk_any P p1 q1 _ HP5.out.strs hbk4).mono ?_
      rintro e w6 ⟨rfl, hb6⟩
      rw [HOK.out]
      have HP6 : Hid (At w w6 F P p1 q1) := HP5.out.below hb6
      have HB6 : Hid (Below w.heap.size w w6) := HB5.out.trans (hb6.mono HB5.out.size)
      have HM6 : Hid (Mx w6) := HM5.out.below hb6
      clear hb6 HB5 HM5 f0 f1 f2 f3 c0 c1' c2 c3 d0 d1' d2 d3
      have hpp := HP6.out
      obtain ⟨f0, f1, f2, f3⟩ := hpp.cells
      clear hpp
      go_wp2_with fail
      refine (implJoin_ascii P _ p1 q1 _ HM6.out HP6.out.strs hbk (by decide) (ascii_of (by decide))).mono ?_
      rintro e w7 ⟨B7, o7, x7, y7, rfl, hans, hO, hb⟩
      have HR7 : Hid (Ans _ B7 o7) := hans
      have hba := hb.alloc hb.size (.cells #[.string B7.house, .slice x7 B7.parts.length y7, .bool B7.asks, .string B7.ask] 25)
      have HP7 : Hid (At w (w7.alloc (.cells #[.string B7.house, .slice x7 B7.parts.length y7, .bool B7.asks, .string B7.ask] 25)) F P p1 q1) := HP6.out.below hba
      have HB7 : Hid (Below w.heap.size w (w7.alloc (.cells #[.string B7.house, .slice x7 B7.parts.length y7, .bool B7.asks, .string B7.ask] 25))) := HB6.out.trans (hba.mono HB6.out.size)
      have HM7 : Hid (Mx (w7.alloc (.cells #[.string B7.house, .slice x7 B7.parts.length y7, .bool B7.asks, .string B7.ask] 25))) := HM6.out.below hba
      have HK7 : Hid (At w (w7.alloc (.cells #[.string B7.house, .slice x7 B7.parts.length y7, .bool B7.asks, .string B7.ask] 25)) w7.heap.size B7 x7 y7) := At.new hO HB6.out.size
      obtain ⟨K7, hK7⟩ : ∃ K, w7.heap.size = K := ⟨_, rfl⟩
      rw [hK7] at HK7
      obtain ⟨hl7, hk7⟩ := ansJ_bulk HR7.out
      clear hans hO hb hba HP6 HB6 HM6 f0 f1 f2 f3
      have hpp := HP7.out
      obtain ⟨f0, f1, f2, f3⟩ := hpp.cells
      clear hpp
      obtain ⟨ho7, hB7⟩ := ans_is HR7.out HJ1.out
      have hB7' := hB7.symm
      subst ho7 hB7'
      clear HR7 HJ1 hB7
      go_wp2_with fail
      refine (implJoin_ascii P _ p1 q1 _ HM7.out HP7.out.strs hbk (by decide) (ascii_of (by decide))).mono ?_
      rintro e w8 ⟨B8, o8, x8, y8, rfl, hans, hO, hb⟩
      have HR8 : Hid (Ans _ B8 o8) := hans
      have hba := hb.alloc hb.size (.cells #[.string B8.house, .slice x8 B8.parts.length y8, .bool B8.asks, .string B8.ask] 25)
      have HP8 : Hid (At w (w8.alloc (.cells #[.string B8.house, .slice x8 B8.parts.length y8, .bool B8.asks, .string B8.ask] 25)) F P p1 q1) := HP7.out.below hba
      have HB8 : Hid (Below w.heap.size w (w8.alloc (.cells #[.string B8.house, .slice x8 B8.parts.length y8, .bool B8.asks, .string B8.ask] 25))) := HB7.out.trans (hba.mono HB7.out.size)
      have HM8 : Hid (Mx (w8.alloc (.cells #[.string B8.house, .slice x8 B8.parts.length y8, .bool B8.asks, .string B8.ask] 25))) := HM7.out.below hba
      have HK8 : Hid (At w (w8.alloc (.cells #[.string B8.house, .slice x8 B8.parts.length y8, .bool B8.asks, .string B8.ask] 25)) w8.heap.size B8 x8 y8) := At.new hO HB7.out.size
      have HT7 : Hid (At w (w8.alloc (.cells #[.string B8.house, .slice x8 B8.parts.length y8, .bool B8.asks, .string B8.ask] 25)) K7 P x7 y7) := HK7.out.below hba
      clear HK7
      have HK7 : Hid (At w (w8.alloc (.cells #[.string B8.house, .slice x8 B8.parts.length y8, .bool B8.asks, .string B8.ask] 25)) K7 P x7 y7) := HT7
      clear HT7
      obtain ⟨K8, hK8⟩ : ∃ K, w8.heap.size = K := ⟨_, rfl⟩
      rw [hK8] at HK8
      obtain ⟨hl8, hk8⟩ := ansJ_bulk HR8.out
      clear hans hO hb hba HP7 HB7 HM7 f0 f1 f2 f3
      have hpp := HP8.out
      obtain ⟨f0, f1, f2, f3⟩ := hpp.cells
      clear hpp
      obtain ⟨ho8, hB8⟩ := ans_is HR8.out HJ2.out
      have hB8' := hB8.symm
      subst ho8 hB8'
      clear HR8 HJ2 hB8
      go_wp2_with fail
      generalize w8.alloc (.cells #[.string P.house, .slice x8 P.parts.length y8, .bool P.asks, .string P.ask] 25) = W at *
      have hFl : F < W.heap.size := HP8.out.box.lt
      have hK7l : K7 < W.heap.size := HK7.out.box.lt
      have hK8l : K8 < W.heap.size := HK8.out.box.lt
      have hwl := HB8.out.size
      have g0 : W.drew.cell? ⟨F, 0, none⟩ = some (.string P.house) := f0
      have g1 : W.drew.cell? ⟨F, 1, none⟩ = some (.slice p1 P.parts.length q1) := f1
      have g2 : W.drew.cell? ⟨F, 2, none⟩ = some (.bool P.asks) := f2
      have g3 : W.drew.cell? ⟨F, 3, none⟩ = some (.string P.ask) := f3
      have hFd : F < W.drew.heap.size := hFl
      go_region_with (first
        | (go_at_call 28
           first
            | (refine (implAddrPath_any P p1 q1 W.drew (HP8.out.strs.below ((Below.refl _ W).drew)) hbk4).mono ?_
               rintro e w9 ⟨rfl, hb9⟩
               have hbd : Below W.heap.size W w9 := Below.trans ((Below.refl _ W).drew) (hb9.mono (by simp))
               have HP9 : Hid (At w w9 F P p1 q1) := HP8.out.below hbd
               have HK79 : Hid (At w w9 K7 P x7 y7) := HK7.out.below hbd
               have HK89 : Hid (At w w9 K8 P x8 y8) := HK8.out.below hbd
               have HM9 : Hid (Mx w9) := HM8.out.below hbd
               have HB9 : Hid (Below w.heap.size w w9) := HB8.out.trans (hbd.mono HB8.out.size)
               have hz9 := hbd.size
               have hF9 : F < w9.heap.size := by omega
               have hpp := HP9.out
               obtain ⟨r0, r1, r2, r3⟩ := hpp.cells
               clear hpp hb9 hbd)
            | (refine (implAddrPath_any P p1 q1 (W.alloc (.cells #[.string ⟨#[]⟩, .slice none 0 0, .bool false, .string ⟨#[]⟩] 25)).drew (HP8.out.strs.below (((Below.refl _ W).alloc (Nat.le_refl _) _).drew)) hbk4).mono ?_
               rintro e w9 ⟨rfl, hb9⟩
               have hbd : Below W.heap.size W w9 := Below.trans (((Below.refl _ W).alloc (Nat.le_refl _) _).drew) (hb9.mono (by simp))
               have HP9 : Hid (At w w9 F P p1 q1) := HP8.out.below hbd
               have HK79 : Hid (At w w9 K7 P x7 y7) := HK7.out.below hbd
               have HK89 : Hid (At w w9 K8 P x8 y8) := HK8.out.below hbd
               have HM9 : Hid (Mx w9) := HM8.out.below hbd
               have HB9 : Hid (Below w.heap.size w w9) := HB8.out.trans (hbd.mono HB8.out.size)
               have hz9 := hbd.size
               have hF9 : F < w9.heap.size := by omega
               have HZ9 : Hid (Dr.Box w9 W.heap.size (.string ⟨#[]⟩) (.slice none 0 0) (.bool false) (.string ⟨#[]⟩)) := Dr.Box.grown (Dr.Box.heapEq (Dr.heap_new W _) rfl) (grown_of_below none hb9) (by simp)
               have hpp := HP9.out
               obtain ⟨r0, r1, r2, r3⟩ := hpp.cells
               clear hpp hb9 hbd)
            | (refine (implAddrPath_any P p1 q1 (W.drew.alloc (.cells #[.string ⟨#[]⟩, .slice none 0 0, .bool false, .string ⟨#[]⟩] 25)) (HP8.out.strs.below (((Below.refl _ W).drew).alloc (Nat.le_refl _) _)) hbk4).mono ?_
               rintro e w9 ⟨rfl, hb9⟩
               have hbd : Below W.heap.size W w9 := Below.trans (((Below.refl _ W).drew).alloc (Nat.le_refl _) _) (hb9.mono (by simp))
               have HP9 : Hid (At w w9 F P p1 q1) := HP8.out.below hbd
               have HK79 : Hid (At w w9 K7 P x7 y7) := HK7.out.below hbd
               have HK89 : Hid (At w w9 K8 P x8 y8) := HK8.out.below hbd
               have HM9 : Hid (Mx w9) := HM8.out.below hbd
               have HB9 : Hid (Below w.heap.size w w9) := HB8.out.trans (hbd.mono HB8.out.size)
               have hz9 := hbd.size
               have hF9 : F < w9.heap.size := by omega
               have HZ9 : Hid (Dr.Box w9 W.heap.size (.string ⟨#[]⟩) (.slice none 0 0) (.bool false) (.string ⟨#[]⟩)) := Dr.Box.grown (Dr.heap_new W.drew _) (grown_of_below none hb9) (by simp)
               have hpp := HP9.out
               obtain ⟨r0, r1, r2, r3⟩ := hpp.cells
               clear hpp hb9 hbd)
            | fail)
        | (go_at_call 26
           first
            | (refine (implJoin_ascii P (pathF P) p1 q1 w9 HM9.out HP9.out.strs hbk hps HAP.out).mono ?_
               rintro e w10 ⟨B10, o10, x10, y10, rfl, hans, hO, hb⟩
               obtain ⟨ho10, hB10⟩ := ans_is hans HJ3.out
               have hB10' := hB10.symm
               subst ho10 hB10'
               have hbe : Below w9.heap.size w9 w10 := hb
               have HP10 : Hid (At w w10 F P p1 q1) := HP9.out.below hbe
               have HK710 : Hid (At w w10 K7 P x7 y7) := HK79.out.below hbe
               have HK810 : Hid (At w w10 K8 P x8 y8) := HK89.out.below hbe
               have HO10 : Hid (Owns w10 w.heap.size (.slice x10 P.parts.length y10) P.parts) := Owns.mono hO (Nat.le_trans HB9.out.size (by simp))
               have HB10 : Hid (Below w.heap.size w w10) := HB9.out.trans (hbe.mono HB9.out.size)
               first | (have HZ10 : Hid (Dr.Box w10 W.heap.size (.string ⟨#[]⟩) (.slice none 0 0) (.bool false) (.string ⟨#[]⟩)) := HZ9.out.grown (grown_of_below none hb) (by simp)) | skip
               first | (have hpz := HZ10.out; obtain ⟨⟨z0', z1', z2', z3'⟩, zf⟩ := hpz.cells; clear hpz) | skip
               clear hans hO hb hbe hB10)
            | (refine (implJoin_ascii P (pathF P) p1 q1 (w9.alloc (.cells #[.string ⟨#[]⟩, .slice none 0 0, .bool false, .string ⟨#[]⟩] 25)) (HM9.out.alloc _) (HP9.out.strs.keep (alloc_keep w9 _)) hbk hps HAP.out).mono ?_
               rintro e w10 ⟨B10, o10, x10, y10, rfl, hans, hO, hb⟩
               obtain ⟨ho10, hB10⟩ := ans_is hans HJ3.out
               have hB10' := hB10.symm
               subst ho10 hB10'
               have hbe : Below w9.heap.size w9 w10 := ((Below.refl _ w9).alloc (Nat.le_refl _) _).trans (hb.mono (by simp))
               have HP10 : Hid (At w w10 F P p1 q1) := HP9.out.below hbe
               have HK710 : Hid (At w w10 K7 P x7 y7) := HK79.out.below hbe
               have HK810 : Hid (At w w10 K8 P x8 y8) := HK89.out.below hbe
               have HO10 : Hid (Owns w10 w.heap.size (.slice x10 P.parts.length y10) P.parts) := Owns.mono hO (Nat.le_trans HB9.out.size (by simp))
               have HB10 : Hid (Below w.heap.size w w10) := HB9.out.trans (hbe.mono HB9.out.size)
               have HZ10 : Hid (Dr.Box w10 w9.heap.size (.string ⟨#[]⟩) (.slice none 0 0) (.bool false) (.string ⟨#[]⟩)) := Dr.Box.grown (Dr.heap_new w9 _) (grown_of_below none hb) (by simp)
               have hpz := HZ10.out
               obtain ⟨⟨z0', z1', z2', z3'⟩, zf⟩ := hpz.cells
               clear hpz
               clear hans hO hb hbe hB10)
            | fail)
        | fail)
      all_goals (
        clear g0 g1 g2 g3
        first
        | (
          have HPf : Hid (At w ((((w10.setCell ⟨W.heap.size, 0, none⟩ (.string P.house)).setCell ⟨W.heap.size, 1, none⟩ (.slice x10 P.parts.length y10)).setCell ⟨W.heap.size, 2, none⟩ (.bool P.asks)).setCell ⟨W.heap.size, 3, none⟩ (.string P.ask)) F P p1 q1) := At.stored HP10.out HZ10.out (by omega) _ _ _ _
          have HK7f : Hid (At w ((((w10.setCell ⟨W.heap.size, 0, none⟩ (.string P.house)).setCell ⟨W.heap.size, 1, none⟩ (.slice x10 P.parts.length y10)).setCell ⟨W.heap.size, 2, none⟩ (.bool P.asks)).setCell ⟨W.heap.size, 3, none⟩ (.string P.ask)) K7 P x7 y7) := At.stored HK710.out HZ10.out (by omega) _ _ _ _
          have HK8f : Hid (At w ((((w10.setCell ⟨W.heap.size, 0, none⟩ (.string P.house)).setCell ⟨W.heap.size, 1, none⟩ (.slice x10 P.parts.length y10)).setCell ⟨W.heap.size, 2, none⟩ (.bool P.asks)).setCell ⟨W.heap.size, 3, none⟩ (.string P.ask)) K8 P x8 y8) := At.stored HK810.out HZ10.out (by omega) _ _ _ _
          have HKf : Hid (At w ((((w10.setCell ⟨W.heap.size, 0, none⟩ (.string P.house)).setCell ⟨W.heap.size, 1, none⟩ (.slice x10 P.parts.length y10)).setCell ⟨W.heap.size, 2, none⟩ (.bool P.asks)).setCell ⟨W.heap.size, 3, none⟩ (.string P.ask)) W.heap.size P x10 y10) := At.made HO10.out HZ10.out
          have HBf : Hid (Below w.heap.size w ((((w10.setCell ⟨W.heap.size, 0, none⟩ (.string P.house)).setCell ⟨W.heap.size, 1, none⟩ (.slice x10 P.parts.length y10)).setCell ⟨W.heap.size, 2, none⟩ (.bool P.asks)).setCell ⟨W.heap.size, 3, none⟩ (.string P.ask))) := below_stored HB10.out (by omega)
          clear f0 f1 f2 f3
          have hpp := HPf.out
          obtain ⟨f0, f1, f2, f3⟩ := hpp.cells
          clear hpp
          have hpp := HK7f.out
          obtain ⟨k0, k1, k2, k3⟩ := hpp.cells
          clear hpp
          go_wp2_with fail
          refine (lpAddr_any P P x7 y7 p1 q1 _ HK7f.out.strs HPf.out.strs hpl4 hpl4).mono ?_
          rintro e w11 ⟨rfl, hb⟩
          rw [same_self]
          have HB11 : Hid (Below w.heap.size w w11) := HBf.out.trans (hb.mono HBf.out.size)
          have HP11 : Hid (At w w11 F P p1 q1) := HPf.out.below hb
          have HK811 : Hid (At w w11 K8 P x8 y8) := HK8f.out.below hb
          have HK11 : Hid (At w w11 W.heap.size P x10 y10) := HKf.out.below hb
          clear hb HBf HPf HK7f HK8f HKf f0 f1 f2 f3 k0 k1 k2 k3
          have hpp := HP11.out
          obtain ⟨f0, f1, f2, f3⟩ := hpp.cells
          clear hpp
          have hpp := HK811.out
          obtain ⟨k0, k1, k2, k3⟩ := hpp.cells
          clear hpp
          go_wp2_with fail
          refine (lpAddr_any P P x8 y8 p1 q1 _ HK811.out.strs HP11.out.strs hpl4 hpl4).mono ?_
          rintro e w12 ⟨rfl, hb⟩
          rw [same_self]
          have HB12 : Hid (Below w.heap.size w w12) := HB11.out.trans (hb.mono HB11.out.size)
          have HP12 : Hid (At w w12 F P p1 q1) := HP11.out.below hb
          have HK12 : Hid (At w w12 W.heap.size P x10 y10) := HK11.out.below hb
          clear hb HB11 HP11 HK811 HK11 f0 f1 f2 f3 k0 k1 k2 k3
          have hpp := HP12.out
          obtain ⟨f0, f1, f2, f3⟩ := hpp.cells
          clear hpp
          have hpp := HK12.out
          obtain ⟨k0, k1, k2, k3⟩ := hpp.cells
          clear hpp
          go_wp2_with fail
          refine (lpAddr_any P P x10 y10 p1 q1 _ HK12.out.strs HP12.out.strs hpl4 hpl4).mono ?_
          rintro e w13 ⟨rfl, hb⟩
          rw [same_self]
          have HB13 : Hid (Below w.heap.size w w13) := HB12.out.trans (hb.mono HB12.out.size)
          clear hb
          go_wp2
          go_ret
          exact ⟨rfl, HB13.out⟩)
        | (
          have HPf : Hid (At w ((((w10.setCell ⟨w9.heap.size, 0, none⟩ (.string P.house)).setCell ⟨w9.heap.size, 1, none⟩ (.slice x10 P.parts.length y10)).setCell ⟨w9.heap.size, 2, none⟩ (.bool P.asks)).setCell ⟨w9.heap.size, 3, none⟩ (.string P.ask)) F P p1 q1) := At.stored HP10.out HZ10.out (by omega) _ _ _ _
          have HK7f : Hid (At w ((((w10.setCell ⟨w9.heap.size, 0, none⟩ (.string P.house)).setCell ⟨w9.heap.size, 1, none⟩ (.slice x10 P.parts.length y10)).setCell ⟨w9.heap.size, 2, none⟩ (.bool P.asks)).setCell ⟨w9.heap.size, 3, none⟩ (.string P.ask)) K7 P x7 y7) := At.stored HK710.out HZ10.out (by omega) _ _ _ _
          have HK8f : Hid (At w ((((w10.setCell ⟨w9.heap.size, 0, none⟩ (.string P.house)).setCell ⟨w9.heap.size, 1, none⟩ (.slice x10 P.parts.length y10)).setCell ⟨w9.heap.size, 2, none⟩ (.bool P.asks)).setCell ⟨w9.heap.size, 3, none⟩ (.string P.ask)) K8 P x8 y8) := At.stored HK810.out HZ10.out (by omega) _ _ _ _
          have HKf : Hid (At w ((((w10.setCell ⟨w9.heap.size, 0, none⟩ (.string P.house)).setCell ⟨w9.heap.size, 1, none⟩ (.slice x10 P.parts.length y10)).setCell ⟨w9.heap.size, 2, none⟩ (.bool P.asks)).setCell ⟨w9.heap.size, 3, none⟩ (.string P.ask)) w9.heap.size P x10 y10) := At.made HO10.out HZ10.out
          have HBf : Hid (Below w.heap.size w ((((w10.setCell ⟨w9.heap.size, 0, none⟩ (.string P.house)).setCell ⟨w9.heap.size, 1, none⟩ (.slice x10 P.parts.length y10)).setCell ⟨w9.heap.size, 2, none⟩ (.bool P.asks)).setCell ⟨w9.heap.size, 3, none⟩ (.string P.ask))) := below_stored HB10.out (by omega)
          clear f0 f1 f2 f3
          have hpp := HPf.out
          obtain ⟨f0, f1, f2, f3⟩ := hpp.cells
          clear hpp
          have hpp := HK7f.out
          obtain ⟨k0, k1, k2, k3⟩ := hpp.cells
          clear hpp
          go_wp2_with fail
          refine (lpAddr_any P P x7 y7 p1 q1 _ HK7f.out.strs HPf.out.strs hpl4 hpl4).mono ?_
          rintro e w11 ⟨rfl, hb⟩
          rw [same_self]
          have HB11 : Hid (Below w.heap.size w w11) := HBf.out.trans (hb.mono HBf.out.size)
          have HP11 : Hid (At w w11 F P p1 q1) := HPf.out.below hb
          have HK811 : Hid (At w w11 K8 P x8 y8) := HK8f.out.below hb
          have HK11 : Hid (At w w11 w9.heap.size P x10 y10) := HKf.out.below hb
          clear hb HBf HPf HK7f HK8f HKf f0 f1 f2 f3 k0 k1 k2 k3
          have hpp := HP11.out
          obtain ⟨f0, f1, f2, f3⟩ := hpp.cells
          clear hpp
          have hpp := HK811.out
          obtain ⟨k0, k1, k2, k3⟩ := hpp.cells
          clear hpp
          go_wp2_with fail
          refine (lpAddr_any P P x8 y8 p1 q1 _ HK811.out.strs HP11.out.strs hpl4 hpl4).mono ?_
          rintro e w12 ⟨rfl, hb⟩
          rw [same_self]
          have HB12 : Hid (Below w.heap.size w w12) := HB11.out.trans (hb.mono HB11.out.size)
          have HP12 : Hid (At w w12 F P p1 q1) := HP11.out.below hb
          have HK12 : Hid (At w w12 w9.heap.size P x10 y10) := HK11.out.below hb
          clear hb HB11 HP11 HK811 HK11 f0 f1 f2 f3 k0 k1 k2 k3
          have hpp := HP12.out
          obtain ⟨f0, f1, f2, f3⟩ := hpp.cells
          clear hpp
          have hpp := HK12.out
          obtain ⟨k0, k1, k2, k3⟩ := hpp.cells
          clear hpp
          go_wp2_with fail
          refine (lpAddr_any P P x10 y10 p1 q1 _ HK12.out.strs HP12.out.strs hpl4 hpl4).mono ?_
          rintro e w13 ⟨rfl, hb⟩
          rw [same_self]
          have HB13 : Hid (Below w.heap.size w w13) := HB12.out.trans (hb.mono HB12.out.size)
          clear hb
          go_wp2
          go_ret
          exact ⟨rfl, HB13.out⟩)
        | (
          have HPf : Hid (At w (w10.alloc (.cells #[.string P.house, .slice x10 P.parts.length y10, .bool P.asks, .string P.ask] 25)) F P p1 q1) := HP10.out.below ((Below.refl _ _).alloc (Nat.le_refl _) _)
          have HK7f : Hid (At w (w10.alloc (.cells #[.string P.house, .slice x10 P.parts.length y10, .bool P.asks, .string P.ask] 25)) K7 P x7 y7) := HK710.out.below ((Below.refl _ _).alloc (Nat.le_refl _) _)
          have HK8f : Hid (At w (w10.alloc (.cells #[.string P.house, .slice x10 P.parts.length y10, .bool P.asks, .string P.ask] 25)) K8 P x8 y8) := HK810.out.below ((Below.refl _ _).alloc (Nat.le_refl _) _)
          have HKf : Hid (At w (w10.alloc (.cells #[.string P.house, .slice x10 P.parts.length y10, .bool P.asks, .string P.ask] 25)) w10.heap.size P x10 y10) := At.new HO10.out (Nat.le_refl _)
          have HBf : Hid (Below w.heap.size w (w10.alloc (.cells #[.string P.house, .slice x10 P.parts.length y10, .bool P.asks, .string P.ask] 25))) := HB10.out.alloc HB10.out.size _
          clear f0 f1 f2 f3
          have hpp := HPf.out
          obtain ⟨f0, f1, f2, f3⟩ := hpp.cells
          clear hpp
          have hpp := HK7f.out
          obtain ⟨k0, k1, k2, k3⟩ := hpp.cells
          clear hpp
          go_wp2_with fail
          refine (lpAddr_any P P x7 y7 p1 q1 _ HK7f.out.strs HPf.out.strs hpl4 hpl4).mono ?_
          rintro e w11 ⟨rfl, hb⟩
          rw [same_self]
          have HB11 : Hid (Below w.heap.size w w11) := HBf.out.trans (hb.mono HBf.out.size)
          have HP11 : Hid (At w w11 F P p1 q1) := HPf.out.below hb
          have HK811 : Hid (At w w11 K8 P x8 y8) := HK8f.out.below hb
          have HK11 : Hid (At w w11 w10.heap.size P x10 y10) := HKf.out.below hb
          clear hb HBf HPf HK7f HK8f HKf f0 f1 f2 f3 k0 k1 k2 k3
          have hpp := HP11.out
          obtain ⟨f0, f1, f2, f3⟩ := hpp.cells
          clear hpp
          have hpp := HK811.out
          obtain ⟨k0, k1, k2, k3⟩ := hpp.cells
          clear hpp
          go_wp2_with fail
          refine (lpAddr_any P P x8 y8 p1 q1 _ HK811.out.strs HP11.out.strs hpl4 hpl4).mono ?_
          rintro e w12 ⟨rfl, hb⟩
          rw [same_self]
          have HB12 : Hid (Below w.heap.size w w12) := HB11.out.trans (hb.mono HB11.out.size)
          have HP12 : Hid (At w w12 F P p1 q1) := HP11.out.below hb
          have HK12 : Hid (At w w12 w10.heap.size P x10 y10) := HK11.out.below hb
          clear hb HB11 HP11 HK811 HK11 f0 f1 f2 f3 k0 k1 k2 k3
          have hpp := HP12.out
          obtain ⟨f0, f1, f2, f3⟩ := hpp.cells
          clear hpp
          have hpp := HK12.out
          obtain ⟨k0, k1, k2, k3⟩ := hpp.cells
          clear hpp
          go_wp2_with fail
          refine (lpAddr_any P P x10 y10 p1 q1 _ HK12.out.strs HP12.out.strs hpl4 hpl4).mono ?_
          rintro e w13 ⟨rfl, hb⟩
          rw [same_self]
          have HB13 : Hid (Below w.heap.size w w13) := HB12.out.trans (hb.mono HB12.out.size)
          clear hb
          go_wp2
          go_ret
          exact ⟨rfl, HB13.out⟩)
        | fail)

theorem own : ownKnob Tryd.prog.godebug = none := by kernel_rfl
theorem laidOut : laidOutB Tryd.prog = true := by kernel_rfl

/-! ### THE ROW's STEP -/
set_option maxRecDepth 100000 in
theorem lifted (os : Os) (started : os.Started) (H : Type) (enc : TypeId × Value → H) :
    ReturnsInHanded {} Tryd.checked os 9 .any (fun w args => (Rows.fnJoinSelfSpec.pre enc Tryd.prog Tryd.f9 [] false w args ∧ laidMetH Tryd.prog Rows.fnJoinSelfRow.laid w) ∧ sizedMet enc Tryd.prog Tryd.f9 (OpenSpec.ofChange Rows.fnJoinSelfSpec) false w args)
      (Rows.fnJoinSelfSpec.post enc Tryd.prog Tryd.f9 false true false false) := by
  refine returnsInHanded_of_calls own started (by kernel_rfl)
    (ChangeSpec.witness_shaped (enc := enc) (C := Tryd.checked) (os := os) (X := fun w _ => laidMetH Tryd.prog Rows.fnJoinSelfRow.laid w) false (World.laidAll Tryd.prog os Rows.fnJoinSelfRow.laid) #[.slice none 0 0] 8 (World.laidAll_os _ _ _)
      (World.shaped_of_ZipB (by kernel_rfl) (by kernel_rfl)) (by kernel_rfl) (by kernel_rfl) (by kernel_rfl)
      (by rw [MakeChecks.laidMetH_plain _ _ _ (by kernel_rfl)]; exact laidMet_laidAll _ (by kernel_rfl) (by kernel_rfl))) ?_
  intro w tape i _ hsh _ hok hpre _
  obtain ⟨_, _, _, fn', hfn', _, _, _, _, hval1⟩ := hok
  obtain rfl : fn' = Tryd.f9 := Option.some.inj (hfn'.symm.trans Tryd.func9)
  obtain ⟨⟨⟨ds, gs, before, hw, _⟩, hL0⟩, _⟩ := hpre
  have hW := DataW.Whole.of_heap (w' := w.forCall tape i) (by rfl) hw
  have hL : laidMetH Tryd.prog Rows.fnJoinSelfRow.laid (w.forCall tape i) := hL0.of_heap (by rfl)
  have hb : ∃ base, ∀ (j : Nat) t v, Tryd.f9.params[j]? = some t → i.args[j]? = some v → Value.okWide Tryd.prog (w.forCall tape i) .any base t v := ⟨_, hval1⟩
  clear hval1 hfn' hL0 hw
  suffices h : Calls Tryd.checked.prog 9 i.args (w.forCall tape i) fun e W' => ∃ v, e = .returned v ∧ Rows.fnJoinSelfSpec.post enc Tryd.checked.prog Tryd.f9 false true false false (w.forCall tape i) i.args v W' from
    h.mono fun e W' ⟨v, he, hp⟩ => by subst he; exact ChangeSpec.post_blind hp
  generalize hWe : w.forCall tape i = W at *
  generalize i.args = args at *
  clear hWe
  obtain ⟨base, hval⟩ := hb
  have hW' := hW
  obtain ⟨p, q, hA0, hV, rfl, hfz, hnd⟩ := hW
  have hA : DataW.TrodAll enc Tryd.prog W 0 (fun _ => true) true Tryd.f9.params.toList args.toList ds p := hA0
  rw [Tryd.params9] at hA hval
  obtain ⟨v0, vs0, d0, ds0, p0, q0, hargs, rfl, rfl, h0, r0⟩ := trodAll_cons hA
  obtain ⟨rfl, rfl, rfl⟩ := trodAll_nil r0
  obtain rfl : args = #[v0] := by cases args; simp_all
  obtain ⟨rfl, rfl⟩ := trodVars_none hV
  obtain ⟨a0, len0, cap0, rfl⟩ := okWide_slice Tryd.underlying22 (hval 0 22 v0 rfl rfl)
  have k0 := h0
  have lt0 : ∀ x ∈ p0, x.block < W.heap.size := by obtain ⟨m, hm⟩ := k0; exact DataW.trod_lt m _ _ _ hm
  obtain ⟨z0, w0⟩ : ∃ zs, Dr.IsRow .u8 W a0 len0 cap0 zs := by
    obtain ⟨fuel, hf⟩ := h0
    rcases open_ints Tryd.underlying22 Tryd.underlying5 (by kernel_rfl) hf with ⟨hcs, _⟩ | ⟨x, l, c, zs, hcs, _, hl, hm, hz, _, hcell, hwz⟩
    · simp [Value.cells] at hcs
      obtain ⟨rfl, rfl, rfl⟩ := hcs
      exact ⟨[], .inl ⟨rfl, rfl, rfl, rfl⟩⟩
    · simp [Value.cells] at hcs
      obtain ⟨rfl, rfl, rfl⟩ := hcs
      exact ⟨zs, .inr ⟨_, rfl, hl, hm, by simpa using hz, hcell, hwz⟩⟩
  clear hA0
  refine (walk a0 len0 cap0 z0 W w0 hL hsh).mono fun e W' ⟨he, bel⟩ => ?_
  subst he
  exact ⟨_, rfl, _, _, _, [], _, [], hW', trodAll_mk1 (shut_bool Tryd.underlying4 _), (trodAll_cons_mk (Below.trod laidOut (by kernel_rfl) (of_decide_eq_true (by kernel_rfl)) k0 bel lt0) trodAll_mk0), rfl, bel.frame _, fun h => by cases h⟩

theorem over : Rows.fnJoinSelfRow.holds Tryd.pinned (OpenSpec.ofChange Rows.fnJoinSelfSpec) :=
  OpenClaim.holds_of_wide 9 Tryd.f9 rfl rfl rfl rfl rfl rfl rfl ⟨rfl, rfl, rfl, rfl, rfl⟩ rfl rfl rfl rfl rfl (by kernel_rfl) Tryd.func9 (by kernel_rfl)
    (of_decide_eq_true (by kernel_rfl)) (by unfold Func.isWrapper; first | (rw [if_pos (by decide +kernel)]; kernel_rfl) | (rw [if_neg (by decide +kernel)]; exact ⟨rfl, rfl⟩))
    (fun os started H enc _ => lifted os started H enc)

theorem proved : Rows.FnJoinSelfCardSaid :=
  Claim7.holds_tied_plain_at .later [] [.data, .pinned] true _ false over (fun _ h => by cases h) (by kernel_rfl) (fun _ h => by cases h) fnJoinSelf_row_tie rfl ⟨rfl, rfl⟩ (by kernel_rfl) rfl
    (fun f fn hf hfn => by
      obtain rfl : f = 9 := Option.some.inj ((show Tryd.prog.funcNamed "loop.example/pedlar/laws.FnJoinSelf" = some 9 by kernel_rfl).symm.trans hf) |>.symm
      obtain rfl : fn = Tryd.f9 := (Option.some.inj (Tryd.func9.symm.trans hfn)).symm
      exact ⟨by kernel_rfl, fun j t ht => by
        rw [Tryd.params9] at ht
        have hm : t ∈ [22] := by simpa using Array.mem_of_getElem? ht
        have hall : ([22].all fun u => !Tryd.prog.wantsStandIn u) = true := by kernel_rfl
        exact (show Tryd.prog.wantsStandIn t = false by simpa using List.all_eq_true.1 hall t hm)⟩)
    (by kernel_rfl)
end Go.Proofs.YtbfiopcdclcdhaaDoor.fnJoinSelf
