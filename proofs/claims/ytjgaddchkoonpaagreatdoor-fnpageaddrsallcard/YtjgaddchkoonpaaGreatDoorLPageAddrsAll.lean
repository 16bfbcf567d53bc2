/- FnPageAddrsAll: for every code, PageAddrs of the address and the page drawn of it are just where AddrJoin leads by PageLinks, from where PageBase tells. The card ties two tables of unicode/utf8 to the program's text; no other condition. -/
import Derived.Test.YtjgaddchkoonpaaGreatDoorRows
import Derived.WalkKit
import Derived.ProofKit
import Derived.OpenShut
import Derived.ShutString
import Derived.ChangeOld
import Derived.Below
import Derived.Test.YtjgaddchkoonpaaGreatDoorCards
import Derived.Test.YtjgaddchkoonpaaGreatDoorTie
import Derived.Test.YtjgaddchkoonpaaGreatDoorDraw10
import Derived.Lay
import Derived.LaidOnce
import Derived.SevenTiedAt
import Derived.Test.YtjgaddchkoonpaaGreatDoorDraw13
import Derived.Test.YtjgaddchkoonpaaGreatDoorPgA2Pk
import Derived.Test.YtjgaddchkoonpaaGreatDoorPgA5
import Derived.Test.YtjgaddchkoonpaaGreatDoorPgLaws
namespace Go.Proofs.YtjgaddchkoonpaaGreatDoor.fnPageAddrsAll
open Go.ChangeShapes Go.WideShapes Go.ChangeAt Go.RowKit
open Go.ChangeMaps (open_string shut_string)
set_option linter.unusedVariables false
open Go.Proofs.YtjgaddchkoonpaaGreatDoor.EscM Go.Proofs.YtjgaddchkoonpaaGreatDoor.St Go.Proofs.YtjgaddchkoonpaaGreatDoor.AddrM Go.Proofs.YtjgaddchkoonpaaGreatDoor.ReadM Go.Proofs.YtjgaddchkoonpaaGreatDoor.EscL Go.Proofs.YtjgaddchkoonpaaGreatDoor.Ad1 Go.Proofs.YtjgaddchkoonpaaGreatDoor.Dr Go.Proofs.YtjgaddchkoonpaaGreatDoor.Tw Go.Proofs.YtjgaddchkoonpaaGreatDoor.RB Go.Proofs.YtjgaddchkoonpaaGreatDoor.Im Go.Proofs.YtjgaddchkoonpaaGreatDoor.Rd1 Go.Proofs.YtjgaddchkoonpaaGreatDoor.Door Go.Proofs.YtjgaddchkoonpaaGreatDoor.JnM Go.Proofs.YtjgaddchkoonpaaGreatDoor.Jn
open Go.Proofs.YtjgaddchkoonpaaGreatDoor.PgA Go.Proofs.YtjgaddchkoonpaaGreatDoor.PgM Go.Proofs.YtjgaddchkoonpaaGreatDoor.Pg

/-- where one comes by each of some links -/
def allL (B : Ad) (L : List ByteArray) : List ByteArray := L.filterMap fun l => (joinF B l.data.toList).map textF
theorem all_some {B C : Ad} {L : List ByteArray} {k : Nat} (h : k < L.length) (hj : joinF B L[k].data.toList = some C) : allL B (L.take (k + 1)) = allL B (L.take k) ++ [textF C] := by
  unfold allL
  rw [List.take_succ_eq_append_getElem h, List.filterMap_append]
  simp [hj]
theorem all_none {B : Ad} {L : List ByteArray} {k : Nat} (h : k < L.length) (hj : joinF B L[k].data.toList = none) : allL B (L.take (k + 1)) = allL B (L.take k) := by
  unfold allL
  rw [List.take_succ_eq_append_getElem h, List.filterMap_append]
  simp [hj]
theorem all_len (B : Ad) (L : List ByteArray) : (allL B L).length ≤ L.length := List.length_filterMap_le _ _
theorem all_page (B : Ad) (L : List ByteArray) : ∀ y ∈ allL B L, y ∈ pageL B L := by
  intro y hy
  unfold allL at hy
  obtain ⟨l, hl, e⟩ := List.mem_filterMap.1 hy
  cases hj : joinF B l.data.toList with
  | none => rw [hj] at e; cases e
  | some C =>
    rw [hj] at e
    have e := Option.some.inj e
    rw [← e]
    exact (fold_each B L []).2.2.2 l hl C hj
theorem page_all (B : Ad) (L : List ByteArray) : ∀ y ∈ pageL B L, y ∈ allL B L := by
  intro y hy
  rcases (fold_each B L []).1 y hy with h | ⟨l, hl, C, hj, e⟩
  · cases h
  · unfold allL
    exact List.mem_filterMap.2 ⟨l, hl, by rw [hj, e]; rfl⟩
theorem has_in {L : List ByteArray} {x : ByteArray} (h : x ∈ L) : hasB x L = true := by unfold hasB; simp [h]

theorem strs_lt {w : World} {a0 : Option Addr} {cap : Nat} {L : List ByteArray} (h : IsStrs w a0 cap L) : ∀ a, a0 = some a → L ≠ [] → a.block < w.heap.size := by
  intro a e hne
  obtain ⟨b, off, e', hc⟩ := h.2.2.2 hne
  have := St.cell_block (hc 0 (by cases hp : L with | nil => exact absurd hp hne | cons => simp))
  rw [e] at e'; injection e' with e'
  rw [e']; exact this
theorem strs_far {w w' : World} {a0 : Option Addr} {cap : Nat} {L : List ByteArray} {row : Option Nat} (h : IsStrs w a0 cap L) (hg : w.grownBy w' row) (hne : ∀ a, a0 = some a → L ≠ [] → row ≠ some a.block) : IsStrs w' a0 cap L := by
  by_cases hl : L = []
  · subst hl; exact ⟨h.1, h.2.1, h.2.2.1, fun e => absurd rfl e⟩
  · exact strs_apart h hg fun a e => hne a e hl

theorem app_after {w w8 w10 w11 : World} {M E gn cn mk m1 g1 : Nat} {u : Value} {acc : List ByteArray} {tx : ByteArray} {o : Obj} {f1 lk l1 : Option Addr} {Bp K G : List ByteArray} {x0 x1 x2 x3 : Value}
    (hO : Owns w10 M u acc) (hX : Dr.Box w10 E x0 x1 x2 x3) (hS : IsStrs w10 f1 g1 Bp) (hL : IsStrs w10 lk mk K) (hG : IsStrs w10 l1 m1 G) (hB : Below w.heap.size w w10) (hSZ : w8.heap.size ≤ w10.heap.size)
    (hV : u.ownBlock = some M ∨ ∃ g, u.ownBlock = some g ∧ w8.heap.size ≤ g) (hwM : w.heap.size ≤ M) (hFB : E ≠ M ∧ E < w8.heap.size)
    (hAP : ∀ a, f1 = some a → Bp ≠ [] → a.block ≠ M ∧ a.block < w8.heap.size) (hLO : ∀ a, lk = some a → K ≠ [] → a.block ≠ M ∧ a.block < w8.heap.size) (hGO : ∀ a, l1 = some a → G ≠ [] → a.block ≠ M ∧ a.block < w8.heap.size)
    (hown : w11.ownsRow M 9 1 (.slice (some ⟨gn, 0, none⟩) (acc.length + 1) cn) (acc.length + 1) (cellsS acc ++ [.string tx])) (hg : (w10.alloc o).grownBy w11 u.ownBlock) (hat : u.ownBlock = some gn ∨ gn = w10.heap.size + 1) :
    Owns w11 M (.slice (some ⟨gn, 0, none⟩) (acc.length + 1) cn) (acc ++ [tx]) ∧ Dr.Box w11 E x0 x1 x2 x3 ∧ IsStrs w11 f1 g1 Bp ∧ IsStrs w11 lk mk K ∧ IsStrs w11 l1 m1 G ∧ Below w.heap.size w w11 ∧ w8.heap.size ≤ w11.heap.size ∧
      ((Value.slice (some ⟨gn, 0, none⟩) (acc.length + 1) cn).ownBlock = some M ∨ ∃ g, (Value.slice (some ⟨gn, 0, none⟩) (acc.length + 1) cn).ownBlock = some g ∧ w8.heap.size ≤ g) := by
  have hg7 : w10.grownBy w11 u.ownBlock := Dr.grown_trans (Dr.grown_alloc w10 o _) hg
  have hne : ∀ b, (b ≠ M ∧ b < w8.heap.size) → u.ownBlock ≠ some b := by
    intro b hb e
    rcases hV with h | ⟨g, h, hg⟩
    · rw [h] at e; injection e with e; omega
    · rw [h] at e; injection e with e; omega
  refine ⟨Owns.append hown, Dr.Box.grown hX hg7 (hne _ hFB), strs_far hS hg7 (fun a e hp => hne _ (hAP a e hp)), strs_far hL hg7 (fun a e hp => hne _ (hLO a e hp)), strs_far hG hg7 (fun a e hp => hne _ (hGO a e hp)), hB.trans (grown_low w.heap.size hg7 hB.size (fun k hk => Nat.le_trans hwM (Owns.block hO k hk))), Nat.le_trans hSZ hg7.size, ?_⟩
  rcases hat with h | h
  · rcases hV with h2 | ⟨g, h2, hg2⟩
    · rw [h] at h2; exact Or.inl h2
    · rw [h] at h2; exact Or.inr ⟨g, h2, hg2⟩
  · exact Or.inr ⟨gn, rfl, by omega⟩

set_option maxRecDepth 100000 in
set_option maxHeartbeats 3200000 in
theorem within_any (a0 : Option Addr) (cap : Nat) (A : List ByteArray) (b0 : Option Addr) (dap : Nat) (B : List ByteArray) (w : World) (hA : IsStrs w a0 cap A) (hB : IsStrs w b0 dap B) (hl : A.length ≤ 4194304) (hl2 : B.length ≤ 4194304) (hs : ∀ y ∈ A, y ∈ B) :
    Calls Tryz.prog 13 #[.slice a0 A.length cap, .slice b0 B.length dap] w fun e w' => e = .returned (.bool true) ∧ w' = w := by
  have HA : Hid (IsStrs w a0 cap A) := hA
  have HB : Hid (IsStrs w b0 dap B) := hB
  have HS : Hid (∀ y ∈ A, y ∈ B) := hs
  clear hA hB hs
  go_enter Tryz.func13, Tryz.ntmps13
  go_wp2
  go_loopw [5] (fun i wr => ∃ k : Nat, k ≤ A.length ∧ i = .int .i64 (k : Int) ∧ wr = w) (fun i _ => A.length - (intOf i).toNat)
  case atStart => exact ⟨0, Nat.zero_le _, rfl, rfl⟩
  case round =>
    obtain ⟨k, hk, rfl, e4⟩ := hrel
    have e4' := e4.symm
    subst e4'
    clear e4
    by_cases hlt : k < A.length
    · obtain ⟨lb, lo, e1, cl⟩ := HA.out.at hlt
      subst e1
      have HH : Hid (hasB A[k] B = true) := has_in (HS.out _ (List.getElem_mem _))
      go_wp2_with fail
      refine (has_any b0 dap B A[k] _ HB.out hl2).mono ?_
      rintro e w1 ⟨rfl, rfl⟩
      rw [HH.out]
      go_wp2
      go_roundw
      case rel => exact ⟨k + 1, by omega, by go_num, trivial⟩
      case measure => simp [intOf]; omega
    · go_wp2
      go_ret
      exact ⟨rfl, rfl⟩

set_option maxRecDepth 100000 in
set_option maxHeartbeats 25600000 in
theorem walk (a0 : Option Addr) (len0 cap0 : Nat) (z0 : List Int) (w : World) (w0 : Dr.IsRow .u8 w a0 len0 cap0 z0) (hL : laidMetH Tryz.prog Rows.fnPageAddrsAllRow.laid w) (hsh : w.ShapedOpen Tryz.prog) :
    Calls Tryz.prog 3 #[.slice a0 len0 cap0] w fun e w' => e = .returned (.bool true) ∧ Below w.heap.size w w' := by
  have HM : Hid (Mx w) := mx_of hsh
  clear hsh hL
  by_cases hlong : (1048576 : Int) < len0
  · go_enter Tryz.func3, Tryz.ntmps3
    go_wp2
    go_ret
    exact ⟨rfl, Below.refl _ _⟩
  obtain ⟨i0, hi, hz0, hz1, hz2⟩ := info_parts Tryz.infoS
  go_enter Tryz.func3, Tryz.ntmps3
  go_wp2_with fail
  refine (Dr.drawPage_any a0 len0 cap0 z0 w w0).mono ?_
  rintro e wa ⟨P, p1, q1, t, rfl, hO, hbk, hts, hta, hb⟩
  have HTA : Hid (asciiB t = true) := hta
  have hba := hb.alloc hb.size (.cells #[.string P.house, .slice p1 P.parts.length q1, .bool P.asks, .string P.ask] 25)
  have HB1 : Hid (Below w.heap.size w (wa.alloc (.cells #[.string P.house, .slice p1 P.parts.length q1, .bool P.asks, .string P.ask] 25))) := hba
  have HP1 : Hid (At w (wa.alloc (.cells #[.string P.house, .slice p1 P.parts.length q1, .bool P.asks, .string P.ask] 25)) wa.heap.size P p1 q1) := At.new hO (Nat.le_refl _)
  have HM1 : Hid (Mx (wa.alloc (.cells #[.string P.house, .slice p1 P.parts.length q1, .bool P.asks, .string P.ask] 25))) := HM.out.below hba
  obtain ⟨F, hF⟩ : ∃ F, wa.heap.size = F := ⟨_, rfl⟩
  rw [hF] at HP1
  have ht4 : t.size ≤ 4194304 := by omega
  have htm : t.size ≤ maxLen := by unfold maxLen; omega
  have hpl := page_len P t
  have hbs := base_size t
  have HLS : Hid (∀ x ∈ linksF t, x.size ≤ 300) := links_size t
  have HLA : Hid (∀ x ∈ linksF t, ascii x) := links_ascii hta
  have HBA : Hid (ascii (baseF t).1) := base_ascii hta
  have hll := links_len t
  clear hb hba hO hta
  go_wp2_with fail
  refine (implPage_any P t p1 q1 _ HM1.out HP1.out.strs hbk ht4 HTA.out).mono ?_
  rintro e w2 ⟨v2, rfl, hO2, hb⟩
  obtain ⟨l1, m1, hv2, hS2⟩ := hO2.strs
  subst hv2
  have HL2 : Hid (IsStrs w2 l1 m1 (pageF P t)) := hS2
  have HP2 : Hid (At w w2 F P p1 q1) := HP1.out.below hb
  have HB2 : Hid (Below w.heap.size w w2) := HB1.out.trans (hb.mono HB1.out.size)
  clear hb hO2 hS2 HP1 HB1 HM1
  have hpp := HP2.out
  obtain ⟨f0, f1, f2, f3⟩ := hpp.cells
  clear hpp
  go_wp2_with fail
  refine (specPage_any P t p1 q1 _ HP2.out.strs hbk ht4).mono ?_
  rintro e w3 ⟨v3, rfl, hO3, hb⟩
  obtain ⟨r1, s1, hv3, hS3⟩ := hO3.strs
  subst hv3
  have HR3 : Hid (IsStrs w3 r1 s1 (pageF P t)) := hS3
  have HL3 : Hid (IsStrs w3 l1 m1 (pageF P t)) := HL2.out.below hb
  have HP3 : Hid (At w w3 F P p1 q1) := HP2.out.below hb
  have HB3 : Hid (Below w.heap.size w w3) := HB2.out.trans (hb.mono HB2.out.size)
  clear hb hO3 hS3 HP2 HB2 HL2 f0 f1 f2 f3
  go_wp2_with fail
  refine (texts_any l1 m1 (pageF P t) r1 s1 (pageF P t) _ HL3.out HR3.out (by omega) (by omega)).mono ?_
  rintro e w4 ⟨rfl, n4, hw4⟩
  rw [decide_eq_true rfl]
  have HL4 : Hid (IsStrs w4 l1 m1 (pageF P t)) := by rw [hw4]; exact IsStrs.drewN HL3.out n4
  have HP4 : Hid (At w w4 F P p1 q1) := by rw [hw4]; exact HP3.out.below (below_drewN (Below.refl _ _) n4)
  have HB4 : Hid (Below w.heap.size w w4) := by rw [hw4]; exact below_drewN HB3.out n4
  clear hw4 HL3 HB3 HP3 HR3
  have hpp := HP4.out
  obtain ⟨f0, f1, f2, f3⟩ := hpp.cells
  clear hpp
  go_wp2_with fail
  refine (specOk_any P p1 q1 _ HP4.out.strs (by omega)).mono ?_
  rintro e w5 ⟨rfl, hb⟩
  have HL5 : Hid (IsStrs w5 l1 m1 (pageF P t)) := HL4.out.below hb
  have HP5 : Hid (At w w5 F P p1 q1) := HP4.out.below hb
  have HB5 : Hid (Below w.heap.size w w5) := HB4.out.trans (hb.mono HB4.out.size)
  clear hb HL4 HP4 HB4 f0 f1 f2 f3
  have hpp := HP5.out
  obtain ⟨f0, f1, f2, f3⟩ := hpp.cells
  clear hpp
  cases hok : okB P with
  | false =>
    go_wp2_with fail
    refine (specPage_any P t p1 q1 _ HP5.out.strs hbk ht4).mono ?_
    rintro e w6 ⟨v3, rfl, hO3, hb⟩
    obtain ⟨r1, s1, hv3, hS3⟩ := hO3.strs
    subst hv3
    have HR6 : Hid (IsStrs w6 r1 s1 (pageF P t)) := hS3
    have HL6 : Hid (IsStrs w6 l1 m1 (pageF P t)) := HL5.out.below hb
    have HB6 : Hid (Below w.heap.size w w6) := HB5.out.trans (hb.mono HB5.out.size)
    clear hb hO3 hS3
    go_wp2_with fail
    refine (texts_any l1 m1 (pageF P t) r1 s1 (pageF P t) _ HL6.out HR6.out (by omega) (by omega)).mono ?_
    rintro e w7 ⟨rfl, n7, hw7⟩
    rw [decide_eq_true rfl]
    have HB7 : Hid (Below w.heap.size w w7) := by rw [hw7]; exact below_drewN HB6.out n7
    clear hw7
    go_wp2
    go_ret
    exact ⟨rfl, HB7.out⟩
  | true =>
    have HF : Hid (pageF P t = pageL (fromF P t) (linksF t)) := page_ok (t := t) hok
    have HBK : Hid (bulkA (fromF P t) ≤ 1000) := from_bulk (t := t) hok
    clear hok
    have HPa : Hid (At w (w5.alloc (.cells #[.string P.house, .slice p1 P.parts.length q1, .bool P.asks, .string P.ask] 25)) F P p1 q1) := HP5.out.below ((Below.refl _ _).alloc (Nat.le_refl _) _)
    have HLa : Hid (IsStrs (w5.alloc (.cells #[.string P.house, .slice p1 P.parts.length q1, .bool P.asks, .string P.ask] 25)) l1 m1 (pageF P t)) := HL5.out.keep (alloc_keep _ _)
    have HBa : Hid (Below w.heap.size w (w5.alloc (.cells #[.string P.house, .slice p1 P.parts.length q1, .bool P.asks, .string P.ask] 25))) := HB5.out.alloc HB5.out.size _
    have HXa : Hid (Dr.Box (w5.alloc (.cells #[.string P.house, .slice p1 P.parts.length q1, .bool P.asks, .string P.ask] 25)) w5.heap.size (.string P.house) (.slice p1 P.parts.length q1) (.bool P.asks) (.string P.ask)) := Dr.heap_new w5 _
    obtain ⟨E, hE⟩ : ∃ E, w5.heap.size = E := ⟨_, rfl⟩
    rw [hE] at HXa
    go_wp2_with fail
    try rw [hE]
    refine (implBase_any t _ htm).mono ?_
    rintro e w6 ⟨rfl, hb⟩
    have HP6 : Hid (At w w6 F P p1 q1) := HPa.out.below hb
    have HL6 : Hid (IsStrs w6 l1 m1 (pageF P t)) := HLa.out.below hb
    have HB6 : Hid (Below w.heap.size w w6) := HBa.out.trans (hb.mono HBa.out.size)
    have HX6 : Hid (Dr.Box w6 E (.string P.house) (.slice p1 P.parts.length q1) (.bool P.asks) (.string P.ask)) := HXa.out.grown (grown_of_below none hb) (by simp)
    have HEw : Hid (w.heap.size ≤ E) := by show _ ≤ _; rw [← hE]; exact HB5.out.size
    have HLE : Hid (∀ a, l1 = some a → pageF P t ≠ [] → some E ≠ some a.block) := fun a e hp => by
      have h := strs_lt HL5.out a e hp
      rw [hE] at h
      intro h2
      injection h2 with h2
      omega
    clear hb HPa HLa HBa HXa HP5 HL5 HB5 f0 f1 f2 f3 hE
    cases htold : (baseF t).2 with
    | false =>
      have HE : Hid (fromF P t = P) := from_no htold
      have HXz : Hid (Dr.Box w6 E (.string P.house) (.slice p1 P.parts.length q1) (.bool P.asks) (.string P.ask)) := HX6
      have HSz : Hid (IsStrs w6 p1 q1 P.parts) := HP6.out.strs
      have HLz : Hid (IsStrs w6 l1 m1 (pageF P t)) := HL6
      have HBz : Hid (Below w.heap.size w w6) := HB6
      clear htold
      rw [HE.out] at HF HBK
      have hpl2 : (pageF P t).length ≤ 300 := hpl
      have HFP : Hid (pageF P t = pageL P (linksF t)) := HF
      have HAz : Hid (∀ a, p1 = some a → P.parts ≠ [] → a.block < w6.heap.size) := fun a e hne => strs_lt HSz.out a e hne
      have HGz : Hid (∀ a, l1 = some a → pageF P t ≠ [] → a.block < w6.heap.size) := fun a e hne => strs_lt HLz.out a e hne
      have HXa : Hid (Dr.Box (w6.alloc (.cells #[] 9)) E (.string P.house) (.slice p1 P.parts.length q1) (.bool P.asks) (.string P.ask)) := HXz.out.grown (grown_alloc _ _ none) (by simp)
      have HSa : Hid (IsStrs (w6.alloc (.cells #[] 9)) p1 q1 P.parts) := HSz.out.keep (alloc_keep _ _)
      have HLa : Hid (IsStrs (w6.alloc (.cells #[] 9)) l1 m1 (pageF P t)) := HLz.out.keep (alloc_keep _ _)
      have HBa : Hid (Below w.heap.size w (w6.alloc (.cells #[] 9))) := HBz.out.alloc HBz.out.size _
      have HOa : Hid (Owns (w6.alloc (.cells #[] 9)) w6.heap.size (.slice (some ⟨w6.heap.size, 0, none⟩) 0 0) []) := Owns.empty _ _ (Nat.le_refl _)
      have hwM : w.heap.size ≤ w6.heap.size := HBz.out.size
      have hFz : E < w6.heap.size := HXz.out.lt
      have hza : (w6.alloc (.cells #[] 9)).heap.size = w6.heap.size + 1 := World.size_alloc _ _
      go_wp2_with fail
      refine (implLinks_any t _ htm).mono ?_
      rintro e w8 ⟨v8, rfl, hO8, hb⟩
      obtain ⟨lk, mk, hv8, hS8⟩ := hO8.strs
      subst hv8
      have hs8 := hb.size
      rw [hza] at hs8
      have HL8 : Hid (IsStrs w8 lk mk (linksF t)) := hS8
      have HLO8 : Hid (∀ a, lk = some a → linksF t ≠ [] → a.block ≠ w6.heap.size ∧ a.block < w8.heap.size) := fun a e hne => by
        have h1 := strs_lt hS8 a e hne
        have h2 := Owns.block hO8 a.block (by rw [e]; rfl)
        rw [hza] at h2
        exact ⟨by omega, h1⟩
      have HX8 : Hid (Dr.Box w8 E (.string P.house) (.slice p1 P.parts.length q1) (.bool P.asks) (.string P.ask)) := HXa.out.grown (grown_of_below none hb) (by simp)
      have HS8 : Hid (IsStrs w8 p1 q1 P.parts) := HSa.out.below hb
      have HG8 : Hid (IsStrs w8 l1 m1 (pageF P t)) := HLa.out.below hb
      have HO8 : Hid (Owns w8 w6.heap.size (.slice (some ⟨w6.heap.size, 0, none⟩) 0 0) []) := Owns.below HOa.out hb
      have HB8 : Hid (Below w.heap.size w w8) := HBa.out.trans (hb.mono HBa.out.size)
      have HAP8 : Hid (∀ a, p1 = some a → P.parts ≠ [] → a.block ≠ w6.heap.size ∧ a.block < w8.heap.size) := fun a e hne => by have := HAz.out a e hne; omega
      have HGO8 : Hid (∀ a, l1 = some a → pageF P t ≠ [] → a.block ≠ w6.heap.size ∧ a.block < w8.heap.size) := fun a e hne => by have := HGz.out a e hne; omega
      have HFB : Hid (E ≠ w6.heap.size ∧ E < w8.heap.size) := by show _ ∧ _; omega
      have hM8 : w6.heap.size ≤ w8.heap.size := by omega
      clear hO8 hS8 hb hs8 hza hFz HXz HSz HLz HBz HAz HGz HXa HSa HLa HBa HOa
      generalize w6.heap.size = M at *
      generalize linksF t = K at *
      go_wp2
      go_loopw [11, 13] (fun v i wr => ∃ k : Nat, k ≤ K.length ∧ i = .int .i64 (k : Int) ∧ Hid (Owns wr M v (allL P (K.take k))) ∧ Hid (Dr.Box wr E (.string P.house) (.slice p1 P.parts.length q1) (.bool P.asks) (.string P.ask)) ∧ Hid (IsStrs wr p1 q1 P.parts) ∧ Hid (IsStrs wr lk mk K) ∧ Hid (IsStrs wr l1 m1 (pageF P t)) ∧ Hid (Below w.heap.size w wr) ∧ Hid (w8.heap.size ≤ wr.heap.size) ∧ Hid (v.ownBlock = some M ∨ ∃ g, v.ownBlock = some g ∧ w8.heap.size ≤ g)) (fun _ i _ => K.length - (intOf i).toNat)
      case atStart => exact ⟨0, Nat.zero_le _, rfl, HO8, HX8, HS8, HL8, HG8, HB8, Nat.le_refl _, Or.inl rfl⟩
      case round =>
        obtain ⟨k, hk, rfl, HO, HX, HS, HL, HG, HB, HSZ, HV⟩ := hrel
        by_cases hlt : k < K.length
        · obtain ⟨lb, lo, e1, cl⟩ := HL.out.at hlt
          subst e1
          have hx := HX.out
          obtain ⟨⟨c0, c1, c2, c3⟩, _⟩ := hx.cells
          clear hx
          have hks := HLS.out K[k] (List.getElem_mem _)
          have HAk : Hid (ascii K[k]) := HLA.out K[k] (List.getElem_mem _)
          have HMr : Hid (Mx wr) := HM.out.below HB.out
          have hacc : (allL P (K.take k)).length ≤ 300 := by
            have h1 := all_len P (K.take k)
            have h2 : (K.take k).length ≤ k := by simp; omega
            omega
          obtain ⟨acc, hac⟩ : ∃ acc, allL P (K.take k) = acc := ⟨_, rfl⟩
          have HAC : Hid (allL P (K.take k) = acc) := hac
          rw [hac] at HO hacc
          clear hac
          have hFr : E < wr.heap.size := HX.out.lt
          have n0 : wr.drew.cell? ⟨E, 0, none⟩ = some (.string P.house) := c0
          have n1 : wr.drew.cell? ⟨E, 1, none⟩ = some (.slice p1 P.parts.length q1) := c1
          have n2 : wr.drew.cell? ⟨E, 2, none⟩ = some (.bool P.asks) := c2
          have n3 : wr.drew.cell? ⟨E, 3, none⟩ = some (.string P.ask) := c3
          have nl : wr.drew.cell? ⟨lb, lo + k, none⟩ = some (.string K[k]) := cl
          have hlr : lb < wr.heap.size := St.cell_block cl
          have hFd : E < wr.drew.heap.size := hFr
          have hld : lb < wr.drew.heap.size := hlr
          go_wp2
          go_region_with (first
            | (go_at_call 10
               first
                | (refine (implJoin_page P K[k] p1 q1 wr.drew (HMr.out.below ((Below.refl _ wr).drew)) (HS.out.below ((Below.refl _ wr).drew)) HBK.out hks HAk.out).mono ?_
                   rintro e w9 ⟨C, ok, x1, y1, rfl, hans, hOC, hb⟩
                   have HANS : Hid (Ans (joinF P K[k].data.toList) C ok) := hans
                   have HBD : Hid (Below wr.heap.size wr w9) := Below.trans ((Below.refl _ wr).drew) (hb.mono (by simp))
                   have hz5 := HBD.out.size
                   have HOC : Hid (Owns w9 wr.heap.size (.slice x1 C.parts.length y1) C.parts) := Owns.mono hOC (by simp)
                   clear hans hOC hb)
                | (refine (implJoin_page P K[k] p1 q1 (wr.alloc (.cells #[.string ⟨#[]⟩, .slice none 0 0, .bool false, .string ⟨#[]⟩] 25)).drew (HMr.out.below (((Below.refl _ wr).alloc (Nat.le_refl _) _).drew)) (HS.out.below (((Below.refl _ wr).alloc (Nat.le_refl _) _).drew)) HBK.out hks HAk.out).mono ?_
                   rintro e w9 ⟨C, ok, x1, y1, rfl, hans, hOC, hb⟩
                   have HANS : Hid (Ans (joinF P K[k].data.toList) C ok) := hans
                   have HBD : Hid (Below wr.heap.size wr w9) := Below.trans (((Below.refl _ wr).alloc (Nat.le_refl _) _).drew) (hb.mono (by simp))
                   have hz5 := HBD.out.size
                   have HOC : Hid (Owns w9 (wr.heap.size + 1) (.slice x1 C.parts.length y1) C.parts) := Owns.mono hOC (by simp)
                   have HZ5 : Hid (Dr.Box w9 wr.heap.size (.string ⟨#[]⟩) (.slice none 0 0) (.bool false) (.string ⟨#[]⟩)) := Dr.Box.grown (Dr.Box.heapEq (Dr.heap_new wr _) rfl) (grown_of_below none hb) (by simp)
                   have hpz := HZ5.out
                   obtain ⟨⟨z0', z1', z2', z3'⟩, zf⟩ := hpz.cells
                   clear hpz
                   clear hans hOC hb)
                | (refine (implJoin_page P K[k] p1 q1 (wr.drew.alloc (.cells #[.string ⟨#[]⟩, .slice none 0 0, .bool false, .string ⟨#[]⟩] 25)) (HMr.out.below (((Below.refl _ wr).drew).alloc (Nat.le_refl _) _)) (HS.out.below (((Below.refl _ wr).drew).alloc (Nat.le_refl _) _)) HBK.out hks HAk.out).mono ?_
                   rintro e w9 ⟨C, ok, x1, y1, rfl, hans, hOC, hb⟩
                   have HANS : Hid (Ans (joinF P K[k].data.toList) C ok) := hans
                   have HBD : Hid (Below wr.heap.size wr w9) := Below.trans (((Below.refl _ wr).drew).alloc (Nat.le_refl _) _) (hb.mono (by simp))
                   have hz5 := HBD.out.size
                   have HOC : Hid (Owns w9 (wr.heap.size + 1) (.slice x1 C.parts.length y1) C.parts) := Owns.mono hOC (by simp)
                   have HZ5 : Hid (Dr.Box w9 wr.heap.size (.string ⟨#[]⟩) (.slice none 0 0) (.bool false) (.string ⟨#[]⟩)) := Dr.Box.grown (Dr.heap_new wr.drew _) (grown_of_below none hb) (by simp)
                   have hpz := HZ5.out
                   obtain ⟨⟨z0', z1', z2', z3'⟩, zf⟩ := hpz.cells
                   clear hpz
                   clear hans hOC hb)
                | fail)
            | fail)
          all_goals (
            clear n0 n1 n2 n3 nl c0 c1 c2 c3 cl
            first
              | (have HBS : Hid (Below wr.heap.size wr ((((w9.setCell ⟨wr.heap.size, 0, none⟩ (.string C.house)).setCell ⟨wr.heap.size, 1, none⟩ (.slice x1 C.parts.length y1)).setCell ⟨wr.heap.size, 2, none⟩ (.bool C.asks)).setCell ⟨wr.heap.size, 3, none⟩ (.string C.ask))) := by
                   show Below _ _ _
                   iterate 4 refine Below.setCell ?_ (by dsimp only; omega) _
                   exact HBD.out
                 have HSC : Hid (IsStrs ((((w9.setCell ⟨wr.heap.size, 0, none⟩ (.string C.house)).setCell ⟨wr.heap.size, 1, none⟩ (.slice x1 C.parts.length y1)).setCell ⟨wr.heap.size, 2, none⟩ (.bool C.asks)).setCell ⟨wr.heap.size, 3, none⟩ (.string C.ask)) x1 y1 C.parts) := by
                   refine Owns.strsOf (base := wr.heap.size + 1) (n := C.parts.length) ?_
                   iterate 4 refine ownsRow_setCell_below ?_ (by dsimp only; omega) _
                   exact HOC.out
                 have HXC : Hid (Dr.Box ((((w9.setCell ⟨wr.heap.size, 0, none⟩ (.string C.house)).setCell ⟨wr.heap.size, 1, none⟩ (.slice x1 C.parts.length y1)).setCell ⟨wr.heap.size, 2, none⟩ (.bool C.asks)).setCell ⟨wr.heap.size, 3, none⟩ (.string C.ask)) wr.heap.size (.string C.house) (.slice x1 C.parts.length y1) (.bool C.asks) (.string C.ask)) := Dr.Box.set3 (Dr.Box.set2 (Dr.Box.set1 (Dr.Box.set0 HZ5.out _) _) _) _
                 have HO5 : Hid (Owns ((((w9.setCell ⟨wr.heap.size, 0, none⟩ (.string C.house)).setCell ⟨wr.heap.size, 1, none⟩ (.slice x1 C.parts.length y1)).setCell ⟨wr.heap.size, 2, none⟩ (.bool C.asks)).setCell ⟨wr.heap.size, 3, none⟩ (.string C.ask)) M u11 acc) := Owns.below HO.out HBS.out
                 have HX5 : Hid (Dr.Box ((((w9.setCell ⟨wr.heap.size, 0, none⟩ (.string C.house)).setCell ⟨wr.heap.size, 1, none⟩ (.slice x1 C.parts.length y1)).setCell ⟨wr.heap.size, 2, none⟩ (.bool C.asks)).setCell ⟨wr.heap.size, 3, none⟩ (.string C.ask)) E (.string P.house) (.slice p1 P.parts.length q1) (.bool P.asks) (.string P.ask)) := HX.out.grown (grown_of_below none HBS.out) (by simp)
                 have HS5 : Hid (IsStrs ((((w9.setCell ⟨wr.heap.size, 0, none⟩ (.string C.house)).setCell ⟨wr.heap.size, 1, none⟩ (.slice x1 C.parts.length y1)).setCell ⟨wr.heap.size, 2, none⟩ (.bool C.asks)).setCell ⟨wr.heap.size, 3, none⟩ (.string C.ask)) p1 q1 P.parts) := HS.out.below HBS.out
                 have HL5 : Hid (IsStrs ((((w9.setCell ⟨wr.heap.size, 0, none⟩ (.string C.house)).setCell ⟨wr.heap.size, 1, none⟩ (.slice x1 C.parts.length y1)).setCell ⟨wr.heap.size, 2, none⟩ (.bool C.asks)).setCell ⟨wr.heap.size, 3, none⟩ (.string C.ask)) (some ⟨lb, lo, none⟩) mk K) := HL.out.below HBS.out
                 have HG5 : Hid (IsStrs ((((w9.setCell ⟨wr.heap.size, 0, none⟩ (.string C.house)).setCell ⟨wr.heap.size, 1, none⟩ (.slice x1 C.parts.length y1)).setCell ⟨wr.heap.size, 2, none⟩ (.bool C.asks)).setCell ⟨wr.heap.size, 3, none⟩ (.string C.ask)) l1 m1 (pageF P t)) := HG.out.below HBS.out
                 have HB5 : Hid (Below w.heap.size w ((((w9.setCell ⟨wr.heap.size, 0, none⟩ (.string C.house)).setCell ⟨wr.heap.size, 1, none⟩ (.slice x1 C.parts.length y1)).setCell ⟨wr.heap.size, 2, none⟩ (.bool C.asks)).setCell ⟨wr.heap.size, 3, none⟩ (.string C.ask))) := HB.out.trans (HBS.out.mono HB.out.size)
                 have HSZ5 : Hid (w8.heap.size ≤ (((((w9.setCell ⟨wr.heap.size, 0, none⟩ (.string C.house)).setCell ⟨wr.heap.size, 1, none⟩ (.slice x1 C.parts.length y1)).setCell ⟨wr.heap.size, 2, none⟩ (.bool C.asks)).setCell ⟨wr.heap.size, 3, none⟩ (.string C.ask))).heap.size) := Nat.le_trans HSZ.out HBS.out.size
                 have hx := HXC.out
                 obtain ⟨⟨c0, c1, c2, c3⟩, _⟩ := hx.cells
                 clear hx
                 have hpa := HANS.out
                 rcases hpa with ⟨rfl, hj⟩ | ⟨rfl, hj, rfl⟩
                 · have HN : Hid (allL P (K.take (k + 1)) = acc ++ [textF C]) := by show _ = _; rw [all_some hlt hj, HAC.out]
                   have hCb : bulkA C ≤ 4194304 := Nat.le_trans (ok_sum (join_ok hj)).2 (by decide)
                   clear hj
                   go_wp2_with fail
                   refine (implAddrText_any C x1 y1 _ HSC.out hCb).mono ?_
                   rintro e w10 ⟨rfl, hb⟩
                   have HO6 : Hid (Owns w10 M u11 acc) := Owns.below HO5.out hb
                   have HX6 : Hid (Dr.Box w10 E (.string P.house) (.slice p1 P.parts.length q1) (.bool P.asks) (.string P.ask)) := HX5.out.grown (grown_of_below none hb) (by simp)
                   have HS6 : Hid (IsStrs w10 p1 q1 P.parts) := HS5.out.below hb
                   have HL6 : Hid (IsStrs w10 (some ⟨lb, lo, none⟩) mk K) := HL5.out.below hb
                   have HG6 : Hid (IsStrs w10 l1 m1 (pageF P t)) := HG5.out.below hb
                   have HB6 : Hid (Below w.heap.size w w10) := HB5.out.trans (hb.mono HB5.out.size)
                   have HSZ6 : Hid (w8.heap.size ≤ w10.heap.size) := Nat.le_trans HSZ5.out hb.size
                   clear hb c0 c1 c2 c3
                   have hbd6 : M ≤ w10.heap.size := Nat.le_trans hM8 HSZ6.out
                   generalize textF C = tx at *
                   go_wp2_with (at_builtin; refine wpList_append_lies _ rfl _ _ 23 rfl M 9 i0 (.string ⟨#[]⟩) 1 16 Tryz.underlying23 hi hz0 hz1 hz2 rfl (by decide) _ _ _ rfl (World.ownsRow.alloc HO6.out _) ⟨w10.heap.size, 0, none⟩ 1 1 [.string tx] rfl rfl (cell_one_new _ _ _) ?c2 (by omega) ?c3 ?c4 ?c5 (w10.heap.size + 1) ?c6 ?_)
                   case c2 => first | rfl | (intro u hu; simp at hu; subst hu; rfl)
                   case c3 => unfold maxLen; omega
                   case c4 => omega
                   case c5 => first | omega | (simp; omega)
                   case c6 => simp
                   intro gn cn w11 hown hg0 hat _
                   have hfin := app_after HO6.out HX6.out HS6.out HL6.out HG6.out HB6.out HSZ6.out HV.out hwM HFB.out HAP8.out HLO8.out HGO8.out hown hg0 hat
                   have HFIN : Hid _ := hfin
                   clear hown hg0 hat hfin
                   have HO7 : Hid (Owns w11 M (.slice (some ⟨gn, 0, none⟩) (acc.length + 1) cn) (acc ++ [tx])) := HFIN.out.1
                   have HX7 : Hid (Dr.Box w11 E (.string P.house) (.slice p1 P.parts.length q1) (.bool P.asks) (.string P.ask)) := HFIN.out.2.1
                   have HS7 : Hid (IsStrs w11 p1 q1 P.parts) := HFIN.out.2.2.1
                   have HL7 : Hid (IsStrs w11 (some ⟨lb, lo, none⟩) mk K) := HFIN.out.2.2.2.1
                   have HG7 : Hid (IsStrs w11 l1 m1 (pageF P t)) := HFIN.out.2.2.2.2.1
                   have HB7 : Hid (Below w.heap.size w w11) := HFIN.out.2.2.2.2.2.1
                   have HSZ7 : Hid (w8.heap.size ≤ w11.heap.size) := HFIN.out.2.2.2.2.2.2.1
                   have HV7 : Hid ((Value.slice (some ⟨gn, 0, none⟩) (acc.length + 1) cn).ownBlock = some M ∨ ∃ g, (Value.slice (some ⟨gn, 0, none⟩) (acc.length + 1) cn).ownBlock = some g ∧ w8.heap.size ≤ g) := HFIN.out.2.2.2.2.2.2.2
                   clear HFIN
                   go_wp2
                   go_roundw
                   case rel => exact ⟨k + 1, by omega, by go_num, by rw [HN.out]; exact HO7, HX7, HS7, HL7, HG7, HB7, HSZ7, HV7⟩
                   case measure => simp [intOf]; omega
                 · have HN : Hid (allL P (K.take (k + 1)) = acc) := by show _ = _; rw [all_none hlt hj, HAC.out]
                   clear hj c0 c1 c2 c3
                   go_wp2
                   go_roundw
                   case rel => exact ⟨k + 1, by omega, by go_num, by rw [HN.out]; exact HO5, HX5, HS5, HL5, HG5, HB5, HSZ5, HV⟩
                   case measure => simp [intOf]; omega)
              | (have HBS : Hid (Below wr.heap.size wr (w9.alloc (.cells #[.string C.house, .slice x1 C.parts.length y1, .bool C.asks, .string C.ask] 25))) := HBD.out.alloc HBD.out.size _
                 have HSC : Hid (IsStrs (w9.alloc (.cells #[.string C.house, .slice x1 C.parts.length y1, .bool C.asks, .string C.ask] 25)) x1 y1 C.parts) := (Owns.strsOf HOC.out).keep (alloc_keep _ _)
                 have HXC : Hid (Dr.Box (w9.alloc (.cells #[.string C.house, .slice x1 C.parts.length y1, .bool C.asks, .string C.ask] 25)) w9.heap.size (.string C.house) (.slice x1 C.parts.length y1) (.bool C.asks) (.string C.ask)) := Dr.heap_new w9 _
                 have HO5 : Hid (Owns (w9.alloc (.cells #[.string C.house, .slice x1 C.parts.length y1, .bool C.asks, .string C.ask] 25)) M u11 acc) := Owns.below HO.out HBS.out
                 have HX5 : Hid (Dr.Box (w9.alloc (.cells #[.string C.house, .slice x1 C.parts.length y1, .bool C.asks, .string C.ask] 25)) E (.string P.house) (.slice p1 P.parts.length q1) (.bool P.asks) (.string P.ask)) := HX.out.grown (grown_of_below none HBS.out) (by simp)
                 have HS5 : Hid (IsStrs (w9.alloc (.cells #[.string C.house, .slice x1 C.parts.length y1, .bool C.asks, .string C.ask] 25)) p1 q1 P.parts) := HS.out.below HBS.out
                 have HL5 : Hid (IsStrs (w9.alloc (.cells #[.string C.house, .slice x1 C.parts.length y1, .bool C.asks, .string C.ask] 25)) (some ⟨lb, lo, none⟩) mk K) := HL.out.below HBS.out
                 have HG5 : Hid (IsStrs (w9.alloc (.cells #[.string C.house, .slice x1 C.parts.length y1, .bool C.asks, .string C.ask] 25)) l1 m1 (pageF P t)) := HG.out.below HBS.out
                 have HB5 : Hid (Below w.heap.size w (w9.alloc (.cells #[.string C.house, .slice x1 C.parts.length y1, .bool C.asks, .string C.ask] 25))) := HB.out.trans (HBS.out.mono HB.out.size)
                 have HSZ5 : Hid (w8.heap.size ≤ ((w9.alloc (.cells #[.string C.house, .slice x1 C.parts.length y1, .bool C.asks, .string C.ask] 25))).heap.size) := Nat.le_trans HSZ.out HBS.out.size
                 have hx := HXC.out
                 obtain ⟨⟨c0, c1, c2, c3⟩, _⟩ := hx.cells
                 clear hx
                 have hpa := HANS.out
                 rcases hpa with ⟨rfl, hj⟩ | ⟨rfl, hj, rfl⟩
                 · have HN : Hid (allL P (K.take (k + 1)) = acc ++ [textF C]) := by show _ = _; rw [all_some hlt hj, HAC.out]
                   have hCb : bulkA C ≤ 4194304 := Nat.le_trans (ok_sum (join_ok hj)).2 (by decide)
                   clear hj
                   go_wp2_with fail
                   refine (implAddrText_any C x1 y1 _ HSC.out hCb).mono ?_
                   rintro e w10 ⟨rfl, hb⟩
                   have HO6 : Hid (Owns w10 M u11 acc) := Owns.below HO5.out hb
                   have HX6 : Hid (Dr.Box w10 E (.string P.house) (.slice p1 P.parts.length q1) (.bool P.asks) (.string P.ask)) := HX5.out.grown (grown_of_below none hb) (by simp)
                   have HS6 : Hid (IsStrs w10 p1 q1 P.parts) := HS5.out.below hb
                   have HL6 : Hid (IsStrs w10 (some ⟨lb, lo, none⟩) mk K) := HL5.out.below hb
                   have HG6 : Hid (IsStrs w10 l1 m1 (pageF P t)) := HG5.out.below hb
                   have HB6 : Hid (Below w.heap.size w w10) := HB5.out.trans (hb.mono HB5.out.size)
                   have HSZ6 : Hid (w8.heap.size ≤ w10.heap.size) := Nat.le_trans HSZ5.out hb.size
                   clear hb c0 c1 c2 c3
                   have hbd6 : M ≤ w10.heap.size := Nat.le_trans hM8 HSZ6.out
                   generalize textF C = tx at *
                   go_wp2_with (at_builtin; refine wpList_append_lies _ rfl _ _ 23 rfl M 9 i0 (.string ⟨#[]⟩) 1 16 Tryz.underlying23 hi hz0 hz1 hz2 rfl (by decide) _ _ _ rfl (World.ownsRow.alloc HO6.out _) ⟨w10.heap.size, 0, none⟩ 1 1 [.string tx] rfl rfl (cell_one_new _ _ _) ?c2 (by omega) ?c3 ?c4 ?c5 (w10.heap.size + 1) ?c6 ?_)
                   case c2 => first | rfl | (intro u hu; simp at hu; subst hu; rfl)
                   case c3 => unfold maxLen; omega
                   case c4 => omega
                   case c5 => first | omega | (simp; omega)
                   case c6 => simp
                   intro gn cn w11 hown hg0 hat _
                   have hfin := app_after HO6.out HX6.out HS6.out HL6.out HG6.out HB6.out HSZ6.out HV.out hwM HFB.out HAP8.out HLO8.out HGO8.out hown hg0 hat
                   have HFIN : Hid _ := hfin
                   clear hown hg0 hat hfin
                   have HO7 : Hid (Owns w11 M (.slice (some ⟨gn, 0, none⟩) (acc.length + 1) cn) (acc ++ [tx])) := HFIN.out.1
                   have HX7 : Hid (Dr.Box w11 E (.string P.house) (.slice p1 P.parts.length q1) (.bool P.asks) (.string P.ask)) := HFIN.out.2.1
                   have HS7 : Hid (IsStrs w11 p1 q1 P.parts) := HFIN.out.2.2.1
                   have HL7 : Hid (IsStrs w11 (some ⟨lb, lo, none⟩) mk K) := HFIN.out.2.2.2.1
                   have HG7 : Hid (IsStrs w11 l1 m1 (pageF P t)) := HFIN.out.2.2.2.2.1
                   have HB7 : Hid (Below w.heap.size w w11) := HFIN.out.2.2.2.2.2.1
                   have HSZ7 : Hid (w8.heap.size ≤ w11.heap.size) := HFIN.out.2.2.2.2.2.2.1
                   have HV7 : Hid ((Value.slice (some ⟨gn, 0, none⟩) (acc.length + 1) cn).ownBlock = some M ∨ ∃ g, (Value.slice (some ⟨gn, 0, none⟩) (acc.length + 1) cn).ownBlock = some g ∧ w8.heap.size ≤ g) := HFIN.out.2.2.2.2.2.2.2
                   clear HFIN
                   go_wp2
                   go_roundw
                   case rel => exact ⟨k + 1, by omega, by go_num, by rw [HN.out]; exact HO7, HX7, HS7, HL7, HG7, HB7, HSZ7, HV7⟩
                   case measure => simp [intOf]; omega
                 · have HN : Hid (allL P (K.take (k + 1)) = acc) := by show _ = _; rw [all_none hlt hj, HAC.out]
                   clear hj c0 c1 c2 c3
                   go_wp2
                   go_roundw
                   case rel => exact ⟨k + 1, by omega, by go_num, by rw [HN.out]; exact HO5, HX5, HS5, HL5, HG5, HB5, HSZ5, HV⟩
                   case measure => simp [intOf]; omega)
              | fail)

        · have e1 : K.take k = K := List.take_of_length_le (by omega)
          have hO := HO.out
          rw [e1] at hO
          obtain ⟨av, cv, hv, hIv⟩ := hO.strs
          subst hv
          have HIv : Hid (IsStrs wr av cv (allL P K)) := hIv
          have hal : (allL P K).length ≤ 300 := Nat.le_trans (all_len _ _) hll
          have H12 : Hid (∀ y ∈ allL P K, y ∈ pageF P t) := by show ∀ y ∈ _, _; rw [HFP.out]; exact all_page P K
          have H21 : Hid (∀ y ∈ pageF P t, y ∈ allL P K) := by show ∀ y ∈ _, _; rw [HFP.out]; exact page_all P K
          clear hO hIv e1
          go_wp2_with fail
          refine (within_any av cv (allL P K) l1 m1 (pageF P t) _ HIv.out HG.out (by omega) (by omega) H12.out).mono ?_
          rintro e w9 ⟨rfl, e9⟩
          have e9' := e9.symm
          subst e9'
          clear e9
          go_wp2_with fail
          refine (within_any l1 m1 (pageF P t) av cv (allL P K) _ HG.out HIv.out (by omega) (by omega) H21.out).mono ?_
          rintro e w10 ⟨rfl, e10⟩
          have e10' := e10.symm
          subst e10'
          clear e10
          go_wp2
          go_ret
          exact ⟨rfl, HB.out⟩
    | true =>
      have HTO : Hid ((baseF t).2 = true) := htold
      clear htold
      have hpp := HP6.out
      obtain ⟨f0, f1', f2, f3⟩ := hpp.cells
      clear hpp
      go_wp2_with fail
      refine (implJoin_page P (baseF t).1 p1 q1 _ (HM.out.below HB6.out) HP6.out.strs hbk hbs HBA.out).mono ?_
      rintro e w7 ⟨B, ok, f1, g1, rfl, hans, hO, hb⟩
      have hba := hb.alloc hb.size (.cells #[.string B.house, .slice f1 B.parts.length g1, .bool B.asks, .string B.ask] 25)
      have HX7 : Hid (Dr.Box (w7.alloc (.cells #[.string B.house, .slice f1 B.parts.length g1, .bool B.asks, .string B.ask] 25)) E (.string P.house) (.slice p1 P.parts.length q1) (.bool P.asks) (.string P.ask)) := HX6.out.grown (grown_of_below none hba) (by simp)
      have HY7 : Hid (Dr.Box (w7.alloc (.cells #[.string B.house, .slice f1 B.parts.length g1, .bool B.asks, .string B.ask] 25)) w7.heap.size (.string B.house) (.slice f1 B.parts.length g1) (.bool B.asks) (.string B.ask)) := Dr.heap_new w7 _
      have HB7 : Hid (Below w.heap.size w (w7.alloc (.cells #[.string B.house, .slice f1 B.parts.length g1, .bool B.asks, .string B.ask] 25))) := HB6.out.trans (hba.mono HB6.out.size)
      have HL7 : Hid (IsStrs (w7.alloc (.cells #[.string B.house, .slice f1 B.parts.length g1, .bool B.asks, .string B.ask] 25)) l1 m1 (pageF P t)) := HL6.out.below hba
      have HSP7 : Hid (IsStrs (w7.alloc (.cells #[.string B.house, .slice f1 B.parts.length g1, .bool B.asks, .string B.ask] 25)) p1 q1 P.parts) := HP6.out.strs.below hba
      have HOB7 : Hid (Owns (w7.alloc (.cells #[.string B.house, .slice f1 B.parts.length g1, .bool B.asks, .string B.ask] 25)) w6.heap.size (.slice f1 B.parts.length g1) B.parts) := Owns.keep hO (alloc_keep _ _)
      have hz7 : w6.heap.size ≤ w7.heap.size := hb.size
      have hE6 : E < w6.heap.size := HX6.out.lt
      clear hb hba hO f0 f1' f2 f3 HB6 HP6 HX6
      have hx := HX7.out
      obtain ⟨⟨c0, c1, c2, c3⟩, cz⟩ := hx.cells
      clear hx
      have hy := HY7.out
      obtain ⟨⟨d0, d1, d2, d3⟩, _⟩ := hy.cells
      clear hy
      rcases hans with ⟨rfl, hj⟩ | ⟨rfl, hj, rfl⟩
      · have HE : Hid (fromF P t = B) := from_some HTO.out hj
        have HXz0 : Hid (Dr.Box (((((w7.alloc (.cells #[.string B.house, .slice f1 B.parts.length g1, .bool B.asks, .string B.ask] 25)).setCell ⟨E, 0, none⟩ (.string B.house)).setCell ⟨E, 1, none⟩ (.slice f1 B.parts.length g1)).setCell ⟨E, 2, none⟩ (.bool B.asks)).setCell ⟨E, 3, none⟩ (.string B.ask)) E (.string B.house) (.slice f1 B.parts.length g1) (.bool B.asks) (.string B.ask)) := Dr.Box.set3 (Dr.Box.set2 (Dr.Box.set1 (Dr.Box.set0 HX7.out _) _) _) _
        have HSz0 : Hid (IsStrs (((((w7.alloc (.cells #[.string B.house, .slice f1 B.parts.length g1, .bool B.asks, .string B.ask] 25)).setCell ⟨E, 0, none⟩ (.string B.house)).setCell ⟨E, 1, none⟩ (.slice f1 B.parts.length g1)).setCell ⟨E, 2, none⟩ (.bool B.asks)).setCell ⟨E, 3, none⟩ (.string B.ask)) f1 g1 B.parts) := by
          refine Owns.strsOf (base := w6.heap.size) (n := B.parts.length) ?_
          iterate 4 refine ownsRow_setCell_below ?_ (by dsimp only; omega) _
          exact HOB7.out
        have HBz0 : Hid (Below w.heap.size w (((((w7.alloc (.cells #[.string B.house, .slice f1 B.parts.length g1, .bool B.asks, .string B.ask] 25)).setCell ⟨E, 0, none⟩ (.string B.house)).setCell ⟨E, 1, none⟩ (.slice f1 B.parts.length g1)).setCell ⟨E, 2, none⟩ (.bool B.asks)).setCell ⟨E, 3, none⟩ (.string B.ask))) := by
          show Below _ _ _
          have := HEw.out
          iterate 4 refine Below.setCell ?_ (by dsimp only; omega) _
          exact HB7.out
        have HLz0 : Hid (IsStrs (((((w7.alloc (.cells #[.string B.house, .slice f1 B.parts.length g1, .bool B.asks, .string B.ask] 25)).setCell ⟨E, 0, none⟩ (.string B.house)).setCell ⟨E, 1, none⟩ (.slice f1 B.parts.length g1)).setCell ⟨E, 2, none⟩ (.bool B.asks)).setCell ⟨E, 3, none⟩ (.string B.ask)) l1 m1 (pageF P t)) := by
          have hg : ∀ (v : World) (j : Nat) (y : Value), v.grownBy (v.setCell ⟨E, j, none⟩ y) (some E) := fun v j y => ⟨rfl, rfl, rfl, by simp [World.setCell], fun k hk hr => Below.heap_setCell _ _ _ _ (fun e => hr (by rw [e]))⟩
          have hne : ∀ a, l1 = some a → pageF P t ≠ [] → some E ≠ some a.block := fun a e hp => HLE.out a e hp
          exact strs_far (strs_far (strs_far (strs_far HL7.out (hg _ _ _) hne) (hg _ _ _) hne) (hg _ _ _) hne) (hg _ _ _) hne
        have HXz := HXz0
        have HSz := HSz0
        have HLz := HLz0
        have HBz := HBz0
        clear hj HXz0 HSz0 HLz0 HBz0
        rw [HE.out] at HF HBK
        have hpl2 : (pageF P t).length ≤ 300 := hpl
        have HFP : Hid (pageF P t = pageL B (linksF t)) := HF
        have HAz : Hid (∀ a, f1 = some a → B.parts ≠ [] → a.block < (((((w7.alloc (.cells #[.string B.house, .slice f1 B.parts.length g1, .bool B.asks, .string B.ask] 25)).setCell ⟨E, 0, none⟩ (.string B.house)).setCell ⟨E, 1, none⟩ (.slice f1 B.parts.length g1)).setCell ⟨E, 2, none⟩ (.bool B.asks)).setCell ⟨E, 3, none⟩ (.string B.ask)).heap.size) := fun a e hne => strs_lt HSz.out a e hne
        have HGz : Hid (∀ a, l1 = some a → pageF P t ≠ [] → a.block < (((((w7.alloc (.cells #[.string B.house, .slice f1 B.parts.length g1, .bool B.asks, .string B.ask] 25)).setCell ⟨E, 0, none⟩ (.string B.house)).setCell ⟨E, 1, none⟩ (.slice f1 B.parts.length g1)).setCell ⟨E, 2, none⟩ (.bool B.asks)).setCell ⟨E, 3, none⟩ (.string B.ask)).heap.size) := fun a e hne => strs_lt HLz.out a e hne
        have HXa : Hid (Dr.Box ((((((w7.alloc (.cells #[.string B.house, .slice f1 B.parts.length g1, .bool B.asks, .string B.ask] 25)).setCell ⟨E, 0, none⟩ (.string B.house)).setCell ⟨E, 1, none⟩ (.slice f1 B.parts.length g1)).setCell ⟨E, 2, none⟩ (.bool B.asks)).setCell ⟨E, 3, none⟩ (.string B.ask)).alloc (.cells #[] 9)) E (.string B.house) (.slice f1 B.parts.length g1) (.bool B.asks) (.string B.ask)) := HXz.out.grown (grown_alloc _ _ none) (by simp)
        have HSa : Hid (IsStrs ((((((w7.alloc (.cells #[.string B.house, .slice f1 B.parts.length g1, .bool B.asks, .string B.ask] 25)).setCell ⟨E, 0, none⟩ (.string B.house)).setCell ⟨E, 1, none⟩ (.slice f1 B.parts.length g1)).setCell ⟨E, 2, none⟩ (.bool B.asks)).setCell ⟨E, 3, none⟩ (.string B.ask)).alloc (.cells #[] 9)) f1 g1 B.parts) := HSz.out.keep (alloc_keep _ _)
        have HLa : Hid (IsStrs ((((((w7.alloc (.cells #[.string B.house, .slice f1 B.parts.length g1, .bool B.asks, .string B.ask] 25)).setCell ⟨E, 0, none⟩ (.string B.house)).setCell ⟨E, 1, none⟩ (.slice f1 B.parts.length g1)).setCell ⟨E, 2, none⟩ (.bool B.asks)).setCell ⟨E, 3, none⟩ (.string B.ask)).alloc (.cells #[] 9)) l1 m1 (pageF P t)) := HLz.out.keep (alloc_keep _ _)
        have HBa : Hid (Below w.heap.size w ((((((w7.alloc (.cells #[.string B.house, .slice f1 B.parts.length g1, .bool B.asks, .string B.ask] 25)).setCell ⟨E, 0, none⟩ (.string B.house)).setCell ⟨E, 1, none⟩ (.slice f1 B.parts.length g1)).setCell ⟨E, 2, none⟩ (.bool B.asks)).setCell ⟨E, 3, none⟩ (.string B.ask)).alloc (.cells #[] 9))) := HBz.out.alloc HBz.out.size _
        have HOa : Hid (Owns ((((((w7.alloc (.cells #[.string B.house, .slice f1 B.parts.length g1, .bool B.asks, .string B.ask] 25)).setCell ⟨E, 0, none⟩ (.string B.house)).setCell ⟨E, 1, none⟩ (.slice f1 B.parts.length g1)).setCell ⟨E, 2, none⟩ (.bool B.asks)).setCell ⟨E, 3, none⟩ (.string B.ask)).alloc (.cells #[] 9)) (((((w7.alloc (.cells #[.string B.house, .slice f1 B.parts.length g1, .bool B.asks, .string B.ask] 25)).setCell ⟨E, 0, none⟩ (.string B.house)).setCell ⟨E, 1, none⟩ (.slice f1 B.parts.length g1)).setCell ⟨E, 2, none⟩ (.bool B.asks)).setCell ⟨E, 3, none⟩ (.string B.ask)).heap.size (.slice (some ⟨(((((w7.alloc (.cells #[.string B.house, .slice f1 B.parts.length g1, .bool B.asks, .string B.ask] 25)).setCell ⟨E, 0, none⟩ (.string B.house)).setCell ⟨E, 1, none⟩ (.slice f1 B.parts.length g1)).setCell ⟨E, 2, none⟩ (.bool B.asks)).setCell ⟨E, 3, none⟩ (.string B.ask)).heap.size, 0, none⟩) 0 0) []) := Owns.empty _ _ (Nat.le_refl _)
        have hwM : w.heap.size ≤ (((((w7.alloc (.cells #[.string B.house, .slice f1 B.parts.length g1, .bool B.asks, .string B.ask] 25)).setCell ⟨E, 0, none⟩ (.string B.house)).setCell ⟨E, 1, none⟩ (.slice f1 B.parts.length g1)).setCell ⟨E, 2, none⟩ (.bool B.asks)).setCell ⟨E, 3, none⟩ (.string B.ask)).heap.size := HBz.out.size
        have hFz : E < (((((w7.alloc (.cells #[.string B.house, .slice f1 B.parts.length g1, .bool B.asks, .string B.ask] 25)).setCell ⟨E, 0, none⟩ (.string B.house)).setCell ⟨E, 1, none⟩ (.slice f1 B.parts.length g1)).setCell ⟨E, 2, none⟩ (.bool B.asks)).setCell ⟨E, 3, none⟩ (.string B.ask)).heap.size := HXz.out.lt
        have hza : ((((((w7.alloc (.cells #[.string B.house, .slice f1 B.parts.length g1, .bool B.asks, .string B.ask] 25)).setCell ⟨E, 0, none⟩ (.string B.house)).setCell ⟨E, 1, none⟩ (.slice f1 B.parts.length g1)).setCell ⟨E, 2, none⟩ (.bool B.asks)).setCell ⟨E, 3, none⟩ (.string B.ask)).alloc (.cells #[] 9)).heap.size = (((((w7.alloc (.cells #[.string B.house, .slice f1 B.parts.length g1, .bool B.asks, .string B.ask] 25)).setCell ⟨E, 0, none⟩ (.string B.house)).setCell ⟨E, 1, none⟩ (.slice f1 B.parts.length g1)).setCell ⟨E, 2, none⟩ (.bool B.asks)).setCell ⟨E, 3, none⟩ (.string B.ask)).heap.size + 1 := World.size_alloc _ _
        have hszt : (((((w7.alloc (.cells #[.string B.house, .slice f1 B.parts.length g1, .bool B.asks, .string B.ask] 25)).setCell ⟨E, 0, none⟩ (.string B.house)).setCell ⟨E, 1, none⟩ (.slice f1 B.parts.length g1)).setCell ⟨E, 2, none⟩ (.bool B.asks)).setCell ⟨E, 3, none⟩ (.string B.ask)).heap.size = (w7.heap.size + 1) := by simp [World.setCell]
        rw [hszt] at HOa hwM hFz hza HAz HGz
        go_wp2_with fail
        refine (implLinks_any t _ htm).mono ?_
        rintro e w8 ⟨v8, rfl, hO8, hb⟩
        obtain ⟨lk, mk, hv8, hS8⟩ := hO8.strs
        subst hv8
        have hs8 := hb.size
        rw [hza] at hs8
        have HL8 : Hid (IsStrs w8 lk mk (linksF t)) := hS8
        have HLO8 : Hid (∀ a, lk = some a → linksF t ≠ [] → a.block ≠ (w7.heap.size + 1) ∧ a.block < w8.heap.size) := fun a e hne => by
          have h1 := strs_lt hS8 a e hne
          have h2 := Owns.block hO8 a.block (by rw [e]; rfl)
          rw [hza] at h2
          exact ⟨by omega, h1⟩
        have HX8 : Hid (Dr.Box w8 E (.string B.house) (.slice f1 B.parts.length g1) (.bool B.asks) (.string B.ask)) := HXa.out.grown (grown_of_below none hb) (by simp)
        have HS8 : Hid (IsStrs w8 f1 g1 B.parts) := HSa.out.below hb
        have HG8 : Hid (IsStrs w8 l1 m1 (pageF P t)) := HLa.out.below hb
        have HO8 : Hid (Owns w8 (w7.heap.size + 1) (.slice (some ⟨(w7.heap.size + 1), 0, none⟩) 0 0) []) := Owns.below HOa.out hb
        have HB8 : Hid (Below w.heap.size w w8) := HBa.out.trans (hb.mono HBa.out.size)
        have HAP8 : Hid (∀ a, f1 = some a → B.parts ≠ [] → a.block ≠ (w7.heap.size + 1) ∧ a.block < w8.heap.size) := fun a e hne => by have := HAz.out a e hne; omega
        have HGO8 : Hid (∀ a, l1 = some a → pageF P t ≠ [] → a.block ≠ (w7.heap.size + 1) ∧ a.block < w8.heap.size) := fun a e hne => by have := HGz.out a e hne; omega
        have HFB : Hid (E ≠ (w7.heap.size + 1) ∧ E < w8.heap.size) := by show _ ∧ _; omega
        have hM8 : (w7.heap.size + 1) ≤ w8.heap.size := by omega
        clear hO8 hS8 hb hs8 hza hFz HXz HSz HLz HBz HAz HGz HXa HSa HLa HBa HOa
        generalize (w7.heap.size + 1) = M at *
        generalize linksF t = K at *
        go_wp2
        go_loopw [11, 13] (fun v i wr => ∃ k : Nat, k ≤ K.length ∧ i = .int .i64 (k : Int) ∧ Hid (Owns wr M v (allL B (K.take k))) ∧ Hid (Dr.Box wr E (.string B.house) (.slice f1 B.parts.length g1) (.bool B.asks) (.string B.ask)) ∧ Hid (IsStrs wr f1 g1 B.parts) ∧ Hid (IsStrs wr lk mk K) ∧ Hid (IsStrs wr l1 m1 (pageF P t)) ∧ Hid (Below w.heap.size w wr) ∧ Hid (w8.heap.size ≤ wr.heap.size) ∧ Hid (v.ownBlock = some M ∨ ∃ g, v.ownBlock = some g ∧ w8.heap.size ≤ g)) (fun _ i _ => K.length - (intOf i).toNat)
        case atStart => exact ⟨0, Nat.zero_le _, rfl, HO8, HX8, HS8, HL8, HG8, HB8, Nat.le_refl _, Or.inl rfl⟩
        case round =>
          obtain ⟨k, hk, rfl, HO, HX, HS, HL, HG, HB, HSZ, HV⟩ := hrel
          by_cases hlt : k < K.length
          · obtain ⟨lb, lo, e1, cl⟩ := HL.out.at hlt
            subst e1
            have hx := HX.out
            obtain ⟨⟨c0, c1, c2, c3⟩, _⟩ := hx.cells
            clear hx
            have hks := HLS.out K[k] (List.getElem_mem _)
            have HAk : Hid (ascii K[k]) := HLA.out K[k] (List.getElem_mem _)
            have HMr : Hid (Mx wr) := HM.out.below HB.out
            have hacc : (allL B (K.take k)).length ≤ 300 := by
              have h1 := all_len B (K.take k)
              have h2 : (K.take k).length ≤ k := by simp; omega
              omega
            obtain ⟨acc, hac⟩ : ∃ acc, allL B (K.take k) = acc := ⟨_, rfl⟩
            have HAC : Hid (allL B (K.take k) = acc) := hac
            rw [hac] at HO hacc
            clear hac
            have hFr : E < wr.heap.size := HX.out.lt
            have n0 : wr.drew.cell? ⟨E, 0, none⟩ = some (.string B.house) := c0
            have n1 : wr.drew.cell? ⟨E, 1, none⟩ = some (.slice f1 B.parts.length g1) := c1
            have n2 : wr.drew.cell? ⟨E, 2, none⟩ = some (.bool B.asks) := c2
            have n3 : wr.drew.cell? ⟨E, 3, none⟩ = some (.string B.ask) := c3
            have nl : wr.drew.cell? ⟨lb, lo + k, none⟩ = some (.string K[k]) := cl
            have hlr : lb < wr.heap.size := St.cell_block cl
            have hFd : E < wr.drew.heap.size := hFr
            have hld : lb < wr.drew.heap.size := hlr
            go_wp2
            go_region_with (first
              | (go_at_call 10
                 first
                  | (refine (implJoin_page B K[k] f1 g1 wr.drew (HMr.out.below ((Below.refl _ wr).drew)) (HS.out.below ((Below.refl _ wr).drew)) HBK.out hks HAk.out).mono ?_
                     rintro e w9 ⟨C, ok, x1, y1, rfl, hans, hOC, hb⟩
                     have HANS : Hid (Ans (joinF B K[k].data.toList) C ok) := hans
                     have HBD : Hid (Below wr.heap.size wr w9) := Below.trans ((Below.refl _ wr).drew) (hb.mono (by simp))
                     have hz5 := HBD.out.size
                     have HOC : Hid (Owns w9 wr.heap.size (.slice x1 C.parts.length y1) C.parts) := Owns.mono hOC (by simp)
                     clear hans hOC hb)
                  | (refine (implJoin_page B K[k] f1 g1 (wr.alloc (.cells #[.string ⟨#[]⟩, .slice none 0 0, .bool false, .string ⟨#[]⟩] 25)).drew (HMr.out.below (((Below.refl _ wr).alloc (Nat.le_refl _) _).drew)) (HS.out.below (((Below.refl _ wr).alloc (Nat.le_refl _) _).drew)) HBK.out hks HAk.out).mono ?_
                     rintro e w9 ⟨C, ok, x1, y1, rfl, hans, hOC, hb⟩
                     have HANS : Hid (Ans (joinF B K[k].data.toList) C ok) := hans
                     have HBD : Hid (Below wr.heap.size wr w9) := Below.trans (((Below.refl _ wr).alloc (Nat.le_refl _) _).drew) (hb.mono (by simp))
                     have hz5 := HBD.out.size
                     have HOC : Hid (Owns w9 (wr.heap.size + 1) (.slice x1 C.parts.length y1) C.parts) := Owns.mono hOC (by simp)
                     have HZ5 : Hid (Dr.Box w9 wr.heap.size (.string ⟨#[]⟩) (.slice none 0 0) (.bool false) (.string ⟨#[]⟩)) := Dr.Box.grown (Dr.Box.heapEq (Dr.heap_new wr _) rfl) (grown_of_below none hb) (by simp)
                     have hpz := HZ5.out
                     obtain ⟨⟨z0', z1', z2', z3'⟩, zf⟩ := hpz.cells
                     clear hpz
                     clear hans hOC hb)
                  | (refine (implJoin_page B K[k] f1 g1 (wr.drew.alloc (.cells #[.string ⟨#[]⟩, .slice none 0 0, .bool false, .string ⟨#[]⟩] 25)) (HMr.out.below (((Below.refl _ wr).drew).alloc (Nat.le_refl _) _)) (HS.out.below (((Below.refl _ wr).drew).alloc (Nat.le_refl _) _)) HBK.out hks HAk.out).mono ?_
                     rintro e w9 ⟨C, ok, x1, y1, rfl, hans, hOC, hb⟩
                     have HANS : Hid (Ans (joinF B K[k].data.toList) C ok) := hans
                     have HBD : Hid (Below wr.heap.size wr w9) := Below.trans (((Below.refl _ wr).drew).alloc (Nat.le_refl _) _) (hb.mono (by simp))
                     have hz5 := HBD.out.size
                     have HOC : Hid (Owns w9 (wr.heap.size + 1) (.slice x1 C.parts.length y1) C.parts) := Owns.mono hOC (by simp)
                     have HZ5 : Hid (Dr.Box w9 wr.heap.size (.string ⟨#[]⟩) (.slice none 0 0) (.bool false) (.string ⟨#[]⟩)) := Dr.Box.grown (Dr.heap_new wr.drew _) (grown_of_below none hb) (by simp)
                     have hpz := HZ5.out
                     obtain ⟨⟨z0', z1', z2', z3'⟩, zf⟩ := hpz.cells
                     clear hpz
                     clear hans hOC hb)
                  | fail)
              | fail)
            all_goals (
              clear n0 n1 n2 n3 nl c0 c1 c2 c3 cl
              first
                | (have HBS : Hid (Below wr.heap.size wr ((((w9.setCell ⟨wr.heap.size, 0, none⟩ (.string C.house)).setCell ⟨wr.heap.size, 1, none⟩ (.slice x1 C.parts.length y1)).setCell ⟨wr.heap.size, 2, none⟩ (.bool C.asks)).setCell ⟨wr.heap.size, 3, none⟩ (.string C.ask))) := by
                     show Below _ _ _
                     iterate 4 refine Below.setCell ?_ (by dsimp only; omega) _
                     exact HBD.out
                   have HSC : Hid (IsStrs ((((w9.setCell ⟨wr.heap.size, 0, none⟩ (.string C.house)).setCell ⟨wr.heap.size, 1, none⟩ (.slice x1 C.parts.length y1)).setCell ⟨wr.heap.size, 2, none⟩ (.bool C.asks)).setCell ⟨wr.heap.size, 3, none⟩ (.string C.ask)) x1 y1 C.parts) := by
                     refine Owns.strsOf (base := wr.heap.size + 1) (n := C.parts.length) ?_
                     iterate 4 refine ownsRow_setCell_below ?_ (by dsimp only; omega) _
                     exact HOC.out
                   have HXC : Hid (Dr.Box ((((w9.setCell ⟨wr.heap.size, 0, none⟩ (.string C.house)).setCell ⟨wr.heap.size, 1, none⟩ (.slice x1 C.parts.length y1)).setCell ⟨wr.heap.size, 2, none⟩ (.bool C.asks)).setCell ⟨wr.heap.size, 3, none⟩ (.string C.ask)) wr.heap.size (.string C.house) (.slice x1 C.parts.length y1) (.bool C.asks) (.string C.ask)) := Dr.Box.set3 (Dr.Box.set2 (Dr.Box.set1 (Dr.Box.set0 HZ5.out _) _) _) _
                   have HO5 : Hid (Owns ((((w9.setCell ⟨wr.heap.size, 0, none⟩ (.string C.house)).setCell ⟨wr.heap.size, 1, none⟩ (.slice x1 C.parts.length y1)).setCell ⟨wr.heap.size, 2, none⟩ (.bool C.asks)).setCell ⟨wr.heap.size, 3, none⟩ (.string C.ask)) M u11 acc) := Owns.below HO.out HBS.out
                   have HX5 : Hid (Dr.Box ((((w9.setCell ⟨wr.heap.size, 0, none⟩ (.string C.house)).setCell ⟨wr.heap.size, 1, none⟩ (.slice x1 C.parts.length y1)).setCell ⟨wr.heap.size, 2, none⟩ (.bool C.asks)).setCell ⟨wr.heap.size, 3, none⟩ (.string C.ask)) E (.string B.house) (.slice f1 B.parts.length g1) (.bool B.asks) (.string B.ask)) := HX.out.grown (grown_of_below none HBS.out) (by simp)
                   have HS5 : Hid (IsStrs ((((w9.setCell ⟨wr.heap.size, 0, none⟩ (.string C.house)).setCell ⟨wr.heap.size, 1, none⟩ (.slice x1 C.parts.length y1)).setCell ⟨wr.heap.size, 2, none⟩ (.bool C.asks)).setCell ⟨wr.heap.size, 3, none⟩ (.string C.ask)) f1 g1 B.parts) := HS.out.below HBS.out
                   have HL5 : Hid (IsStrs ((((w9.setCell ⟨wr.heap.size, 0, none⟩ (.string C.house)).setCell ⟨wr.heap.size, 1, none⟩ (.slice x1 C.parts.length y1)).setCell ⟨wr.heap.size, 2, none⟩ (.bool C.asks)).setCell ⟨wr.heap.size, 3, none⟩ (.string C.ask)) (some ⟨lb, lo, none⟩) mk K) := HL.out.below HBS.out
                   have HG5 : Hid (IsStrs ((((w9.setCell ⟨wr.heap.size, 0, none⟩ (.string C.house)).setCell ⟨wr.heap.size, 1, none⟩ (.slice x1 C.parts.length y1)).setCell ⟨wr.heap.size, 2, none⟩ (.bool C.asks)).setCell ⟨wr.heap.size, 3, none⟩ (.string C.ask)) l1 m1 (pageF P t)) := HG.out.below HBS.out
                   have HB5 : Hid (Below w.heap.size w ((((w9.setCell ⟨wr.heap.size, 0, none⟩ (.string C.house)).setCell ⟨wr.heap.size, 1, none⟩ (.slice x1 C.parts.length y1)).setCell ⟨wr.heap.size, 2, none⟩ (.bool C.asks)).setCell ⟨wr.heap.size, 3, none⟩ (.string C.ask))) := HB.out.trans (HBS.out.mono HB.out.size)
                   have HSZ5 : Hid (w8.heap.size ≤ (((((w9.setCell ⟨wr.heap.size, 0, none⟩ (.string C.house)).setCell ⟨wr.heap.size, 1, none⟩ (.slice x1 C.parts.length y1)).setCell ⟨wr.heap.size, 2, none⟩ (.bool C.asks)).setCell ⟨wr.heap.size, 3, none⟩ (.string C.ask))).heap.size) := Nat.le_trans HSZ.out HBS.out.size
                   have hx := HXC.out
                   obtain ⟨⟨c0, c1, c2, c3⟩, _⟩ := hx.cells
                   clear hx
                   have hpa := HANS.out
                   rcases hpa with ⟨rfl, hj⟩ | ⟨rfl, hj, rfl⟩
                   · have HN : Hid (allL B (K.take (k + 1)) = acc ++ [textF C]) := by show _ = _; rw [all_some hlt hj, HAC.out]
                     have hCb : bulkA C ≤ 4194304 := Nat.le_trans (ok_sum (join_ok hj)).2 (by decide)
                     clear hj
                     go_wp2_with fail
                     refine (implAddrText_any C x1 y1 _ HSC.out hCb).mono ?_
                     rintro e w10 ⟨rfl, hb⟩
                     have HO6 : Hid (Owns w10 M u11 acc) := Owns.below HO5.out hb
                     have HX6 : Hid (Dr.Box w10 E (.string B.house) (.slice f1 B.parts.length g1) (.bool B.asks) (.string B.ask)) := HX5.out.grown (grown_of_below none hb) (by simp)
                     have HS6 : Hid (IsStrs w10 f1 g1 B.parts) := HS5.out.below hb
                     have HL6 : Hid (IsStrs w10 (some ⟨lb, lo, none⟩) mk K) := HL5.out.below hb
                     have HG6 : Hid (IsStrs w10 l1 m1 (pageF P t)) := HG5.out.below hb
                     have HB6 : Hid (Below w.heap.size w w10) := HB5.out.trans (hb.mono HB5.out.size)
                     have HSZ6 : Hid (w8.heap.size ≤ w10.heap.size) := Nat.le_trans HSZ5.out hb.size
                     clear hb c0 c1 c2 c3
                     have hbd6 : M ≤ w10.heap.size := Nat.le_trans hM8 HSZ6.out
                     generalize textF C = tx at *
                     go_wp2_with (at_builtin; refine wpList_append_lies _ rfl _ _ 23 rfl M 9 i0 (.string ⟨#[]⟩) 1 16 Tryz.underlying23 hi hz0 hz1 hz2 rfl (by decide) _ _ _ rfl (World.ownsRow.alloc HO6.out _) ⟨w10.heap.size, 0, none⟩ 1 1 [.string tx] rfl rfl (cell_one_new _ _ _) ?c2 (by omega) ?c3 ?c4 ?c5 (w10.heap.size + 1) ?c6 ?_)
                     case c2 => first | rfl | (intro u hu; simp at hu; subst hu; rfl)
                     case c3 => unfold maxLen; omega
                     case c4 => omega
                     case c5 => first | omega | (simp; omega)
                     case c6 => simp
                     intro gn cn w11 hown hg0 hat _
                     have hfin := app_after HO6.out HX6.out HS6.out HL6.out HG6.out HB6.out HSZ6.out HV.out hwM HFB.out HAP8.out HLO8.out HGO8.out hown hg0 hat
                     have HFIN : Hid _ := hfin
                     clear hown hg0 hat hfin
                     have HO7 : Hid (Owns w11 M (.slice (some ⟨gn, 0, none⟩) (acc.length + 1) cn) (acc ++ [tx])) := HFIN.out.1
                     have HX7 : Hid (Dr.Box w11 E (.string B.house) (.slice f1 B.parts.length g1) (.bool B.asks) (.string B.ask)) := HFIN.out.2.1
                     have HS7 : Hid (IsStrs w11 f1 g1 B.parts) := HFIN.out.2.2.1
                     have HL7 : Hid (IsStrs w11 (some ⟨lb, lo, none⟩) mk K) := HFIN.out.2.2.2.1
                     have HG7 : Hid (IsStrs w11 l1 m1 (pageF P t)) := HFIN.out.2.2.2.2.1
                     have HB7 : Hid (Below w.heap.size w w11) := HFIN.out.2.2.2.2.2.1
                     have HSZ7 : Hid (w8.heap.size ≤ w11.heap.size) := HFIN.out.2.2.2.2.2.2.1
                     have HV7 : Hid ((Value.slice (some ⟨gn, 0, none⟩) (acc.length + 1) cn).ownBlock = some M ∨ ∃ g, (Value.slice (some ⟨gn, 0, none⟩) (acc.length + 1) cn).ownBlock = some g ∧ w8.heap.size ≤ g) := HFIN.out.2.2.2.2.2.2.2
                     clear HFIN
                     go_wp2
                     go_roundw
                     case rel => exact ⟨k + 1, by omega, by go_num, by rw [HN.out]; exact HO7, HX7, HS7, HL7, HG7, HB7, HSZ7, HV7⟩
                     case measure => simp [intOf]; omega
                   · have HN : Hid (allL B (K.take (k + 1)) = acc) := by show _ = _; rw [all_none hlt hj, HAC.out]
                     clear hj c0 c1 c2 c3
                     go_wp2
                     go_roundw
                     case rel => exact ⟨k + 1, by omega, by go_num, by rw [HN.out]; exact HO5, HX5, HS5, HL5, HG5, HB5, HSZ5, HV⟩
                     case measure => simp [intOf]; omega)
                | (have HBS : Hid (Below wr.heap.size wr (w9.alloc (.cells #[.string C.house, .slice x1 C.parts.length y1, .bool C.asks, .string C.ask] 25))) := HBD.out.alloc HBD.out.size _
                   have HSC : Hid (IsStrs (w9.alloc (.cells #[.string C.house, .slice x1 C.parts.length y1, .bool C.asks, .string C.ask] 25)) x1 y1 C.parts) := (Owns.strsOf HOC.out).keep (alloc_keep _ _)
                   have HXC : Hid (Dr.Box (w9.alloc (.cells #[.string C.house, .slice x1 C.parts.length y1, .bool C.asks, .string C.ask] 25)) w9.heap.size (.string C.house) (.slice x1 C.parts.length y1) (.bool C.asks) (.string C.ask)) := Dr.heap_new w9 _
                   have HO5 : Hid (Owns (w9.alloc (.cells #[.string C.house, .slice x1 C.parts.length y1, .bool C.asks, .string C.ask] 25)) M u11 acc) := Owns.below HO.out HBS.out
                   have HX5 : Hid (Dr.Box (w9.alloc (.cells #[.string C.house, .slice x1 C.parts.length y1, .bool C.asks, .string C.ask] 25)) E (.string B.house) (.slice f1 B.parts.length g1) (.bool B.asks) (.string B.ask)) := HX.out.grown (grown_of_below none HBS.out) (by simp)
                   have HS5 : Hid (IsStrs (w9.alloc (.cells #[.string C.house, .slice x1 C.parts.length y1, .bool C.asks, .string C.ask] 25)) f1 g1 B.parts) := HS.out.below HBS.out
                   have HL5 : Hid (IsStrs (w9.alloc (.cells #[.string C.house, .slice x1 C.parts.length y1, .bool C.asks, .string C.ask] 25)) (some ⟨lb, lo, none⟩) mk K) := HL.out.below HBS.out
                   have HG5 : Hid (IsStrs (w9.alloc (.cells #[.string C.house, .slice x1 C.parts.length y1, .bool C.asks, .string C.ask] 25)) l1 m1 (pageF P t)) := HG.out.below HBS.out
                   have HB5 : Hid (Below w.heap.size w (w9.alloc (.cells #[.string C.house, .slice x1 C.parts.length y1, .bool C.asks, .string C.ask] 25))) := HB.out.trans (HBS.out.mono HB.out.size)
                   have HSZ5 : Hid (w8.heap.size ≤ ((w9.alloc (.cells #[.string C.house, .slice x1 C.parts.length y1, .bool C.asks, .string C.ask] 25))).heap.size) := Nat.le_trans HSZ.out HBS.out.size
                   have hx := HXC.out
                   obtain ⟨⟨c0, c1, c2, c3⟩, _⟩ := hx.cells
                   clear hx
                   have hpa := HANS.out
                   rcases hpa with ⟨rfl, hj⟩ | ⟨rfl, hj, rfl⟩
                   · have HN : Hid (allL B (K.take (k + 1)) = acc ++ [textF C]) := by show _ = _; rw [all_some hlt hj, HAC.out]
                     have hCb : bulkA C ≤ 4194304 := Nat.le_trans (ok_sum (join_ok hj)).2 (by decide)
                     clear hj
                     go_wp2_with fail
                     refine (implAddrText_any C x1 y1 _ HSC.out hCb).mono ?_
                     rintro e w10 ⟨rfl, hb⟩
                     have HO6 : Hid (Owns w10 M u11 acc) := Owns.below HO5.out hb
                     have HX6 : Hid (Dr.Box w10 E (.string B.house) (.slice f1 B.parts.length g1) (.bool B.asks) (.string B.ask)) := HX5.out.grown (grown_of_below none hb) (by simp)
                     have HS6 : Hid (IsStrs w10 f1 g1 B.parts) := HS5.out.below hb
                     have HL6 : Hid (IsStrs w10 (some ⟨lb, lo, none⟩) mk K) := HL5.out.below hb
                     have HG6 : Hid (IsStrs w10 l1 m1 (pageF P t)) := HG5.out.below hb
                     have HB6 : Hid (Below w.heap.size w w10) := HB5.out.trans (hb.mono HB5.out.size)
                     have HSZ6 : Hid (w8.heap.size ≤ w10.heap.size) := Nat.le_trans HSZ5.out hb.size
                     clear hb c0 c1 c2 c3
                     have hbd6 : M ≤ w10.heap.size := Nat.le_trans hM8 HSZ6.out
                     generalize textF C = tx at *
                     go_wp2_with (at_builtin; refine wpList_append_lies _ rfl _ _ 23 rfl M 9 i0 (.string ⟨#[]⟩) 1 16 Tryz.underlying23 hi hz0 hz1 hz2 rfl (by decide) _ _ _ rfl (World.ownsRow.alloc HO6.out _) ⟨w10.heap.size, 0, none⟩ 1 1 [.string tx] rfl rfl (cell_one_new _ _ _) ?c2 (by omega) ?c3 ?c4 ?c5 (w10.heap.size + 1) ?c6 ?_)
                     case c2 => first | rfl | (intro u hu; simp at hu; subst hu; rfl)
                     case c3 => unfold maxLen; omega
                     case c4 => omega
                     case c5 => first | omega | (simp; omega)
                     case c6 => simp
                     intro gn cn w11 hown hg0 hat _
                     have hfin := app_after HO6.out HX6.out HS6.out HL6.out HG6.out HB6.out HSZ6.out HV.out hwM HFB.out HAP8.out HLO8.out HGO8.out hown hg0 hat
                     have HFIN : Hid _ := hfin
                     clear hown hg0 hat hfin
                     have HO7 : Hid (Owns w11 M (.slice (some ⟨gn, 0, none⟩) (acc.length + 1) cn) (acc ++ [tx])) := HFIN.out.1
                     have HX7 : Hid (Dr.Box w11 E (.string B.house) (.slice f1 B.parts.length g1) (.bool B.asks) (.string B.ask)) := HFIN.out.2.1
                     have HS7 : Hid (IsStrs w11 f1 g1 B.parts) := HFIN.out.2.2.1
                     have HL7 : Hid (IsStrs w11 (some ⟨lb, lo, none⟩) mk K) := HFIN.out.2.2.2.1
                     have HG7 : Hid (IsStrs w11 l1 m1 (pageF P t)) := HFIN.out.2.2.2.2.1
                     have HB7 : Hid (Below w.heap.size w w11) := HFIN.out.2.2.2.2.2.1
                     have HSZ7 : Hid (w8.heap.size ≤ w11.heap.size) := HFIN.out.2.2.2.2.2.2.1
                     have HV7 : Hid ((Value.slice (some ⟨gn, 0, none⟩) (acc.length + 1) cn).ownBlock = some M ∨ ∃ g, (Value.slice (some ⟨gn, 0, none⟩) (acc.length + 1) cn).ownBlock = some g ∧ w8.heap.size ≤ g) := HFIN.out.2.2.2.2.2.2.2
                     clear HFIN
                     go_wp2
                     go_roundw
                     case rel => exact ⟨k + 1, by omega, by go_num, by rw [HN.out]; exact HO7, HX7, HS7, HL7, HG7, HB7, HSZ7, HV7⟩
                     case measure => simp [intOf]; omega
                   · have HN : Hid (allL B (K.take (k + 1)) = acc) := by show _ = _; rw [all_none hlt hj, HAC.out]
                     clear hj c0 c1 c2 c3
                     go_wp2
                     go_roundw
                     case rel => exact ⟨k + 1, by omega, by go_num, by rw [HN.out]; exact HO5, HX5, HS5, HL5, HG5, HB5, HSZ5, HV⟩
                     case measure => simp [intOf]; omega)
                | fail)

          · have e1 : K.take k = K := List.take_of_length_le (by omega)
            have hO := HO.out
            rw [e1] at hO
            obtain ⟨av, cv, hv, hIv⟩ := hO.strs
            subst hv
            have HIv : Hid (IsStrs wr av cv (allL B K)) := hIv
            have hal : (allL B K).length ≤ 300 := Nat.le_trans (all_len _ _) hll
            have H12 : Hid (∀ y ∈ allL B K, y ∈ pageF P t) := by show ∀ y ∈ _, _; rw [HFP.out]; exact all_page B K
            have H21 : Hid (∀ y ∈ pageF P t, y ∈ allL B K) := by show ∀ y ∈ _, _; rw [HFP.out]; exact page_all B K
            clear hO hIv e1
            go_wp2_with fail
            refine (within_any av cv (allL B K) l1 m1 (pageF P t) _ HIv.out HG.out (by omega) (by omega) H12.out).mono ?_
            rintro e w9 ⟨rfl, e9⟩
            have e9' := e9.symm
            subst e9'
            clear e9
            go_wp2_with fail
            refine (within_any l1 m1 (pageF P t) av cv (allL B K) _ HG.out HIv.out (by omega) (by omega) H21.out).mono ?_
            rintro e w10 ⟨rfl, e10⟩
            have e10' := e10.symm
            subst e10'
            clear e10
            go_wp2
            go_ret
            exact ⟨rfl, HB.out⟩
      · have HE : Hid (fromF P t = P) := from_none hj
        have HXz := HX7
        have HSz := HSP7
        have HLz := HL7
        have HBz := HB7
        clear hj c0 c1 c2 c3 d0 d1 d2 d3 cz HX7 HSP7 HL7 HB7 HOB7 HY7
        rw [HE.out] at HF HBK
        have hpl2 : (pageF P t).length ≤ 300 := hpl
        have HFP : Hid (pageF P t = pageL P (linksF t)) := HF
        have HAz : Hid (∀ a, p1 = some a → P.parts ≠ [] → a.block < (w7.alloc (.cells #[.string zeroAd.house, .slice f1 zeroAd.parts.length g1, .bool zeroAd.asks, .string zeroAd.ask] 25)).heap.size) := fun a e hne => strs_lt HSz.out a e hne
        have HGz : Hid (∀ a, l1 = some a → pageF P t ≠ [] → a.block < (w7.alloc (.cells #[.string zeroAd.house, .slice f1 zeroAd.parts.length g1, .bool zeroAd.asks, .string zeroAd.ask] 25)).heap.size) := fun a e hne => strs_lt HLz.out a e hne
        have HXa : Hid (Dr.Box ((w7.alloc (.cells #[.string zeroAd.house, .slice f1 zeroAd.parts.length g1, .bool zeroAd.asks, .string zeroAd.ask] 25)).alloc (.cells #[] 9)) E (.string P.house) (.slice p1 P.parts.length q1) (.bool P.asks) (.string P.ask)) := HXz.out.grown (grown_alloc _ _ none) (by simp)
        have HSa : Hid (IsStrs ((w7.alloc (.cells #[.string zeroAd.house, .slice f1 zeroAd.parts.length g1, .bool zeroAd.asks, .string zeroAd.ask] 25)).alloc (.cells #[] 9)) p1 q1 P.parts) := HSz.out.keep (alloc_keep _ _)
        have HLa : Hid (IsStrs ((w7.alloc (.cells #[.string zeroAd.house, .slice f1 zeroAd.parts.length g1, .bool zeroAd.asks, .string zeroAd.ask] 25)).alloc (.cells #[] 9)) l1 m1 (pageF P t)) := HLz.out.keep (alloc_keep _ _)
        have HBa : Hid (Below w.heap.size w ((w7.alloc (.cells #[.string zeroAd.house, .slice f1 zeroAd.parts.length g1, .bool zeroAd.asks, .string zeroAd.ask] 25)).alloc (.cells #[] 9))) := HBz.out.alloc HBz.out.size _
        have HOa : Hid (Owns ((w7.alloc (.cells #[.string zeroAd.house, .slice f1 zeroAd.parts.length g1, .bool zeroAd.asks, .string zeroAd.ask] 25)).alloc (.cells #[] 9)) (w7.alloc (.cells #[.string zeroAd.house, .slice f1 zeroAd.parts.length g1, .bool zeroAd.asks, .string zeroAd.ask] 25)).heap.size (.slice (some ⟨(w7.alloc (.cells #[.string zeroAd.house, .slice f1 zeroAd.parts.length g1, .bool zeroAd.asks, .string zeroAd.ask] 25)).heap.size, 0, none⟩) 0 0) []) := Owns.empty _ _ (Nat.le_refl _)
        have hwM : w.heap.size ≤ (w7.alloc (.cells #[.string zeroAd.house, .slice f1 zeroAd.parts.length g1, .bool zeroAd.asks, .string zeroAd.ask] 25)).heap.size := HBz.out.size
        have hFz : E < (w7.alloc (.cells #[.string zeroAd.house, .slice f1 zeroAd.parts.length g1, .bool zeroAd.asks, .string zeroAd.ask] 25)).heap.size := HXz.out.lt
        have hza : ((w7.alloc (.cells #[.string zeroAd.house, .slice f1 zeroAd.parts.length g1, .bool zeroAd.asks, .string zeroAd.ask] 25)).alloc (.cells #[] 9)).heap.size = (w7.alloc (.cells #[.string zeroAd.house, .slice f1 zeroAd.parts.length g1, .bool zeroAd.asks, .string zeroAd.ask] 25)).heap.size + 1 := World.size_alloc _ _
        have hszt : (w7.alloc (.cells #[.string zeroAd.house, .slice f1 zeroAd.parts.length g1, .bool zeroAd.asks, .string zeroAd.ask] 25)).heap.size = (w7.heap.size + 1) := World.size_alloc _ _
        rw [hszt] at HOa hwM hFz hza HAz HGz
        go_wp2_with fail
        refine (implLinks_any t _ htm).mono ?_
        rintro e w8 ⟨v8, rfl, hO8, hb⟩
        obtain ⟨lk, mk, hv8, hS8⟩ := hO8.strs
        subst hv8
        have hs8 := hb.size
        rw [hza] at hs8
        have HL8 : Hid (IsStrs w8 lk mk (linksF t)) := hS8
        have HLO8 : Hid (∀ a, lk = some a → linksF t ≠ [] → a.block ≠ (w7.heap.size + 1) ∧ a.block < w8.heap.size) := fun a e hne => by
          have h1 := strs_lt hS8 a e hne
          have h2 := Owns.block hO8 a.block (by rw [e]; rfl)
          rw [hza] at h2
          exact ⟨by omega, h1⟩
        have HX8 : Hid (Dr.Box w8 E (.string P.house) (.slice p1 P.parts.length q1) (.bool P.asks) (.string P.ask)) := HXa.out.grown (grown_of_below none hb) (by simp)
        have HS8 : Hid (IsStrs w8 p1 q1 P.parts) := HSa.out.below hb
        have HG8 : Hid (IsStrs w8 l1 m1 (pageF P t)) := HLa.out.below hb
        have HO8 : Hid (Owns w8 (w7.heap.size + 1) (.slice (some ⟨(w7.heap.size + 1), 0, none⟩) 0 0) []) := Owns.below HOa.out hb
        have HB8 : Hid (Below w.heap.size w w8) := HBa.out.trans (hb.mono HBa.out.size)
        have HAP8 : Hid (∀ a, p1 = some a → P.parts ≠ [] → a.block ≠ (w7.heap.size + 1) ∧ a.block < w8.heap.size) := fun a e hne => by have := HAz.out a e hne; omega
        have HGO8 : Hid (∀ a, l1 = some a → pageF P t ≠ [] → a.block ≠ (w7.heap.size + 1) ∧ a.block < w8.heap.size) := fun a e hne => by have := HGz.out a e hne; omega
        have HFB : Hid (E ≠ (w7.heap.size + 1) ∧ E < w8.heap.size) := by show _ ∧ _; omega
        have hM8 : (w7.heap.size + 1) ≤ w8.heap.size := by omega
        clear hO8 hS8 hb hs8 hza hFz HXz HSz HLz HBz HAz HGz HXa HSa HLa HBa HOa
        generalize (w7.heap.size + 1) = M at *
        generalize linksF t = K at *
        go_wp2
        go_loopw [11, 13] (fun v i wr => ∃ k : Nat, k ≤ K.length ∧ i = .int .i64 (k : Int) ∧ Hid (Owns wr M v (allL P (K.take k))) ∧ Hid (Dr.Box wr E (.string P.house) (.slice p1 P.parts.length q1) (.bool P.asks) (.string P.ask)) ∧ Hid (IsStrs wr p1 q1 P.parts) ∧ Hid (IsStrs wr lk mk K) ∧ Hid (IsStrs wr l1 m1 (pageF P t)) ∧ Hid (Below w.heap.size w wr) ∧ Hid (w8.heap.size ≤ wr.heap.size) ∧ Hid (v.ownBlock = some M ∨ ∃ g, v.ownBlock = some g ∧ w8.heap.size ≤ g)) (fun _ i _ => K.length - (intOf i).toNat)
        case atStart => exact ⟨0, Nat.zero_le _, rfl, HO8, HX8, HS8, HL8, HG8, HB8, Nat.le_refl _, Or.inl rfl⟩
        case round =>
          obtain ⟨k, hk, rfl, HO, HX, HS, HL, HG, HB, HSZ, HV⟩ := hrel
          by_cases hlt : k < K.length
          · obtain ⟨lb, lo, e1, cl⟩ := HL.out.at hlt
            subst e1
            have hx := HX.out
            obtain ⟨⟨c0, c1, c2, c3⟩, _⟩ := hx.cells
            clear hx
            have hks := HLS.out K[k] (List.getElem_mem _)
            have HAk : Hid (ascii K[k]) := HLA.out K[k] (List.getElem_mem _)
            have HMr : Hid (Mx wr) := HM.out.below HB.out
            have hacc : (allL P (K.take k)).length ≤ 300 := by
              have h1 := all_len P (K.take k)
              have h2 : (K.take k).length ≤ k := by simp; omega
              omega
            obtain ⟨acc, hac⟩ : ∃ acc, allL P (K.take k) = acc := ⟨_, rfl⟩
            have HAC : Hid (allL P (K.take k) = acc) := hac
            rw [hac] at HO hacc
            clear hac
            have hFr : E < wr.heap.size := HX.out.lt
            have n0 : wr.drew.cell? ⟨E, 0, none⟩ = some (.string P.house) := c0
            have n1 : wr.drew.cell? ⟨E, 1, none⟩ = some (.slice p1 P.parts.length q1) := c1
            have n2 : wr.drew.cell? ⟨E, 2, none⟩ = some (.bool P.asks) := c2
            have n3 : wr.drew.cell? ⟨E, 3, none⟩ = some (.string P.ask) := c3
            have nl : wr.drew.cell? ⟨lb, lo + k, none⟩ = some (.string K[k]) := cl
            have hlr : lb < wr.heap.size := St.cell_block cl
            have hFd : E < wr.drew.heap.size := hFr
            have hld : lb < wr.drew.heap.size := hlr
            go_wp2
            go_region_with (first
              | (go_at_call 10
                 first
                  | (refine (implJoin_page P K[k] p1 q1 wr.drew (HMr.out.below ((Below.refl _ wr).drew)) (HS.out.below ((Below.refl _ wr).drew)) HBK.out hks HAk.out).mono ?_
                     rintro e w9 ⟨C, ok, x1, y1, rfl, hans, hOC, hb⟩
                     have HANS : Hid (Ans (joinF P K[k].data.toList) C ok) := hans
                     have HBD : Hid (Below wr.heap.size wr w9) := Below.trans ((Below.refl _ wr).drew) (hb.mono (by simp))
                     have hz5 := HBD.out.size
                     have HOC : Hid (Owns w9 wr.heap.size (.slice x1 C.parts.length y1) C.parts) := Owns.mono hOC (by simp)
                     clear hans hOC hb)
                  | (refine (implJoin_page P K[k] p1 q1 (wr.alloc (.cells #[.string ⟨#[]⟩, .slice none 0 0, .bool false, .string ⟨#[]⟩] 25)).drew (HMr.out.below (((Below.refl _ wr).alloc (Nat.le_refl _) _).drew)) (HS.out.below (((Below.refl _ wr).alloc (Nat.le_refl _) _).drew)) HBK.out hks HAk.out).mono ?_
                     rintro e w9 ⟨C, ok, x1, y1, rfl, hans, hOC, hb⟩
                     have HANS : Hid (Ans (joinF P K[k].data.toList) C ok) := hans
                     have HBD : Hid (Below wr.heap.size wr w9) := Below.trans (((Below.refl _ wr).alloc (Nat.le_refl _) _).drew) (hb.mono (by simp))
                     have hz5 := HBD.out.size
                     have HOC : Hid (Owns w9 (wr.heap.size + 1) (.slice x1 C.parts.length y1) C.parts) := Owns.mono hOC (by simp)
                     have HZ5 : Hid (Dr.Box w9 wr.heap.size (.string ⟨#[]⟩) (.slice none 0 0) (.bool false) (.string ⟨#[]⟩)) := Dr.Box.grown (Dr.Box.heapEq (Dr.heap_new wr _) rfl) (grown_of_below none hb) (by simp)
                     have hpz := HZ5.out
                     obtain ⟨⟨z0', z1', z2', z3'⟩, zf⟩ := hpz.cells
                     clear hpz
                     clear hans hOC hb)
                  | (refine (implJoin_page P K[k] p1 q1 (wr.drew.alloc (.cells #[.string ⟨#[]⟩, .slice none 0 0, .bool false, .string ⟨#[]⟩] 25)) (HMr.out.below (((Below.refl _ wr).drew).alloc (Nat.le_refl _) _)) (HS.out.below (((Below.refl _ wr).drew).alloc (Nat.le_refl _) _)) HBK.out hks HAk.out).mono ?_
                     rintro e w9 ⟨C, ok, x1, y1, rfl, hans, hOC, hb⟩
                     have HANS : Hid (Ans (joinF P K[k].data.toList) C ok) := hans
                     have HBD : Hid (Below wr.heap.size wr w9) := Below.trans (((Below.refl _ wr).drew).alloc (Nat.le_refl _) _) (hb.mono (by simp))
                     have hz5 := HBD.out.size
                     have HOC : Hid (Owns w9 (wr.heap.size + 1) (.slice x1 C.parts.length y1) C.parts) := Owns.mono hOC (by simp)
                     have HZ5 : Hid (Dr.Box w9 wr.heap.size (.string ⟨#[]⟩) (.slice none 0 0) (.bool false) (.string ⟨#[]⟩)) := Dr.Box.grown (Dr.heap_new wr.drew _) (grown_of_below none hb) (by simp)
                     have hpz := HZ5.out
                     obtain ⟨⟨z0', z1', z2', z3'⟩, zf⟩ := hpz.cells
                     clear hpz
                     clear hans hOC hb)
                  | fail)
              | fail)
            all_goals (
              clear n0 n1 n2 n3 nl c0 c1 c2 c3 cl
              first
                | (have HBS : Hid (Below wr.heap.size wr ((((w9.setCell ⟨wr.heap.size, 0, none⟩ (.string C.house)).setCell ⟨wr.heap.size, 1, none⟩ (.slice x1 C.parts.length y1)).setCell ⟨wr.heap.size, 2, none⟩ (.bool C.asks)).setCell ⟨wr.heap.size, 3, none⟩ (.string C.ask))) := by
                     show Below _ _ _
                     iterate 4 refine Below.setCell ?_ (by dsimp only; omega) _
                     exact HBD.out
                   have HSC : Hid (IsStrs ((((w9.setCell ⟨wr.heap.size, 0, none⟩ (.string C.house)).setCell ⟨wr.heap.size, 1, none⟩ (.slice x1 C.parts.length y1)).setCell ⟨wr.heap.size, 2, none⟩ (.bool C.asks)).setCell ⟨wr.heap.size, 3, none⟩ (.string C.ask)) x1 y1 C.parts) := by
                     refine Owns.strsOf (base := wr.heap.size + 1) (n := C.parts.length) ?_
                     iterate 4 refine ownsRow_setCell_below ?_ (by dsimp only; omega) _
                     exact HOC.out
                   have HXC : Hid (Dr.Box ((((w9.setCell ⟨wr.heap.size, 0, none⟩ (.string C.house)).setCell ⟨wr.heap.size, 1, none⟩ (.slice x1 C.parts.length y1)).setCell ⟨wr.heap.size, 2, none⟩ (.bool C.asks)).setCell ⟨wr.heap.size, 3, none⟩ (.string C.ask)) wr.heap.size (.string C.house) (.slice x1 C.parts.length y1) (.bool C.asks) (.string C.ask)) := Dr.Box.set3 (Dr.Box.set2 (Dr.Box.set1 (Dr.Box.set0 HZ5.out _) _) _) _
                   have HO5 : Hid (Owns ((((w9.setCell ⟨wr.heap.size, 0, none⟩ (.string C.house)).setCell ⟨wr.heap.size, 1, none⟩ (.slice x1 C.parts.length y1)).setCell ⟨wr.heap.size, 2, none⟩ (.bool C.asks)).setCell ⟨wr.heap.size, 3, none⟩ (.string C.ask)) M u11 acc) := Owns.below HO.out HBS.out
                   have HX5 : Hid (Dr.Box ((((w9.setCell ⟨wr.heap.size, 0, none⟩ (.string C.house)).setCell ⟨wr.heap.size, 1, none⟩ (.slice x1 C.parts.length y1)).setCell ⟨wr.heap.size, 2, none⟩ (.bool C.asks)).setCell ⟨wr.heap.size, 3, none⟩ (.string C.ask)) E (.string P.house) (.slice p1 P.parts.length q1) (.bool P.asks) (.string P.ask)) := HX.out.grown (grown_of_below none HBS.out) (by simp)
                   have HS5 : Hid (IsStrs ((((w9.setCell ⟨wr.heap.size, 0, none⟩ (.string C.house)).setCell ⟨wr.heap.size, 1, none⟩ (.slice x1 C.parts.length y1)).setCell ⟨wr.heap.size, 2, none⟩ (.bool C.asks)).setCell ⟨wr.heap.size, 3, none⟩ (.string C.ask)) p1 q1 P.parts) := HS.out.below HBS.out
                   have HL5 : Hid (IsStrs ((((w9.setCell ⟨wr.heap.size, 0, none⟩ (.string C.house)).setCell ⟨wr.heap.size, 1, none⟩ (.slice x1 C.parts.length y1)).setCell ⟨wr.heap.size, 2, none⟩ (.bool C.asks)).setCell ⟨wr.heap.size, 3, none⟩ (.string C.ask)) (some ⟨lb, lo, none⟩) mk K) := HL.out.below HBS.out
                   have HG5 : Hid (IsStrs ((((w9.setCell ⟨wr.heap.size, 0, none⟩ (.string C.house)).setCell ⟨wr.heap.size, 1, none⟩ (.slice x1 C.parts.length y1)).setCell ⟨wr.heap.size, 2, none⟩ (.bool C.asks)).setCell ⟨wr.heap.size, 3, none⟩ (.string C.ask)) l1 m1 (pageF P t)) := HG.out.below HBS.out
                   have HB5 : Hid (Below w.heap.size w ((((w9.setCell ⟨wr.heap.size, 0, none⟩ (.string C.house)).setCell ⟨wr.heap.size, 1, none⟩ (.slice x1 C.parts.length y1)).setCell ⟨wr.heap.size, 2, none⟩ (.bool C.asks)).setCell ⟨wr.heap.size, 3, none⟩ (.string C.ask))) := HB.out.trans (HBS.out.mono HB.out.size)
                   have HSZ5 : Hid (w8.heap.size ≤ (((((w9.setCell ⟨wr.heap.size, 0, none⟩ (.string C.house)).setCell ⟨wr.heap.size, 1, none⟩ (.slice x1 C.parts.length y1)).setCell ⟨wr.heap.size, 2, none⟩ (.bool C.asks)).setCell ⟨wr.heap.size, 3, none⟩ (.string C.ask))).heap.size) := Nat.le_trans HSZ.out HBS.out.size
                   have hx := HXC.out
                   obtain ⟨⟨c0, c1, c2, c3⟩, _⟩ := hx.cells
                   clear hx
                   have hpa := HANS.out
                   rcases hpa with ⟨rfl, hj⟩ | ⟨rfl, hj, rfl⟩
                   · have HN : Hid (allL P (K.take (k + 1)) = acc ++ [textF C]) := by show _ = _; rw [all_some hlt hj, HAC.out]
                     have hCb : bulkA C ≤ 4194304 := Nat.le_trans (ok_sum (join_ok hj)).2 (by decide)
                     clear hj
                     go_wp2_with fail
                     refine (implAddrText_any C x1 y1 _ HSC.out hCb).mono ?_
                     rintro e w10 ⟨rfl, hb⟩
                     have HO6 : Hid (Owns w10 M u11 acc) := Owns.below HO5.out hb
                     have HX6 : Hid (Dr.Box w10 E (.string P.house) (.slice p1 P.parts.length q1) (.bool P.asks) (.string P.ask)) := HX5.out.grown (grown_of_below none hb) (by simp)
                     have HS6 : Hid (IsStrs w10 p1 q1 P.parts) := HS5.out.below hb
                     have HL6 : Hid (IsStrs w10 (some ⟨lb, lo, none⟩) mk K) := HL5.out.below hb
                     have HG6 : Hid (IsStrs w10 l1 m1 (pageF P t)) := HG5.out.below hb
                     have HB6 : Hid (Below w.heap.size w w10) := HB5.out.trans (hb.mono HB5.out.size)
                     have HSZ6 : Hid (w8.heap.size ≤ w10.heap.size) := Nat.le_trans HSZ5.out hb.size
                     clear hb c0 c1 c2 c3
                     have hbd6 : M ≤ w10.heap.size := Nat.le_trans hM8 HSZ6.out
                     generalize textF C = tx at *
                     go_wp2_with (at_builtin; refine wpList_append_lies _ rfl _ _ 23 rfl M 9 i0 (.string ⟨#[]⟩) 1 16 Tryz.underlying23 hi hz0 hz1 hz2 rfl (by decide) _ _ _ rfl (World.ownsRow.alloc HO6.out _) ⟨w10.heap.size, 0, none⟩ 1 1 [.string tx] rfl rfl (cell_one_new _ _ _) ?c2 (by omega) ?c3 ?c4 ?c5 (w10.heap.size + 1) ?c6 ?_)
                     case c2 => first | rfl | (intro u hu; simp at hu; subst hu; rfl)
                     case c3 => unfold maxLen; omega
                     case c4 => omega
                     case c5 => first | omega | (simp; omega)
                     case c6 => simp
                     intro gn cn w11 hown hg0 hat _
                     have hfin := app_after HO6.out HX6.out HS6.out HL6.out HG6.out HB6.out HSZ6.out HV.out hwM HFB.out HAP8.out HLO8.out HGO8.out hown hg0 hat
                     have HFIN : Hid _ := hfin
                     clear hown hg0 hat hfin
                     have HO7 : Hid (Owns w11 M (.slice (some ⟨gn, 0, none⟩) (acc.length + 1) cn) (acc ++ [tx])) := HFIN.out.1
                     have HX7 : Hid (Dr.Box w11 E (.string P.house) (.slice p1 P.parts.length q1) (.bool P.asks) (.string P.ask)) := HFIN.out.2.1
                     have HS7 : Hid (IsStrs w11 p1 q1 P.parts) := HFIN.out.2.2.1
                     have HL7 : Hid (IsStrs w11 (some ⟨lb, lo, none⟩) mk K) := HFIN.out.2.2.2.1
                     have HG7 : Hid (IsStrs w11 l1 m1 (pageF P t)) := HFIN.out.2.2.2.2.1
                     have HB7 : Hid (Below w.heap.size w w11) := HFIN.out.2.2.2.2.2.1
                     have HSZ7 : Hid (w8.heap.size ≤ w11.heap.size) := HFIN.out.2.2.2.2.2.2.1
                     have HV7 : Hid ((Value.slice (some ⟨gn, 0, none⟩) (acc.length + 1) cn).ownBlock = some M ∨ ∃ g, (Value.slice (some ⟨gn, 0, none⟩) (acc.length + 1) cn).ownBlock = some g ∧ w8.heap.size ≤ g) := HFIN.out.2.2.2.2.2.2.2
                     clear HFIN
                     go_wp2
                     go_roundw
                     case rel => exact ⟨k + 1, by omega, by go_num, by rw [HN.out]; exact HO7, HX7, HS7, HL7, HG7, HB7, HSZ7, HV7⟩
                     case measure => simp [intOf]; omega
                   · have HN : Hid (allL P (K.take (k + 1)) = acc) := by show _ = _; rw [all_none hlt hj, HAC.out]
                     clear hj c0 c1 c2 c3
                     go_wp2
                     go_roundw
                     case rel => exact ⟨k + 1, by omega, by go_num, by rw [HN.out]; exact HO5, HX5, HS5, HL5, HG5, HB5, HSZ5, HV⟩
                     case measure => simp [intOf]; omega)
                | (have HBS : Hid (Below wr.heap.size wr (w9.alloc (.cells #[.string C.house, .slice x1 C.parts.length y1, .bool C.asks, .string C.ask] 25))) := HBD.out.alloc HBD.out.size _
                   have HSC : Hid (IsStrs (w9.alloc (.cells #[.string C.house, .slice x1 C.parts.length y1, .bool C.asks, .string C.ask] 25)) x1 y1 C.parts) := (Owns.strsOf HOC.out).keep (alloc_keep _ _)
                   have HXC : Hid (Dr.Box (w9.alloc (.cells #[.string C.house, .slice x1 C.parts.length y1, .bool C.asks, .string C.ask] 25)) w9.heap.size (.string C.house) (.slice x1 C.parts.length y1) (.bool C.asks) (.string C.ask)) := Dr.heap_new w9 _
                   have HO5 : Hid (Owns (w9.alloc (.cells #[.string C.house, .slice x1 C.parts.length y1, .bool C.asks, .string C.ask] 25)) M u11 acc) := Owns.below HO.out HBS.out
                   have HX5 : Hid (Dr.Box (w9.alloc (.cells #[.string C.house, .slice x1 C.parts.length y1, .bool C.asks, .string C.ask] 25)) E (.string P.house) (.slice p1 P.parts.length q1) (.bool P.asks) (.string P.ask)) := HX.out.grown (grown_of_below none HBS.out) (by simp)
                   have HS5 : Hid (IsStrs (w9.alloc (.cells #[.string C.house, .slice x1 C.parts.length y1, .bool C.asks, .string C.ask] 25)) p1 q1 P.parts) := HS.out.below HBS.out
                   have HL5 : Hid (IsStrs (w9.alloc (.cells #[.string C.house, .slice x1 C.parts.length y1, .bool C.asks, .string C.ask] 25)) (some ⟨lb, lo, none⟩) mk K) := HL.out.below HBS.out
                   have HG5 : Hid (IsStrs (w9.alloc (.cells #[.string C.house, .slice x1 C.parts.length y1, .bool C.asks, .string C.ask] 25)) l1 m1 (pageF P t)) := HG.out.below HBS.out
                   have HB5 : Hid (Below w.heap.size w (w9.alloc (.cells #[.string C.house, .slice x1 C.parts.length y1, .bool C.asks, .string C.ask] 25))) := HB.out.trans (HBS.out.mono HB.out.size)
                   have HSZ5 : Hid (w8.heap.size ≤ ((w9.alloc (.cells #[.string C.house, .slice x1 C.parts.length y1, .bool C.asks, .string C.ask] 25))).heap.size) := Nat.le_trans HSZ.out HBS.out.size
                   have hx := HXC.out
                   obtain ⟨⟨c0, c1, c2, c3⟩, _⟩ := hx.cells
                   clear hx
                   have hpa := HANS.out
                   rcases hpa with ⟨rfl, hj⟩ | ⟨rfl, hj, rfl⟩
                   · have HN : Hid (allL P (K.take (k + 1)) = acc ++ [textF C]) := by show _ = _; rw [all_some hlt hj, HAC.out]
                     have hCb : bulkA C ≤ 4194304 := Nat.le_trans (ok_sum (join_ok hj)).2 (by decide)
                     clear hj
                     go_wp2_with fail
                     refine (implAddrText_any C x1 y1 _ HSC.out hCb).mono ?_
                     rintro e w10 ⟨rfl, hb⟩
                     have HO6 : Hid (Owns w10 M u11 acc) := Owns.below HO5.out hb
                     have HX6 : Hid (Dr.Box w10 E (.string P.house) (.slice p1 P.parts.length q1) (.bool P.asks) (.string P.ask)) := HX5.out.grown (grown_of_below none hb) (by simp)
                     have HS6 : Hid (IsStrs w10 p1 q1 P.parts) := HS5.out.below hb
                     have HL6 : Hid (IsStrs w10 (some ⟨lb, lo, none⟩) mk K) := HL5.out.below hb
                     have HG6 : Hid (IsStrs w10 l1 m1 (pageF P t)) := HG5.out.below hb
                     have HB6 : Hid (Below w.heap.size w w10) := HB5.out.trans (hb.mono HB5.out.size)
                     have HSZ6 : Hid (w8.heap.size ≤ w10.heap.size) := Nat.le_trans HSZ5.out hb.size
                     clear hb c0 c1 c2 c3
                     have hbd6 : M ≤ w10.heap.size := Nat.le_trans hM8 HSZ6.out
                     generalize textF C = tx at *
                     go_wp2_with (at_builtin; refine wpList_append_lies _ rfl _ _ 23 rfl M 9 i0 (.string ⟨#[]⟩) 1 16 Tryz.underlying23 hi hz0 hz1 hz2 rfl (by decide) _ _ _ rfl (World.ownsRow.alloc HO6.out _) ⟨w10.heap.size, 0, none⟩ 1 1 [.string tx] rfl rfl (cell_one_new _ _ _) ?c2 (by omega) ?c3 ?c4 ?c5 (w10.heap.size + 1) ?c6 ?_)
                     case c2 => first | rfl | (intro u hu; simp at hu; subst hu; rfl)
                     case c3 => unfold maxLen; omega
                     case c4 => omega
                     case c5 => first | omega | (simp; omega)
                     case c6 => simp
                     intro gn cn w11 hown hg0 hat _
                     have hfin := app_after HO6.out HX6.out HS6.out HL6.out HG6.out HB6.out HSZ6.out HV.out hwM HFB.out HAP8.out HLO8.out HGO8.out hown hg0 hat
                     have HFIN : Hid _ := hfin
                     clear hown hg0 hat hfin
                     have HO7 : Hid (Owns w11 M (.slice (some ⟨gn, 0, none⟩) (acc.length + 1) cn) (acc ++ [tx])) := HFIN.out.1
                     have HX7 : Hid (Dr.Box w11 E (.string P.house) (.slice p1 P.parts.length q1) (.bool P.asks) (.string P.ask)) := HFIN.out.2.1
                     have HS7 : Hid (IsStrs w11 p1 q1 P.parts) := HFIN.out.2.2.1
                     have HL7 : Hid (IsStrs w11 (some ⟨lb, lo, none⟩) mk K) := HFIN.out.2.2.2.1
                     have HG7 : Hid (IsStrs w11 l1 m1 (pageF P t)) := HFIN.out.2.2.2.2.1
                     have HB7 : Hid (Below w.heap.size w w11) := HFIN.out.2.2.2.2.2.1
                     have HSZ7 : Hid (w8.heap.size ≤ w11.heap.size) := HFIN.out.2.2.2.2.2.2.1
                     have HV7 : Hid ((Value.slice (some ⟨gn, 0, none⟩) (acc.length + 1) cn).ownBlock = some M ∨ ∃ g, (Value.slice (some ⟨gn, 0, none⟩) (acc.length + 1) cn).ownBlock = some g ∧ w8.heap.size ≤ g) := HFIN.out.2.2.2.2.2.2.2
                     clear HFIN
                     go_wp2
                     go_roundw
                     case rel => exact ⟨k + 1, by omega, by go_num, by rw [HN.out]; exact HO7, HX7, HS7, HL7, HG7, HB7, HSZ7, HV7⟩
                     case measure => simp [intOf]; omega
                   · have HN : Hid (allL P (K.take (k + 1)) = acc) := by show _ = _; rw [all_none hlt hj, HAC.out]
                     clear hj c0 c1 c2 c3
                     go_wp2
                     go_roundw
                     case rel => exact ⟨k + 1, by omega, by go_num, by rw [HN.out]; exact HO5, HX5, HS5, HL5, HG5, HB5, HSZ5, HV⟩
                     case measure => simp [intOf]; omega)
                | fail)

          · have e1 : K.take k = K := List.take_of_length_le (by omega)
            have hO := HO.out
            rw [e1] at hO
            obtain ⟨av, cv, hv, hIv⟩ := hO.strs
            subst hv
            have HIv : Hid (IsStrs wr av cv (allL P K)) := hIv
            have hal : (allL P K).length ≤ 300 := Nat.le_trans (all_len _ _) hll
            have H12 : Hid (∀ y ∈ allL P K, y ∈ pageF P t) := by show ∀ y ∈ _, _; rw [HFP.out]; exact all_page P K
            have H21 : Hid (∀ y ∈ pageF P t, y ∈ allL P K) := by show ∀ y ∈ _, _; rw [HFP.out]; exact page_all P K
            clear hO hIv e1
            go_wp2_with fail
            refine (within_any av cv (allL P K) l1 m1 (pageF P t) _ HIv.out HG.out (by omega) (by omega) H12.out).mono ?_
            rintro e w9 ⟨rfl, e9⟩
            have e9' := e9.symm
            subst e9'
            clear e9
            go_wp2_with fail
            refine (within_any l1 m1 (pageF P t) av cv (allL P K) _ HG.out HIv.out (by omega) (by omega) H21.out).mono ?_
            rintro e w10 ⟨rfl, e10⟩
            have e10' := e10.symm
            subst e10'
            clear e10
            go_wp2
            go_ret
            exact ⟨rfl, HB.out⟩

theorem own : ownKnob Tryz.prog.godebug = none := by kernel_rfl
theorem laidOut : laidOutB Tryz.prog = true := by kernel_rfl

/-! ### THE ROW's STEP -/
set_option maxRecDepth 100000 in
theorem lifted (os : Os) (started : os.Started) (H : Type) (enc : TypeId × Value → H) :
    ReturnsInHanded {} Tryz.checked os 3 .any (fun w args => (Rows.fnPageAddrsAllSpec.pre enc Tryz.prog Tryz.f3 [] false w args ∧ laidMetH Tryz.prog Rows.fnPageAddrsAllRow.laid w) ∧ sizedMet enc Tryz.prog Tryz.f3 (OpenSpec.ofChange Rows.fnPageAddrsAllSpec) false w args)
      (Rows.fnPageAddrsAllSpec.post enc Tryz.prog Tryz.f3 false true false false) := by
  refine returnsInHanded_of_calls own started (by kernel_rfl)
    (ChangeSpec.witness_shaped (enc := enc) (C := Tryz.checked) (os := os) (X := fun w _ => laidMetH Tryz.prog Rows.fnPageAddrsAllRow.laid w) false (World.laidAll Tryz.prog os Rows.fnPageAddrsAllRow.laid) #[.slice none 0 0] 8 (World.laidAll_os _ _ _)
      (World.shaped_of_ZipB (by kernel_rfl) (by kernel_rfl)) (by kernel_rfl) (by kernel_rfl) (by kernel_rfl)
      (by rw [MakeChecks.laidMetH_plain _ _ _ (by kernel_rfl)]; exact laidMet_laidAll _ (by kernel_rfl) (by kernel_rfl))) ?_
  intro w tape i _ hsh _ hok hpre _
  obtain ⟨_, _, _, fn', hfn', _, _, _, _, hval1⟩ := hok
  obtain rfl : fn' = Tryz.f3 := Option.some.inj (hfn'.symm.trans Tryz.func3)
  obtain ⟨⟨⟨ds, gs, before, hw, _⟩, hL0⟩, _⟩ := hpre
  have hW := DataW.Whole.of_heap (w' := w.forCall tape i) (by rfl) hw
  have hL : laidMetH Tryz.prog Rows.fnPageAddrsAllRow.laid (w.forCall tape i) := hL0.of_heap (by rfl)
  have hb : ∃ base, ∀ (j : Nat) t v, Tryz.f3.params[j]? = some t → i.args[j]? = some v → Value.okWide Tryz.prog (w.forCall tape i) .any base t v := ⟨_, hval1⟩
  clear hval1 hfn' hL0 hw
  suffices h : Calls Tryz.checked.prog 3 i.args (w.forCall tape i) fun e W' => ∃ v, e = .returned v ∧ Rows.fnPageAddrsAllSpec.post enc Tryz.checked.prog Tryz.f3 false true false false (w.forCall tape i) i.args v W' from
    h.mono fun e W' ⟨v, he, hp⟩ => by subst he; exact ChangeSpec.post_blind hp
  generalize hWe : w.forCall tape i = W at *
  generalize i.args = args at *
  clear hWe
  obtain ⟨base, hval⟩ := hb
  have hW' := hW
  obtain ⟨p, q, hA0, hV, rfl, hfz, hnd⟩ := hW
  have hA : DataW.TrodAll enc Tryz.prog W 0 (fun _ => true) true Tryz.f3.params.toList args.toList ds p := hA0
  rw [Tryz.params3] at hA hval
  obtain ⟨v0, vs0, d0, ds0, p0, q0, hargs, rfl, rfl, h0, r0⟩ := trodAll_cons hA
  obtain ⟨rfl, rfl, rfl⟩ := trodAll_nil r0
  obtain rfl : args = #[v0] := by cases args; simp_all
  obtain ⟨rfl, rfl⟩ := trodVars_none hV
  obtain ⟨a0, len0, cap0, rfl⟩ := okWide_slice Tryz.underlying22 (hval 0 22 v0 rfl rfl)
  have k0 := h0
  have lt0 : ∀ x ∈ p0, x.block < W.heap.size := by obtain ⟨m, hm⟩ := k0; exact DataW.trod_lt m _ _ _ hm
  obtain ⟨z0, w0⟩ : ∃ zs, Dr.IsRow .u8 W a0 len0 cap0 zs := by
    obtain ⟨fuel, hf⟩ := h0
    rcases open_ints Tryz.underlying22 Tryz.underlying5 (by kernel_rfl) hf with ⟨hcs, _⟩ | ⟨x, l, c, zs, hcs, _, hl, hm, hz, _, hcell, hwz⟩
    · simp [Value.cells] at hcs
      obtain ⟨rfl, rfl, rfl⟩ := hcs
      exact ⟨[], .inl ⟨rfl, rfl, rfl, rfl⟩⟩
    · simp [Value.cells] at hcs
      obtain ⟨rfl, rfl, rfl⟩ := hcs
      exact ⟨zs, .inr ⟨_, rfl, hl, hm, by simpa using hz, hcell, hwz⟩⟩
  clear hA0
  refine (walk a0 len0 cap0 z0 W w0 hL hsh).mono fun e W' ⟨he, bel⟩ => ?_
  subst he
  exact ⟨_, rfl, _, _, _, [], _, [], hW', trodAll_mk1 (shut_bool Tryz.underlying4 _), (trodAll_cons_mk (Below.trod laidOut (by kernel_rfl) (of_decide_eq_true (by kernel_rfl)) k0 bel lt0) trodAll_mk0), rfl, bel.frame _, fun h => by cases h⟩

theorem over : Rows.fnPageAddrsAllRow.holds Tryz.pinned (OpenSpec.ofChange Rows.fnPageAddrsAllSpec) :=
  OpenClaim.holds_of_wide 3 Tryz.f3 rfl rfl rfl rfl rfl rfl rfl ⟨rfl, rfl, rfl, rfl, rfl⟩ rfl rfl rfl rfl rfl (by kernel_rfl) Tryz.func3 (by kernel_rfl)
    (of_decide_eq_true (by kernel_rfl)) (by unfold Func.isWrapper; first | (rw [if_pos (by decide +kernel)]; kernel_rfl) | (rw [if_neg (by decide +kernel)]; exact ⟨rfl, rfl⟩))
    (fun os started H enc _ => lifted os started H enc)

theorem proved : Rows.FnPageAddrsAllCardSaid :=
  Claim7.holds_tied_plain_at .later [] [.data, .pinned] true _ false over (fun _ h => by cases h) (by kernel_rfl) (fun _ h => by cases h) fnPageAddrsAll_row_tie rfl ⟨rfl, rfl⟩ (by kernel_rfl) rfl
    (fun f fn hf hfn => by
      obtain rfl : f = 3 := Option.some.inj ((show Tryz.prog.funcNamed "loop.example/pedlar/laws.FnPageAddrsAll" = some 3 by kernel_rfl).symm.trans hf) |>.symm
      obtain rfl : fn = Tryz.f3 := (Option.some.inj (Tryz.func3.symm.trans hfn)).symm
      exact ⟨by kernel_rfl, fun j t ht => by
        rw [Tryz.params3] at ht
        have hm : t ∈ [22] := by simpa using Array.mem_of_getElem? ht
        have hall : ([22].all fun u => !Tryz.prog.wantsStandIn u) = true := by kernel_rfl
        exact (show Tryz.prog.wantsStandIn t = false by simpa using List.all_eq_true.1 hall t hm)⟩)
    (by kernel_rfl)
end Go.Proofs.YtjgaddchkoonpaaGreatDoor.fnPageAddrsAll
