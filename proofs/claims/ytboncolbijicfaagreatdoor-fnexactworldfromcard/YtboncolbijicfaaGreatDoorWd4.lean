/- Where one comes from an address of a world. -/
import Derived.Test.YtboncolbijicfaaGreatDoorWd1Pk
import Derived.Test.YtboncolbijicfaaGreatDoorPgA1Pk
namespace Go.Proofs.YtboncolbijicfaaGreatDoor.Wd
open Go.RowKit Go.Proofs.YtboncolbijicfaaGreatDoor.EscM Go.Proofs.YtboncolbijicfaaGreatDoor.AddrM Go.Proofs.YtboncolbijicfaaGreatDoor.ReadM Go.Proofs.YtboncolbijicfaaGreatDoor.St Go.Proofs.YtboncolbijicfaaGreatDoor.EscL Go.Proofs.YtboncolbijicfaaGreatDoor.PathM Go.Proofs.YtboncolbijicfaaGreatDoor.Ad1 Go.Proofs.YtboncolbijicfaaGreatDoor.Rd1 Go.Proofs.YtboncolbijicfaaGreatDoor.LibM Go.Proofs.YtboncolbijicfaaGreatDoor.Im Go.Proofs.YtboncolbijicfaaGreatDoor.RdA Go.Proofs.YtboncolbijicfaaGreatDoor.MkA Go.Proofs.YtboncolbijicfaaGreatDoor.Mp Go.Proofs.YtboncolbijicfaaGreatDoor.WdM Go.Proofs.YtboncolbijicfaaGreatDoor.RR Go.Proofs.YtboncolbijicfaaGreatDoor.RoPg Go.Proofs.YtboncolbijicfaaGreatDoor.PgA Go.Proofs.YtboncolbijicfaaGreatDoor.RB

/-- where what one got at A leads -/
def leadF (A : Ad) (k : Int × ByteArray) : List ByteArray := if k.1 = 1 then pageF A k.2 else if k.1 = 2 then [k.2] else []
theorem lead_one (A : Ad) (t : ByteArray) : leadF A (1, t) = pageF A t := rfl
theorem lead_two (A : Ad) (t : ByteArray) : leadF A (2, t) = [t] := rfl
theorem lead_no {A : Ad} {k : Int} {t : ByteArray} (h1 : ¬ k = 1) (h2 : ¬ k = 2) : leadF A (k, t) = [] := by unfold leadF; rw [if_neg h1, if_neg h2]
def fromW (L : List Pg) (a : ByteArray) : List ByteArray := if wOk L then (match normA a with | some A => leadF A (kindF L a 2) | none => []) else []
theorem fromW_bad {L : List Pg} {a : ByteArray} (h : wOk L = false) : fromW L a = [] := by unfold fromW; rw [h]; rfl
theorem fromW_none {L : List Pg} {a : ByteArray} (h : normA a = none) : fromW L a = [] := by unfold fromW; rw [h]; split <;> rfl
theorem fromW_ok {L : List Pg} {a : ByteArray} {A : Ad} (h : wOk L = true) (h2 : normA a = some A) : fromW L a = leadF A (kindF L a 2) := by unfold fromW; rw [h, h2]; rfl
def PgTx (L : List Pg) : Prop := ∀ p ∈ L, asc p.text
theorem norm_some {s : ByteArray} {A : Ad} (h : normA s = some A) : readF s.data.toList = some A ∧ textF A = s := by
  unfold normA at h
  cases hr : readF s.data.toList with
  | none => rw [hr] at h; cases h
  | some B =>
    rw [hr] at h
    dsimp only at h
    split at h
    · rename_i he
      injection h with e
      subst e
      refine ⟨rfl, ?_⟩
      have := eq_of_beq he
      rw [ByteArray.toList_eq, ByteArray.toList_eq] at this
      exact ByteArray.ext (Array.ext' this)
    · cases h
theorem read_le {s : ByteArray} {A : Ad} (h : readF s.data.toList = some A) : bulkA A ≤ 1000 := by
  have := OB.reads_bulk (A := A) (ok := true) (Or.inl ⟨rfl, h⟩)
  omega
theorem kind_text {L : List Pg} (hS : PgSz L) (a : ByteArray) (t : Int) : (kindF L a t).2.size ≤ 4194304 := by
  unfold kindF
  cases hf : L.find? (sameA a) with
  | none => exact Nat.zero_le _
  | some p =>
    have := hS p (List.mem_of_find?_eq_some hf)
    dsimp only
    split
    · exact Nat.zero_le _
    · split
      · exact this.2.1
      · exact this.2.2
theorem kind_asc {L : List Pg} (hT : PgTx L) (a : ByteArray) (t : Int) (h : (kindF L a t).1 = 1) : asc (kindF L a t).2 := by
  unfold kindF at h ⊢
  cases hf : L.find? (sameA a) with
  | none => rw [hf] at h; cases h
  | some p =>
    rw [hf] at h
    have := hT p (List.mem_of_find?_eq_some hf)
    dsimp only at h ⊢
    by_cases h0 : t < p.fails
    · rw [if_pos h0] at h; cases h
    · rw [if_neg h0] at h ⊢
      by_cases h1 : p.lead.toList.isEmpty = true
      · rw [if_pos h1]; exact this
      · rw [if_neg h1] at h; cases h
theorem lit_one (w : World) (base : Nat) (s : ByteArray) (hb : base ≤ w.heap.size) : Owns (w.alloc (.cells #[.string s] 9)) base (.slice (some ⟨w.heap.size, 0, none⟩) 1 1) [s] := by
  refine ⟨by simp [cellsS], Or.inr ⟨w.heap.size, 1, #[.string s], rfl, hb, ?_, Nat.le_refl _, by decide, rfl, by simp [cellsS]⟩⟩
  show (w.heap.push _)[w.heap.size]? = _
  simp

set_option maxRecDepth 100000 in
set_option maxHeartbeats 2000000 in
theorem leadsTo_any (A : Ad) (t : ByteArray) (k : Int) (a0 : Option Addr) (cap : Nat) (w : World) (hM : Mx w) (hS : IsStrs w a0 cap A.parts) (hB : bulkA A ≤ 1000) (ht : t.size ≤ 4194304) (ha : k = 1 → asc t) :
    Calls Tryz.prog 88 #[.agg #[.string A.house, .slice a0 A.parts.length cap, .bool A.asks, .string A.ask], .int .i64 k, .string t] w fun e w' => ∃ v, e = .returned v ∧ Owns w' w.heap.size v (leadF A (k, t)) ∧ Below w.heap.size w w' := by
  have HS : Hid (IsStrs w a0 cap A.parts) := hS
  have HM : Hid (Mx w) := hM
  clear hS hM
  by_cases h1 : k = 1
  · subst h1
    have HA : Hid (asc t) := ha rfl
    clear ha
    rw [lead_one]
    go_enter Tryz.func88, Tryz.ntmps88
    go_wp2_with fail
    refine (implPage_any A t a0 cap _ (HM.out.alloc _) (HS.out.keep (alloc_keep _ _)) hB ht HA.out).mono ?_
    rintro e w1 ⟨v, rfl, hO, hb⟩
    have HO : Hid (Owns w1 w.heap.size v (pageF A t)) := Owns.mono hO (by simp)
    have HB : Hid (Below w.heap.size w w1) := ((Below.refl _ w).alloc (Nat.le_refl _) _).trans (hb.mono (by simp))
    clear hO hb
    go_wp2
    go_ret
    exact ⟨_, rfl, HO.out, HB.out⟩
  · by_cases h2 : k = 2
    · subst h2
      rw [lead_two]
      go_enter Tryz.func88, Tryz.ntmps88
      go_wp2
      go_ret
      refine ⟨_, rfl, ?_, ?_⟩
      · have := lit_one (w.alloc (.cells #[.string A.house, .slice a0 A.parts.length cap, .bool A.asks, .string A.ask] 73)) w.heap.size t (by simp)
        rw [show (w.alloc (.cells #[.string A.house, .slice a0 A.parts.length cap, .bool A.asks, .string A.ask] 73)).heap.size = w.heap.size + 1 by simp] at this
        exact this
      · exact ((Below.refl _ w).alloc (Nat.le_refl _) _).alloc (by simp) _
    · rw [lead_no h1 h2]
      have hk1 : (k == 1) = false := by simpa using h1
      have hk2 : (k == 2) = false := by simpa using h2
      go_enter Tryz.func88, Tryz.ntmps88
      go_wp2
      go_ret
      exact ⟨_, rfl, Owns.nil _ _, (Below.refl _ w).alloc (Nat.le_refl _) _⟩

set_option maxRecDepth 100000 in
set_option maxHeartbeats 2000000 in
theorem getAtLast_any (b : Nat) (L : List Pg) (a : ByteArray) (w : World) (h : IsMap w b (entsL L)) :
    Calls Tryz.prog 87 #[.map (some b), .string a] w fun e w' => e = .returned (.tuple #[.int .i64 (kindF L a 2).1, .string (kindF L a 2).2]) ∧ Below w.heap.size w w' := by
  have HG : Hid _ := getAt_any b L a 2 w h
  generalize kindF L a 2 = R at *
  go_enter Tryz.func87, Tryz.ntmps87
  go_wp2_with fail
  refine Calls.mono HG.out ?_
  rintro e w1 ⟨rfl, hb⟩
  go_wp2
  go_ret2
  exact ⟨rfl, hb⟩

set_option maxRecDepth 100000 in
set_option maxHeartbeats 2000000 in
theorem fromAt_any (A : Ad) (b : Nat) (L : List Pg) (a0 : Option Addr) (cap : Nat) (w : World) (hM : Mx w) (hS : IsStrs w a0 cap A.parts) (hB : bulkA A ≤ 1000) (h : IsMap w b (entsL L)) (hz : PgSz L) (hT : PgTx L) :
    Calls Tryz.prog 49 #[.map (some b), .agg #[.string A.house, .slice a0 A.parts.length cap, .bool A.asks, .string A.ask]] w fun e w' => ∃ v, e = .returned v ∧ Owns w' w.heap.size v (leadF A (kindF L (textF A) 2)) ∧ Below w.heap.size w w' := by
  have HS : Hid (IsStrs (w.alloc (.cells #[.string A.house, .slice a0 A.parts.length cap, .bool A.asks, .string A.ask] 73)) a0 cap A.parts) := hS.keep (alloc_keep _ _)
  have HM : Hid (Mx (w.alloc (.cells #[.string A.house, .slice a0 A.parts.length cap, .bool A.asks, .string A.ask] 73))) := hM.alloc _
  have HP : Hid (IsMap (w.alloc (.cells #[.string A.house, .slice a0 A.parts.length cap, .bool A.asks, .string A.ask] 73)) b (entsL L)) := h.alloc _
  have HX : Hid (Bs 73 (w.alloc (.cells #[.string A.house, .slice a0 A.parts.length cap, .bool A.asks, .string A.ask] 73)) w.heap.size #[.string A.house, .slice a0 A.parts.length cap, .bool A.asks, .string A.ask]) := Bs.new _ _ _
  have HKT : Hid _ := kind_text hz (textF A) 2
  have HKA : Hid _ := kind_asc hT (textF A) 2
  have HB0 : Hid (Below w.heap.size w (w.alloc (.cells #[.string A.house, .slice a0 A.parts.length cap, .bool A.asks, .string A.ask] 73))) := (Below.refl _ w).alloc (Nat.le_refl _) _
  have HGL : Hid _ := fun W hW => getAtLast_any b L (textF A) W hW
  have HTX : Hid _ := fun W hW => implAddrText_any A a0 cap W hW (by omega)
  clear hS hM h hz hT
  generalize kindF L (textF A) 2 = R at *
  generalize textF A = t at *
  go_enter Tryz.func49, Tryz.ntmps49
  go_wp2_with fail
  refine (HTX.out _ HS.out).mono ?_
  rintro e w1 ⟨rfl, hb1⟩
  have HB1 : Hid (Below w.heap.size w w1) := HB0.out.trans (hb1.mono (by simp))
  have HS1 : Hid (IsStrs w1 a0 cap A.parts) := HS.out.below hb1
  have HM1 : Hid (Mx w1) := HM.out.below hb1
  have HP1 : Hid (IsMap w1 b (entsL L)) := HP.out.below hb1
  have HX1 : Hid (Bs 73 w1 w.heap.size #[.string A.house, .slice a0 A.parts.length cap, .bool A.asks, .string A.ask]) := HX.out.below hb1
  clear hb1 HS HM HP HX HB0
  go_wp2_with fail
  refine (HGL.out _ HP1.out).mono ?_
  rintro e w2 ⟨rfl, hb2⟩
  have HB2 : Hid (Below w.heap.size w w2) := HB1.out.trans (hb2.mono HB1.out.size)
  have HS2 : Hid (IsStrs w2 a0 cap A.parts) := HS1.out.below hb2
  have HM2 : Hid (Mx w2) := HM1.out.below hb2
  have HX2 : Hid (Bs 73 w2 w.heap.size #[.string A.house, .slice a0 A.parts.length cap, .bool A.asks, .string A.ask]) := HX1.out.below hb2
  clear hb2 HS1 HM1 HP1 HX1 HB1
  have c0 : w2.cell? ⟨w.heap.size, 0, none⟩ = some (.string A.house) := HX2.out.cell 0 rfl
  have c1 : w2.cell? ⟨w.heap.size, 1, none⟩ = some (.slice a0 A.parts.length cap) := HX2.out.cell 1 rfl
  have c2 : w2.cell? ⟨w.heap.size, 2, none⟩ = some (.bool A.asks) := HX2.out.cell 2 rfl
  have c3 : w2.cell? ⟨w.heap.size, 3, none⟩ = some (.string A.ask) := HX2.out.cell 3 rfl
  go_wp2_with fail
  refine (leadsTo_any A R.2 R.1 a0 cap _ HM2.out HS2.out hB HKT.out HKA.out).mono ?_
  rintro e w3 ⟨v, rfl, hO, hb3⟩
  have HO3 : Hid (Owns w3 w.heap.size v (leadF A R)) := Owns.mono hO HB2.out.size
  have HB3 : Hid (Below w.heap.size w w3) := HB2.out.trans (hb3.mono HB2.out.size)
  clear hO hb3 c0 c1 c2 c3
  go_wp2
  go_ret
  exact ⟨_, rfl, HO3.out, HB3.out⟩

set_option maxRecDepth 100000 in
set_option maxHeartbeats 2000000 in
theorem implFrom_any (a0 : Option Addr) (cap : Nat) (L : List Pg) (a : ByteArray) (w : World) (hM : Mx w) (hI : IsRows FPg w a0 cap L) (hz : PgSz L) (hA : PgAs L) (hT : PgTx L) (hs : a.size ≤ 4194304) (ha : ascii a) :
    Calls Tryz.prog 13 #[.slice a0 L.length cap, .string a] w fun e w' => ∃ v, e = .returned v ∧ Owns w' w.heap.size v (fromW L a) ∧ Below w.heap.size w w' := by
  have HM : Hid (Mx w) := hM
  have HWP : Hid _ := worldPages_any a0 cap L w hM hI hz hA
  have HRA : Hid _ := fun W hW => readAddress_any a W hW hs ha
  have HBD : Hid (wOk L = false → fromW L a = []) := fun h => fromW_bad h
  have HNN : Hid (normA a = none → fromW L a = []) := fun h => fromW_none h
  have HOK : Hid (∀ A, wOk L = true → normA a = some A → fromW L a = leadF A (kindF L (textF A) 2) ∧ bulkA A ≤ 1000) := fun A h h2 => by
    obtain ⟨h3, h4⟩ := norm_some h2
    rw [h4]
    exact ⟨fromW_ok h h2, read_le h3⟩
  have HFA : Hid _ := fun A b a1 c1 W hW hS hB h => fromAt_any A b L a1 c1 W hW hS hB h hz hT
  clear hM hI hz hA hT hs ha
  generalize normA a = N at *
  generalize fromW L a = R at *
  go_enter Tryz.func13, Tryz.ntmps13
  go_wp2_with fail
  refine Calls.mono HWP.out ?_
  rintro e w1 ⟨⟨hw, b, rfl, hbb, hm⟩ | ⟨hw, rfl⟩, hb1⟩
  · have HW : Hid (wOk L = true) := hw
    have HMP : Hid (IsMap w1 b (entsL L)) := hm
    have HB1 : Hid (Below w.heap.size w w1) := hb1
    clear hw hm hb1 HBD HWP
    go_wp2_with fail
    refine (HRA.out _ (HM.out.below HB1.out)).mono ?_
    rintro e w2 ⟨A, ok, a1, c1, rfl, hans, hO, hb2⟩
    have HANS : Hid _ := hans
    have HB2 : Hid (Below w.heap.size w w2) := HB1.out.trans (hb2.mono HB1.out.size)
    have HMP2 : Hid (IsMap w2 b (entsL L)) := HMP.out.below hb2
    have HS2 : Hid (IsStrs w2 a1 c1 A.parts) := hO.strsOf
    clear hans hO hb2 HMP HB1
    cases ok with
    | false =>
      have HR : Hid (R = []) := by
        rcases HANS.out with ⟨h, _⟩ | ⟨_, h, _⟩
        · cases h
        · exact HNN.out h
      clear HANS HNN HOK
      go_wp2
      go_ret
      exact ⟨_, rfl, by rw [HR.out]; exact Owns.nil _ _, HB2.out.alloc HB2.out.size _⟩
    | true =>
      have HR : Hid (R = leadF A (kindF L (textF A) 2) ∧ bulkA A ≤ 1000) := by
        rcases HANS.out with ⟨_, h⟩ | ⟨h, _⟩
        · exact HOK.out A HW.out h
        · cases h
      clear HANS HNN HOK
      go_wp2_with fail
      refine (HFA.out A b a1 c1 _ ((HM.out.below HB2.out).alloc _) (HS2.out.keep (alloc_keep _ _)) HR.out.2 (HMP2.out.alloc _)).mono ?_
      rintro e w3 ⟨v, rfl, hO, hb3⟩
      have HB3 : Hid (Below w.heap.size w w3) := (HB2.out.alloc HB2.out.size _).trans (hb3.mono (by simp; exact Nat.le_succ_of_le HB2.out.size))
      have HO3 : Hid (Owns w3 w.heap.size v R) := by
        show Owns _ _ _ _
        rw [HR.out.1]
        exact Owns.mono hO (by simp; exact Nat.le_succ_of_le HB2.out.size)
      clear hO hb3
      go_wp2
      go_ret
      exact ⟨_, rfl, HO3.out, HB3.out⟩
  · have HR : Hid (R = []) := HBD.out hw
    have HB1 : Hid (Below w.heap.size w w1) := hb1
    clear hw hb1 HBD HWP HNN HOK
    go_wp2_with fail
    refine (HRA.out _ (HM.out.below HB1.out)).mono ?_
    rintro e w2 ⟨A, ok, a1, c1, rfl, hans, hO, hb2⟩
    have HB2 : Hid (Below w.heap.size w w2) := HB1.out.trans (hb2.mono HB1.out.size)
    clear hans hO hb2
    go_wp2
    go_ret
    exact ⟨_, rfl, by rw [HR.out]; exact Owns.nil _ _, HB2.out.alloc HB2.out.size _⟩
end Go.Proofs.YtboncolbijicfaaGreatDoor.Wd
