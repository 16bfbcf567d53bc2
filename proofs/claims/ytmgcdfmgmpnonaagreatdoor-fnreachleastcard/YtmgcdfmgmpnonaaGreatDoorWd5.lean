/- Where one comes from an address of a world, of the model. -/
import Derived.Test.YtmgcdfmgmpnonaaGreatDoorJoin1Pk
import Derived.Test.YtmgcdfmgmpnonaaGreatDoorPgA1Pk
import Derived.Test.YtmgcdfmgmpnonaaGreatDoorPgA5
namespace Go.Proofs.YtmgcdfmgmpnonaaGreatDoor.Wd
open Go.RowKit Go.Proofs.YtmgcdfmgmpnonaaGreatDoor.EscM Go.Proofs.YtmgcdfmgmpnonaaGreatDoor.AddrM Go.Proofs.YtmgcdfmgmpnonaaGreatDoor.ReadM Go.Proofs.YtmgcdfmgmpnonaaGreatDoor.St Go.Proofs.YtmgcdfmgmpnonaaGreatDoor.EscL Go.Proofs.YtmgcdfmgmpnonaaGreatDoor.PathM Go.Proofs.YtmgcdfmgmpnonaaGreatDoor.Ad1 Go.Proofs.YtmgcdfmgmpnonaaGreatDoor.Rd1 Go.Proofs.YtmgcdfmgmpnonaaGreatDoor.LibM Go.Proofs.YtmgcdfmgmpnonaaGreatDoor.Im Go.Proofs.YtmgcdfmgmpnonaaGreatDoor.RdA Go.Proofs.YtmgcdfmgmpnonaaGreatDoor.MkA Go.Proofs.YtmgcdfmgmpnonaaGreatDoor.Mp Go.Proofs.YtmgcdfmgmpnonaaGreatDoor.WdM Go.Proofs.YtmgcdfmgmpnonaaGreatDoor.RR Go.Proofs.YtmgcdfmgmpnonaaGreatDoor.RoPg Go.Proofs.YtmgcdfmgmpnonaaGreatDoor.PgA Go.Proofs.YtmgcdfmgmpnonaaGreatDoor.RB

set_option maxRecDepth 100000 in
set_option maxHeartbeats 2000000 in
theorem specLast_any (a0 : Option Addr) (cap : Nat) (L : List Pg) (a : ByteArray) (w : World) (hI : IsRows FPg w a0 cap L) :
    Calls Tryz.prog 45 #[.slice a0 L.length cap, .string a] w fun e w' => e = .returned (.tuple #[.int .i64 (kindF L a 2).1, .string (kindF L a 2).2]) ∧ Below w.heap.size w w' := by
  have HG : Hid _ := specL11Get_any a0 cap L a 2 w hI
  generalize kindF L a 2 = R at *
  go_enter Tryz.func45, Tryz.ntmps45
  go_wp2_with fail
  refine Calls.mono HG.out ?_
  rintro e w1 ⟨rfl, hb⟩
  go_wp2
  go_ret2
  exact ⟨rfl, hb⟩

set_option maxRecDepth 100000 in
set_option maxHeartbeats 2000000 in
theorem specL11From_any (A : Ad) (s t : ByteArray) (k : Int) (w : World) (hr : readF s.data.toList = some A) (hs : s.size ≤ 4194304) (hB : bulkA A ≤ 1000) (ht : t.size ≤ 4194304) :
    Calls Tryz.prog 105 #[.string s, .int .i64 k, .string t] w fun e w' => ∃ v, e = .returned v ∧ Owns w' w.heap.size v (leadF A (k, t)) ∧ Below w.heap.size w w' := by
  by_cases h1 : k = 1
  · subst h1
    rw [lead_one]
    have HRD : Hid _ := specRead_any s w hs
    rw [hr] at HRD
    clear hr
    go_enter Tryz.func105, Tryz.ntmps105
    go_wp2_with fail
    refine Calls.mono HRD.out ?_
    rintro e w1 ⟨B, ok, a1, c1, rfl, hans, hO, hb1⟩
    have hAB : B = A := by
      rcases hans with ⟨_, h⟩ | ⟨_, h, _⟩
      · injection h with h; exact h.symm
      · cases h
    subst hAB
    have HB1 : Hid (Below w.heap.size w w1) := hb1
    have HS1 : Hid (IsStrs w1 a1 c1 B.parts) := hO.strsOf
    clear hans hO hb1 HRD
    go_wp2_with fail
    refine (specPage_any B t a1 c1 _ (HS1.out.keep (alloc_keep _ _)) hB ht).mono ?_
    rintro e w2 ⟨v, rfl, hO, hb⟩
    have HB2 : Hid (Below w.heap.size w w2) := (HB1.out.alloc HB1.out.size _).trans (hb.mono (by simp; exact Nat.le_succ_of_le HB1.out.size))
    have HO2 : Hid (Owns w2 w.heap.size v (pageF B t)) := Owns.mono hO (by simp; exact Nat.le_succ_of_le HB1.out.size)
    clear hO hb
    go_wp2
    go_ret
    exact ⟨_, rfl, HO2.out, HB2.out⟩
  · clear hr
    by_cases h2 : k = 2
    · subst h2
      rw [lead_two]
      go_enter Tryz.func105, Tryz.ntmps105
      go_wp2
      go_ret
      exact ⟨_, rfl, lit_one w w.heap.size t (Nat.le_refl _), (Below.refl _ w).alloc (Nat.le_refl _) _⟩
    · rw [lead_no h1 h2]
      have hk1 : (k == 1) = false := by simpa using h1
      have hk2 : (k == 2) = false := by simpa using h2
      go_enter Tryz.func105, Tryz.ntmps105
      go_wp2
      go_ret
      exact ⟨_, rfl, Owns.empty _ _ (Nat.le_refl _), (Below.refl _ w).alloc (Nat.le_refl _) _⟩

set_option maxRecDepth 100000 in
set_option maxHeartbeats 2000000 in
theorem specFrom_any (a0 : Option Addr) (cap : Nat) (L : List Pg) (a : ByteArray) (w : World) (hI : IsRows FPg w a0 cap L) (hz : PgSz L) (hs : a.size ≤ 4194304) :
    Calls Tryz.prog 70 #[.slice a0 L.length cap, .string a] w fun e w' => ∃ v, e = .returned v ∧ Owns w' w.heap.size v (fromW L a) ∧ Below w.heap.size w w' := by
  have HI : Hid (IsRows FPg w a0 cap L) := hI
  have HWO : Hid _ := specWorldOk_any a0 cap L w hI hz
  have HNO : Hid _ := fun W => specNorm_any a W hs
  have HLA : Hid _ := fun W hW => specLast_any a0 cap L a W hW
  have HBD : Hid (wOk L = false → fromW L a = []) := fun h => fromW_bad h
  have HNN : Hid (normT a = false → fromW L a = []) := fun h => fromW_none (by rw [normT_eq] at h; cases hn : normA a with | none => rfl | some _ => rw [hn] at h; cases h)
  have HOK : Hid (wOk L = true → normT a = true → ∃ A, readF a.data.toList = some A ∧ bulkA A ≤ 1000 ∧ fromW L a = leadF A (kindF L a 2)) := fun h h2 => by
    rw [normT_eq] at h2
    cases hn : normA a with
    | none => rw [hn] at h2; cases h2
    | some A =>
      obtain ⟨h3, _⟩ := norm_some hn
      exact ⟨A, h3, read_le h3, fromW_ok h hn⟩
  have HKT : Hid _ := kind_text hz a 2
  clear hI hz
  generalize normT a = N at *
  generalize fromW L a = R at *
  generalize kindF L a 2 = K at *
  go_enter Tryz.func70, Tryz.ntmps70
  go_wp2_with fail
  refine Calls.mono HWO.out ?_
  rintro e w1 ⟨rfl, hb1⟩
  have HB1 : Hid (Below w.heap.size w w1) := hb1
  clear hb1 HWO
  cases hw : wOk L with
  | false =>
    have HR : Hid (R = []) := HBD.out hw
    clear hw HBD HNN HOK
    go_wp2
    go_ret
    exact ⟨_, rfl, by rw [HR.out]; exact Owns.empty _ _ HB1.out.size, HB1.out.alloc HB1.out.size _⟩
  | true =>
    have HW : Hid (wOk L = true) := hw
    clear hw HBD
    go_wp2_with fail
    refine (HNO.out _).mono ?_
    rintro e w2 ⟨rfl, hb2⟩
    have HB2 : Hid (Below w.heap.size w w2) := HB1.out.trans (hb2.mono HB1.out.size)
    clear hb2 HB1
    cases hn : N with
    | false =>
      have HR : Hid (R = []) := HNN.out hn
      clear hn HNN HOK
      go_wp2
      go_ret
      exact ⟨_, rfl, by rw [HR.out]; exact Owns.empty _ _ HB2.out.size, HB2.out.alloc HB2.out.size _⟩
    | true =>
      obtain ⟨A, h1, h2, h3⟩ := HOK.out HW.out hn
      have HRD : Hid (readF a.data.toList = some A) := h1
      have HR : Hid (R = leadF A K) := h3
      clear hn HNN HOK h1 h3
      go_wp2_with fail
      refine (HLA.out _ (HI.out.below HB2.out)).mono ?_
      rintro e w3 ⟨rfl, hb3⟩
      have HB3 : Hid (Below w.heap.size w w3) := HB2.out.trans (hb3.mono HB2.out.size)
      clear hb3 HB2
      go_wp2_with fail
      refine (specL11From_any A a K.2 K.1 _ HRD.out hs h2 HKT.out).mono ?_
      rintro e w4 ⟨v, rfl, hO, hb4⟩
      have HB4 : Hid (Below w.heap.size w w4) := HB3.out.trans (hb4.mono HB3.out.size)
      have HO4 : Hid (Owns w4 w.heap.size v R) := by show Owns _ _ _ _; rw [HR.out]; exact Owns.mono hO HB3.out.size
      clear hO hb4
      go_wp2
      go_ret
      exact ⟨_, rfl, HO4.out, HB4.out⟩
end Go.Proofs.YtmgcdfmgmpnonaaGreatDoor.Wd
