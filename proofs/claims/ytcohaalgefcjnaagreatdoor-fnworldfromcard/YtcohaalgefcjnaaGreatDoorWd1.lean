/- Addresses that are written in the one way, and pages, of the program. -/
import Derived.Test.YtcohaalgefcjnaaGreatDoorReadAny
import Derived.Test.YtcohaalgefcjnaaGreatDoorAddr1Pk
import Derived.Test.YtcohaalgefcjnaaGreatDoorRead3Pk
import Derived.Test.YtcohaalgefcjnaaGreatDoorDraw1Pk
import Derived.Test.YtcohaalgefcjnaaGreatDoorMarkA
namespace Go.Proofs.YtcohaalgefcjnaaGreatDoor.Wd
open Go.RowKit Go.Proofs.YtcohaalgefcjnaaGreatDoor.EscM Go.Proofs.YtcohaalgefcjnaaGreatDoor.AddrM Go.Proofs.YtcohaalgefcjnaaGreatDoor.ReadM Go.Proofs.YtcohaalgefcjnaaGreatDoor.St Go.Proofs.YtcohaalgefcjnaaGreatDoor.EscL Go.Proofs.YtcohaalgefcjnaaGreatDoor.PathM Go.Proofs.YtcohaalgefcjnaaGreatDoor.Ad1 Go.Proofs.YtcohaalgefcjnaaGreatDoor.Rd1 Go.Proofs.YtcohaalgefcjnaaGreatDoor.LibM Go.Proofs.YtcohaalgefcjnaaGreatDoor.Im Go.Proofs.YtcohaalgefcjnaaGreatDoor.RdA Go.Proofs.YtcohaalgefcjnaaGreatDoor.MkA Go.Proofs.YtcohaalgefcjnaaGreatDoor.Mp Go.Proofs.YtcohaalgefcjnaaGreatDoor.WdM Go.Proofs.YtcohaalgefcjnaaGreatDoor.RR Go.Proofs.YtcohaalgefcjnaaGreatDoor.RoPg

/-- a text that is an address, read -/
def normA (s : ByteArray) : Option Ad := match readF s.data.toList with
  | some A => if (textF A).toList == s.toList then some A else none
  | none => none
theorem normT_eq (s : ByteArray) : normT s = (normA s).isSome := by
  unfold normT normA
  cases readF s.data.toList with
  | none => rfl
  | some A => dsimp only; cases (textF A).toList == s.toList <;> rfl
theorem normA_none {s : ByteArray} (h : readF s.data.toList = none) : normA s = none := by unfold normA; rw [h]
theorem normA_yes {s : ByteArray} {A : Ad} (h : readF s.data.toList = some A) (h2 : ((textF A).toList == s.toList) = true) : normA s = some A := by unfold normA; rw [h]; dsimp only; rw [if_pos h2]
theorem normA_no {s : ByteArray} {A : Ad} (h : readF s.data.toList = some A) (h2 : ((textF A).toList == s.toList) = false) : normA s = none := by unfold normA; rw [h]; dsimp only; rw [h2]; rfl
theorem zero_back {w w' : World} {H : Option Ad} (hn : H = none) (hb : Below w.heap.size w w') : Reads H w (.returned (.tuple #[.agg #[.string ⟨#[]⟩, .slice none 0 0, .bool false, .string ⟨#[]⟩], .bool false])) w' :=
  ⟨zeroAd, false, none, 0, rfl, Or.inr ⟨rfl, hn, rfl⟩, Owns.nil _ _, hb⟩

set_option maxRecDepth 100000 in
set_option maxHeartbeats 4000000 in
theorem readAddress_any (s : ByteArray) (w : World) (hM : Mx w) (hs : s.size ≤ 4194304) (ha : ascii s) :
    Calls Tryz.prog 43 #[.string s] w fun e w' => Reads (normA s) w e w' := by
  have HR : Hid _ := fun W hW => implRead_all s W hW hs ha
  have HM : Hid (Mx w) := hM
  have H1 : Hid (readF s.data.toList = none → normA s = none) := normA_none
  have H2 : Hid (∀ A, readF s.data.toList = some A → ((textF A).toList == s.toList) = true → normA s = some A) := fun A => normA_yes
  have H3 : Hid (∀ A, readF s.data.toList = some A → ((textF A).toList == s.toList) = false → normA s = none) := fun A => normA_no
  have HBK : Hid (∀ A ok, (ok = true ∧ readF s.data.toList = some A) ∨ (ok = false ∧ readF s.data.toList = none ∧ A = zeroAd) → bulkA A ≤ 70) := fun A ok h => OB.reads_bulk h
  generalize readF s.data.toList = R at *
  generalize normA s = N at *
  clear hM ha
  go_enter Tryz.func43, Tryz.ntmps43
  go_wp2_with fail
  refine (HR.out _ (HM.out.alloc _)).mono ?_
  rintro e w1 ⟨A, ok, a1, c1, rfl, hans, hO, hb1⟩
  have hbk := HBK.out A ok hans
  have HB1 : Hid (Below (w.heap.size + 1) (w.alloc (.cells #[.string ⟨#[]⟩, .slice none 0 0, .bool false, .string ⟨#[]⟩] 28)) w1) := by show Below _ _ _; simpa using hb1
  have HO1 : Hid (Owns w1 (w.heap.size + 1) (.slice a1 A.parts.length c1) A.parts) := by show Owns _ _ _ _; simpa using hO
  have HANS : Hid _ := hans
  clear hans hO hb1 HR
  cases ok with
  | false =>
    have HN : Hid (N = none) := by
      rcases HANS.out with ⟨h, _⟩ | ⟨_, h, _⟩
      · cases h
      · exact H1.out h
    have HB2 : Hid (Below (w.heap.size + 1) (w.alloc (.cells #[.string ⟨#[]⟩, .slice none 0 0, .bool false, .string ⟨#[]⟩] 28)) (w1.alloc (.cells #[.string A.house, .slice a1 A.parts.length c1, .bool A.asks, .string A.ask] 28))) := HB1.out.alloc (by have := HB1.out.size; simpa using this) _
    have hb2' := HB2.out
    obtain ⟨⟨d0, d1, d2, d3⟩, dz⟩ := one_cells hb2'
    clear hb2'
    go_wp2
    refine bodyPost_ret (v := .tuple #[.agg #[.string ⟨#[]⟩, .slice none 0 0, .bool false, .string ⟨#[]⟩], .bool false]) (by simp [results, Tryz.results43, go_sem, d0, d1, d2, d3]) rfl ?_
    refine zero_back HN.out ?_
    have hbw := ((Below.refl _ w).alloc (Nat.le_refl _) (.cells #[.string ⟨#[]⟩, .slice none 0 0, .bool false, .string ⟨#[]⟩] 28)).trans (HB2.out.mono (by omega))
    iterate 4 refine Below.setCell ?_ (by dsimp only; omega) _
    exact hbw
  | true =>
    have HY : Hid (R = some A) := by
      rcases HANS.out with ⟨_, h⟩ | ⟨h, _⟩
      · exact h
      · cases h
    have HXA : Hid (Bs 28 (w1.alloc (.cells #[.string A.house, .slice a1 A.parts.length c1, .bool A.asks, .string A.ask] 28)) w1.heap.size #[.string A.house, .slice a1 A.parts.length c1, .bool A.asks, .string A.ask]) := Bs.new _ _ _
    go_wp2_with fail
    refine (implAddrText_any A a1 c1 _ (HO1.out.strsOf.keep (alloc_keep _ _)) (by omega)).mono ?_
    rintro e w2 ⟨rfl, hb2⟩
    have HB2 : Hid (Below (w.heap.size + 1) (w.alloc (.cells #[.string ⟨#[]⟩, .slice none 0 0, .bool false, .string ⟨#[]⟩] 28)) w2) := (HB1.out.alloc (by have := HB1.out.size; simpa using this) _).trans (hb2.mono (by have := HB1.out.size; simp at this ⊢; omega))
    have HO2 : Hid (Owns w2 (w.heap.size + 1) (.slice a1 A.parts.length c1) A.parts) := (HO1.out.keep (alloc_keep _ _)).below hb2
    have HX2 := HXA.out.below hb2
    have x0 := HX2.cell 0 rfl
    have x1 := HX2.cell 1 rfl
    have x2 := HX2.cell 2 rfl
    have x3 := HX2.cell 3 rfl
    have hb2' := HB2.out
    obtain ⟨⟨d0, d1, d2, d3⟩, dz⟩ := one_cells hb2'
    have hz1 := HB1.out.size
    have hne : w1.heap.size ≠ w.heap.size := by simp at hz1; omega
    clear hb2 hb2' HX2 HXA HB1 HO1
    have K2 : Hid (((textF A).toList == s.toList) = true → N = some A) := H2.out A HY.out
    have K3 : Hid (((textF A).toList == s.toList) = false → N = none) := H3.out A HY.out
    clear H2 H3
    generalize textF A = t at *
    cases hq : (t.toList == s.toList) with
    | true =>
      have HN : Hid (N = some A) := K2.out hq
      go_wp2
      refine bodyPost_ret (v := .tuple #[.agg #[.string A.house, .slice a1 A.parts.length c1, .bool A.asks, .string A.ask], .bool true]) (by simp [results, Tryz.results43, go_sem, d0, d1, d2, d3]) rfl ?_
      refine ⟨A, true, a1, c1, rfl, Or.inl ⟨rfl, HN.out⟩, ?_, ?_⟩
      · refine Owns.mono (?_ : Owns _ (w.heap.size + 1) _ _) (by omega)
        have hO := HO2.out
        iterate 4 refine ownsRow_setCell_below ?_ (by dsimp only; omega) _
        exact hO
      · have hbw := ((Below.refl _ w).alloc (Nat.le_refl _) (.cells #[.string ⟨#[]⟩, .slice none 0 0, .bool false, .string ⟨#[]⟩] 28)).trans (HB2.out.mono (by omega))
        iterate 4 refine Below.setCell ?_ (by dsimp only; omega) _
        exact hbw
    | false =>
      have HN : Hid (N = none) := K3.out hq
      go_wp2
      refine bodyPost_ret (v := .tuple #[.agg #[.string ⟨#[]⟩, .slice none 0 0, .bool false, .string ⟨#[]⟩], .bool false]) (by simp [results, Tryz.results43, go_sem, d0, d1, d2, d3]) rfl ?_
      refine zero_back HN.out ?_
      have hbw := ((Below.refl _ w).alloc (Nat.le_refl _) (.cells #[.string ⟨#[]⟩, .slice none 0 0, .bool false, .string ⟨#[]⟩] 28)).trans (HB2.out.mono (by omega))
      iterate 4 refine Below.setCell ?_ (by dsimp only; omega) _
      exact hbw

set_option maxRecDepth 100000 in
set_option maxHeartbeats 1600000 in
theorem isAddress_any (s : ByteArray) (w : World) (hM : Mx w) (hs : s.size ≤ 4194304) (ha : ascii s) :
    Calls Tryz.prog 94 #[.string s] w fun e w' => e = .returned (.bool (normT s)) ∧ Below w.heap.size w w' := by
  have HN : Hid (normT s = (normA s).isSome) := normT_eq s
  generalize normT s = b at *
  have HR := fun W hW => readAddress_any s W hW hs ha
  go_enter Tryz.func94, Tryz.ntmps94
  go_wp2_with fail
  refine (HR _ hM).mono ?_
  rintro e w1 ⟨A, ok, a1, c1, rfl, hans, hO, hb1⟩
  have e : ok = b := by
    rw [HN.out]
    rcases hans with ⟨h, e⟩ | ⟨h, e, _⟩ <;> rw [h, e] <;> rfl
  subst e
  clear hans hO
  go_wp2
  go_ret
  exact ⟨rfl, hb1.alloc hb1.size _⟩
end Go.Proofs.YtcohaalgefcjnaaGreatDoor.Wd
