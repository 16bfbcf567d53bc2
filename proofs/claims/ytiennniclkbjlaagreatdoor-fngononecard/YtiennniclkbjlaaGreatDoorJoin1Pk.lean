/- Several texts in one: Join1, Join2, Draw10, ReadAny, Wd1, Wd2, Wd3. -/
import Derived.Test.YtiennniclkbjlaaGreatDoorRead3Pk
import Derived.Test.YtiennniclkbjlaaGreatDoorDraw5Pk
import Derived.Deep.RegionHeldLaw
import Derived.Test.YtiennniclkbjlaaGreatDoorAddr1Pk
import Derived.Test.YtiennniclkbjlaaGreatDoorStrsPk
import Derived.Test.YtiennniclkbjlaaGreatDoorRead1Pk
import Derived.Deep.WholeRow
/- The model's l1Up. -/
namespace Go.Proofs.YtiennniclkbjlaaGreatDoor.Jn
open Go.RowKit Go.Proofs.YtiennniclkbjlaaGreatDoor.EscM Go.Proofs.YtiennniclkbjlaaGreatDoor.AddrM Go.Proofs.YtiennniclkbjlaaGreatDoor.ReadM Go.Proofs.YtiennniclkbjlaaGreatDoor.St Go.Proofs.YtiennniclkbjlaaGreatDoor.EscL Go.Proofs.YtiennniclkbjlaaGreatDoor.PathM Go.Proofs.YtiennniclkbjlaaGreatDoor.Ad1 Go.Proofs.YtiennniclkbjlaaGreatDoor.Rd1 Go.Proofs.YtiennniclkbjlaaGreatDoor.JnM

theorem own_third (w : World) (o o' : Obj) : (((w.alloc o).alloc o').alloc (.cells #[] 9)).drew.ownsRow w.heap.size 9 1 (.slice (some ⟨w.heap.size + 1 + 1, 0, none⟩) 0 0) 0 [] := by
  have h := Owns.empty ((w.alloc o).alloc o') w.heap.size (by simp; omega)
  have e : ((w.alloc o).alloc o').heap.size = w.heap.size + 1 + 1 := by simp
  rw [e] at h
  exact h
theorem keep_third (w : World) (o o' o'' : Obj) : ∀ k, k < w.heap.size → (((w.alloc o).alloc o').alloc o'').drew.heap[k]? = w.heap[k]? := fun k hk => by
  show (((w.alloc o).alloc o').alloc o'').heap[k]? = _
  rw [alloc_keep _ _ k (by simp; omega), alloc_keep _ _ k (by simp; omega), alloc_keep _ _ k hk]

theorem up_past {w w1 : World} {x0 x1 x2 x3 y0 y1 y2 y3 : Value} (hg : (((w.alloc (.cells #[x0, x1, x2, x3] 97)).alloc (.cells #[y0, y1, y2, y3] 97)).alloc (.cells #[] 9)).drew.grownBy w1 (Value.slice (some ⟨w.heap.size + 1 + 1, 0, none⟩) 0 0).ownBlock) :
    Dr.Box w1 w.heap.size x0 x1 x2 x3 ∧ Dr.Box w1 (w.heap.size + 1) y0 y1 y2 y3 ∧ Below w.heap.size w w1 ∧ w.heap.size + 1 < w1.heap.size := by
  have b0 : Dr.Box (w.alloc (.cells #[x0, x1, x2, x3] 97)) w.heap.size x0 x1 x2 x3 := Dr.heap_new w _
  have b1 : Dr.Box ((w.alloc (.cells #[x0, x1, x2, x3] 97)).alloc (.cells #[y0, y1, y2, y3] 97)) (w.heap.size + 1) y0 y1 y2 y3 := by
    have := Dr.heap_new (w.alloc (.cells #[x0, x1, x2, x3] 97)) (.cells #[y0, y1, y2, y3] 97)
    have e : (w.alloc (.cells #[x0, x1, x2, x3] 97)).heap.size = w.heap.size + 1 := by simp
    rwa [e] at this
  have b0' : Dr.Box (((w.alloc (.cells #[x0, x1, x2, x3] 97)).alloc (.cells #[y0, y1, y2, y3] 97)).alloc (.cells #[] 9)).drew w.heap.size x0 x1 x2 x3 :=
    ((b0.grown (Dr.grown_alloc _ _ none) (by simp)).grown (Dr.grown_alloc _ _ none) (by simp)).heapEq rfl
  have b1' : Dr.Box (((w.alloc (.cells #[x0, x1, x2, x3] 97)).alloc (.cells #[y0, y1, y2, y3] 97)).alloc (.cells #[] 9)).drew (w.heap.size + 1) y0 y1 y2 y3 := (b1.grown (Dr.grown_alloc _ _ none) (by simp)).heapEq rfl
  have hr : ∀ g, (Value.slice (some ⟨w.heap.size + 1 + 1, 0, none⟩) 0 0).ownBlock = some g → g = w.heap.size + 1 + 1 := fun g e => by simpa [Value.ownBlock] using e.symm
  refine ⟨b0'.grown hg (by intro e; have := hr _ e; omega), b1'.grown hg (by intro e; have := hr _ e; omega), ?_, ?_⟩
  · exact Below.grown ((((Below.refl _ w).alloc (Nat.le_refl _) _).alloc (by simp) _).alloc (by simp; omega) _).drew hg (by simp; omega) (fun g e => by have := hr g e; omega)
  · have := hg.size; simp at this; omega

end Go.Proofs.YtiennniclkbjlaaGreatDoor.Jn
/- The model's AddrJoin. -/
namespace Go.Proofs.YtiennniclkbjlaaGreatDoor.Jn
open Go.RowKit Go.Proofs.YtiennniclkbjlaaGreatDoor.EscM Go.Proofs.YtiennniclkbjlaaGreatDoor.AddrM Go.Proofs.YtiennniclkbjlaaGreatDoor.ReadM Go.Proofs.YtiennniclkbjlaaGreatDoor.St Go.Proofs.YtiennniclkbjlaaGreatDoor.EscL Go.Proofs.YtiennniclkbjlaaGreatDoor.PathM Go.Proofs.YtiennniclkbjlaaGreatDoor.Ad1 Go.Proofs.YtiennniclkbjlaaGreatDoor.Rd1 Go.Proofs.YtiennniclkbjlaaGreatDoor.JnM Go.Proofs.YtiennniclkbjlaaGreatDoor.Im

end Go.Proofs.YtiennniclkbjlaaGreatDoor.Jn
/- An address, and what is written there, are drawn. -/
namespace Go.Proofs.YtiennniclkbjlaaGreatDoor.Dr
open Go.RowKit Go.Proofs.YtiennniclkbjlaaGreatDoor.St Go.Proofs.YtiennniclkbjlaaGreatDoor.AddrM Go.Proofs.YtiennniclkbjlaaGreatDoor.EscL Go.Proofs.YtiennniclkbjlaaGreatDoor.Ad1 Go.Proofs.YtiennniclkbjlaaGreatDoor.ReadM Go.Proofs.YtiennniclkbjlaaGreatDoor.Rd1

end Go.Proofs.YtiennniclkbjlaaGreatDoor.Dr
namespace Go.Proofs.YtiennniclkbjlaaGreatDoor.Door
open Go.RowKit Go.Proofs.YtiennniclkbjlaaGreatDoor.St Go.Proofs.YtiennniclkbjlaaGreatDoor.AddrM Go.Proofs.YtiennniclkbjlaaGreatDoor.ReadM Go.Proofs.YtiennniclkbjlaaGreatDoor.EscL Go.Proofs.YtiennniclkbjlaaGreatDoor.Ad1 Go.Proofs.YtiennniclkbjlaaGreatDoor.Dr Go.Proofs.YtiennniclkbjlaaGreatDoor.Tw Go.Proofs.YtiennniclkbjlaaGreatDoor.RB Go.Proofs.YtiennniclkbjlaaGreatDoor.Im Go.Proofs.YtiennniclkbjlaaGreatDoor.Rd1 Go.Proofs.YtiennniclkbjlaaGreatDoor.JnM
theorem ansJ_bulk {P : Ad} {l : List UInt8} {A : Ad} {p : Bool} (h : (p = true ∧ joinF P l = some A) ∨ (p = false ∧ joinF P l = none ∧ A = zeroAd)) : A.parts.length ≤ 4194304 ∧ bulkA A ≤ 4194304 := by
  rcases h with ⟨_, h⟩ | ⟨_, _, rfl⟩
  · have := ok_sum (join_ok h)
    omega
  · exact ⟨by decide, by decide⟩
end Go.Proofs.YtiennniclkbjlaaGreatDoor.Door
/- AddrRead and AddrJoin of both sides, of texts and addresses of any size. -/
namespace Go.Proofs.YtiennniclkbjlaaGreatDoor.RdA
open Go.RowKit Go.Proofs.YtiennniclkbjlaaGreatDoor.EscM Go.Proofs.YtiennniclkbjlaaGreatDoor.AddrM Go.Proofs.YtiennniclkbjlaaGreatDoor.ReadM Go.Proofs.YtiennniclkbjlaaGreatDoor.St Go.Proofs.YtiennniclkbjlaaGreatDoor.EscL Go.Proofs.YtiennniclkbjlaaGreatDoor.PathM Go.Proofs.YtiennniclkbjlaaGreatDoor.Ad1 Go.Proofs.YtiennniclkbjlaaGreatDoor.Rd1 Go.Proofs.YtiennniclkbjlaaGreatDoor.LibM Go.Proofs.YtiennniclkbjlaaGreatDoor.Im Go.Proofs.YtiennniclkbjlaaGreatDoor.JnM

/-- both sides read the same -/
theorem ans_same {R : Option Ad} {A B : Ad} {ok ok2 : Bool} (h : (ok = true ∧ R = some A) ∨ (ok = false ∧ R = none ∧ A = zeroAd)) (h2 : (ok2 = true ∧ R = some B) ∨ (ok2 = false ∧ R = none ∧ B = zeroAd)) : B = A ∧ ok2 = ok := by
  rcases h with ⟨h, e⟩ | ⟨h, e, z⟩ <;> rcases h2 with ⟨h2, e2⟩ | ⟨h2, e2, z2⟩
  · rw [e] at e2; exact ⟨(Option.some.inj e2).symm, by rw [h, h2]⟩
  · rw [e] at e2; cases e2
  · rw [e] at e2; cases e2
  · exact ⟨by rw [z, z2], by rw [h, h2]⟩

set_option maxRecDepth 100000 in
set_option maxHeartbeats 2000000 in
theorem implRead_all (raw : ByteArray) (w : World) (hM : Mx w) (hr : raw.size ≤ 4194304) (ha : ascii raw) :
    Calls Tryz.prog 86 #[.string raw] w fun e w' => Reads (readF raw.data.toList) w e w' := by
  by_cases h : raw.size ≤ 60
  · exact implRead_ascii raw w hM h ha
  · have hl : raw.data.toList.length = raw.size := by simp
    have HN : Hid (readF raw.data.toList = none) := read_long (by omega)
    clear hl
    go_enter Tryz.func86, Tryz.ntmps86
    go_wp2
    refine bodyPost_ret (v := .tuple #[.agg #[.string ⟨#[]⟩, .slice none 0 0, .bool false, .string ⟨#[]⟩], .bool false]) (by simp [results, Tryz.results86, go_sem]) rfl ?_
    refine ⟨zeroAd, false, none, 0, rfl, Or.inr ⟨rfl, HN.out, rfl⟩, Owns.nil _ _, ?_⟩
    have hbw : Below w.heap.size w (w.alloc (.cells #[.string ⟨#[]⟩, .slice none 0 0, .bool false, .string ⟨#[]⟩] 97)) := (Below.refl _ w).alloc (Nat.le_refl _) _
    exact hbw

theorem join_long {A : Ad} {l : List UInt8} (h : 60 < l.length) : joinF A l = none := by
  unfold joinF
  cases okB A with
  | false => rfl
  | true => rw [if_pos h]; rfl
theorem bulk_bad {A : Ad} (h : ¬ bulkA A ≤ 1000) : okB A = false := by
  cases hk : okB A with
  | false => rfl
  | true => exact absurd (OB.ok_bulk hk) (by omega)

set_option maxRecDepth 100000 in
set_option maxHeartbeats 2000000 in
theorem implJoin_all (A : Ad) (ref : ByteArray) (a0 : Option Addr) (cap : Nat) (w : World) (hM : Mx w) (hS : IsStrs w a0 cap A.parts) (hB : bulkA A ≤ 4194304) (hr : ref.size ≤ 4194304) (ha : ascii ref) :
    Calls Tryz.prog 176 #[.agg #[.string A.house, .slice a0 A.parts.length cap, .bool A.asks, .string A.ask], .string ref] w fun e w' => Reads (joinF A ref.data.toList) w e w' := by
  by_cases h : ref.size ≤ 60 ∧ bulkA A ≤ 1000
  · exact implJoin_ascii A ref a0 cap w hM hS h.2 h.1 ha
  · have hl : ref.data.toList.length = ref.size := by simp
    have hno : okB A = false ∨ (okB A = true ∧ 60 < ref.size) := by
      by_cases hk : bulkA A ≤ 1000
      · cases ho : okB A with
        | false => exact Or.inl rfl
        | true => exact Or.inr ⟨rfl, by omega⟩
      · exact Or.inl (bulk_bad hk)
    have HN : Hid (joinF A ref.data.toList = none) := by
      show _ = _
      rcases hno with e | ⟨_, e⟩
      · exact join_bad e
      · exact join_long (by omega)
    generalize joinF A ref.data.toList = R at *
    have HS : Hid (IsStrs w a0 cap A.parts) := hS
    clear h hl hM hS
    go_enter Tryz.func176, Tryz.ntmps176
    go_wp2_with fail
    refine (implOk_any A a0 cap _ (HS.out.keep (fun k hk => by rw [alloc_keep _ _ k (by simp; omega), alloc_keep _ _ k hk])) hB).mono ?_
    rintro e w1 ⟨rfl, hb1⟩
    have HB1 : Hid (Below (w.heap.size + 1 + 1) ((w.alloc (.cells #[.string A.house, .slice a0 A.parts.length cap, .bool A.asks, .string A.ask] 97)).alloc (.cells #[.string ⟨#[]⟩, .slice none 0 0, .bool false, .string ⟨#[]⟩] 97)) w1) := hb1.mono (by simp)
    have hb1' := HB1.out
    obtain ⟨⟨c0, c1, c2, c3⟩, ⟨d0, d1, d2, d3⟩, dz⟩ := two_cells hb1'
    clear hb1 hb1'
    rcases hno with e | ⟨e, hlen⟩
    · rw [e]
      clear e
      go_wp2
      refine bodyPost_ret (v := .tuple #[.agg #[.string ⟨#[]⟩, .slice none 0 0, .bool false, .string ⟨#[]⟩], .bool false]) (by simp [results, Tryz.results176, go_sem, d0, d1, d2, d3]) rfl ?_
      refine ⟨zeroAd, false, none, 0, rfl, Or.inr ⟨rfl, HN.out, rfl⟩, Owns.nil _ _, ?_⟩
      have hbw := two_below HB1.out
      iterate 4 refine Below.setCell ?_ (by dsimp only; omega) _
      exact hbw
    · rw [e]
      clear e
      go_wp2
      refine bodyPost_ret (v := .tuple #[.agg #[.string ⟨#[]⟩, .slice none 0 0, .bool false, .string ⟨#[]⟩], .bool false]) (by simp [results, Tryz.results176, go_sem, d0, d1, d2, d3]) rfl ?_
      refine ⟨zeroAd, false, none, 0, rfl, Or.inr ⟨rfl, HN.out, rfl⟩, Owns.nil _ _, ?_⟩
      have hbw := two_below HB1.out
      iterate 4 refine Below.setCell ?_ (by dsimp only; omega) _
      exact hbw

end Go.Proofs.YtiennniclkbjlaaGreatDoor.RdA
/- Addresses that are written in the one way, and pages, of the program. -/
namespace Go.Proofs.YtiennniclkbjlaaGreatDoor.Wd
open Go.RowKit Go.Proofs.YtiennniclkbjlaaGreatDoor.EscM Go.Proofs.YtiennniclkbjlaaGreatDoor.AddrM Go.Proofs.YtiennniclkbjlaaGreatDoor.ReadM Go.Proofs.YtiennniclkbjlaaGreatDoor.St Go.Proofs.YtiennniclkbjlaaGreatDoor.EscL Go.Proofs.YtiennniclkbjlaaGreatDoor.PathM Go.Proofs.YtiennniclkbjlaaGreatDoor.Ad1 Go.Proofs.YtiennniclkbjlaaGreatDoor.Rd1 Go.Proofs.YtiennniclkbjlaaGreatDoor.LibM Go.Proofs.YtiennniclkbjlaaGreatDoor.Im Go.Proofs.YtiennniclkbjlaaGreatDoor.RdA Go.Proofs.YtiennniclkbjlaaGreatDoor.MkA Go.Proofs.YtiennniclkbjlaaGreatDoor.Mp Go.Proofs.YtiennniclkbjlaaGreatDoor.WdM Go.Proofs.YtiennniclkbjlaaGreatDoor.RR Go.Proofs.YtiennniclkbjlaaGreatDoor.RoPg

/-- a text that is an address, read -/
def normA (s : ByteArray) : Option Ad := match readF s.data.toList with
  | some A => if (textF A).toList == s.toList then some A else none
  | none => none
theorem normT_eq (s : ByteArray) : normT s = (normA s).isSome := by
  unfold normT normA
  cases readF s.data.toList with
  | none => rfl
  | some A => dsimp only; cases (textF A).toList == s.toList <;> rfl
theorem normA_none {s : ByteArray} (h : readF s.data.toList = none) : normA s = none := by unfold normA; rw [h]
theorem normA_yes {s : ByteArray} {A : Ad} (h : readF s.data.toList = some A) (h2 : ((textF A).toList == s.toList) = true) : normA s = some A := by unfold normA; rw [h]; dsimp only; rw [if_pos h2]
theorem normA_no {s : ByteArray} {A : Ad} (h : readF s.data.toList = some A) (h2 : ((textF A).toList == s.toList) = false) : normA s = none := by unfold normA; rw [h]; dsimp only; rw [h2]; rfl
theorem zero_back {w w' : World} {H : Option Ad} (hn : H = none) (hb : Below w.heap.size w w') : Reads H w (.returned (.tuple #[.agg #[.string ⟨#[]⟩, .slice none 0 0, .bool false, .string ⟨#[]⟩], .bool false])) w' :=
  ⟨zeroAd, false, none, 0, rfl, Or.inr ⟨rfl, hn, rfl⟩, Owns.nil _ _, hb⟩

set_option maxRecDepth 100000 in
set_option maxHeartbeats 4000000 in
theorem readAddress_any (s : ByteArray) (w : World) (hM : Mx w) (hs : s.size ≤ 4194304) (ha : ascii s) :
    Calls Tryz.prog 62 #[.string s] w fun e w' => Reads (normA s) w e w' := by
  have HR : Hid _ := fun W hW => implRead_all s W hW hs ha
  have HM : Hid (Mx w) := hM
  have H1 : Hid (readF s.data.toList = none → normA s = none) := normA_none
  have H2 : Hid (∀ A, readF s.data.toList = some A → ((textF A).toList == s.toList) = true → normA s = some A) := fun A => normA_yes
  have H3 : Hid (∀ A, readF s.data.toList = some A → ((textF A).toList == s.toList) = false → normA s = none) := fun A => normA_no
  have HBK : Hid (∀ A ok, (ok = true ∧ readF s.data.toList = some A) ∨ (ok = false ∧ readF s.data.toList = none ∧ A = zeroAd) → bulkA A ≤ 70) := fun A ok h => OB.reads_bulk h
  generalize readF s.data.toList = R at *
  generalize normA s = N at *
  clear hM ha
  go_enter Tryz.func62, Tryz.ntmps62
  go_wp2_with fail
  refine (HR.out _ (HM.out.alloc _)).mono ?_
  rintro e w1 ⟨A, ok, a1, c1, rfl, hans, hO, hb1⟩
  have hbk := HBK.out A ok hans
  have HB1 : Hid (Below (w.heap.size + 1) (w.alloc (.cells #[.string ⟨#[]⟩, .slice none 0 0, .bool false, .string ⟨#[]⟩] 97)) w1) := by show Below _ _ _; simpa using hb1
  have HO1 : Hid (Owns w1 (w.heap.size + 1) (.slice a1 A.parts.length c1) A.parts) := by show Owns _ _ _ _; simpa using hO
  have HANS : Hid _ := hans
  clear hans hO hb1 HR
  cases ok with
  | false =>
    have HN : Hid (N = none) := by
      rcases HANS.out with ⟨h, _⟩ | ⟨_, h, _⟩
      · cases h
      · exact H1.out h
    have HB2 : Hid (Below (w.heap.size + 1) (w.alloc (.cells #[.string ⟨#[]⟩, .slice none 0 0, .bool false, .string ⟨#[]⟩] 97)) (w1.alloc (.cells #[.string A.house, .slice a1 A.parts.length c1, .bool A.asks, .string A.ask] 97))) := HB1.out.alloc (by have := HB1.out.size; simpa using this) _
    have hb2' := HB2.out
    obtain ⟨⟨d0, d1, d2, d3⟩, dz⟩ := one_cells hb2'
    clear hb2'
    go_wp2
    refine bodyPost_ret (v := .tuple #[.agg #[.string ⟨#[]⟩, .slice none 0 0, .bool false, .string ⟨#[]⟩], .bool false]) (by simp [results, Tryz.results62, go_sem, d0, d1, d2, d3]) rfl ?_
    refine zero_back HN.out ?_
    have hbw := ((Below.refl _ w).alloc (Nat.le_refl _) (.cells #[.string ⟨#[]⟩, .slice none 0 0, .bool false, .string ⟨#[]⟩] 97)).trans (HB2.out.mono (by omega))
    iterate 4 refine Below.setCell ?_ (by dsimp only; omega) _
    exact hbw
  | true =>
    have HY : Hid (R = some A) := by
      rcases HANS.out with ⟨_, h⟩ | ⟨h, _⟩
      · exact h
      · cases h
    have HXA : Hid (Bs 97 (w1.alloc (.cells #[.string A.house, .slice a1 A.parts.length c1, .bool A.asks, .string A.ask] 97)) w1.heap.size #[.string A.house, .slice a1 A.parts.length c1, .bool A.asks, .string A.ask]) := Bs.new _ _ _
    go_wp2_with fail
    refine (implAddrText_any A a1 c1 _ (HO1.out.strsOf.keep (alloc_keep _ _)) (by omega)).mono ?_
    rintro e w2 ⟨rfl, hb2⟩
    have HB2 : Hid (Below (w.heap.size + 1) (w.alloc (.cells #[.string ⟨#[]⟩, .slice none 0 0, .bool false, .string ⟨#[]⟩] 97)) w2) := (HB1.out.alloc (by have := HB1.out.size; simpa using this) _).trans (hb2.mono (by have := HB1.out.size; simp at this ⊢; omega))
    have HO2 : Hid (Owns w2 (w.heap.size + 1) (.slice a1 A.parts.length c1) A.parts) := (HO1.out.keep (alloc_keep _ _)).below hb2
    have HX2 := HXA.out.below hb2
    have x0 := HX2.cell 0 rfl
    have x1 := HX2.cell 1 rfl
    have x2 := HX2.cell 2 rfl
    have x3 := HX2.cell 3 rfl
    have hb2' := HB2.out
    obtain ⟨⟨d0, d1, d2, d3⟩, dz⟩ := one_cells hb2'
    have hz1 := HB1.out.size
    have hne : w1.heap.size ≠ w.heap.size := by simp at hz1; omega
    clear hb2 hb2' HX2 HXA HB1 HO1
    have K2 : Hid (((textF A).toList == s.toList) = true → N = some A) := H2.out A HY.out
    have K3 : Hid (((textF A).toList == s.toList) = false → N = none) := H3.out A HY.out
    clear H2 H3
    generalize textF A = t at *
    cases hq : (t.toList == s.toList) with
    | true =>
      have HN : Hid (N = some A) := K2.out hq
      go_wp2
      refine bodyPost_ret (v := .tuple #[.agg #[.string A.house, .slice a1 A.parts.length c1, .bool A.asks, .string A.ask], .bool true]) (by simp [results, Tryz.results62, go_sem, d0, d1, d2, d3]) rfl ?_
      refine ⟨A, true, a1, c1, rfl, Or.inl ⟨rfl, HN.out⟩, ?_, ?_⟩
      · refine Owns.mono (?_ : Owns _ (w.heap.size + 1) _ _) (by omega)
        have hO := HO2.out
        iterate 4 refine ownsRow_setCell_below ?_ (by dsimp only; omega) _
        exact hO
      · have hbw := ((Below.refl _ w).alloc (Nat.le_refl _) (.cells #[.string ⟨#[]⟩, .slice none 0 0, .bool false, .string ⟨#[]⟩] 97)).trans (HB2.out.mono (by omega))
        iterate 4 refine Below.setCell ?_ (by dsimp only; omega) _
        exact hbw
    | false =>
      have HN : Hid (N = none) := K3.out hq
      go_wp2
      refine bodyPost_ret (v := .tuple #[.agg #[.string ⟨#[]⟩, .slice none 0 0, .bool false, .string ⟨#[]⟩], .bool false]) (by simp [results, Tryz.results62, go_sem, d0, d1, d2, d3]) rfl ?_
      refine zero_back HN.out ?_
      have hbw := ((Below.refl _ w).alloc (Nat.le_refl _) (.cells #[.string ⟨#[]⟩, .slice none 0 0, .bool false, .string ⟨#[]⟩] 97)).trans (HB2.out.mono (by omega))
      iterate 4 refine Below.setCell ?_ (by dsimp only; omega) _
      exact hbw

set_option maxRecDepth 100000 in
set_option maxHeartbeats 1600000 in
theorem isAddress_any (s : ByteArray) (w : World) (hM : Mx w) (hs : s.size ≤ 4194304) (ha : ascii s) :
    Calls Tryz.prog 66 #[.string s] w fun e w' => e = .returned (.bool (normT s)) ∧ Below w.heap.size w w' := by
  have HN : Hid (normT s = (normA s).isSome) := normT_eq s
  generalize normT s = b at *
  have HR := fun W hW => readAddress_any s W hW hs ha
  go_enter Tryz.func66, Tryz.ntmps66
  go_wp2_with fail
  refine (HR _ hM).mono ?_
  rintro e w1 ⟨A, ok, a1, c1, rfl, hans, hO, hb1⟩
  have e : ok = b := by
    rw [HN.out]
    rcases hans with ⟨h, e⟩ | ⟨h, e, _⟩ <;> rw [h, e] <;> rfl
  subst e
  clear hans hO
  go_wp2
  go_ret
  exact ⟨rfl, hb1.alloc hb1.size _⟩
end Go.Proofs.YtiennniclkbjlaaGreatDoor.Wd
/- Pages and worlds, of the program. -/
namespace Go.Proofs.YtiennniclkbjlaaGreatDoor.Wd
open Go.RowKit Go.Proofs.YtiennniclkbjlaaGreatDoor.EscM Go.Proofs.YtiennniclkbjlaaGreatDoor.AddrM Go.Proofs.YtiennniclkbjlaaGreatDoor.ReadM Go.Proofs.YtiennniclkbjlaaGreatDoor.St Go.Proofs.YtiennniclkbjlaaGreatDoor.EscL Go.Proofs.YtiennniclkbjlaaGreatDoor.PathM Go.Proofs.YtiennniclkbjlaaGreatDoor.Ad1 Go.Proofs.YtiennniclkbjlaaGreatDoor.Rd1 Go.Proofs.YtiennniclkbjlaaGreatDoor.LibM Go.Proofs.YtiennniclkbjlaaGreatDoor.Im Go.Proofs.YtiennniclkbjlaaGreatDoor.RdA Go.Proofs.YtiennniclkbjlaaGreatDoor.MkA Go.Proofs.YtiennniclkbjlaaGreatDoor.Mp Go.Proofs.YtiennniclkbjlaaGreatDoor.WdM Go.Proofs.YtiennniclkbjlaaGreatDoor.RR Go.Proofs.YtiennniclkbjlaaGreatDoor.RoPg

/-- a page, as a value -/
def pgV (p : Pg) : Value := .agg #[.string p.addr, .string p.text, .string p.lead, .int .i64 p.fails]
def pgZ : Value := .agg #[.string ⟨#[]⟩, .string ⟨#[]⟩, .string ⟨#[]⟩, .int .i64 0]
def entsL (L : List Pg) : List (ByteArray × Value) := L.map fun p => (p.addr, pgV p)
theorem same_iff {s : ByteArray} {p : Pg} : sameA s p = true ↔ p.addr = s := by
  unfold sameA
  rw [beq_iff_eq, ByteArray.toList_eq, ByteArray.toList_eq]
  constructor
  · intro h
    cases hp : p.addr with | mk x => cases s with | mk y => rw [hp] at h; simp at h; rw [h]
  · intro h; rw [h]
theorem get_ents (L : List Pg) (s : ByteArray) : getM (entsL L) s = (L.find? (sameA s)).map pgV := by
  unfold entsL
  induction L with
  | nil => rfl
  | cons p r ih =>
    rw [List.map_cons, List.find?_cons]
    unfold getM
    by_cases h : s = p.addr
    · rw [if_pos h, same_iff.2 h.symm]; rfl
    · have : sameA s p = false := by cases hq : sameA s p with | false => rfl | true => exact absurd (same_iff.1 hq).symm h
      rw [if_neg h, this]; exact ih
theorem put_ents {L : List Pg} {p : Pg} (h : L.any (sameA p.addr) = false) : putM (entsL L) p.addr (pgV p) = entsL (L ++ [p]) := by
  unfold entsL
  induction L with
  | nil => rfl
  | cons q r ih =>
    rw [List.any_cons, Bool.or_eq_false_iff] at h
    rw [List.map_cons, List.cons_append, List.map_cons]
    unfold putM
    rw [if_neg (fun e => by have := (same_iff (p := q)).2 e.symm; rw [h.1] at this; cases this), ih h.2]
theorem get_some {L : List Pg} {s : ByteArray} (h : L.any (sameA s) = true) : ∃ q, getM (entsL L) s = some (pgV q) := by
  rw [get_ents]
  cases hf : L.find? (sameA s) with
  | some q => exact ⟨q, rfl⟩
  | none =>
    rw [List.find?_eq_none] at hf
    obtain ⟨x, hx, hq⟩ := List.any_eq_true.1 h
    exact absurd hq (hf x hx)
theorem get_none {L : List Pg} {s : ByteArray} (h : L.any (sameA s) = false) : getM (entsL L) s = none := by
  rw [get_ents, find_none _ h]; rfl
theorem zeroPg (w : World) : (zeroValue 112).run Tryz.prog w = .ok pgZ w :=
  (zero_of_info (show (Tryz.prog.info? 112).map (fun i => (i.zero, i.size)) = some (some pgZ, 4) by kernel_rfl)).1 w

set_option maxRecDepth 100000 in
set_option maxHeartbeats 4000000 in
theorem pageOk_any (p : Pg) (w : World) (hM : Mx w) (h1 : p.addr.size ≤ 4194304) (h2 : p.text.size ≤ 4194304) (h3 : p.lead.size ≤ 4194304) (ha : ascii p.addr) (hl : ascii p.lead) :
    Calls Tryz.prog 78 #[.agg #[.string p.addr, .string p.text, .string p.lead, .int .i64 p.fails]] w fun e w' => e = .returned (.bool (pgB p)) ∧ Below w.heap.size w w' := by
  have HP : Hid (pgB p = (normT p.addr && decide (p.text.size ≤ 300) && decide (0 ≤ p.fails ∧ p.fails ≤ 9) && (p.lead.toList.isEmpty || (p.text.toList.isEmpty && normT p.lead)))) := rfl
  have HI1 : Hid _ := fun W hW => isAddress_any p.addr W hW h1 ha
  have HI2 : Hid _ := fun W hW => isAddress_any p.lead W hW h3 hl
  have HM : Hid (Mx w) := hM
  obtain ⟨addr, text, lead, fails⟩ := p
  dsimp only at *
  clear hM ha hl
  generalize pgB ⟨addr, text, lead, fails⟩ = R at *
  generalize normT addr = b1 at *
  generalize normT lead = b2 at *
  have HX0 : Hid (Bs 112 (w.alloc (.cells #[.string addr, .string text, .string lead, .int .i64 fails] 112)) w.heap.size #[.string addr, .string text, .string lead, .int .i64 fails]) := Bs.new _ _ _
  go_enter Tryz.func78, Tryz.ntmps78
  go_wp2_with fail
  refine (HI1.out _ (HM.out.alloc _)).mono ?_
  rintro e w1 ⟨rfl, hb1⟩
  have HX1 : Hid (Bs 112 w1 w.heap.size #[.string addr, .string text, .string lead, .int .i64 fails]) := HX0.out.below hb1
  have HB1 : Hid (Below w.heap.size w w1) := ((Below.refl _ w).alloc (Nat.le_refl _) _).trans (hb1.mono (by simp))
  have x0 := HX1.out.cell 0 rfl
  have x1 := HX1.out.cell 1 rfl
  have x2 := HX1.out.cell 2 rfl
  have x3 := HX1.out.cell 3 rfl
  have HM1 : Hid (Mx w1) := HM.out.below HB1.out
  clear hb1 HX0 HI1
  cases b1 with
  | false =>
    go_wp2
    go_ret
    exact ⟨ret_bool (by rw [HP.out]; rfl), HB1.out⟩
  | true =>
    by_cases g1 : 300 < text.size
    · have e1 : decide (text.size ≤ 300) = false := decide_eq_false (by omega)
      have HP2 : Hid (R = false) := by show _ = _; rw [HP.out, e1]; simp
      clear e1
      go_wp2
      go_ret
      exact ⟨ret_bool HP2.out.symm, HB1.out⟩
    by_cases g2 : fails < 0
    · have e1 : decide (0 ≤ fails ∧ fails ≤ 9) = false := decide_eq_false (by omega)
      have HP2 : Hid (R = false) := by show _ = _; rw [HP.out, e1]; simp
      clear e1
      go_wp2
      go_ret
      exact ⟨ret_bool HP2.out.symm, HB1.out⟩
    by_cases g3 : 9 < fails
    · have e1 : decide (0 ≤ fails ∧ fails ≤ 9) = false := decide_eq_false (by omega)
      have HP2 : Hid (R = false) := by show _ = _; rw [HP.out, e1]; simp
      clear e1
      go_wp2
      go_ret
      exact ⟨ret_bool HP2.out.symm, HB1.out⟩
    have HP2 : Hid (R = (lead.toList.isEmpty || (text.toList.isEmpty && b2))) := by
      show _ = _
      rw [HP.out, decide_eq_true (show text.size ≤ 300 by omega), decide_eq_true (show 0 ≤ fails ∧ fails ≤ 9 by omega)]; simp
    clear HP
    cases hle : lead.toList.isEmpty with
    | true =>
      rw [hle] at HP2
      go_wp2
      go_ret
      exact ⟨ret_bool (by rw [HP2.out]; rfl), HB1.out⟩
    | false =>
      rw [hle] at HP2
      go_wp2_with fail
      refine (HI2.out _ HM1.out).mono ?_
      rintro e w2 ⟨rfl, hb2⟩
      have HX2 : Hid (Bs 112 w2 w.heap.size #[.string addr, .string text, .string lead, .int .i64 fails]) := HX1.out.below hb2
      have HB2 : Hid (Below w.heap.size w w2) := HB1.out.trans (hb2.mono HB1.out.size)
      clear hb2 x0 x1 x2 x3 HX1 HI2
      have x0 := HX2.out.cell 0 rfl
      have x1 := HX2.out.cell 1 rfl
      have x2 := HX2.out.cell 2 rfl
      have x3 := HX2.out.cell 3 rfl
      cases b2 with
      | false =>
        go_wp2
        go_ret
        exact ⟨ret_bool (by rw [HP2.out]; simp), HB2.out⟩
      | true =>
        cases hte : text.toList.isEmpty with
        | true =>
          rw [hte] at HP2
          go_wp2
          go_ret
          exact ⟨ret_bool (by rw [HP2.out]; rfl), HB2.out⟩
        | false =>
          rw [hte] at HP2
          go_wp2
          go_ret
          exact ⟨ret_bool (by rw [HP2.out]; rfl), HB2.out⟩

/-- what comes back of worldPages -/
def WPages (L : List Pg) (w : World) (e : Ending) (w' : World) : Prop :=
  ((wOk L = true ∧ ∃ b, e = .returned (.tuple #[.map (some b), .bool true]) ∧ w.heap.size ≤ b ∧ IsMap w' b (entsL L)) ∨ (wOk L = false ∧ e = .returned (.tuple #[.map none, .bool false]))) ∧ Below w.heap.size w w'
def PgSz (L : List Pg) : Prop := ∀ p ∈ L, p.addr.size ≤ 4194304 ∧ p.text.size ≤ 4194304 ∧ p.lead.size ≤ 4194304
def PgAs (L : List Pg) : Prop := ∀ p ∈ L, ascii p.addr ∧ ascii p.lead

set_option maxRecDepth 100000 in
set_option maxHeartbeats 4000000 in
theorem worldPages_any (a0 : Option Addr) (cap : Nat) (L : List Pg) (w : World) (hM : Mx w) (hI : IsRows FPg w a0 cap L) (hS : PgSz L) (hA : PgAs L) :
    Calls Tryz.prog 51 #[.slice a0 L.length cap] w fun e w' => WPages L w e w' := by
  have hc1 := hI.1
  have hc2 := hI.2.1
  unfold maxLen at hc2
  have HI : Hid (IsRows FPg w a0 cap L) := hI
  have HS : Hid (PgSz L) := hS
  have HA : Hid (PgAs L) := hA
  have HM : Hid (Mx w) := hM
  clear hI hS hA hM
  by_cases hlong : 12 < L.length
  · have HW : Hid (wOk L = false) := wOk_long (by omega)
    go_enter Tryz.func51, Tryz.ntmps51
    go_wp2
    go_ret2
    exact ⟨Or.inr ⟨HW.out, rfl⟩, Below.refl _ _⟩
  have hmm : ∀ (n : Int) (W : World), (Instr.makeMap 85 (some (.int .i64 n))).run Tryz.prog W = .ok (.map (some W.heap.size)) (W.alloc (.map #[] 0)) := fun n W => by
    simp [Instr.makeMap, run_underlying Tryz.underlying85, asInt, Result.andThen, newObj]; rfl
  have HB0 : Hid (Below w.heap.size w (w.alloc (.map #[] 0))) := (Below.refl _ w).alloc (Nat.le_refl _) _
  have HM0 : Hid (IsMap (w.alloc (.map #[] 0)) w.heap.size (entsL (L.take 0))) := IsMap.new w
  go_enter Tryz.func51, Tryz.ntmps51
  go_wp2
  go_loopw [17] (fun i wr => ∃ k : Nat, k ≤ L.length ∧ i = .int .i64 (k : Int) ∧ Hid (okTo L k = true) ∧ Hid (IsMap wr w.heap.size (entsL (L.take k))) ∧ Hid (Below w.heap.size w wr)) (fun i _ => L.length - (intOf i).toNat)
  case atStart => exact ⟨0, Nat.zero_le _, rfl, rfl, HM0, HB0⟩
  case round =>
    obtain ⟨k, hk, rfl, HK, HMP, HB⟩ := hrel
    by_cases hlt : k < L.length
    · obtain ⟨B, off, e1, c0, c1, c2, c3⟩ := pg_at (IsRows.below HI.out HB.out) hlt
      have hsz := HS.out L[k] (List.getElem_mem _)
      have HAS := HA.out L[k] (List.getElem_mem _)
      subst e1
      have hadd : (⟨B, off + k * 4, none⟩ : Addr).add 0 = ⟨B, off + k * 4, none⟩ := by simp [Addr.add]
      have HBn : Hid (Below w.heap.size w (wr.alloc (.cells #[.string L[k].addr, .string L[k].text, .string L[k].lead, .int .i64 L[k].fails] 112))) := HB.out.alloc HB.out.size _
      have HMn : Hid (IsMap (wr.alloc (.cells #[.string L[k].addr, .string L[k].text, .string L[k].lead, .int .i64 L[k].fails] 112)) w.heap.size (entsL (L.take k))) := HMP.out.alloc _
      cases hany : (L.take k).any (sameA L[k].addr) with
      | true =>
        have HW : Hid (wOk L = false) := wOk_twice hlt hany
        obtain ⟨q, hq⟩ := get_some hany
        have HQ : Hid _ := hq
        clear hq hany HS HA
        generalize L[k] = p at *
        go_wp2_with (at_lookup; refine wp_look _ rfl _ _ 85 true rfl 9 112 Tryz.underlying85 Tryz.underlying9 pgZ (zeroPg _) w.heap.size (entsL (L.take k)) rfl HMn.out _ rfl (.tuple #[.agg #[.string q.addr, .string q.text, .string q.lead, .int .i64 q.fails], .bool true]) (by rw [HQ.out]; rfl) ?_)
        go_wp2
        go_ret2
        exact ⟨Or.inr ⟨HW.out, rfl⟩, HBn.out.alloc HBn.out.size _⟩
      | false =>
        have HQ : Hid _ := get_none hany
        have HPK : Hid _ := fun W hW => pageOk_any L[k] W hW hsz.1 hsz.2.1 hsz.2.2 HAS.1 HAS.2
        have HNO : Hid (pgB L[k] = false → wOk L = false) := wOk_bad hlt
        have HON : Hid (pgB L[k] = true → okTo L (k + 1) = true) := fun h => okTo_on hlt HK.out h hany
        have HPU : Hid (putM (entsL (L.take k)) L[k].addr (pgV L[k]) = entsL (L.take (k + 1))) := by
          show _ = _
          rw [put_ents hany, ← List.take_succ_eq_append_getElem hlt]
        have HX0 : Hid (Bs 112 (wr.alloc (.cells #[.string L[k].addr, .string L[k].text, .string L[k].lead, .int .i64 L[k].fails] 112)) wr.heap.size #[.string L[k].addr, .string L[k].text, .string L[k].lead, .int .i64 L[k].fails]) := Bs.new _ _ _
        clear hany HS HA
        generalize L[k] = p at *
        go_wp2_with (at_lookup; refine wp_look _ rfl _ _ 85 true rfl 9 112 Tryz.underlying85 Tryz.underlying9 pgZ (zeroPg _) w.heap.size (entsL (L.take k)) rfl HMn.out _ rfl (.tuple #[.agg #[.string ⟨#[]⟩, .string ⟨#[]⟩, .string ⟨#[]⟩, .int .i64 0], .bool false]) (by rw [HQ.out]; rfl) ?_)
        go_wp2_with fail
        refine (HPK.out _ ((HM.out.below HBn.out).alloc _)).mono ?_
        rintro e w2 ⟨rfl, hb2⟩
        have HB2 : Hid (Below w.heap.size w w2) := (HBn.out.alloc HBn.out.size _).trans (hb2.mono (by have := HBn.out.size; simp at this ⊢; omega))
        have HM2 : Hid (IsMap w2 w.heap.size (entsL (L.take k))) := (HMn.out.alloc _).below hb2
        have HX2 : Hid (Bs 112 w2 wr.heap.size #[.string p.addr, .string p.text, .string p.lead, .int .i64 p.fails]) := (HX0.out.alloc _).below hb2
        clear hb2 HBn HMn HX0
        have x0 := HX2.out.cell 0 rfl
        have x1 := HX2.out.cell 1 rfl
        have x2 := HX2.out.cell 2 rfl
        have x3 := HX2.out.cell 3 rfl
        cases hpk : pgB p with
        | false =>
          have HW : Hid (wOk L = false) := HNO.out hpk
          go_wp2
          go_ret2
          exact ⟨Or.inr ⟨HW.out, rfl⟩, HB2.out⟩
        | true =>
          have HK1 : Hid (okTo L (k + 1) = true) := HON.out hpk
          clear hpk
          go_wp2_with (at_mapUpdate; refine wp_store _ rfl _ _ _ 85 rfl 9 112 Tryz.underlying85 Tryz.underlying9 w.heap.size (entsL (L.take k)) rfl HM2.out p.addr rfl (pgV p) rfl ?_; intro w3 hm3 hg3)
          have HM3 : Hid (IsMap w3 w.heap.size (entsL (L.take (k + 1)))) := by
            show IsMap _ _ _
            rw [← HPU.out]; exact hm3
          have HB3 : Hid (Below w.heap.size w w3) := HB2.out.trans (grown_low _ hg3 HB2.out.size (fun j e => by cases e; exact Nat.le_refl _))
          clear hm3 hg3
          go_wp2
          go_roundw
          case rel => exact ⟨k + 1, by omega, by go_num, HK1, HM3, HB3⟩
          case measure => simp [intOf]; omega
    · have e1 : k = L.length := by omega
      subst e1
      rw [List.take_length] at HMP
      have HW : Hid (wOk L = true) := by show _ = _; unfold wOk; rw [HK.out, decide_eq_true (show L.length ≤ 12 by omega)]; rfl
      go_wp2
      go_ret2
      exact ⟨Or.inl ⟨HW.out, w.heap.size, rfl, Nat.le_refl _, HMP.out⟩, HB.out⟩

set_option maxRecDepth 100000 in
set_option maxHeartbeats 2000000 in
theorem getAt_any (b : Nat) (L : List Pg) (a : ByteArray) (t : Int) (w : World) (h : IsMap w b (entsL L)) :
    Calls Tryz.prog 52 #[.map (some b), .string a, .int .i64 t] w fun e w' => e = .returned (.tuple #[.int .i64 (kindF L a t).1, .string (kindF L a t).2]) ∧ Below w.heap.size w w' := by
  have HMn : Hid (IsMap w b (entsL L)) := h
  have HG : Hid _ := get_ents L a
  have HK : Hid (kindF L a t = match L.find? (sameA a) with
    | none => (0, ⟨#[]⟩)
    | some p => if t < p.fails then (3, ⟨#[]⟩) else if p.lead.toList.isEmpty then (1, p.text) else (2, p.lead)) := rfl
  clear h
  generalize kindF L a t = R at *
  cases hf : L.find? (sameA a) with
  | none =>
    rw [hf] at HK HG
    have HR : Hid (R = (0, ⟨#[]⟩)) := HK.out
    clear HK hf
    go_enter Tryz.func52, Tryz.ntmps52
    go_wp2_with (at_lookup; refine wp_look _ rfl _ _ 85 true rfl 9 112 Tryz.underlying85 Tryz.underlying9 pgZ (zeroPg _) b (entsL L) rfl HMn.out _ rfl (.tuple #[.agg #[.string ⟨#[]⟩, .string ⟨#[]⟩, .string ⟨#[]⟩, .int .i64 0], .bool false]) (by rw [HG.out]; rfl) ?_)
    go_wp2
    go_ret2
    exact ⟨by rw [HR.out]; rfl, (Below.refl _ w).alloc (Nat.le_refl _) _⟩
  | some p =>
    rw [hf] at HK HG
    have HB0 : Hid (Below w.heap.size w (w.alloc (.cells #[.string p.addr, .string p.text, .string p.lead, .int .i64 p.fails] 112))) := (Below.refl _ w).alloc (Nat.le_refl _) _
    clear hf
    by_cases h1 : t < p.fails
    · have HR : Hid (R = (3, ⟨#[]⟩)) := by show _ = _; rw [HK.out]; dsimp only; rw [if_pos h1]
      clear HK
      go_enter Tryz.func52, Tryz.ntmps52
      go_wp2_with (at_lookup; refine wp_look _ rfl _ _ 85 true rfl 9 112 Tryz.underlying85 Tryz.underlying9 pgZ (zeroPg _) b (entsL L) rfl HMn.out _ rfl (.tuple #[.agg #[.string p.addr, .string p.text, .string p.lead, .int .i64 p.fails], .bool true]) (by rw [HG.out]; rfl) ?_)
      go_wp2
      go_ret2
      exact ⟨by rw [HR.out]; rfl, HB0.out⟩
    · cases hl : p.lead.toList.isEmpty with
      | false =>
        have HR : Hid (R = (2, p.lead)) := by show _ = _; rw [HK.out]; dsimp only; rw [if_neg h1, hl]; rfl
        clear HK
        go_enter Tryz.func52, Tryz.ntmps52
        go_wp2_with (at_lookup; refine wp_look _ rfl _ _ 85 true rfl 9 112 Tryz.underlying85 Tryz.underlying9 pgZ (zeroPg _) b (entsL L) rfl HMn.out _ rfl (.tuple #[.agg #[.string p.addr, .string p.text, .string p.lead, .int .i64 p.fails], .bool true]) (by rw [HG.out]; rfl) ?_)
        go_wp2
        go_region_with fail
        all_goals
          go_wp2
          go_ret2
          exact ⟨by rw [HR.out]; rfl, HB0.out.drew⟩
      | true =>
        have HR : Hid (R = (1, p.text)) := by show _ = _; rw [HK.out]; dsimp only; rw [if_neg h1, hl]; rfl
        clear HK
        go_enter Tryz.func52, Tryz.ntmps52
        go_wp2_with (at_lookup; refine wp_look _ rfl _ _ 85 true rfl 9 112 Tryz.underlying85 Tryz.underlying9 pgZ (zeroPg _) b (entsL L) rfl HMn.out _ rfl (.tuple #[.agg #[.string p.addr, .string p.text, .string p.lead, .int .i64 p.fails], .bool true]) (by rw [HG.out]; rfl) ?_)
        go_wp2
        go_region_with fail
        all_goals
          go_wp2
          go_ret2
          exact ⟨by rw [HR.out]; rfl, HB0.out.drew⟩

set_option maxRecDepth 100000 in
set_option maxHeartbeats 2000000 in
theorem implGet_any (a0 : Option Addr) (cap : Nat) (L : List Pg) (a : ByteArray) (t : Int) (w : World) (hM : Mx w) (hI : IsRows FPg w a0 cap L) (hS : PgSz L) (hA : PgAs L) :
    Calls Tryz.prog 24 #[.slice a0 L.length cap, .string a, .int .i64 t] w fun e w' => e = .returned (.tuple #[.int .i64 (getF L a t).1, .string (getF L a t).2]) ∧ Below w.heap.size w w' := by
  have HG : Hid (getF L a t = if wOk L && decide (0 ≤ t) then kindF L a t else (0, ⟨#[]⟩)) := rfl
  have HWP : Hid _ := fun W hW hIW => worldPages_any a0 cap L W hW hIW hS hA
  generalize getF L a t = R at *
  go_enter Tryz.func24, Tryz.ntmps24
  go_wp2_with fail
  refine (HWP.out _ hM hI).mono ?_
  rintro e w1 ⟨⟨hw, b, rfl, hb, hm⟩ | ⟨hw, rfl⟩, hb1⟩
  · by_cases ht : t < 0
    · have HR : Hid (R = (0, ⟨#[]⟩)) := by show _ = _; rw [HG.out, hw, decide_eq_false (by omega)]; rfl
      clear HG HWP hI hS hA hM hw
      go_wp2
      go_ret2
      exact ⟨by rw [HR.out]; rfl, hb1⟩
    · have HR : Hid (R = kindF L a t) := by show _ = _; rw [HG.out, hw, decide_eq_true (by omega)]; rfl
      have HMP : Hid _ := hm
      clear HG HWP hI hS hA hM hw hm
      go_wp2_with fail
      refine (getAt_any b L a t _ HMP.out).mono ?_
      rintro e w2 ⟨rfl, hb2⟩
      rw [← HR.out]
      go_wp2
      go_ret2
      exact ⟨rfl, hb1.trans (hb2.mono hb1.size)⟩
  · have HR : Hid (R = (0, ⟨#[]⟩)) := by show _ = _; rw [HG.out, hw]; rfl
    clear HG HWP hI hS hA hM hw
    go_wp2
    go_ret2
    exact ⟨by rw [HR.out]; rfl, hb1⟩
end Go.Proofs.YtiennniclkbjlaaGreatDoor.Wd
/- Pages and worlds, of the model. -/
namespace Go.Proofs.YtiennniclkbjlaaGreatDoor.Wd
open Go.RowKit Go.Proofs.YtiennniclkbjlaaGreatDoor.EscM Go.Proofs.YtiennniclkbjlaaGreatDoor.AddrM Go.Proofs.YtiennniclkbjlaaGreatDoor.ReadM Go.Proofs.YtiennniclkbjlaaGreatDoor.St Go.Proofs.YtiennniclkbjlaaGreatDoor.EscL Go.Proofs.YtiennniclkbjlaaGreatDoor.PathM Go.Proofs.YtiennniclkbjlaaGreatDoor.Ad1 Go.Proofs.YtiennniclkbjlaaGreatDoor.Rd1 Go.Proofs.YtiennniclkbjlaaGreatDoor.LibM Go.Proofs.YtiennniclkbjlaaGreatDoor.Im Go.Proofs.YtiennniclkbjlaaGreatDoor.RdA Go.Proofs.YtiennniclkbjlaaGreatDoor.MkA Go.Proofs.YtiennniclkbjlaaGreatDoor.Mp Go.Proofs.YtiennniclkbjlaaGreatDoor.WdM Go.Proofs.YtiennniclkbjlaaGreatDoor.RR Go.Proofs.YtiennniclkbjlaaGreatDoor.RoPg

set_option maxRecDepth 100000 in
set_option maxHeartbeats 2000000 in
theorem specNorm_any (s : ByteArray) (w : World) (hs : s.size ≤ 4194304) :
    Calls Tryz.prog 31 #[.string s] w fun e w' => e = .returned (.bool (normT s)) ∧ Below w.heap.size w w' := by
  have HR : Hid _ := fun W => specRead_any s W hs
  have H1 : Hid (readF s.data.toList = none → normT s = false) := fun h => by rw [normT_eq, normA_none h]; rfl
  have H2 : Hid (∀ A, readF s.data.toList = some A → ((textF A).toList == s.toList) = true → normT s = true) := fun A h h2 => by rw [normT_eq, normA_yes h h2]; rfl
  have H3 : Hid (∀ A, readF s.data.toList = some A → ((textF A).toList == s.toList) = false → normT s = false) := fun A h h2 => by rw [normT_eq, normA_no h h2]; rfl
  have HBK : Hid (∀ A ok, (ok = true ∧ readF s.data.toList = some A) ∨ (ok = false ∧ readF s.data.toList = none ∧ A = zeroAd) → bulkA A ≤ 70) := fun A ok h => OB.reads_bulk h
  generalize readF s.data.toList = R at *
  generalize normT s = N at *
  go_enter Tryz.func31, Tryz.ntmps31
  go_wp2_with fail
  refine (HR.out _).mono ?_
  rintro e w1 ⟨A, ok, a1, c1, rfl, hans, hO, hb1⟩
  have hbk := HBK.out A ok hans
  have HB1 : Hid (Below w.heap.size w w1) := hb1
  have HO1 : Hid (IsStrs w1 a1 c1 A.parts) := hO.strsOf
  have HANS : Hid _ := hans
  have hz1 := hb1.size
  clear hans hO hb1 HR
  cases ok with
  | false =>
    have HN : Hid (N = false) := by
      rcases HANS.out with ⟨h, _⟩ | ⟨_, h, _⟩
      · cases h
      · exact H1.out h
    go_wp2
    go_ret
    exact ⟨ret_bool HN.out.symm, HB1.out.alloc hz1 _⟩
  | true =>
    have HY : Hid (R = some A) := by
      rcases HANS.out with ⟨_, h⟩ | ⟨h, _⟩
      · exact h
      · cases h
    go_wp2_with fail
    refine (specAddrText_any A a1 c1 _ (HO1.out.keep (alloc_keep _ _)) (by omega)).mono ?_
    rintro e w2 ⟨rfl, hb2⟩
    have HB2 : Hid (Below w.heap.size w w2) := (HB1.out.alloc hz1 _).trans (hb2.mono (by simp; omega))
    have K2 : Hid (((textF A).toList == s.toList) = true → N = true) := H2.out A HY.out
    have K3 : Hid (((textF A).toList == s.toList) = false → N = false) := H3.out A HY.out
    clear H2 H3 hb2
    generalize textF A = t at *
    cases hq : (t.toList == s.toList) with
    | true =>
      have HN : Hid (N = true) := K2.out hq
      go_wp2
      go_ret
      exact ⟨ret_bool HN.out.symm, HB2.out⟩
    | false =>
      have HN : Hid (N = false) := K3.out hq
      go_wp2
      go_ret
      exact ⟨ret_bool HN.out.symm, HB2.out⟩

theorem pgB_parts (p : Pg) : pgB p = (normT p.addr && decide (p.text.size ≤ 300) && decide (0 ≤ p.fails ∧ p.fails ≤ 9) && (p.lead.toList.isEmpty || (p.text.toList.isEmpty && normT p.lead))) := rfl

set_option maxRecDepth 100000 in
set_option maxHeartbeats 8000000 in
theorem specWorldOk_any (a0 : Option Addr) (cap : Nat) (L : List Pg) (w : World) (hI : IsRows FPg w a0 cap L) (hS : PgSz L) :
    Calls Tryz.prog 46 #[.slice a0 L.length cap] w fun e w' => e = .returned (.bool (wOk L)) ∧ Below w.heap.size w w' := by
  have hc1 := hI.1
  have hc2 := hI.2.1
  unfold maxLen at hc2
  have HI : Hid (IsRows FPg w a0 cap L) := hI
  have HS : Hid (PgSz L) := hS
  clear hI hS
  go_enter Tryz.func46, Tryz.ntmps46
  go_wp2
  go_loopw [3] (fun i wr => ∃ k : Nat, k ≤ L.length ∧ i = .int .i64 (k : Int) ∧ Hid (okTo L k = true) ∧ Hid (Below w.heap.size w wr)) (fun i _ => L.length - (intOf i).toNat)
  case atStart => exact ⟨0, Nat.zero_le _, rfl, rfl, Below.refl _ _⟩
  case round =>
    obtain ⟨k, hk, rfl, HK, HB⟩ := hrel
    by_cases hlt : k < L.length
    · obtain ⟨B, off, e1, c0, c1, c2, c3⟩ := pg_at (IsRows.below HI.out HB.out) hlt
      obtain ⟨s1, s2, s3⟩ := HS.out L[k] (List.getElem_mem _)
      subst e1
      have HBAD : Hid (pgB L[k] = false → wOk L = false) := wOk_bad hlt
      have HTW : Hid ((L.take k).any (sameA L[k].addr) = true → wOk L = false) := wOk_twice hlt
      have HON : Hid (pgB L[k] = true → (L.take k).any (sameA L[k].addr) = false → okTo L (k + 1) = true) := okTo_on hlt HK.out
      have HP : Hid _ := pgB_parts L[k]
      have HN1 : Hid _ := fun W => specNorm_any L[k].addr W s1
      have HN2 : Hid _ := fun W => specNorm_any L[k].lead W s3
      have HE : ∀ {q : Pg}, q = L[k] → True := fun _ => trivial
      clear HE HS
      generalize L[k] = p at *
      have HR : Hid (∀ wr', Below wr.heap.size wr wr' → wr'.cell? ⟨B, off + k * 4, none⟩ = some (.string p.addr) ∧ wr'.cell? ⟨B, off + k * 4 + 1, none⟩ = some (.string p.text) ∧ wr'.cell? ⟨B, off + k * 4 + 2, none⟩ = some (.string p.lead) ∧ wr'.cell? ⟨B, off + k * 4 + 3, none⟩ = some (.int .i64 p.fails)) := fun wr' h => ⟨(h.cell (cell_block c0)).trans c0, (h.cell (cell_block c1)).trans c1, (h.cell (cell_block c2)).trans c2, (h.cell (cell_block c3)).trans c3⟩
      generalize hb1 : normT p.addr = b1 at *
      generalize hb2 : normT p.lead = b2 at *
      clear hb1 hb2
      go_wp2_with fail
      refine (HN1.out _).mono ?_
      rintro e w1 ⟨rfl, hbn1⟩
      have HBW1 : Hid (Below wr.heap.size wr w1) := hbn1
      have HB1 : Hid (Below w.heap.size w w1) := HB.out.trans (hbn1.mono HB.out.size)
      clear c0 c1 c2 c3 hbn1 HN1
      obtain ⟨c0, c1, c2, c3⟩ := HR.out w1 HBW1.out
      cases b1 with
      | false =>
        have HW : Hid (wOk L = false) := HBAD.out (by rw [HP.out]; rfl)
        go_wp2
        go_ret
        exact ⟨ret_bool HW.out.symm, HB1.out⟩
      | true =>
      by_cases g1 : 300 < p.text.size
      · have HW : Hid (wOk L = false) := HBAD.out (by rw [HP.out, decide_eq_false (show ¬ p.text.size ≤ 300 by omega)]; simp)
        go_wp2
        go_ret
        exact ⟨ret_bool HW.out.symm, HB1.out⟩
      cases g2 : (decide (0 ≤ p.fails) && decide (p.fails ≤ 9)) with
      | false =>
        have HW : Hid (wOk L = false) := HBAD.out (by
          have : decide (0 ≤ p.fails ∧ p.fails ≤ 9) = false := by
            apply decide_eq_false
            intro h
            rw [decide_eq_true h.1, decide_eq_true h.2] at g2
            cases g2
          rw [HP.out, this]; simp)
        have G2 : Hid _ := g2
        clear g2
        go_wp2_with (go_at_call 57; refine (in_any _ _ _ _).mono ?_; rintro e w2 ⟨rfl, e2⟩; subst e2; rw [G2.out])
        go_wp2
        go_ret
        exact ⟨ret_bool HW.out.symm, HB1.out⟩
      | true =>
      have hf : 0 ≤ p.fails ∧ p.fails ≤ 9 := by
        rw [Bool.and_eq_true, decide_eq_true_eq, decide_eq_true_eq] at g2; exact g2
      have HP2 : Hid (pgB p = (p.lead.toList.isEmpty || (p.text.toList.isEmpty && b2))) := by
        show _ = _
        rw [HP.out, decide_eq_true (show p.text.size ≤ 300 by omega), decide_eq_true hf]; simp
      have G2 : Hid _ := g2
      clear g2 HP hf
      cases hle : p.lead.toList.isEmpty with
      | true =>
        have HOKP : Hid (pgB p = true) := by show _ = _; rw [HP2.out, hle]; rfl
        clear HP2
        go_wp2_with (go_at_call 57; refine (in_any _ _ _ _).mono ?_; rintro e w2 ⟨rfl, e2⟩; subst e2; rw [G2.out])
        have HBT : Hid (Below w.heap.size w w2) := HB1.out
        have HRT := HR.out w2 HBW1.out
        obtain ⟨e0, e1, e2, e3⟩ := HRT
        have HE0 : Hid _ := e0
        clear e0 e1 e2 e3
        go_wp2
        go_loopw [4] (fun i2 wr2 => ∃ j n : Nat, j ≤ k ∧ i2 = .int .i64 (j : Int) ∧ wr2 = w2.drewN n ∧ Hid ((L.take j).any (sameA p.addr) = false)) (fun i2 _ => k - (intOf i2).toNat)
        case atStart => exact ⟨0, 0, Nat.zero_le _, rfl, rfl, rfl⟩
        case round =>
          obtain ⟨j, n, hj, rfl, rfl, HJ⟩ := hrel
          by_cases hjk : j < k
          · have hjl : j < L.length := by omega
            obtain ⟨b2, o2, ea, f0, _, _, _⟩ := pg_at (IsRows.below HI.out HBT.out) hjl
            injection ea with ea
            injection ea with ea1 ea2
            subst ea1
            subst ea2
            have g0 : (w2.drewN n).cell? ⟨B, off + j * 4, none⟩ = some (.string L[j].addr) := f0
            have g1 : (w2.drewN n).cell? ⟨B, off + k * 4, none⟩ = some (.string p.addr) := HE0.out
            have hi1 : (j : Int) < (L.length : Int) := by omega
            have hi2 : (k : Int) < (L.length : Int) := by omega
            have hi3 : (j : Int) < (k : Int) := by omega
            cases hsm : (L[j].addr.toList == p.addr.toList) with
            | true =>
              have HW : Hid (wOk L = false) := HTW.out (any_hit _ hjl hjk hsm)
              go_wp2
              go_quiet (fail)
              go_wp2
              go_ret
              exact ⟨ret_bool HW.out.symm, below_drewN (below_drewN HBT.out _) _⟩
            | false =>
              have HJ1 : Hid ((L.take (j + 1)).any (sameA p.addr) = false) := any_step _ hjl HJ.out hsm
              go_wp2
              go_quiet (fail)
              go_wp2
              go_roundw
              case rel => exact ⟨j + 1, n + nq, by omega, by go_num, by simp, HJ1⟩
              case measure => simp [intOf]; omega
          · have ej : j = k := by omega
            subst ej
            have HK1 : Hid (okTo L (j + 1) = true) := HON.out HOKP.out HJ.out
            have HBN2 : Hid (Below w.heap.size w (w2.drewN n)) := below_drewN HBT.out n
            generalize w2.drewN n = wz at *
            go_wp2
            go_roundw
            case rel => exact ⟨j + 1, by omega, by go_num, HK1, HBN2⟩
            case measure => simp [intOf]; omega
      | false =>
        cases hte : p.text.toList.isEmpty with
        | false =>
          have HW : Hid (wOk L = false) := HBAD.out (by rw [HP2.out, hle, hte]; rfl)
          go_wp2_with (go_at_call 57; refine (in_any _ _ _ _).mono ?_; rintro e w2 ⟨rfl, e2⟩; subst e2; rw [G2.out])
          go_wp2
          go_ret
          exact ⟨ret_bool HW.out.symm, HB1.out⟩
        | true =>
          go_wp2_with (go_at_call 57; refine (in_any _ _ _ _).mono ?_; rintro e w2 ⟨rfl, e2⟩; subst e2; rw [G2.out])
          go_wp2_with fail
          refine (HN2.out _).mono ?_
          rintro e w3 ⟨rfl, hbn2⟩
          have HBW3 : Hid (Below wr.heap.size wr w3) := HBW1.out.trans (hbn2.mono HBW1.out.size)
          have HB3 : Hid (Below w.heap.size w w3) := HB1.out.trans (hbn2.mono HB1.out.size)
          clear hbn2 c0 c1 c2 c3
          obtain ⟨c0, c1, c2, c3⟩ := HR.out w3 HBW3.out
          cases b2 with
          | false =>
            have HW : Hid (wOk L = false) := HBAD.out (by rw [HP2.out, hle, hte]; rfl)
            go_wp2
            go_ret
            exact ⟨ret_bool HW.out.symm, HB3.out⟩
          | true =>
            have HOKP : Hid (pgB p = true) := by show _ = _; rw [HP2.out, hle, hte]; rfl
            clear HP2
            have HBT : Hid (Below w.heap.size w w3) := HB3.out
            have HRT := HR.out w3 HBW3.out
            obtain ⟨e0, e1, e2, e3⟩ := HRT
            have HE0 : Hid _ := e0
            clear e0 e1 e2 e3
            go_wp2
            go_loopw [4] (fun i2 wr2 => ∃ j n : Nat, j ≤ k ∧ i2 = .int .i64 (j : Int) ∧ wr2 = w3.drewN n ∧ Hid ((L.take j).any (sameA p.addr) = false)) (fun i2 _ => k - (intOf i2).toNat)
            case atStart => exact ⟨0, 0, Nat.zero_le _, rfl, rfl, rfl⟩
            case round =>
              obtain ⟨j, n, hj, rfl, rfl, HJ⟩ := hrel
              by_cases hjk : j < k
              · have hjl : j < L.length := by omega
                obtain ⟨b2, o2, ea, f0, _, _, _⟩ := pg_at (IsRows.below HI.out HBT.out) hjl
                injection ea with ea
                injection ea with ea1 ea2
                subst ea1
                subst ea2
                have g0 : (w3.drewN n).cell? ⟨B, off + j * 4, none⟩ = some (.string L[j].addr) := f0
                have g1 : (w3.drewN n).cell? ⟨B, off + k * 4, none⟩ = some (.string p.addr) := HE0.out
                have hi1 : (j : Int) < (L.length : Int) := by omega
                have hi2 : (k : Int) < (L.length : Int) := by omega
                have hi3 : (j : Int) < (k : Int) := by omega
                cases hsm : (L[j].addr.toList == p.addr.toList) with
                | true =>
                  have HW : Hid (wOk L = false) := HTW.out (any_hit _ hjl hjk hsm)
                  go_wp2
                  go_quiet (fail)
                  go_wp2
                  go_ret
                  exact ⟨ret_bool HW.out.symm, below_drewN (below_drewN HBT.out _) _⟩
                | false =>
                  have HJ1 : Hid ((L.take (j + 1)).any (sameA p.addr) = false) := any_step _ hjl HJ.out hsm
                  go_wp2
                  go_quiet (fail)
                  go_wp2
                  go_roundw
                  case rel => exact ⟨j + 1, n + nq, by omega, by go_num, by simp, HJ1⟩
                  case measure => simp [intOf]; omega
              · have ej : j = k := by omega
                subst ej
                have HK1 : Hid (okTo L (j + 1) = true) := HON.out HOKP.out HJ.out
                have HBN2 : Hid (Below w.heap.size w (w3.drewN n)) := below_drewN HBT.out n
                generalize w3.drewN n = wz at *
                go_wp2
                go_roundw
                case rel => exact ⟨j + 1, by omega, by go_num, HK1, HBN2⟩
                case measure => simp [intOf]; omega
    · have e1 : k = L.length := by omega
      subst e1
      by_cases h12 : L.length ≤ 12
      · have HW : Hid (wOk L = true) := by show _ = _; unfold wOk; rw [HK.out, decide_eq_true h12]; rfl
        go_wp2
        go_ret
        exact ⟨ret_bool (by rw [HW.out]; simp; omega), HB.out⟩
      · have HW : Hid (wOk L = false) := wOk_long h12
        go_wp2
        go_ret
        exact ⟨ret_bool (by rw [HW.out]; simp; omega), HB.out⟩

/-- the page there, or nothing -/
def atP (L : List Pg) (a : ByteArray) : Pg := match L.find? (sameA a) with | some p => p | none => ⟨⟨#[]⟩, ⟨#[]⟩, ⟨#[]⟩, 0⟩
set_option maxRecDepth 100000 in
set_option maxHeartbeats 4000000 in
theorem specAt_any (a0 : Option Addr) (cap : Nat) (L : List Pg) (a : ByteArray) (w : World) (hI : IsRows FPg w a0 cap L) :
    Calls Tryz.prog 99 #[.slice a0 L.length cap, .string a] w fun e w' => e = .returned (.tuple #[.agg #[.string (atP L a).addr, .string (atP L a).text, .string (atP L a).lead, .int .i64 (atP L a).fails], .bool (L.find? (sameA a)).isSome]) ∧ Below w.heap.size w w' := by
  have hc1 := hI.1
  have hc2 := hI.2.1
  unfold maxLen at hc2
  have HI : Hid (IsRows FPg w a0 cap L) := hI
  have HP : Hid (atP L a = match L.find? (sameA a) with | some p => p | none => ⟨⟨#[]⟩, ⟨#[]⟩, ⟨#[]⟩, 0⟩) := rfl
  have HF0 : Hid (L.any (sameA a) = false → L.find? (sameA a) = none) := find_none _
  have HF1 : Hid (∀ j (hj : j < L.length), (L.take j).any (sameA a) = false → sameA a L[j] = true → L.find? (sameA a) = some L[j]) := fun j hj => find_hit _ hj
  clear hI
  generalize atP L a = R at *
  generalize L.find? (sameA a) = F at *
  go_enter Tryz.func99, Tryz.ntmps99
  go_wp2
  go_loopw [6] (fun i wr => ∃ j : Nat, j ≤ L.length ∧ i = .int .i64 (j : Int) ∧ Hid ((L.take j).any (sameA a) = false) ∧ wr = w.alloc (.cells #[.string ⟨#[]⟩, .string ⟨#[]⟩, .string ⟨#[]⟩, .int .i64 0] 112)) (fun i _ => L.length - (intOf i).toNat)
  case atStart => exact ⟨0, Nat.zero_le _, rfl, rfl, rfl⟩
  case round =>
    obtain ⟨j, hj, rfl, HJ, rfl⟩ := hrel
    by_cases hjl : j < L.length
    · obtain ⟨B, off, ea, c0, c1, c2, c3⟩ := pg_at (IsRows.keep HI.out (alloc_keep w (.cells #[.string ⟨#[]⟩, .string ⟨#[]⟩, .string ⟨#[]⟩, .int .i64 0] 112))) hjl
      subst ea
      have HH := HF1.out j hjl HJ.out
      have HS1 : Hid (sameA a L[j] = false → (L.take (j + 1)).any (sameA a) = false) := any_step _ hjl HJ.out
      have HS2 : Hid (sameA a L[j] = (L[j].addr.toList == a.toList)) := rfl
      generalize L[j] = p at *
      cases hs : (p.addr.toList == a.toList) with
      | true =>
        have HFF : Hid (F = some p) := HH (by rw [HS2.out]; exact hs)
        have HRP : Hid (R = p) := by show _ = _; rw [HP.out, HFF.out]
        go_wp2
        refine bodyPost_ret (v := .tuple #[.agg #[.string p.addr, .string p.text, .string p.lead, .int .i64 p.fails], .bool true]) (by simp [results, Tryz.results99, go_sem]) rfl ?_
        refine ⟨by rw [HRP.out, HFF.out]; rfl, ?_⟩
        exact (Below.refl _ w).alloc (Nat.le_refl _) _
      | false =>
        have HJ1 : Hid ((L.take (j + 1)).any (sameA a) = false) := HS1.out (by rw [HS2.out]; exact hs)
        go_wp2
        go_roundw
        case rel => exact ⟨j + 1, by omega, by go_num, HJ1, by trivial⟩
        case measure => simp [intOf]; omega
    · have ej : j = L.length := by omega
      subst ej
      rw [List.take_length] at HJ
      have HFF : Hid (F = none) := HF0.out HJ.out
      have HRP : Hid (R = ⟨⟨#[]⟩, ⟨#[]⟩, ⟨#[]⟩, 0⟩) := by show _ = _; rw [HP.out, HFF.out]
      go_wp2
      refine bodyPost_ret (v := .tuple #[.agg #[.string ⟨#[]⟩, .string ⟨#[]⟩, .string ⟨#[]⟩, .int .i64 0], .bool false]) (by simp [results, Tryz.results99, go_sem]) rfl ?_
      refine ⟨by rw [HRP.out, HFF.out]; rfl, ?_⟩
      exact (Below.refl _ w).alloc (Nat.le_refl _) _
end Go.Proofs.YtiennniclkbjlaaGreatDoor.Wd
