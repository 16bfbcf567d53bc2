/- AddrRead and AddrJoin of both sides, of texts and addresses of any size. -/
import Derived.Test.YtcohaalgefcjnaaGreatDoorDraw5Pk
import Derived.Test.YtcohaalgefcjnaaGreatDoorJoin2
import Derived.Test.YtcohaalgefcjnaaGreatDoorRead3Pk
namespace Go.Proofs.YtcohaalgefcjnaaGreatDoor.RdA
open Go.RowKit Go.Proofs.YtcohaalgefcjnaaGreatDoor.EscM Go.Proofs.YtcohaalgefcjnaaGreatDoor.AddrM Go.Proofs.YtcohaalgefcjnaaGreatDoor.ReadM Go.Proofs.YtcohaalgefcjnaaGreatDoor.St Go.Proofs.YtcohaalgefcjnaaGreatDoor.EscL Go.Proofs.YtcohaalgefcjnaaGreatDoor.PathM Go.Proofs.YtcohaalgefcjnaaGreatDoor.Ad1 Go.Proofs.YtcohaalgefcjnaaGreatDoor.Rd1 Go.Proofs.YtcohaalgefcjnaaGreatDoor.LibM Go.Proofs.YtcohaalgefcjnaaGreatDoor.Im Go.Proofs.YtcohaalgefcjnaaGreatDoor.JnM

/-- both sides read the same -/
theorem ans_same {R : Option Ad} {A B : Ad} {ok ok2 : Bool} (h : (ok = true ∧ R = some A) ∨ (ok = false ∧ R = none ∧ A = zeroAd)) (h2 : (ok2 = true ∧ R = some B) ∨ (ok2 = false ∧ R = none ∧ B = zeroAd)) : B = A ∧ ok2 = ok := by
  rcases h with ⟨h, e⟩ | ⟨h, e, z⟩ <;> rcases h2 with ⟨h2, e2⟩ | ⟨h2, e2, z2⟩
  · rw [e] at e2; exact ⟨(Option.some.inj e2).symm, by rw [h, h2]⟩
  · rw [e] at e2; cases e2
  · rw [e] at e2; cases e2
  · exact ⟨by rw [z, z2], by rw [h, h2]⟩

set_option maxRecDepth 100000 in
set_option maxHeartbeats 2000000 in
theorem implRead_all (raw : ByteArray) (w : World) (hM : Mx w) (hr : raw.size ≤ 4194304) (ha : ascii raw) :
    Calls Tryz.prog 12 #[.string raw] w fun e w' => Reads (readF raw.data.toList) w e w' := by
  by_cases h : raw.size ≤ 60
  · exact implRead_ascii raw w hM h ha
  · have hl : raw.data.toList.length = raw.size := by simp
    have HN : Hid (readF raw.data.toList = none) := read_long (by omega)
    clear hl
    go_enter Tryz.func12, Tryz.ntmps12
    go_wp2
    refine bodyPost_ret (v := .tuple #[.agg #[.string ⟨#[]⟩, .slice none 0 0, .bool false, .string ⟨#[]⟩], .bool false]) (by simp [results, Tryz.results12, go_sem]) rfl ?_
    refine ⟨zeroAd, false, none, 0, rfl, Or.inr ⟨rfl, HN.out, rfl⟩, Owns.nil _ _, ?_⟩
    have hbw : Below w.heap.size w (w.alloc (.cells #[.string ⟨#[]⟩, .slice none 0 0, .bool false, .string ⟨#[]⟩] 28)) := (Below.refl _ w).alloc (Nat.le_refl _) _
    exact hbw

theorem join_long {A : Ad} {l : List UInt8} (h : 60 < l.length) : joinF A l = none := by
  unfold joinF
  cases okB A with
  | false => rfl
  | true => rw [if_pos h]; rfl
theorem bulk_bad {A : Ad} (h : ¬ bulkA A ≤ 1000) : okB A = false := by
  cases hk : okB A with
  | false => rfl
  | true => exact absurd (OB.ok_bulk hk) (by omega)

set_option maxRecDepth 100000 in
set_option maxHeartbeats 2000000 in
theorem implJoin_all (A : Ad) (ref : ByteArray) (a0 : Option Addr) (cap : Nat) (w : World) (hM : Mx w) (hS : IsStrs w a0 cap A.parts) (hB : bulkA A ≤ 4194304) (hr : ref.size ≤ 4194304) (ha : ascii ref) :
    Calls Tryz.prog 49 #[.agg #[.string A.house, .slice a0 A.parts.length cap, .bool A.asks, .string A.ask], .string ref] w fun e w' => Reads (joinF A ref.data.toList) w e w' := by
  by_cases h : ref.size ≤ 60 ∧ bulkA A ≤ 1000
  · exact implJoin_ascii A ref a0 cap w hM hS h.2 h.1 ha
  · have hl : ref.data.toList.length = ref.size := by simp
    have hno : okB A = false ∨ (okB A = true ∧ 60 < ref.size) := by
      by_cases hk : bulkA A ≤ 1000
      · cases ho : okB A with
        | false => exact Or.inl rfl
        | true => exact Or.inr ⟨rfl, by omega⟩
      · exact Or.inl (bulk_bad hk)
    have HN : Hid (joinF A ref.data.toList = none) := by
      show _ = _
      rcases hno with e | ⟨_, e⟩
      · exact join_bad e
      · exact join_long (by omega)
    generalize joinF A ref.data.toList = R at *
    have HS : Hid (IsStrs w a0 cap A.parts) := hS
    clear h hl hM hS
    go_enter Tryz.func49, Tryz.ntmps49
    go_wp2_with fail
    refine (implOk_any A a0 cap _ (HS.out.keep (fun k hk => by rw [alloc_keep _ _ k (by simp; omega), alloc_keep _ _ k hk])) hB).mono ?_
    rintro e w1 ⟨rfl, hb1⟩
    have HB1 : Hid (Below (w.heap.size + 1 + 1) ((w.alloc (.cells #[.string A.house, .slice a0 A.parts.length cap, .bool A.asks, .string A.ask] 28)).alloc (.cells #[.string ⟨#[]⟩, .slice none 0 0, .bool false, .string ⟨#[]⟩] 28)) w1) := hb1.mono (by simp)
    have hb1' := HB1.out
    obtain ⟨⟨c0, c1, c2, c3⟩, ⟨d0, d1, d2, d3⟩, dz⟩ := two_cells hb1'
    clear hb1 hb1'
    rcases hno with e | ⟨e, hlen⟩
    · rw [e]
      clear e
      go_wp2
      refine bodyPost_ret (v := .tuple #[.agg #[.string ⟨#[]⟩, .slice none 0 0, .bool false, .string ⟨#[]⟩], .bool false]) (by simp [results, Tryz.results49, go_sem, d0, d1, d2, d3]) rfl ?_
      refine ⟨zeroAd, false, none, 0, rfl, Or.inr ⟨rfl, HN.out, rfl⟩, Owns.nil _ _, ?_⟩
      have hbw := two_below HB1.out
      iterate 4 refine Below.setCell ?_ (by dsimp only; omega) _
      exact hbw
    · rw [e]
      clear e
      go_wp2
      refine bodyPost_ret (v := .tuple #[.agg #[.string ⟨#[]⟩, .slice none 0 0, .bool false, .string ⟨#[]⟩], .bool false]) (by simp [results, Tryz.results49, go_sem, d0, d1, d2, d3]) rfl ?_
      refine ⟨zeroAd, false, none, 0, rfl, Or.inr ⟨rfl, HN.out, rfl⟩, Owns.nil _ _, ?_⟩
      have hbw := two_below HB1.out
      iterate 4 refine Below.setCell ?_ (by dsimp only; omega) _
      exact hbw

set_option maxRecDepth 100000 in
set_option maxHeartbeats 2000000 in
theorem specJoin_all (A : Ad) (ref : ByteArray) (a0 : Option Addr) (cap : Nat) (w : World) (hS : IsStrs w a0 cap A.parts) (hB : bulkA A ≤ 4194304) (hr : ref.size ≤ 4194304) :
    Calls Tryz.prog 116 #[.agg #[.string A.house, .slice a0 A.parts.length cap, .bool A.asks, .string A.ask], .string ref] w fun e w' => Reads (joinF A ref.data.toList) w e w' := by
  by_cases h : ref.size ≤ 60 ∧ bulkA A ≤ 1000
  · exact Jn.specJoin_any A ref a0 cap w hS h.2 h.1
  · have hl : ref.data.toList.length = ref.size := by simp
    have hno : okB A = false ∨ (okB A = true ∧ 60 < ref.size) := by
      by_cases hk : bulkA A ≤ 1000
      · cases ho : okB A with
        | false => exact Or.inl rfl
        | true => exact Or.inr ⟨rfl, by omega⟩
      · exact Or.inl (bulk_bad hk)
    have HN : Hid (joinF A ref.data.toList = none) := by
      show _ = _
      rcases hno with e | ⟨_, e⟩
      · exact join_bad e
      · exact join_long (by omega)
    have HC : Hid _ := fun W => specCut_any ref 35 W (by omega) (by omega) (by omega)
    generalize bs (cutL 35 ref.data.toList).1 = t at *
    generalize bs (cutL 35 ref.data.toList).2.1 = u at *
    generalize (cutL 35 ref.data.toList).2.2 = z at *
    generalize joinF A ref.data.toList = R at *
    have HS : Hid (IsStrs w a0 cap A.parts) := hS
    clear h hl hS
    go_enter Tryz.func116, Tryz.ntmps116
    go_wp2_with fail
    refine (HC.out _).mono ?_
    rintro e w0 ⟨rfl, nq, hw0⟩
    have HB0 : Hid (Below (w.heap.size + 1 + 1) ((w.alloc (.cells #[.string A.house, .slice a0 A.parts.length cap, .bool A.asks, .string A.ask] 28)).alloc (.cells #[.string ⟨#[]⟩, .slice none 0 0, .bool false, .string ⟨#[]⟩] 28)) w0) := by subst hw0; exact below_drewN (Below.refl _ _) nq
    have hb0' := HB0.out
    obtain ⟨⟨c0, c1, c2, c3⟩, ⟨d0, d1, d2, d3⟩, dz⟩ := two_cells hb0'
    have hz0' : w.heap.size + 1 + 1 ≤ w0.heap.size := by have := hb0'.size; simp at this; omega
    clear hw0 hb0' HC
    go_wp2_with fail
    refine (specOk_any A a0 cap _ (HS.out.below (two_below HB0.out)) hB).mono ?_
    rintro e w2 ⟨rfl, hb2⟩
    have HB2 : Hid _ := two_next HB0.out hb2
    clear hb2 HB0 c0 c1 c2 c3 d0 d1 d2 d3 dz
    have hb2' := HB2.out
    obtain ⟨⟨c0, c1, c2, c3⟩, ⟨d0, d1, d2, d3⟩, dz⟩ := two_cells hb2'
    clear hb2'
    rcases hno with e | ⟨e, hlen⟩
    · rw [e]
      clear e
      go_wp2
      refine bodyPost_ret (v := .tuple #[.agg #[.string ⟨#[]⟩, .slice none 0 0, .bool false, .string ⟨#[]⟩], .bool false]) (by simp [results, Tryz.results116, go_sem, d0, d1, d2, d3]) rfl ?_
      refine ⟨zeroAd, false, none, 0, rfl, Or.inr ⟨rfl, HN.out, rfl⟩, Owns.nil _ _, ?_⟩
      have hbw := two_below HB2.out
      iterate 4 refine Below.setCell ?_ (by dsimp only; omega) _
      exact hbw
    · rw [e]
      clear e
      go_wp2
      refine bodyPost_ret (v := .tuple #[.agg #[.string ⟨#[]⟩, .slice none 0 0, .bool false, .string ⟨#[]⟩], .bool false]) (by simp [results, Tryz.results116, go_sem, d0, d1, d2, d3]) rfl ?_
      refine ⟨zeroAd, false, none, 0, rfl, Or.inr ⟨rfl, HN.out, rfl⟩, Owns.nil _ _, ?_⟩
      have hbw := two_below HB2.out
      iterate 4 refine Below.setCell ?_ (by dsimp only; omega) _
      exact hbw
end Go.Proofs.YtcohaalgefcjnaaGreatDoor.RdA
