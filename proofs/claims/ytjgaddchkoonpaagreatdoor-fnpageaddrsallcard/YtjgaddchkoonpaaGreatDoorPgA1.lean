/- Where pages lead: mathematics, and joins by texts of any length. -/
import Derived.Test.YtjgaddchkoonpaaGreatDoorDraw10
import Derived.Test.YtjgaddchkoonpaaGreatDoorPage4
import Derived.Test.YtjgaddchkoonpaaGreatDoorPage5
namespace Go.Proofs.YtjgaddchkoonpaaGreatDoor.PgA
open Go.RowKit Go.Proofs.YtjgaddchkoonpaaGreatDoor.EscM Go.Proofs.YtjgaddchkoonpaaGreatDoor.St Go.Proofs.YtjgaddchkoonpaaGreatDoor.AddrM Go.Proofs.YtjgaddchkoonpaaGreatDoor.ReadM Go.Proofs.YtjgaddchkoonpaaGreatDoor.EscL Go.Proofs.YtjgaddchkoonpaaGreatDoor.Ad1 Go.Proofs.YtjgaddchkoonpaaGreatDoor.Dr Go.Proofs.YtjgaddchkoonpaaGreatDoor.Im Go.Proofs.YtjgaddchkoonpaaGreatDoor.Rd1 Go.Proofs.YtjgaddchkoonpaaGreatDoor.Door Go.Proofs.YtjgaddchkoonpaaGreatDoor.JnM Go.Proofs.YtjgaddchkoonpaaGreatDoor.Jn Go.Proofs.YtjgaddchkoonpaaGreatDoor.PgM Go.Proofs.YtjgaddchkoonpaaGreatDoor.RB

theorem join_long {A : Ad} {l : List UInt8} (h : 60 < l.length) : joinF A l = none := by
  unfold joinF
  cases okB A with
  | false => rfl
  | true => rw [if_pos h]; rfl

set_option maxRecDepth 100000 in
set_option maxHeartbeats 3200000 in
theorem implJoin_long (A : Ad) (ref : ByteArray) (a0 : Option Addr) (cap : Nat) (w : World) (hS : IsStrs w a0 cap A.parts) (hB : bulkA A ≤ 1000) (hr : 60 < ref.size) (hm : ref.size ≤ 1000000) :
    Calls Tryz.prog 10 #[.agg #[.string A.house, .slice a0 A.parts.length cap, .bool A.asks, .string A.ask], .string ref] w fun e w' => Reads (joinF A ref.data.toList) w e w' := by
  have HN : Hid (joinF A ref.data.toList = none) := join_long (by simp; exact hr)
  have HS : Hid (IsStrs w a0 cap A.parts) := hS
  have hb4 : bulkA A ≤ 4194304 := by omega
  clear hS
  generalize joinF A ref.data.toList = R at *
  go_enter Tryz.func10, Tryz.ntmps10
  go_wp2_with fail
  refine (implOk_any A a0 cap _ (HS.out.keep (fun k hk => by rw [alloc_keep _ _ k (by simp; omega), alloc_keep _ _ k hk])) hb4).mono ?_
  rintro e w1 ⟨rfl, hb1⟩
  have HB1 : Hid (Below (w.heap.size + 1 + 1) ((w.alloc (.cells #[.string A.house, .slice a0 A.parts.length cap, .bool A.asks, .string A.ask] 25)).alloc (.cells #[.string ⟨#[]⟩, .slice none 0 0, .bool false, .string ⟨#[]⟩] 25)) w1) := hb1.mono (by simp)
  have hb1' := HB1.out
  obtain ⟨⟨c0, c1, c2, c3⟩, ⟨d0, d1, d2, d3⟩, dz⟩ := two_cells hb1'
  clear hb1 hb1'
  cases hok : okB A with
  | false =>
    go_wp2
    refine bodyPost_ret (v := .tuple #[.agg #[.string ⟨#[]⟩, .slice none 0 0, .bool false, .string ⟨#[]⟩], .bool false]) (by simp [results, Tryz.results10, go_sem, d0, d1, d2, d3]) rfl ?_
    refine ⟨zeroAd, false, none, 0, rfl, Or.inr ⟨rfl, HN.out, rfl⟩, Owns.nil _ _, ?_⟩
    have hbw := two_below HB1.out
    iterate 4 refine Below.setCell ?_ (by dsimp only; omega) _
    exact hbw
  | true =>
    go_wp2
    refine bodyPost_ret (v := .tuple #[.agg #[.string ⟨#[]⟩, .slice none 0 0, .bool false, .string ⟨#[]⟩], .bool false]) (by simp [results, Tryz.results10, go_sem, d0, d1, d2, d3]) rfl ?_
    refine ⟨zeroAd, false, none, 0, rfl, Or.inr ⟨rfl, HN.out, rfl⟩, Owns.nil _ _, ?_⟩
    have hbw := two_below HB1.out
    iterate 4 refine Below.setCell ?_ (by dsimp only; omega) _
    exact hbw

set_option maxRecDepth 100000 in
set_option maxHeartbeats 3200000 in
theorem specJoin_long (A : Ad) (ref : ByteArray) (a0 : Option Addr) (cap : Nat) (w : World) (hS : IsStrs w a0 cap A.parts) (hB : bulkA A ≤ 1000) (hr : 60 < ref.size) (hm : ref.size ≤ 1000000) :
    Calls Tryz.prog 21 #[.agg #[.string A.house, .slice a0 A.parts.length cap, .bool A.asks, .string A.ask], .string ref] w fun e w' => Reads (joinF A ref.data.toList) w e w' := by
  have HN : Hid (joinF A ref.data.toList = none) := join_long (by simp; exact hr)
  have HS : Hid (IsStrs w a0 cap A.parts) := hS
  have hb4 : bulkA A ≤ 4194304 := by omega
  have HC : Hid _ := fun W => specCut_any ref 35 W (by omega) (by omega) (by omega)
  clear hS
  generalize bs (cutL 35 ref.data.toList).1 = t at *
  generalize bs (cutL 35 ref.data.toList).2.1 = u at *
  generalize (cutL 35 ref.data.toList).2.2 = z at *
  generalize joinF A ref.data.toList = R at *
  go_enter Tryz.func21, Tryz.ntmps21
  go_wp2_with fail
  refine (HC.out _).mono ?_
  rintro e w0 ⟨rfl, nq, hw0⟩
  have HB0 : Hid (Below (w.heap.size + 1 + 1) ((w.alloc (.cells #[.string A.house, .slice a0 A.parts.length cap, .bool A.asks, .string A.ask] 25)).alloc (.cells #[.string ⟨#[]⟩, .slice none 0 0, .bool false, .string ⟨#[]⟩] 25)) w0) := by subst hw0; exact below_drewN (Below.refl _ _) nq
  have hb0' := HB0.out
  obtain ⟨⟨c0, c1, c2, c3⟩, ⟨d0, d1, d2, d3⟩, dz⟩ := two_cells hb0'
  clear hw0 hb0' HC
  go_wp2_with fail
  refine (specOk_any A a0 cap _ (HS.out.below (two_below HB0.out)) hb4).mono ?_
  rintro e w2 ⟨rfl, hb2⟩
  have HB2 : Hid _ := two_next HB0.out hb2
  clear hb2 HB0 c0 c1 c2 c3 d0 d1 d2 d3 dz
  have hb2' := HB2.out
  obtain ⟨⟨c0, c1, c2, c3⟩, ⟨d0, d1, d2, d3⟩, dz⟩ := two_cells hb2'
  clear hb2'
  cases hok : okB A with
  | false =>
    go_wp2
    refine bodyPost_ret (v := .tuple #[.agg #[.string ⟨#[]⟩, .slice none 0 0, .bool false, .string ⟨#[]⟩], .bool false]) (by simp [results, Tryz.results21, go_sem, d0, d1, d2, d3]) rfl ?_
    refine ⟨zeroAd, false, none, 0, rfl, Or.inr ⟨rfl, HN.out, rfl⟩, Owns.nil _ _, ?_⟩
    have hbw := two_below HB2.out
    iterate 4 refine Below.setCell ?_ (by dsimp only; omega) _
    exact hbw
  | true =>
    go_wp2
    refine bodyPost_ret (v := .tuple #[.agg #[.string ⟨#[]⟩, .slice none 0 0, .bool false, .string ⟨#[]⟩], .bool false]) (by simp [results, Tryz.results21, go_sem, d0, d1, d2, d3]) rfl ?_
    refine ⟨zeroAd, false, none, 0, rfl, Or.inr ⟨rfl, HN.out, rfl⟩, Owns.nil _ _, ?_⟩
    have hbw := two_below HB2.out
    iterate 4 refine Below.setCell ?_ (by dsimp only; omega) _
    exact hbw

theorem implJoin_page (A : Ad) (ref : ByteArray) (a0 : Option Addr) (cap : Nat) (w : World) (hM : Mx w) (hS : IsStrs w a0 cap A.parts) (hB : bulkA A ≤ 1000) (hr : ref.size ≤ 300) (ha : ascii ref) :
    Calls Tryz.prog 10 #[.agg #[.string A.house, .slice a0 A.parts.length cap, .bool A.asks, .string A.ask], .string ref] w fun e w' => Reads (joinF A ref.data.toList) w e w' := by
  by_cases h : ref.size ≤ 60
  · exact implJoin_ascii A ref a0 cap w hM hS hB h ha
  · exact implJoin_long A ref a0 cap w hS hB (by omega) (by omega)
theorem specJoin_page (A : Ad) (ref : ByteArray) (a0 : Option Addr) (cap : Nat) (w : World) (hS : IsStrs w a0 cap A.parts) (hB : bulkA A ≤ 1000) (hr : ref.size ≤ 300) :
    Calls Tryz.prog 21 #[.agg #[.string A.house, .slice a0 A.parts.length cap, .bool A.asks, .string A.ask], .string ref] w fun e w' => Reads (joinF A ref.data.toList) w e w' := by
  by_cases h : ref.size ≤ 60
  · exact specJoin_any A ref a0 cap w hS hB h
  · exact specJoin_long A ref a0 cap w hS hB (by omega) (by omega)

/-- from where links of a page lead -/
def fromF (A : Ad) (t : ByteArray) : Ad := if (baseF t).2 then (match joinF A (baseF t).1.data.toList with | some B => B | none => A) else A
def putL (L : List ByteArray) (x : ByteArray) : List ByteArray := if hasB x L then L else L ++ [x]
def pageStep (B : Ad) (acc : List ByteArray) (l : ByteArray) : List ByteArray := match joinF B l.data.toList with | some C => putL acc (textF C) | none => acc
def pageL (B : Ad) (links : List ByteArray) : List ByteArray := links.foldl (pageStep B) []
/-- where one comes from a page -/
def pageF (A : Ad) (t : ByteArray) : List ByteArray := if okB A then pageL (fromF A t) (linksF t) else []
theorem page_bad {A : Ad} {t : ByteArray} (h : okB A = false) : pageF A t = [] := by unfold pageF; rw [h]; rfl
theorem page_ok {A : Ad} {t : ByteArray} (h : okB A = true) : pageF A t = pageL (fromF A t) (linksF t) := by unfold pageF; rw [h]; rfl
theorem from_ok {A : Ad} {t : ByteArray} (h : okB A = true) : okB (fromF A t) = true := by
  unfold fromF
  split
  · split
    · rename_i B hj; exact join_ok hj
    · exact h
  · exact h
theorem from_bulk {A : Ad} {t : ByteArray} (h : okB A = true) : bulkA (fromF A t) ≤ 1000 := (ok_sum (from_ok h)).2
theorem page_snoc {B : Ad} {L : List ByteArray} {k : Nat} (h : k < L.length) : pageL B (L.take (k + 1)) = pageStep B (pageL B (L.take k)) L[k] := by
  unfold pageL
  rw [List.take_succ_eq_append_getElem h, List.foldl_append]; rfl
theorem put_len (L : List ByteArray) (x : ByteArray) : (putL L x).length ≤ L.length + 1 := by unfold putL; split <;> simp
theorem step_len (B : Ad) (L : List ByteArray) (x : ByteArray) : (pageStep B L x).length ≤ L.length + 1 := by
  unfold pageStep; split
  · exact put_len _ _
  · omega
theorem pageL_len (B : Ad) : ∀ (L acc : List ByteArray), (L.foldl (pageStep B) acc).length ≤ acc.length + L.length := by
  intro L
  induction L with
  | nil => intro acc; simp
  | cons x L ih => intro acc; have := ih (pageStep B acc x); have := step_len B acc x; simp only [List.foldl_cons, List.length_cons]; omega
theorem ascii_mk : ∀ (r : List UInt8) (p : Nat) (m : List UInt8), (∀ b ∈ m, b.toNat < 128) → (∀ b ∈ r, b.toNat < 128) → ∀ s ∈ mk p m r, ∀ b ∈ s.data.toList, b.toNat < 128 := by
  intro r
  induction r with
  | nil => intro p m _ _ s hs; cases hs
  | cons c r ih =>
    intro p m hm hr s hs b hb
    rw [mk_cons] at hs
    have hc := hr c (by simp)
    have hr' : ∀ b ∈ r, b.toNat < 128 := fun b hb => hr b (by simp [hb])
    rcases List.mem_append.1 hs with hs | hs
    · unfold outM at hs
      split at hs
      · simp at hs; subst hs
        exact hm b (by simpa [bs] using hb)
      · cases hs
    · refine ih _ _ ?_ hr' s hs b hb
      intro x hx
      unfold nextM at hx
      split at hx
      · split at hx
        · exact hm x hx
        · rcases List.mem_append.1 hx with hx | hx
          · exact hm x hx
          · simp at hx; subst hx; exact hc
      · split at hx
        · exact hm x hx
        · split at hx
          · cases hx
          · exact hm x hx
theorem marks_ascii {t : ByteArray} (h : asciiB t = true) : ∀ x ∈ marksF t, ascii x := by
  intro x hx
  unfold marksF at hx
  split at hx
  · cases hx
  · rw [ascii_mem]
    exact ascii_mk _ 0 [] (by simp) (fun b hb => (ascii_mem.1 (ascii_of h)) b hb) x hx
theorem links_ascii {t : ByteArray} (h : asciiB t = true) : ∀ x ∈ linksF t, ascii x := fun x hx => marks_ascii h x (List.mem_filter.1 hx).1
theorem base_ascii {t : ByteArray} (h : asciiB t = true) : ascii (baseF t).1 := by
  unfold baseF baseL
  cases hf : (marksF t).find? (headIs 64) with
  | none => rw [ascii_mem]; intro b hb; cases hb
  | some m =>
    have hm := marks_ascii h m (List.mem_of_find?_eq_some hf)
    rw [ascii_mem] at hm ⊢
    intro b hb
    exact hm b (List.mem_of_mem_tail (by simpa [tailS, bs] using hb))
end Go.Proofs.YtjgaddchkoonpaaGreatDoor.PgA
