/- Several texts in one: Read3, Read4, Read5, Read6, LibMath, Impl1, Impl2, AnyB, Impl3, Impl4, OkBulk, WdMath, WdLaws, Ni1, Ni2, Ni3, Ni4, Ni5. -/
import Derived.Test.YtiennniclkbjlaaGreatDoorRead1Pk
import Derived.Test.YtiennniclkbjlaaGreatDoorAddr1Pk
import Derived.Test.YtiennniclkbjlaaGreatDoorStrsPk
import Derived.Test.YtiennniclkbjlaaGreatDoorStep
import Derived.Deep.AppendLies
import Derived.Lib.SplitLaws
import Derived.Lib.IndexAny
import Derived.Test.YtiennniclkbjlaaGreatDoorNrMemPk
import Derived.Test.YtiennniclkbjlaaGreatDoorEscLeafPk
import Derived.Deep.RegionLaw
/- The model's reading of an address: a way. -/
namespace Go.Proofs.YtiennniclkbjlaaGreatDoor.Rd1
open Go.RowKit Go.Proofs.YtiennniclkbjlaaGreatDoor.EscM Go.Proofs.YtiennniclkbjlaaGreatDoor.AddrM Go.Proofs.YtiennniclkbjlaaGreatDoor.ReadM Go.Proofs.YtiennniclkbjlaaGreatDoor.St Go.Proofs.YtiennniclkbjlaaGreatDoor.EscL Go.Proofs.YtiennniclkbjlaaGreatDoor.PathM Go.Proofs.YtiennniclkbjlaaGreatDoor.Ad1

/-- the box of what came in, and the place of the answer, kept -/
theorem two_cells {w wr : World} {x0 x1 x2 x3 y0 y1 y2 y3 : Value} {t t' : TypeId} (hb : Below (w.heap.size + 1 + 1) ((w.alloc (.cells #[x0, x1, x2, x3] t)).alloc (.cells #[y0, y1, y2, y3] t')) wr) :
    (wr.cell? ⟨w.heap.size, 0, none⟩ = some x0 ∧ wr.cell? ⟨w.heap.size, 1, none⟩ = some x1 ∧ wr.cell? ⟨w.heap.size, 2, none⟩ = some x2 ∧ wr.cell? ⟨w.heap.size, 3, none⟩ = some x3) ∧
    (wr.cell? ⟨w.heap.size + 1, 0, none⟩ = some y0 ∧ wr.cell? ⟨w.heap.size + 1, 1, none⟩ = some y1 ∧ wr.cell? ⟨w.heap.size + 1, 2, none⟩ = some y2 ∧ wr.cell? ⟨w.heap.size + 1, 3, none⟩ = some y3) ∧
    (∀ j, wr.frozen? ⟨w.heap.size + 1, j, none⟩ = false) := by
  have h : ∀ j, wr.cell? ⟨w.heap.size, j, none⟩ = ((w.alloc (.cells #[x0, x1, x2, x3] t)).alloc (.cells #[y0, y1, y2, y3] t')).cell? ⟨w.heap.size, j, none⟩ := fun j => hb.cell (by show w.heap.size < _; omega)
  have h' : ∀ j, wr.cell? ⟨w.heap.size + 1, j, none⟩ = ((w.alloc (.cells #[x0, x1, x2, x3] t)).alloc (.cells #[y0, y1, y2, y3] t')).cell? ⟨w.heap.size + 1, j, none⟩ := fun j => hb.cell (by show w.heap.size + 1 < _; omega)
  refine ⟨⟨?_, ?_, ?_, ?_⟩, ⟨?_, ?_, ?_, ?_⟩, fun j => ?_⟩
  · rw [h]; go_simp
  · rw [h]; go_simp
  · rw [h]; go_simp
  · rw [h]; go_simp
  · rw [h']; go_simp
  · rw [h']; go_simp
  · rw [h']; go_simp
  · rw [h']; go_simp
  · rw [hb.frozen (show w.heap.size + 1 < w.heap.size + 1 + 1 by omega)]; go_simp

theorem two_below {w wr : World} {o o' : Obj} (hb : Below (w.heap.size + 1 + 1) ((w.alloc o).alloc o') wr) : Below w.heap.size w wr := (((Below.refl _ w).alloc (Nat.le_refl _) _).alloc (by simp) _).trans (hb.mono (by omega))
theorem two_next {w wr w1 : World} {o o' : Obj} (hb : Below (w.heap.size + 1 + 1) ((w.alloc o).alloc o') wr) (h1 : Below wr.heap.size wr w1) : Below (w.heap.size + 1 + 1) ((w.alloc o).alloc o') w1 := hb.trans (h1.mono (by have := hb.size; simp at this; omega))

theorem below_past {w4 w5 : World} {Z : Obj} (h : Below (w4.alloc Z).drew.heap.size (w4.alloc Z).drew w5) : Below w4.heap.size w4 w5 :=
  (((Below.refl w4.heap.size w4).alloc (Nat.le_refl _) Z).drew).trans (h.mono (show w4.heap.size ≤ _ by simp))
theorem zero_past {w4 w5 : World} {x0 x1 x2 x3 : Value} {t : TypeId} (h : Below (w4.alloc (.cells #[x0, x1, x2, x3] t)).drew.heap.size (w4.alloc (.cells #[x0, x1, x2, x3] t)).drew w5) :
    w5.cell? ⟨w4.heap.size, 0, none⟩ = some x0 ∧ w5.cell? ⟨w4.heap.size, 1, none⟩ = some x1 ∧ w5.cell? ⟨w4.heap.size, 2, none⟩ = some x2 ∧ w5.cell? ⟨w4.heap.size, 3, none⟩ = some x3 ∧ ∀ j, w5.frozen? ⟨w4.heap.size, j, none⟩ = false := by
  have hc : ∀ j, w5.cell? ⟨w4.heap.size, j, none⟩ = (w4.alloc (.cells #[x0, x1, x2, x3] t)).drew.cell? ⟨w4.heap.size, j, none⟩ := fun j => h.cell (by show w4.heap.size < _; simp)
  refine ⟨?_, ?_, ?_, ?_, fun j => ?_⟩
  · rw [hc]; go_simp
  · rw [hc]; go_simp
  · rw [hc]; go_simp
  · rw [hc]; go_simp
  · rw [h.frozen (by show w4.heap.size < _; simp)]; go_simp
theorem cell_on {w6 w7 : World} {p j : Nat} {v : Value} (hb : Below w6.heap.size w6 w7) (h : w6.cell? ⟨p, j, none⟩ = some v) (hp : p < w6.heap.size) : w7.cell? ⟨p, j, none⟩ = some v := (hb.cell (p := ⟨p, j, none⟩) hp).trans h
theorem owns_past {w4 w5 : World} {Z : Obj} {v : Value} {L : List ByteArray} (h : Owns w5 (w4.alloc Z).drew.heap.size v L) : Owns w5 (w4.heap.size + 1) v L := Owns.mono h (by simp)

theorem way_cut {house : ByteArray} {frm : List ByteArray} {way x y : List UInt8} {f : Bool} (h : cutL 63 way = (x, y, f)) : wayF house frm (bs way) = match normS (splitS 47 (bs x)) with
    | none => none
    | some ps => if escB (bs y) then if okB ⟨house, cleanL (frm ++ ps), f, escS (bs y)⟩ then some ⟨house, cleanL (frm ++ ps), f, escS (bs y)⟩ else none else none := by
  unfold wayF
  have : (bs way).data.toList = way := by unfold bs; simp
  rw [this, h]
  cases normS (splitS 47 (bs x)) <;> rfl

set_option maxRecDepth 100000 in
set_option maxHeartbeats 4000000 in
theorem specWay_any (house : ByteArray) (frm : List ByteArray) (q0 : Bool) (k0 way : ByteArray) (a0 : Option Addr) (cap : Nat) (w : World) (hS : IsStrs w a0 cap frm) (hh : house.size ≤ 1000) (hf : frm.length ≤ 1000) (hfs : sumS frm ≤ 100000) (hw : way.size ≤ 60) :
    Calls Tryz.prog 109 #[.agg #[.string house, .slice a0 frm.length cap, .bool q0, .string k0], .string way] w fun e w' => ∃ (A : Ad) (ok : Bool) (a1 : Option Addr) (c1 : Nat), e = .returned (.tuple #[.agg #[.string A.house, .slice a1 A.parts.length c1, .bool A.asks, .string A.ask], .bool ok]) ∧
      ((ok = true ∧ wayF house frm way = some A) ∨ (ok = false ∧ wayF house frm way = none ∧ A = zeroAd)) ∧ Owns w' w.heap.size (.slice a1 A.parts.length c1) A.parts ∧ Below w.heap.size w w' := by
  obtain ⟨i0, hi, hz0, hz1, hz2⟩ := info_parts Tryz.infoS
  have HS : Hid (IsStrs w a0 cap frm) := hS
  have hcl := cut_len 63 way.data.toList
  have hwl : way.data.toList.length = way.size := by simp
  obtain ⟨x, y, f, hcut⟩ : ∃ x y f, cutL 63 way.data.toList = (x, y, f) := ⟨_, _, _, rfl⟩
  have HW : Hid _ := way_cut (house := house) (frm := frm) hcut
  rw [bs_data] at HW
  rw [hcut] at hcl
  have hxl : x.length ≤ 60 := by have := hcl.1; simp at this; omega
  have hyl : y.length ≤ 60 := by have := hcl.1; simp at this; omega
  have HCUT : Hid _ := hcut
  clear hS hcl hcut hwl
  go_enter Tryz.func109, Tryz.ntmps109
  go_wp2_with fail
  refine (specCut_any way 63 _ (by omega) (by omega) (by omega)).mono ?_
  rintro e w1 ⟨rfl, n, rfl⟩
  rw [HCUT.out]
  dsimp only
  have HS1 : Hid (IsStrs (((w.alloc (.cells #[.string house, .slice a0 frm.length cap, .bool q0, .string k0] 97)).alloc (.cells #[.string ⟨#[]⟩, .slice none 0 0, .bool false, .string ⟨#[]⟩] 97)).drewN n) a0 cap frm) := HS.out.keep fun k hk => (by show ((w.alloc _).alloc _).heap[k]? = _; rw [alloc_keep _ _ k (by simp; omega), alloc_keep _ _ k hk])
  have hb1 : Below (w.heap.size + 1 + 1) ((w.alloc (.cells #[.string house, .slice a0 frm.length cap, .bool q0, .string k0] 97)).alloc (.cells #[.string ⟨#[]⟩, .slice none 0 0, .bool false, .string ⟨#[]⟩] 97)) (((w.alloc (.cells #[.string house, .slice a0 frm.length cap, .bool q0, .string k0] 97)).alloc (.cells #[.string ⟨#[]⟩, .slice none 0 0, .bool false, .string ⟨#[]⟩] 97)).drewN n) := below_drewN (Below.refl _ _) n
  generalize hW1 : ((w.alloc (.cells #[.string house, .slice a0 frm.length cap, .bool q0, .string k0] 97)).alloc (.cells #[.string ⟨#[]⟩, .slice none 0 0, .bool false, .string ⟨#[]⟩] 97)).drewN n = w1 at *
  clear hW1
  obtain ⟨⟨c0, c1, c2, c3⟩, ⟨d0, d1, d2, d3⟩, dz⟩ := two_cells hb1
  have hz1s : w.heap.size + 1 + 1 ≤ w1.heap.size := by have := hb1.size; simp at this; omega
  have hlt1 : w.heap.size < w1.heap.size := by omega
  go_wp2_with (first
    | (at_builtin; refine wpList_app rfl (.tmp 22) (.tmp 24) 23 rfl w1.heap.size 9 i0 (.string ⟨#[]⟩) 1 16 Tryz.underlying23 hi hz0 hz1 hz2 rfl (by decide) (.slice (some ⟨w1.heap.size, 0, none⟩) 0 0) 0 [] rfl (Owns.empty w1 w1.heap.size (Nat.le_refl _)) a0 frm.length cap (cellsS frm) rfl HS1.out.none (by simp [cellsS]) (HS1.out.newsAny (alloc_keep _ _)) (cellsS_one frm) (by unfold maxLen; omega) (by omega) (by simp) ?_; intro v2 w2 ho2 hg2)
    | fail)
  have hO2 : Owns w2 w1.heap.size v2 frm := Owns.of_row ho2 (by simp) (by simp)
  have hbw2 : Below w1.heap.size w1 w2 := Below.grown ((Below.refl _ _).alloc (Nat.le_refl _) _) hg2 (by simp) (by intro k hk; simp [Value.ownBlock] at hk; omega)
  have hb2 := two_next hb1 hbw2
  have HO2 : Hid (Owns w2 w1.heap.size v2 frm) := hO2
  have hv2 : ∀ g, v2.ownBlock = some g → g < w2.heap.size := fun g hg => (World.ownsRow.lt hO2 g hg).2
  have HV2 : Hid _ := hv2
  clear ho2 hg2 hO2 c0 c1 c2 c3 d0 d1 d2 d3 dz HS1 hv2
  refine (specSplit_any (bs x) 47 _ (by rw [bs_size]; omega) (by omega) (by omega)).mono ?_
  rintro e w3 ⟨v3, rfl, hO3, hbw3⟩
  have hb3 := two_next hb2 hbw3
  obtain ⟨aS, cS, rfl, hSS⟩ := hO3.strs
  have HPO : Hid (Owns w3 w2.heap.size (.slice aS (splitS 47 (bs x)).length cS) (splitS 47 (bs x))) := hO3
  have hgp : ∀ g, (Value.slice aS (splitS 47 (bs x)).length cS).ownBlock = some g → g < w3.heap.size := fun g hg => (World.ownsRow.lt hO3 g hg).2
  have HGP : Hid _ := hgp
  have HO3 : Hid (Owns w3 w1.heap.size v2 frm) := Owns.below HO2.out hbw3
  have hsl : (splitS 47 (bs x)).length ≤ 61 := by
    unfold splitS
    rw [List.length_map]
    have h1 := split_len 47 (bs x).data.toList
    have e : (bs x).data.toList = x := by unfold bs; simp
    rw [e] at h1 ⊢; omega
  have hsz2 : w1.heap.size ≤ w2.heap.size := hbw2.size
  have hsz3 : w2.heap.size ≤ w3.heap.size := hbw3.size
  have hpm : ∀ z ∈ splitS 47 (bs x), z.size ≤ maxLen := fun z hz => by have := splitS_mem 47 _ z hz; rw [bs_size] at this; unfold maxLen; omega
  have HPM : Hid _ := hpm
  clear hpm
  clear hO3 hSS HO2 hbw2 hbw3 hb2 hb1 hgp
  generalize hP : splitS 47 (bs x) = P at *
  have HP : Hid _ := hP
  clear hP
  go_wp2
  go_loopw [8, 10] (fun v i wr => ∃ k : Nat, k ≤ P.length ∧ i = .int .i64 (k : Int) ∧ Hid (Owns wr w1.heap.size v (frm ++ (P.take k).map escS)) ∧ Hid (∀ z ∈ P.take k, escB z = true) ∧ Hid (Owns wr w2.heap.size (.slice aS P.length cS) P) ∧ Hid (∀ g, v.ownBlock = some g → g < w2.heap.size ∨ w3.heap.size ≤ g) ∧
      Hid (Below (w.heap.size + 1 + 1) ((w.alloc (.cells #[.string house, .slice a0 frm.length cap, .bool q0, .string k0] 97)).alloc (.cells #[.string ⟨#[]⟩, .slice none 0 0, .bool false, .string ⟨#[]⟩] 97)) wr) ∧ w3.heap.size ≤ wr.heap.size) (fun _ i _ => P.length - (intOf i).toNat)
  case atStart => exact ⟨0, Nat.zero_le _, rfl, (by show Owns _ _ _ _; simpa using HO3.out), (by intro z hz; simp at hz), HPO, (fun g hg => Or.inl (HV2.out g hg)), hb3, Nat.le_refl _⟩
  case round =>
    obtain ⟨k, hk, rfl, HO, HE, HPr, HVr, HB, hzr⟩ := hrel
    have hb := HB.out
    obtain ⟨⟨c0, c1, c2, c3⟩, ⟨d0, d1, d2, d3⟩, dz⟩ := two_cells hb
    clear hb
    by_cases hlt : k < P.length
    · obtain ⟨b, o, e, c⟩ := HPr.out.strsOf.at hlt
      have hpz := HPM.out _ (List.getElem_mem hlt)
      subst e
      cases hq : escB P[k] with
      | false =>
        have HN : Hid (wayF house frm way = none) := by show _ = _; rw [HW.out, normS_no hlt hq]
        have HQ : Hid _ := hq
        clear hq
        go_wp2_with fail
        refine (specEsc_any P[k] _ hpz).mono ?_
        rintro e w4 ⟨rfl, hb4⟩
        rw [HQ.out]
        have hbn := two_next HB.out hb4
        obtain ⟨⟨c0', c1', c2', c3'⟩, ⟨d0', d1', d2', d3'⟩, dz'⟩ := two_cells hbn
        clear c0 c1 c2 c3 d0 d1 d2 d3 dz c
        go_wp2
        refine bodyPost_ret (v := .tuple #[.agg #[.string ⟨#[]⟩, .slice none 0 0, .bool false, .string ⟨#[]⟩], .bool false]) (by simp [results, Tryz.results109, go_sem, d0', d1', d2', d3']) rfl ?_
        refine ⟨zeroAd, false, none, 0, rfl, Or.inr ⟨rfl, HN.out, rfl⟩, Owns.nil _ _, ?_⟩
        have hbw := two_below hbn
        iterate 4 refine Below.setCell ?_ (by dsimp only; omega) _
        exact hbw
      | true =>
        have HT : Hid (frm ++ (P.take (k + 1)).map escS = (frm ++ (P.take k).map escS) ++ [escS P[k]]) := by
          show _ = _
          rw [List.take_succ_eq_append_getElem hlt, List.map_append, List.append_assoc]; rfl
        have HE2 : Hid (∀ z ∈ P.take (k + 1), escB z = true) := by
          intro z hz
          rw [List.take_succ_eq_append_getElem hlt] at hz
          rcases List.mem_append.1 hz with hz | hz
          · exact HE.out z hz
          · simp at hz; subst hz; exact hq
        have HQ : Hid _ := hq
        clear hq
        go_wp2_with fail
        refine (specEsc_any P[k] _ hpz).mono ?_
        rintro e w4 ⟨rfl, hb4⟩
        rw [HQ.out]
        have HO4 : Hid (Owns w4 w1.heap.size u8 (frm ++ (P.take k).map escS)) := Owns.below HO.out hb4
        have HPr4 : Hid (Owns w4 w2.heap.size (.slice (some ⟨b, o, none⟩) P.length cS) P) := Owns.below HPr.out hb4
        have HB4 : Hid _ := two_next HB.out hb4
        have hz4 : w3.heap.size ≤ w4.heap.size := Nat.le_trans hzr hb4.size
        have hlen4 : (frm ++ (P.take k).map escS).length ≤ 1100 := by simp; omega
        clear c0 c1 c2 c3 d0 d1 d2 d3 dz c hb4 HO
        generalize escS P[k] = z at *
        generalize frm ++ (P.take k).map escS = X at *
        go_wp2_with (at_builtin; refine wpList_append_lies _ rfl _ _ 23 rfl w1.heap.size 9 i0 (.string ⟨#[]⟩) 1 16 Tryz.underlying23 hi hz0 hz1 hz2 rfl (by decide) u8 _ _ rfl (World.ownsRow.alloc HO4.out _) ⟨w4.heap.size, 0, none⟩ 1 1 [.string z] rfl rfl (cell_one_new _ _ _) ?c2 (by omega) ?c3 ?c4 ?c5 _ rfl ?_)
        case c2 => intro u hu; simp at hu; subst hu; rfl
        case c3 => unfold maxLen; omega
        case c4 => omega
        case c5 => simp; omega
        intro g5 cap5 w5 hown5 hgrow5 hat5 hlt5
        have HO5 : Hid (Owns w5 w1.heap.size (.slice (some ⟨g5, 0, none⟩) (X.length + 1) cap5) (X ++ [z])) := Owns.append hown5
        have HG5 : Hid _ := hgrow5
        have HAT : Hid _ := hat5
        clear hown5 hgrow5 hat5
        go_wp2
        go_roundw
        case rel =>
          refine ⟨k + 1, by omega, by go_num, ?_, HE2, ?_, ?_, ?_, ?_⟩
          · show Owns _ _ _ _
            rw [HT.out]
            exact HO5.out
          · show Owns _ _ _ _
            refine World.ownsRow.kept (World.ownsRow.alloc HPr4.out _) HG5.out ?_
            right
            intro e
            have h1 := HGP.out b rfl
            have h2 := Owns.block HPr4.out b rfl
            rcases HVr.out b e.symm with h | h <;> omega
          · intro g hg
            have hg' : g5 = g := by simpa [Value.ownBlock] using hg
            subst hg'
            rcases HAT.out with h | h
            · exact HVr.out _ h
            · right; omega
          · exact Below.grown (HB4.out.alloc (by have := HB4.out.size; simp at this; omega) _) HG5.out (by simp; omega) (by intro g hg; have := Owns.block HO4.out g hg; omega)
          · have := HG5.out.size; simp at this; omega
        case measure => simp [intOf]; omega
    · have hall : P.take k = P := List.take_of_length_le (by omega)
      rw [hall] at HO HE
      have HN : Hid (normS P = some (P.map escS)) := normS_all HE.out
      have hym : (bs y).size ≤ maxLen := by rw [bs_size]; unfold maxLen; omega
      have hal : (frm ++ P.map escS).length ≤ 1061 := by simp; omega
      have hsum : sumS (frm ++ P.map escS) ≤ 120000 := by
        rw [sumS_append]
        have h1 := sum_le (L := P.map escS) (m := 180) (by intro z hz; obtain ⟨q, _, rfl⟩ := List.mem_map.1 hz; exact escS_size q)
        rw [List.length_map] at h1
        omega
      generalize hX : frm ++ P.map escS = X at *
      have HX : Hid _ := hX
      clear hX
      have hcl := clean_len X
      have hcs := sum_clean X
      have hqs := escS_size (bs y)
      clear hall HPr HVr c1 c2 c3 d0 d1 d2 d3 dz
      obtain ⟨aX, cX, hu8, hSX⟩ := HO.out.strs
      have HSX : Hid (IsStrs wr aX cX X) := hSX
      subst hu8
      clear hSX HO
      go_wp2_with fail
      refine (specEsc_any (bs y) _ hym).mono ?_
      rintro e w4 ⟨rfl, hb4⟩
      have HB4 : Hid _ := two_next HB.out hb4
      have HSX4 : Hid (IsStrs w4 aX cX X) := HSX.out.below hb4
      have hb4' := HB4.out
      obtain ⟨⟨c0', _, _, _⟩, _, _⟩ := two_cells hb4'
      clear c0 HSX hb4 HB hb4'
      go_wp2
      have cd : w4.drew.cell? ⟨w.heap.size, 0, none⟩ = some (.string house) := c0'
      have HSXd : Hid (IsStrs w4.drew aX cX X) := HSX4.out
      have hz4 : w.heap.size < w4.drew.heap.size := by have := HB4.out.size; simp at this ⊢; omega
      have hz4n : w.heap.size < w4.heap.size := hz4
      have hz42 : w.heap.size + 1 + 1 ≤ w4.heap.size := by have := HB4.out.size; simp at this; omega
      have HSXa : Hid (IsStrs (w4.alloc (.cells #[.string ⟨#[]⟩, .slice none 0 0, .bool false, .string ⟨#[]⟩] 97)).drew aX cX X) := HSX4.out.keep (alloc_keep _ _)
      go_region_with (first
        | (go_at_call 133
           refine (specPath_any aX cX X w4.drew HSXd.out (by omega)).mono ?_
           rintro e w5 ⟨v5, rfl, hO5, hb5⟩
           obtain ⟨a5, q5, rfl, hS5⟩ := hO5.strs
           have HO5 : Hid (Owns w5 w4.heap.size (.slice a5 (cleanL X).length q5) (cleanL X)) := hO5
           have HB5 : Hid (Below w4.heap.size w4 w5) := ((Below.refl w4.heap.size w4).drew).trans hb5
           have c5 : w5.cell? ⟨w.heap.size, 0, none⟩ = some (.string house) := (HB5.out.cell hz4n).trans cd
           have hz5 : w.heap.size < w5.heap.size := Nat.lt_of_lt_of_le hz4n HB5.out.size
           clear hS5 hO5 hb5)
        | (go_at_call 133
           refine (specPath_any aX cX X (w4.alloc (.cells #[.string ⟨#[]⟩, .slice none 0 0, .bool false, .string ⟨#[]⟩] 97)).drew HSXa.out (by omega)).mono ?_
           rintro e w5 ⟨v5, rfl, hO5, hb5⟩
           obtain ⟨a5, q5, rfl, hS5⟩ := hO5.strs
           have HO5b : Hid (Owns w5 (w4.heap.size + 1) (.slice a5 (cleanL X).length q5) (cleanL X)) := owns_past hO5
           have HB5 : Hid (Below w4.heap.size w4 w5) := below_past hb5
           have c5 : w5.cell? ⟨w.heap.size, 0, none⟩ = some (.string house) := (HB5.out.cell hz4n).trans cd
           have hz5 : w.heap.size < w5.heap.size := Nat.lt_of_lt_of_le hz4n HB5.out.size
           obtain ⟨z0, z1, z2, z3, zf⟩ := zero_past hb5
           have hzb5 : w4.heap.size < w5.heap.size := Nat.lt_of_lt_of_le (show w4.heap.size < _ by simp) hb5.size
           clear hS5 hO5 hb5))
      all_goals (
        first
        | (have hB6 : Below (w.heap.size + 1 + 1) ((w.alloc (.cells #[.string house, .slice a0 frm.length cap, .bool q0, .string k0] 97)).alloc (.cells #[.string ⟨#[]⟩, .slice none 0 0, .bool false, .string ⟨#[]⟩] 97)) (w5.alloc (.cells #[.string house, .slice a5 (cleanL X).length q5, .bool f, .string (escS (bs y))] 97)) := (two_next HB4.out HB5.out).alloc (by have h5 := HB5.out.size; simp; omega) _
           have hO6 : Owns (w5.alloc (.cells #[.string house, .slice a5 (cleanL X).length q5, .bool f, .string (escS (bs y))] 97)) w4.heap.size (.slice a5 (cleanL X).length q5) (cleanL X) := World.ownsRow.alloc HO5.out _
           have c60 : (w5.alloc (.cells #[.string house, .slice a5 (cleanL X).length q5, .bool f, .string (escS (bs y))] 97)).cell? ⟨w5.heap.size, 0, none⟩ = some (.string house) := (by simp)
           have c61 : (w5.alloc (.cells #[.string house, .slice a5 (cleanL X).length q5, .bool f, .string (escS (bs y))] 97)).cell? ⟨w5.heap.size, 1, none⟩ = some (.slice a5 (cleanL X).length q5) := (by simp)
           have c62 : (w5.alloc (.cells #[.string house, .slice a5 (cleanL X).length q5, .bool f, .string (escS (bs y))] 97)).cell? ⟨w5.heap.size, 2, none⟩ = some (.bool f) := (by simp)
           have c63 : (w5.alloc (.cells #[.string house, .slice a5 (cleanL X).length q5, .bool f, .string (escS (bs y))] 97)).cell? ⟨w5.heap.size, 3, none⟩ = some (.string (escS (bs y))) := (by simp)
           have hp6 : w5.heap.size < (w5.alloc (.cells #[.string house, .slice a5 (cleanL X).length q5, .bool f, .string (escS (bs y))] 97)).heap.size := by simp
           generalize (w5.alloc (.cells #[.string house, .slice a5 (cleanL X).length q5, .bool f, .string (escS (bs y))] 97)) = w6 at hp6 hB6 hO6 c60 c61 c62 c63 ⊢)
        | (have hB6 : Below (w.heap.size + 1 + 1) ((w.alloc (.cells #[.string house, .slice a0 frm.length cap, .bool q0, .string k0] 97)).alloc (.cells #[.string ⟨#[]⟩, .slice none 0 0, .bool false, .string ⟨#[]⟩] 97)) ((((w5.setCell ⟨w4.heap.size, 0, none⟩ (.string house)).setCell ⟨w4.heap.size, 1, none⟩ (.slice a5 (cleanL X).length q5)).setCell ⟨w4.heap.size, 2, none⟩ (.bool f)).setCell ⟨w4.heap.size, 3, none⟩ (.string (escS (bs y)))) := ((((two_next HB4.out HB5.out).setCell hz42 _).setCell hz42 _).setCell hz42 _).setCell hz42 _
           have hO6 : Owns ((((w5.setCell ⟨w4.heap.size, 0, none⟩ (.string house)).setCell ⟨w4.heap.size, 1, none⟩ (.slice a5 (cleanL X).length q5)).setCell ⟨w4.heap.size, 2, none⟩ (.bool f)).setCell ⟨w4.heap.size, 3, none⟩ (.string (escS (bs y)))) w4.heap.size (.slice a5 (cleanL X).length q5) (cleanL X) := Owns.mono (ownsRow_setCell_below (ownsRow_setCell_below (ownsRow_setCell_below (ownsRow_setCell_below HO5b.out (by show w4.heap.size < _; omega) _) (by show w4.heap.size < _; omega) _) (by show w4.heap.size < _; omega) _) (by show w4.heap.size < _; omega) _) (Nat.le_succ _)
           have c60 : ((((w5.setCell ⟨w4.heap.size, 0, none⟩ (.string house)).setCell ⟨w4.heap.size, 1, none⟩ (.slice a5 (cleanL X).length q5)).setCell ⟨w4.heap.size, 2, none⟩ (.bool f)).setCell ⟨w4.heap.size, 3, none⟩ (.string (escS (bs y)))).cell? ⟨w4.heap.size, 0, none⟩ = some (.string house) := (by go_simp)
           have c61 : ((((w5.setCell ⟨w4.heap.size, 0, none⟩ (.string house)).setCell ⟨w4.heap.size, 1, none⟩ (.slice a5 (cleanL X).length q5)).setCell ⟨w4.heap.size, 2, none⟩ (.bool f)).setCell ⟨w4.heap.size, 3, none⟩ (.string (escS (bs y)))).cell? ⟨w4.heap.size, 1, none⟩ = some (.slice a5 (cleanL X).length q5) := (by go_simp)
           have c62 : ((((w5.setCell ⟨w4.heap.size, 0, none⟩ (.string house)).setCell ⟨w4.heap.size, 1, none⟩ (.slice a5 (cleanL X).length q5)).setCell ⟨w4.heap.size, 2, none⟩ (.bool f)).setCell ⟨w4.heap.size, 3, none⟩ (.string (escS (bs y)))).cell? ⟨w4.heap.size, 2, none⟩ = some (.bool f) := (by go_simp)
           have c63 : ((((w5.setCell ⟨w4.heap.size, 0, none⟩ (.string house)).setCell ⟨w4.heap.size, 1, none⟩ (.slice a5 (cleanL X).length q5)).setCell ⟨w4.heap.size, 2, none⟩ (.bool f)).setCell ⟨w4.heap.size, 3, none⟩ (.string (escS (bs y)))).cell? ⟨w4.heap.size, 3, none⟩ = some (.string (escS (bs y))) := (by go_simp)
           have hp6 : w4.heap.size < ((((w5.setCell ⟨w4.heap.size, 0, none⟩ (.string house)).setCell ⟨w4.heap.size, 1, none⟩ (.slice a5 (cleanL X).length q5)).setCell ⟨w4.heap.size, 2, none⟩ (.bool f)).setCell ⟨w4.heap.size, 3, none⟩ (.string (escS (bs y)))).heap.size := by have h5 := (World.ownsRow.lt hO6); have h6 := hB6.size; have h7 := hzb5; simp; omega
           generalize ((((w5.setCell ⟨w4.heap.size, 0, none⟩ (.string house)).setCell ⟨w4.heap.size, 1, none⟩ (.slice a5 (cleanL X).length q5)).setCell ⟨w4.heap.size, 2, none⟩ (.bool f)).setCell ⟨w4.heap.size, 3, none⟩ (.string (escS (bs y)))) = w6 at hp6 hB6 hO6 c60 c61 c62 c63 ⊢))
      all_goals (
        have HO6 : Hid _ := hO6
        have HS6 : Hid (IsStrs w6 a5 q5 (cleanL X)) := hO6.strsOf
        have HB6 : Hid _ := hB6
        have HF : Hid (wayF house frm way = if escB (bs y) then if okB ⟨house, cleanL X, f, escS (bs y)⟩ then some ⟨house, cleanL X, f, escS (bs y)⟩ else none else none) := by
          show _ = _
          rw [HW.out, HN.out]
          dsimp only
          rw [HX.out]
        obtain ⟨_, ⟨d0, d1, d2, d3⟩, dz⟩ := two_cells hB6
        clear hO6 hB6 c0' cd hz4 HSXd HSXa
        cases hq : escB (bs y) with
        | false =>
          have HNo : Hid (wayF house frm way = none) := by show _ = _; rw [HF.out, hq]; rfl
          clear hq
          go_wp2
          refine bodyPost_ret (v := .tuple #[.agg #[.string ⟨#[]⟩, .slice none 0 0, .bool false, .string ⟨#[]⟩], .bool false]) (by simp [results, Tryz.results109, go_sem, d0, d1, d2, d3]) rfl ?_
          refine ⟨zeroAd, false, none, 0, rfl, Or.inr ⟨rfl, HNo.out, rfl⟩, Owns.nil _ _, ?_⟩
          have hbw := two_below HB6.out
          iterate 4 refine Below.setCell ?_ (by dsimp only; omega) _
          exact hbw
        | true =>
          have HQ : Hid _ := hq
          clear hq
          go_wp2_with fail
          refine (specOk_any ⟨house, cleanL X, f, escS (bs y)⟩ a5 q5 w6 HS6.out (by show house.size + sumS (cleanL X) + (cleanL X).length + (escS (bs y)).size ≤ _; omega)).mono ?_
          rintro e w7 ⟨rfl, hb7⟩
          have HB7 : Hid _ := two_next HB6.out hb7
          have HO7 : Hid (Owns w7 w4.heap.size (.slice a5 (cleanL X).length q5) (cleanL X)) := Owns.below HO6.out hb7
          have c70 := cell_on hb7 c60 hp6
          have c71 := cell_on hb7 c61 hp6
          have c72 := cell_on hb7 c62 hp6
          have c73 := cell_on hb7 c63 hp6
          have hb7' := HB7.out
          clear d0 d1 d2 d3 dz c60 c61 c62 c63 hb7
          obtain ⟨_, ⟨d0, d1, d2, d3⟩, dz⟩ := two_cells hb7'
          clear hb7'
          cases hk2 : okB ⟨house, cleanL X, f, escS (bs y)⟩ with
          | false =>
            have HNo : Hid (wayF house frm way = none) := by show _ = _; rw [HF.out, HQ.out, hk2]; rfl
            clear hk2
            go_wp2
            refine bodyPost_ret (v := .tuple #[.agg #[.string ⟨#[]⟩, .slice none 0 0, .bool false, .string ⟨#[]⟩], .bool false]) (by simp [results, Tryz.results109, go_sem, d0, d1, d2, d3]) rfl ?_
            refine ⟨zeroAd, false, none, 0, rfl, Or.inr ⟨rfl, HNo.out, rfl⟩, Owns.nil _ _, ?_⟩
            have hbw := two_below HB7.out
            iterate 4 refine Below.setCell ?_ (by dsimp only; omega) _
            exact hbw
          | true =>
            have HYes : Hid (wayF house frm way = some ⟨house, cleanL X, f, escS (bs y)⟩) := by show _ = _; rw [HF.out, HQ.out, hk2]; rfl
            clear hk2
            go_wp2
            refine bodyPost_ret (v := .tuple #[.agg #[.string house, .slice a5 (cleanL X).length q5, .bool f, .string (escS (bs y))], .bool true]) (by simp [results, Tryz.results109, go_sem, d0, d1, d2, d3]) rfl ?_
            refine ⟨⟨house, cleanL X, f, escS (bs y)⟩, true, a5, q5, rfl, Or.inl ⟨rfl, HYes.out⟩, ?_, ?_⟩
            · refine Owns.mono (?_ : Owns _ w4.heap.size _ _) (by omega)
              have hO := HO7.out
              iterate 4 refine ownsRow_setCell_below ?_ (by dsimp only; omega) _
              exact hO
            · have hbw := two_below HB7.out
              iterate 4 refine Below.setCell ?_ (by dsimp only; omega) _
              exact hbw)
end Go.Proofs.YtiennniclkbjlaaGreatDoor.Rd1
/- The model's reading of an address: the whole. -/
namespace Go.Proofs.YtiennniclkbjlaaGreatDoor.Rd1
open Go.RowKit Go.Proofs.YtiennniclkbjlaaGreatDoor.EscM Go.Proofs.YtiennniclkbjlaaGreatDoor.AddrM Go.Proofs.YtiennniclkbjlaaGreatDoor.ReadM Go.Proofs.YtiennniclkbjlaaGreatDoor.St Go.Proofs.YtiennniclkbjlaaGreatDoor.EscL Go.Proofs.YtiennniclkbjlaaGreatDoor.PathM Go.Proofs.YtiennniclkbjlaaGreatDoor.Ad1

def goesOn (b : UInt8) : Bool := !(((b.toNat : Int) == 47) || ((b.toNat : Int) == 63))
def wholeF (l : List UInt8) : Option Ad := wayF (bs (smallL (l.takeWhile goesOn))) [] (bs (l.dropWhile goesOn))

theorem while_at : ∀ (l : List UInt8) (k : Nat) (h : k < l.length), (∀ i (hi : i < k), goesOn (l[i]'(by omega)) = true) → goesOn l[k] = false → l.takeWhile goesOn = l.take k ∧ l.dropWhile goesOn = l.drop k := by
  intro l
  induction l with
  | nil => intro k h; simp at h
  | cons b r ih =>
    intro k h hall hk
    cases k with
    | zero => simp at hk; simp [hk]
    | succ k =>
      have h0 := hall 0 (by omega)
      simp at h0
      have := ih k (by simpa using h) (fun i hi => by have := hall (i + 1) (by omega); simpa using this) (by simpa using hk)
      simp [h0, this.1, this.2]
theorem while_all : ∀ (l : List UInt8), (∀ i (hi : i < l.length), goesOn (l[i]'hi) = true) → l.takeWhile goesOn = l ∧ l.dropWhile goesOn = [] := by
  intro l
  induction l with
  | nil => intro _; exact ⟨rfl, rfl⟩
  | cons b r ih =>
    intro hall
    have h0 := hall 0 (by simp)
    simp at h0
    have := ih (fun i hi => by have := hall (i + 1) (by simpa using hi); simpa using this)
    simp [h0, this.1, this.2]

theorem bs_list (l : List UInt8) : (bs l).data.toList = l := by unfold bs; simp
theorem one_cells {w wr : World} {y0 y1 y2 y3 : Value} {t' : TypeId} (hb : Below (w.heap.size + 1) (w.alloc (.cells #[y0, y1, y2, y3] t')) wr) :
    (wr.cell? ⟨w.heap.size, 0, none⟩ = some y0 ∧ wr.cell? ⟨w.heap.size, 1, none⟩ = some y1 ∧ wr.cell? ⟨w.heap.size, 2, none⟩ = some y2 ∧ wr.cell? ⟨w.heap.size, 3, none⟩ = some y3) ∧
    (∀ j, wr.frozen? ⟨w.heap.size, j, none⟩ = false) := by
  have h : ∀ j, wr.cell? ⟨w.heap.size, j, none⟩ = (w.alloc (.cells #[y0, y1, y2, y3] t')).cell? ⟨w.heap.size, j, none⟩ := fun j => hb.cell (by show w.heap.size < _; omega)
  refine ⟨⟨?_, ?_, ?_, ?_⟩, fun j => ?_⟩
  · rw [h]; go_simp
  · rw [h]; go_simp
  · rw [h]; go_simp
  · rw [h]; go_simp
  · rw [hb.frozen (show w.heap.size < w.heap.size + 1 by omega)]; go_simp
theorem below_one {w w1 : World} {Z : Obj} (h : Below (w.alloc Z).heap.size (w.alloc Z) w1) : Below (w.heap.size + 1) (w.alloc Z) w1 := h.mono (by simp)
theorem strs_nil (w : World) : IsStrs w none 0 [] := (Owns.nil w 0).strsOf
theorem small_len (l : List UInt8) : (smallL l).length = l.length := by simp [smallL]

end Go.Proofs.YtiennniclkbjlaaGreatDoor.Rd1
/- The model's reading of an address: the whole, walked. -/
namespace Go.Proofs.YtiennniclkbjlaaGreatDoor.Rd1
open Go.RowKit Go.Proofs.YtiennniclkbjlaaGreatDoor.EscM Go.Proofs.YtiennniclkbjlaaGreatDoor.AddrM Go.Proofs.YtiennniclkbjlaaGreatDoor.ReadM Go.Proofs.YtiennniclkbjlaaGreatDoor.St Go.Proofs.YtiennniclkbjlaaGreatDoor.EscL Go.Proofs.YtiennniclkbjlaaGreatDoor.PathM Go.Proofs.YtiennniclkbjlaaGreatDoor.Ad1

theorem small_size {s : ByteArray} (h : s.size ≤ 60) : (bs (smallL s.data.toList)).size ≤ 1000 := by
  rw [bs_size, small_len]
  have : s.data.toList.length = s.size := by simp
  omega
set_option maxRecDepth 100000 in
set_option maxHeartbeats 4000000 in
theorem specWhole_any (rest : ByteArray) (w : World) (hr : rest.size ≤ 60) :
    Calls Tryz.prog 83 #[.string rest] w fun e w' => ∃ (A : Ad) (ok : Bool) (a1 : Option Addr) (c1 : Nat), e = .returned (.tuple #[.agg #[.string A.house, .slice a1 A.parts.length c1, .bool A.asks, .string A.ask], .bool ok]) ∧
      ((ok = true ∧ wholeF rest.data.toList = some A) ∨ (ok = false ∧ wholeF rest.data.toList = none ∧ A = zeroAd)) ∧ Owns w' w.heap.size (.slice a1 A.parts.length c1) A.parts ∧ Below w.heap.size w w' := by
  go_enter Tryz.func83, Tryz.ntmps83
  go_wp2
  go_loop [4, 5, 6] (fun h y i => ∃ k : Nat, k ≤ rest.size ∧ i = .int .i64 (k : Int) ∧ h = .string rest ∧ y = .string ⟨#[]⟩ ∧ Hid (∀ i (hi : i < k) (hi2 : i < rest.data.toList.length), goesOn (rest.data.toList[i]'hi2) = true)) (fun _ _ i => rest.size - (intOf i).toNat)
  case atStart => exact ⟨0, Nat.zero_le _, rfl, rfl, rfl, fun i hi => absurd hi (by omega)⟩
  case round =>
    obtain ⟨k, hk, rfl, rfl, rfl, HN⟩ := hrel
    by_cases hlt : k < rest.size
    · have hlt' : k < rest.data.toList.length := by simpa using hlt
      cases he : goesOn (rest[k]'hlt) with
      | false =>
        have HC : Hid (wholeF rest.data.toList = wayF (bs (smallL (List.take k rest.data.toList))) [] (rest.extract k rest.size)) := by
          show _ = _
          have := while_at _ k hlt' (fun i hi => HN.out i hi (by omega)) he
          unfold wholeF
          rw [this.1, this.2, ext_drop]
        have HZs : Hid ((bs (smallL (List.take k rest.data.toList))).size ≤ 1000) := by
          show _ ≤ _
          rw [bs_size, small_len, List.length_take]
          have : rest.data.toList.length = rest.size := by simp
          omega
        have HHs : Hid ((rest.extract 0 k).size ≤ 60) := by show _ ≤ _; simp; omega
        have HWs : Hid ((rest.extract k rest.size).size ≤ 60) := by show _ ≤ _; simp; omega
        have hb2 : (k : Int) ≤ (rest.size : Int) := by omega
        cases h47 : (((rest[k]'hlt).toNat : Int) == 47) with
        | true =>
          clear he
          go_wp2_with fail
          refine (specSmall_any (rest.extract 0 k) _ (Nat.le_trans HHs.out (by decide))).mono ?_
          rintro e w1 ⟨rfl, hb1⟩
          have HB1 : Hid (Below (w.heap.size + 1) (w.alloc (.cells #[.string ⟨#[]⟩, .slice none 0 0, .bool false, .string ⟨#[]⟩] 97)) w1) := below_one hb1
          clear hb1
          go_wp2_with fail
          refine (specWay_any (bs (smallL (List.take k rest.data.toList))) [] false ⟨#[]⟩ (rest.extract k rest.size) none 0 _ (strs_nil _) HZs.out (by simp) (by simp [sumS]) HWs.out).mono ?_
          rintro e w2 ⟨A, ok, a1, c1, rfl, hans, hO, hb2⟩
          have HANS : Hid _ := hans
          have HO2 : Hid _ := hO
          have hz2 : w.heap.size + 1 ≤ w1.heap.size := by have := HB1.out.size; simp at this; omega
          have HB2 : Hid (Below (w.heap.size + 1) (w.alloc (.cells #[.string ⟨#[]⟩, .slice none 0 0, .bool false, .string ⟨#[]⟩] 97)) w2) := HB1.out.trans (hb2.mono hz2)
          clear hans hO hb2
          have hb2' := HB2.out
          obtain ⟨⟨d0, d1, d2, d3⟩, dz⟩ := one_cells hb2'
          clear hb2'
          go_wp2
          refine bodyPost_ret (v := .tuple #[.agg #[.string A.house, .slice a1 A.parts.length c1, .bool A.asks, .string A.ask], .bool ok]) (by simp [results, Tryz.results83, go_sem, d0, d1, d2, d3]) rfl ?_
          refine ⟨A, ok, a1, c1, rfl, ?_, ?_, ?_⟩
          · rw [HC.out]; exact HANS.out
          · refine Owns.mono (?_ : Owns _ w1.heap.size _ _) (by omega)
            have hO := HO2.out
            iterate 4 refine ownsRow_setCell_below ?_ (by dsimp only; omega) _
            exact hO
          · have hbw : Below w.heap.size w w2 := ((Below.refl _ w).alloc (Nat.le_refl _) _).trans (HB2.out.mono (by omega))
            iterate 4 refine Below.setCell ?_ (by dsimp only; omega) _
            exact hbw
        | false =>
          have h63 : (((rest[k]'hlt).toNat : Int) == 63) = true := by
            unfold goesOn at he; rw [h47] at he; simpa using he
          clear he
          go_wp2_with fail
          refine (specSmall_any (rest.extract 0 k) _ (Nat.le_trans HHs.out (by decide))).mono ?_
          rintro e w1 ⟨rfl, hb1⟩
          have HB1 : Hid (Below (w.heap.size + 1) (w.alloc (.cells #[.string ⟨#[]⟩, .slice none 0 0, .bool false, .string ⟨#[]⟩] 97)) w1) := below_one hb1
          clear hb1
          go_wp2_with fail
          refine (specWay_any (bs (smallL (List.take k rest.data.toList))) [] false ⟨#[]⟩ (rest.extract k rest.size) none 0 _ (strs_nil _) HZs.out (by simp) (by simp [sumS]) HWs.out).mono ?_
          rintro e w2 ⟨A, ok, a1, c1, rfl, hans, hO, hb2⟩
          have HANS : Hid _ := hans
          have HO2 : Hid _ := hO
          have hz2 : w.heap.size + 1 ≤ w1.heap.size := by have := HB1.out.size; simp at this; omega
          have HB2 : Hid (Below (w.heap.size + 1) (w.alloc (.cells #[.string ⟨#[]⟩, .slice none 0 0, .bool false, .string ⟨#[]⟩] 97)) w2) := HB1.out.trans (hb2.mono hz2)
          clear hans hO hb2
          have hb2' := HB2.out
          obtain ⟨⟨d0, d1, d2, d3⟩, dz⟩ := one_cells hb2'
          clear hb2'
          go_wp2
          refine bodyPost_ret (v := .tuple #[.agg #[.string A.house, .slice a1 A.parts.length c1, .bool A.asks, .string A.ask], .bool ok]) (by simp [results, Tryz.results83, go_sem, d0, d1, d2, d3]) rfl ?_
          refine ⟨A, ok, a1, c1, rfl, ?_, ?_, ?_⟩
          · rw [HC.out]; exact HANS.out
          · refine Owns.mono (?_ : Owns _ w1.heap.size _ _) (by omega)
            have hO := HO2.out
            iterate 4 refine ownsRow_setCell_below ?_ (by dsimp only; omega) _
            exact hO
          · have hbw : Below w.heap.size w w2 := ((Below.refl _ w).alloc (Nat.le_refl _) _).trans (HB2.out.mono (by omega))
            iterate 4 refine Below.setCell ?_ (by dsimp only; omega) _
            exact hbw
      | true =>
        have HN2 : Hid (∀ i (hi : i < k + 1) (hi2 : i < rest.data.toList.length), goesOn (rest.data.toList[i]'hi2) = true) := by
          intro i hi hi2
          by_cases e : i = k
          · subst e; exact he
          · exact HN.out i (by omega) hi2
        have h47 : (((rest[k]'hlt).toNat : Int) == 47) = false := by
          unfold goesOn at he; revert he; cases (((rest[k]'hlt).toNat : Int) == 47) <;> simp
        have h63 : (((rest[k]'hlt).toNat : Int) == 63) = false := by
          unfold goesOn at he; rw [h47] at he; simpa using he
        clear he
        go_wp2
        go_round
        case rel => exact ⟨k + 1, by omega, by go_num, rfl, rfl, HN2.out⟩
        case measure => simp [intOf]; omega
    · have HC : Hid (wholeF rest.data.toList = wayF (bs (smallL rest.data.toList)) [] ⟨#[]⟩) := by
        show _ = _
        have := while_all _ (fun i hi => HN.out i (by simp at hi; omega) hi)
        unfold wholeF
        rw [this.1, this.2]
        rfl
      have HHs : Hid (rest.size ≤ 60) := hr
      have HWs : Hid ((⟨#[]⟩ : ByteArray).size ≤ 60) := by show (0:Nat) ≤ 60; omega
      go_wp2_with fail
      refine (specSmall_any rest _ (Nat.le_trans HHs.out (by decide))).mono ?_
      rintro e w1 ⟨rfl, hb1⟩
      have HB1 : Hid (Below (w.heap.size + 1) (w.alloc (.cells #[.string ⟨#[]⟩, .slice none 0 0, .bool false, .string ⟨#[]⟩] 97)) w1) := below_one hb1
      clear hb1
      go_wp2_with fail
      refine (specWay_any (bs (smallL (rest).data.toList)) [] false ⟨#[]⟩ ⟨#[]⟩ none 0 _ (strs_nil _) (small_size HHs.out) (by simp) (by simp [sumS]) HWs.out).mono ?_
      rintro e w2 ⟨A, ok, a1, c1, rfl, hans, hO, hb2⟩
      have HANS : Hid _ := hans
      have HO2 : Hid _ := hO
      have hz2 : w.heap.size + 1 ≤ w1.heap.size := by have := HB1.out.size; simp at this; omega
      have HB2 : Hid (Below (w.heap.size + 1) (w.alloc (.cells #[.string ⟨#[]⟩, .slice none 0 0, .bool false, .string ⟨#[]⟩] 97)) w2) := HB1.out.trans (hb2.mono hz2)
      clear hans hO hb2
      have hb2' := HB2.out
      obtain ⟨⟨d0, d1, d2, d3⟩, dz⟩ := one_cells hb2'
      clear hb2'
      go_wp2
      refine bodyPost_ret (v := .tuple #[.agg #[.string A.house, .slice a1 A.parts.length c1, .bool A.asks, .string A.ask], .bool ok]) (by simp [results, Tryz.results83, go_sem, d0, d1, d2, d3]) rfl ?_
      refine ⟨A, ok, a1, c1, rfl, ?_, ?_, ?_⟩
      · rw [HC.out]; exact HANS.out
      · refine Owns.mono (?_ : Owns _ w1.heap.size _ _) (by omega)
        have hO := HO2.out
        iterate 4 refine ownsRow_setCell_below ?_ (by dsimp only; omega) _
        exact hO
      · have hbw : Below w.heap.size w w2 := ((Below.refl _ w).alloc (Nat.le_refl _) _).trans (HB2.out.mono (by omega))
        iterate 4 refine Below.setCell ?_ (by dsimp only; omega) _
        exact hbw
end Go.Proofs.YtiennniclkbjlaaGreatDoor.Rd1
/- The model's AddrRead. -/
namespace Go.Proofs.YtiennniclkbjlaaGreatDoor.Rd1
open Go.RowKit Go.Proofs.YtiennniclkbjlaaGreatDoor.EscM Go.Proofs.YtiennniclkbjlaaGreatDoor.AddrM Go.Proofs.YtiennniclkbjlaaGreatDoor.ReadM Go.Proofs.YtiennniclkbjlaaGreatDoor.St Go.Proofs.YtiennniclkbjlaaGreatDoor.EscL Go.Proofs.YtiennniclkbjlaaGreatDoor.PathM Go.Proofs.YtiennniclkbjlaaGreatDoor.Ad1

/-- AddrRead, as a function on lists -/
def readF (l : List UInt8) : Option Ad :=
  if 60 < l.length then none else if (cutL 35 l).1.take 2 = [47, 47] then wholeF ((cutL 35 l).1.drop 2) else none
theorem read_long {l : List UInt8} (h : 60 < l.length) : readF l = none := by unfold readF; rw [if_pos h]
theorem read_not {l : List UInt8} (h : ¬ (cutL 35 l).1.take 2 = [47, 47]) : readF l = none := by unfold readF; rw [if_neg h]; split <;> rfl
theorem read_is {l : List UInt8} (h0 : ¬ 60 < l.length) (h : (cutL 35 l).1.take 2 = [47, 47]) : readF l = wholeF ((cutL 35 l).1.drop 2) := by unfold readF; rw [if_neg h0, if_pos h]

/-- what comes back of a reading -/
def Reads (R : Option Ad) (w : World) (e : Ending) (w' : World) : Prop :=
  ∃ (A : Ad) (ok : Bool) (a1 : Option Addr) (c1 : Nat), e = .returned (.tuple #[.agg #[.string A.house, .slice a1 A.parts.length c1, .bool A.asks, .string A.ask], .bool ok]) ∧
      ((ok = true ∧ R = some A) ∨ (ok = false ∧ R = none ∧ A = zeroAd)) ∧ Owns w' w.heap.size (.slice a1 A.parts.length c1) A.parts ∧ Below w.heap.size w w'

set_option maxRecDepth 100000 in
set_option maxHeartbeats 4000000 in
theorem specRead_any (raw : ByteArray) (w : World) (hr : raw.size ≤ 4194304) :
    Calls Tryz.prog 58 #[.string raw] w fun e w' => Reads (readF raw.data.toList) w e w' := by
  have hl : raw.data.toList.length = raw.size := by simp
  have hcl := (cut_len 35 raw.data.toList).1
  have HR1 : Hid (60 < raw.size → readF raw.data.toList = none) := fun h => read_long (by omega)
  have HR2 : Hid (¬ (cutL 35 raw.data.toList).1.take 2 = [47, 47] → readF raw.data.toList = none) := read_not
  have HR3 : Hid (¬ 60 < raw.size → (cutL 35 raw.data.toList).1.take 2 = [47, 47] → readF raw.data.toList = wholeF ((cutL 35 raw.data.toList).1.drop 2)) := fun h0 h => read_is (by omega) h
  have HCUT := fun W => specCut_any raw 35 W hr (by omega) (by omega)
  have hxs : (bs (cutL 35 raw.data.toList).1).size = (cutL 35 raw.data.toList).1.length := bs_size _
  have HTX : Hid ((bs (cutL 35 raw.data.toList).1).data.toList = (cutL 35 raw.data.toList).1) := bs_list _
  generalize (cutL 35 raw.data.toList).1 = x at *
  generalize bs (cutL 35 raw.data.toList).2.1 = y at *
  generalize (cutL 35 raw.data.toList).2.2 = z at *
  generalize bs x = t at *
  have hts : t.size ≤ raw.size := by omega
  have HCU : Hid _ := HCUT
  have HXS : Hid _ := hxs
  clear hl hcl HCUT hxs
  go_enter Tryz.func58, Tryz.ntmps58
  go_wp2_with fail
  refine (HCU.out _).mono ?_
  rintro e w1 ⟨rfl, nq, hw1⟩
  have HB1 : Hid (Below (w.heap.size + 1) (w.alloc (.cells #[.string ⟨#[]⟩, .slice none 0 0, .bool false, .string ⟨#[]⟩] 97)) w1) := by
    subst hw1
    exact ⟨rfl, rfl, rfl, Nat.le_refl _, fun _ _ => rfl⟩
  clear hw1
  have hb1' := HB1.out
  obtain ⟨⟨d0, d1, d2, d3⟩, dz⟩ := one_cells hb1'
  clear hb1'
  by_cases h60 : 60 < raw.size
  · have HNo : Hid (readF raw.data.toList = none) := HR1.out h60
    go_wp2
    refine bodyPost_ret (v := .tuple #[.agg #[.string ⟨#[]⟩, .slice none 0 0, .bool false, .string ⟨#[]⟩], .bool false]) (by simp [results, Tryz.results58, go_sem, d0, d1, d2, d3]) rfl ?_
    refine ⟨zeroAd, false, none, 0, rfl, Or.inr ⟨rfl, HNo.out, rfl⟩, Owns.nil _ _, ?_⟩
    have hbw : Below w.heap.size w w1 := ((Below.refl _ w).alloc (Nat.le_refl _) _).trans (HB1.out.mono (by omega))
    iterate 4 refine Below.setCell ?_ (by dsimp only; omega) _
    exact hbw
  by_cases h2 : t.size < 2
  · have HNo : Hid (readF raw.data.toList = none) := HR2.out (by intro e; have := congrArg List.length e; have := HXS.out; simp at *; omega)
    go_wp2
    refine bodyPost_ret (v := .tuple #[.agg #[.string ⟨#[]⟩, .slice none 0 0, .bool false, .string ⟨#[]⟩], .bool false]) (by simp [results, Tryz.results58, go_sem, d0, d1, d2, d3]) rfl ?_
    refine ⟨zeroAd, false, none, 0, rfl, Or.inr ⟨rfl, HNo.out, rfl⟩, Owns.nil _ _, ?_⟩
    have hbw : Below w.heap.size w w1 := ((Below.refl _ w).alloc (Nat.le_refl _) _).trans (HB1.out.mono (by omega))
    iterate 4 refine Below.setCell ?_ (by dsimp only; omega) _
    exact hbw
  have HE : Hid ((t.extract 0 2).toList = x.take 2) := by
    show _ = _
    rw [ByteArray.toList_eq, ext_take, bs_list, HTX.out]
  cases hp : ((t.extract 0 2).toList == [47, 47]) with
  | false =>
    have HNo : Hid (readF raw.data.toList = none) := HR2.out (by intro e; rw [HE.out, e] at hp; simp at hp)
    go_wp2
    refine bodyPost_ret (v := .tuple #[.agg #[.string ⟨#[]⟩, .slice none 0 0, .bool false, .string ⟨#[]⟩], .bool false]) (by simp [results, Tryz.results58, go_sem, d0, d1, d2, d3]) rfl ?_
    refine ⟨zeroAd, false, none, 0, rfl, Or.inr ⟨rfl, HNo.out, rfl⟩, Owns.nil _ _, ?_⟩
    have hbw : Below w.heap.size w w1 := ((Below.refl _ w).alloc (Nat.le_refl _) _).trans (HB1.out.mono (by omega))
    iterate 4 refine Below.setCell ?_ (by dsimp only; omega) _
    exact hbw
  | true =>
    have HYes : Hid (readF raw.data.toList = wholeF (t.extract 2 t.size).data.toList) := by
      show _ = _
      have e : x.take 2 = [47, 47] := by rw [HE.out] at hp; simpa using hp
      rw [HR3.out h60 e, ext_drop, bs_list, HTX.out]
    have HS2 : Hid ((t.extract 2 t.size).size ≤ 60) := by show _ ≤ _; simp; omega
    go_wp2_with fail
    refine (specWhole_any _ _ HS2.out).mono ?_
    rintro e w2 ⟨A, ok, a1, c1, rfl, hans, hO, hb2⟩
    have HANS : Hid _ := hans
    have HO2 : Hid _ := hO
    have hz2 : w.heap.size + 1 ≤ w1.heap.size := by have := HB1.out.size; simp at this; omega
    have HB2 : Hid (Below (w.heap.size + 1) (w.alloc (.cells #[.string ⟨#[]⟩, .slice none 0 0, .bool false, .string ⟨#[]⟩] 97)) w2) := HB1.out.trans (hb2.mono hz2)
    clear hans hO hb2 d0 d1 d2 d3 dz
    have hb2' := HB2.out
    obtain ⟨⟨d0, d1, d2, d3⟩, dz⟩ := one_cells hb2'
    clear hb2'
    go_wp2
    refine bodyPost_ret (v := .tuple #[.agg #[.string A.house, .slice a1 A.parts.length c1, .bool A.asks, .string A.ask], .bool ok]) (by simp [results, Tryz.results58, go_sem, d0, d1, d2, d3]) rfl ?_
    refine ⟨A, ok, a1, c1, rfl, ?_, ?_, ?_⟩
    · rw [HYes.out]; exact HANS.out
    · refine Owns.mono (?_ : Owns _ w1.heap.size _ _) (by omega)
      have hO := HO2.out
      iterate 4 refine ownsRow_setCell_below ?_ (by dsimp only; omega) _
      exact hO
    · have hbw : Below w.heap.size w w2 := ((Below.refl _ w).alloc (Nat.le_refl _) _).trans (HB2.out.mono (by omega))
      iterate 4 refine Below.setCell ?_ (by dsimp only; omega) _
      exact hbw
end Go.Proofs.YtiennniclkbjlaaGreatDoor.Rd1
/- What Go's library answers (strings.Cut, Split, IndexAny), against our own words. -/
namespace Go.Proofs.YtiennniclkbjlaaGreatDoor.LibM
open Go.Proofs.YtiennniclkbjlaaGreatDoor.EscM Go.Proofs.YtiennniclkbjlaaGreatDoor.AddrM Go.Proofs.YtiennniclkbjlaaGreatDoor.ReadM Go.Proofs.YtiennniclkbjlaaGreatDoor.Rd1

theorem byte_eq (b d : UInt8) : (b.toNat : Int) = (d.toNat : Int) ↔ b = d := by
  constructor
  · intro h; exact UInt8.toNat.inj (by omega)
  · rintro rfl; rfl
theorem idx_one (d : UInt8) : ∀ l : List UInt8, (Lib.index l [d] = -1 ∧ cutL d.toNat l = (l, [], false)) ∨ ∃ i : Nat, i < l.length ∧ Lib.index l [d] = (i : Int) ∧ cutL d.toNat l = (l.take i, l.drop (i + 1), true) := by
  intro l
  induction l with
  | nil => left; exact ⟨rfl, rfl⟩
  | cons b r ih =>
    rw [cut_cons]
    unfold Lib.index
    by_cases h : b = d
    · subst h
      right
      refine ⟨0, by simp, ?_, ?_⟩
      · simp
      · simp
    · have h1 : ¬ (b.toNat : Int) = (d.toNat : Int) := fun e => h ((byte_eq b d).1 e)
      have h2 : ([d] : List UInt8).isPrefixOf (b :: r) = false := by simp [List.isPrefixOf]; exact fun e => h e.symm
      rw [if_neg h1, h2]
      rcases ih with ⟨i1, i2⟩ | ⟨i, i0, i1, i2⟩
      · left
        rw [i1, i2]; exact ⟨rfl, rfl⟩
      · right
        refine ⟨i + 1, by simp; omega, ?_, ?_⟩
        · rw [i1]
          have : ((i : Int) == -1) = false := by simp
          rw [this]; simp
        · rw [i2]; simp
theorem cut_lib (d : UInt8) (l : List UInt8) : Lib.cut l [d] = cutL d.toNat l := by
  unfold Lib.cut
  rcases idx_one d l with ⟨i1, i2⟩ | ⟨i, _, i1, i2⟩
  · rw [i1, i2]; rfl
  · rw [i1, i2, if_pos (by omega)]; simp
theorem split_lib (d : UInt8) : ∀ (n : Nat) (l : List UInt8), l.length ≤ n → Lib.splitK [d] 0 (Lib.count l [d]) l = splitL d.toNat l := by
  intro n
  induction n with
  | zero =>
    intro l hl
    have : l = [] := List.eq_nil_of_length_eq_zero (by omega)
    subst this
    rfl
  | succ n ih =>
    intro l hl
    rw [split_cut]
    rcases idx_one d l with ⟨i1, i2⟩ | ⟨i, i0, i1, i2⟩
    · rw [i2, Lib.count_miss i1]; rfl
    · rw [i2, Lib.count_hit (by simp) i1, Nat.add_comm]
      unfold Lib.splitK
      have : ((i : Int) == -1) = false := by simp
      rw [i1, this]
      simp only [List.length_singleton, Int.toNat_natCast, Nat.add_zero]
      rw [ih (l.drop (i + 1)) (by simp; omega)]
      rfl
theorem splitB_lib (d : UInt8) (s : ByteArray) : Lib.splitB ⟨#[d]⟩ 0 (Lib.countB s ⟨#[d]⟩) s = splitS d.toNat s := by
  have h := Lib.splitB_data ⟨#[d]⟩ 0 (Lib.countB s ⟨#[d]⟩) s
  have e : Lib.countB s ⟨#[d]⟩ = Lib.count s.data.toList [d] := rfl
  have e2 : (⟨#[d]⟩ : ByteArray).data.toList = [d] := rfl
  rw [e, e2, split_lib d _ _ (Nat.le_refl _)] at h
  unfold splitS
  rw [← h, List.map_map, e]
  conv => lhs; rw [← List.map_id (Lib.splitB ⟨#[d]⟩ 0 (Lib.count s.data.toList [d]) s)]
  apply List.map_congr_left
  intro p _
  show p = bs p.data.toList
  exact (bs_data p).symm
theorem any_lib : ∀ l : List UInt8, (Lib.indexAny l [47, 63] = -1 ∧ l.takeWhile goesOn = l ∧ l.dropWhile goesOn = []) ∨ ∃ i : Nat, i < l.length ∧ Lib.indexAny l [47, 63] = (i : Int) ∧ l.takeWhile goesOn = l.take i ∧ l.dropWhile goesOn = l.drop i := by
  intro l
  induction l with
  | nil => left; exact ⟨rfl, rfl, rfl⟩
  | cons b r ih =>
    unfold Lib.indexAny
    by_cases h : ([47, 63] : List UInt8).contains b = true
    · right
      have hg : goesOn b = false := by
        simp at h
        rcases h with rfl | rfl <;> decide
      refine ⟨0, by simp, by rw [if_pos h]; rfl, by simp [hg], by simp [hg]⟩
    · have hg : goesOn b = true := by
        simp at h
        unfold goesOn
        have h1 : ((b.toNat : Int) == 47) = false := by
          simp; intro e; exact h.1 (UInt8.toNat.inj (by show b.toNat = 47; omega))
        have h2 : ((b.toNat : Int) == 63) = false := by
          simp; intro e; exact h.2 (UInt8.toNat.inj (by show b.toNat = 63; omega))
        rw [h1, h2]; rfl
      rw [if_neg h]
      rcases ih with ⟨i1, i2, i3⟩ | ⟨i, i0, i1, i2, i3⟩
      · left
        rw [i1]; exact ⟨rfl, by simp [hg, i2], by simp [hg, i3]⟩
      · right
        refine ⟨i + 1, by simp; omega, ?_, by simp [hg, i2], by simp [hg, i3]⟩
        rw [i1]
        have : ((i : Int) == -1) = false := by simp
        rw [this]; simp
end Go.Proofs.YtiennniclkbjlaaGreatDoor.LibM
/- The program's reading of an address: the leaves. -/
namespace Go.Proofs.YtiennniclkbjlaaGreatDoor.Im
open Go.RowKit Go.Proofs.YtiennniclkbjlaaGreatDoor.EscM Go.Proofs.YtiennniclkbjlaaGreatDoor.AddrM Go.Proofs.YtiennniclkbjlaaGreatDoor.ReadM Go.Proofs.YtiennniclkbjlaaGreatDoor.St Go.Proofs.YtiennniclkbjlaaGreatDoor.EscL Go.Proofs.YtiennniclkbjlaaGreatDoor.PathM Go.Proofs.YtiennniclkbjlaaGreatDoor.Ad1 Go.Proofs.YtiennniclkbjlaaGreatDoor.Rd1 Go.Proofs.YtiennniclkbjlaaGreatDoor.LibM

/-- internal/bytealg.MaxLen (the program's variable 0) holds some number -/
def Mx (w : World) : Prop := ∃ m : Int, w.cell? ⟨2, 0, none⟩ = some (.int .i64 m)
theorem Mx.keep {w w' : World} (h : Mx w) (hb : ∀ k, k < w.heap.size → w'.heap[k]? = w.heap[k]?) : Mx w' := by
  obtain ⟨m, hm⟩ := h
  exact ⟨m, by rw [World.cell?_of_block (w := w) (hb _ (cell_block hm))]; exact hm⟩
theorem Mx.below {w w' : World} (h : Mx w) (hb : Below w.heap.size w w') : Mx w' := h.keep fun k hk => hb.block k hk
theorem Mx.alloc {w : World} (h : Mx w) (o : Obj) : Mx (w.alloc o) := h.keep (alloc_keep w o)
theorem Mx.drewN {w : World} (h : Mx w) (n : Nat) : Mx (w.drewN n) := h.keep fun _ _ => rfl

theorem cut_any (s : ByteArray) (d : UInt8) (w : World) (h : Mx w) (hs : s.size ≤ 1000000) :
    Calls Tryz.prog 138 #[.string s, .string ⟨#[d]⟩] w fun e w' => e = .returned (.tuple #[.string (bs (cutL d.toNat s.data.toList).1), .string (bs (cutL d.toNat s.data.toList).2.1), .bool (cutL d.toNat s.data.toList).2.2]) ∧ ∃ n, w' = w.drewN n := by
  obtain ⟨m, hm⟩ := h
  refine (Tryz.strings_Cut s ⟨#[d]⟩ m w (by omega) hm).mono ?_
  rintro e w' ⟨rfl, hw⟩
  refine ⟨?_, hw⟩
  have e : Lib.cut s.data.toList (⟨#[d]⟩ : ByteArray).data.toList = cutL d.toNat s.data.toList := cut_lib d _
  rw [e]; rfl
theorem cross_any (s : ByteArray) (w : World) (h : Mx w) (hs : s.size ≤ 1000000) :
    Calls Tryz.prog 115 #[.string s] w fun e w' => e = .returned (.string (bs (cutL 35 s.data.toList).1)) ∧ ∃ n, w' = w.drewN n := by
  go_enter Tryz.func115, Tryz.ntmps115
  go_wp2_with fail
  refine (cut_any s 35 _ h hs).mono ?_
  rintro e w1 ⟨rfl, n, rfl⟩
  go_wp2
  go_ret
  exact ⟨rfl, n, rfl⟩
theorem clone_nil (n c : Nat) (w : World) : Calls Tryz.prog 100 #[.slice none n c] w fun e w' => e = .returned (.slice none 0 0) ∧ w' = w := Tryz.slices_Clone_string_nil n c w
theorem split_any (s : ByteArray) (w : World) (h : Mx w) (hs : s.size ≤ 1000000) :
    Calls Tryz.prog 141 #[.string s, .string ⟨#[47]⟩] w fun e w' => e = .returned (.slice (some ⟨w.heap.size, 0, none⟩) (splitS 47 s).length (splitS 47 s).length) ∧ w' = w.alloc (.cells ((splitS 47 s).map Value.string).toArray 9) := by
  obtain ⟨m, hm⟩ := h
  refine (Tryz.strings_Split s ⟨#[47]⟩ m w (by omega) hm (by decide)).mono ?_
  rintro e w' ⟨rfl, rfl⟩
  have e1 : Lib.splitB ⟨#[47]⟩ 0 (Lib.countB s ⟨#[47]⟩) s = splitS 47 s := splitB_lib 47 s
  have e2 : Lib.countB s ⟨#[47]⟩ + 1 = (splitS 47 s).length := by
    rw [← e1]; exact (Lib.splitB_all ⟨#[47]⟩ (by decide) 0 _ s rfl).symm
  rw [e1, e2]
  exact ⟨rfl, rfl⟩

theorem pre_ext (s : ByteArray) : (s.extract 0 2).toList = s.data.toList.take 2 := by rw [ByteArray.toList_eq, ext_take, bs_list]
theorem ret2 {a b : ByteArray} {x : Bool} (h : a = b) : Ending.returned (.tuple #[.string a, .bool x]) = .returned (.tuple #[.string b, .bool x]) := by rw [h]
theorem prefix_no (s : ByteArray) (w : World) (hs : s.size ≤ 1000000) (hn : ¬ s.data.toList.take 2 = [47, 47]) :
    Calls Tryz.prog 134 #[.string s, .string ⟨#[47, 47]⟩] w fun e w' => e = .returned (.tuple #[.string s, .bool false]) ∧ w' = w := by
  have HN : Hid _ := hn
  clear hn
  by_cases h2 : s.size < 2
  · go_enter Tryz.func134, Tryz.ntmps134
    go_wp2
    go_ret2
    exact ⟨rfl, rfl⟩
  · have he : ((s.extract 0 2).toList == [47, 47]) = false := by
      rw [pre_ext]
      cases hc : (s.data.toList.take 2 == [47, 47]) with
      | false => rfl
      | true => exact absurd (eq_of_beq hc) HN.out
    go_enter Tryz.func134, Tryz.ntmps134
    go_wp2
    go_ret2
    exact ⟨rfl, rfl⟩
theorem prefix_yes (s : ByteArray) (w : World) (hs : s.size ≤ 1000000) (hy : s.data.toList.take 2 = [47, 47]) :
    Calls Tryz.prog 134 #[.string s, .string ⟨#[47, 47]⟩] w fun e w' => e = .returned (.tuple #[.string (bs (s.data.toList.drop 2)), .bool true]) ∧ w' = w := by
  have h2 : ¬ s.size < 2 := by
    have := congrArg List.length hy
    simp at this; omega
  have he : ((s.extract 0 2).toList == [47, 47]) = true := by rw [pre_ext, hy]; rfl
  have HE : Hid (s.extract 2 s.size = bs (s.data.toList.drop 2)) := ext_drop s 2
  clear hy
  go_enter Tryz.func134, Tryz.ntmps134
  go_wp2
  go_ret2
  exact ⟨ret2 HE.out, rfl⟩

set_option maxRecDepth 100000 in
set_option maxHeartbeats 1600000 in
theorem lower_any (s : ByteArray) (w : World) (hs : s.size ≤ 1000000) :
    Calls Tryz.prog 137 #[.string s] w fun e w' => e = .returned (.string (bs (smallL s.data.toList))) ∧ Below w.heap.size w w' := by
  obtain ⟨cap, wm, hrun, hcap, hcell, hfz, hbm⟩ := bytes_of s w
  have HC : Hid _ := hcell
  have HF : Hid _ := hfz
  clear hcell hfz
  go_enter Tryz.func137, Tryz.ntmps137
  go_wp2
  go_loopw [10] (fun i wr => ∃ k : Nat, k ≤ s.size ∧ i = .int .i64 (k : Int) ∧ Hid (∀ j (h : j < s.size), wr.cell? ⟨w.heap.size, j, none⟩ = some (.int .u8 (if j < k then smallZ (s[j]'h).toNat else ((s[j]'h).toNat : Int)))) ∧ Hid (∀ j, j < s.size → wr.frozen? ⟨w.heap.size, j, none⟩ = false) ∧ Below w.heap.size w wr) (fun i _ => s.size - (intOf i).toNat)
  case atStart => exact ⟨0, Nat.zero_le _, rfl, (by intro j h; rw [HC.out j h]; simp), HF, hbm⟩
  case round =>
    obtain ⟨k, hk, rfl, HK, HZ, hbel⟩ := hrel
    clear hrun
    by_cases hlt : k < s.size
    · have ck := HK.out k hlt
      rw [if_neg (by omega)] at ck
      have zk := HZ.out k hlt
      have hble := byte_le (s[k]'hlt)
      have HSM : Hid (smallZ (s[k]'hlt).toNat = if 65 ≤ ((s[k]'hlt).toNat : Int) ∧ ((s[k]'hlt).toNat : Int) ≤ 90 then ((s[k]'hlt).toNat : Int) + 32 else ((s[k]'hlt).toNat : Int)) := rfl
      by_cases h1 : 65 ≤ ((s[k]'hlt).toNat : Int)
      · by_cases h2 : ((s[k]'hlt).toNat : Int) ≤ 90
        · have HN : Hid _ := small_set (B := w.heap.size) (v := ((s[k]'hlt).toNat : Int) + 32) hlt HK.out (by rw [HSM.out, if_pos ⟨h1, h2⟩])
          have HW : Hid (Below w.heap.size w (wr.setCell ⟨w.heap.size, k, none⟩ (.int .u8 (((s[k]'hlt).toNat : Int) + 32)))) := Below.setCell hbel (Nat.le_refl _) _
          go_wp2
          go_roundw
          case rel => exact ⟨k + 1, by omega, by go_num, HN.out, (by intro j h; rw [World.frozen?_setCell]; exact HZ.out j h), HW.out⟩
          case measure => simp [intOf]; omega
        · have HN : Hid _ := small_keep hlt HK.out (by rw [HSM.out, if_neg (by omega)])
          go_wp2
          go_roundw
          case rel => exact ⟨k + 1, by omega, by go_num, HN.out, HZ, hbel⟩
          case measure => simp [intOf]; omega
      · have HN : Hid _ := small_keep hlt HK.out (by rw [HSM.out, if_neg (by omega)])
        go_wp2
        go_roundw
        case rel => exact ⟨k + 1, by omega, by go_num, HN.out, HZ, hbel⟩
        case measure => simp [intOf]; omega
    · have hstr : (convert 22 9 (.slice (some ⟨w.heap.size, 0, none⟩) s.size cap)).run Tryz.prog wr = .ok (.string (bs (smallL s.data.toList))) wr := by
        have hl : (smallL s.data.toList).length = s.size := by simp [smallL]
        have := run_convert_bytes_back (P := Tryz.prog) wr 22 9 5 ⟨w.heap.size, 0, none⟩ cap (smallL s.data.toList) Tryz.underlying22 Tryz.underlying5 Tryz.underlying9 ?_
        · rw [hl] at this; exact this
        · intro j hj
          have hj' : j < s.size := by omega
          rw [add_mk, Nat.zero_add, HK.out j hj', if_pos (by omega)]
          have hb := byte_le (s[j]'hj')
          have hz : 0 ≤ smallZ (s[j]'hj').toNat ∧ smallZ (s[j]'hj').toNat ≤ 255 := by unfold smallZ; split <;> omega
          have e : (smallL s.data.toList)[j] = toB (smallZ (s[j]'hj').toNat) := by simp [smallL]; rfl
          rw [e, toB_toNat _ hz.1 hz.2]
      go_wp2
      go_ret
      exact ⟨rfl, hbel⟩
end Go.Proofs.YtiennniclkbjlaaGreatDoor.Im
/- The program's reading of a way, from no parts. -/
namespace Go.Proofs.YtiennniclkbjlaaGreatDoor.Im
open Go.RowKit Go.Proofs.YtiennniclkbjlaaGreatDoor.EscM Go.Proofs.YtiennniclkbjlaaGreatDoor.AddrM Go.Proofs.YtiennniclkbjlaaGreatDoor.ReadM Go.Proofs.YtiennniclkbjlaaGreatDoor.St Go.Proofs.YtiennniclkbjlaaGreatDoor.EscL Go.Proofs.YtiennniclkbjlaaGreatDoor.PathM Go.Proofs.YtiennniclkbjlaaGreatDoor.Ad1 Go.Proofs.YtiennniclkbjlaaGreatDoor.Rd1 Go.Proofs.YtiennniclkbjlaaGreatDoor.LibM

set_option maxRecDepth 100000 in
set_option maxHeartbeats 4000000 in
theorem implWay_nil (house way : ByteArray) (w : World) (hM : Mx w) (hh : house.size ≤ 1000) (hw : way.size ≤ 60) :
    Calls Tryz.prog 136 #[.string house, .slice none 0 0, .string way] w fun e w' => Reads (wayF house [] way) w e w' := by
  obtain ⟨i0, hi, hz0, hz1, hz2⟩ := info_parts Tryz.infoS
  have hcl := cut_len 63 way.data.toList
  have hwl : way.data.toList.length = way.size := by simp
  obtain ⟨x, y, f, hcut⟩ : ∃ x y f, cutL 63 way.data.toList = (x, y, f) := ⟨_, _, _, rfl⟩
  have HW : Hid _ := way_cut (house := house) (frm := []) hcut
  rw [bs_data] at HW
  rw [hcut] at hcl
  have hxl : x.length ≤ 60 := by have := hcl.1; simp at this; omega
  have hyl : y.length ≤ 60 := by have := hcl.1; simp at this; omega
  have HCUT := fun W hW => cut_any way 63 W hW (by omega)
  have e63 : ((63 : UInt8).toNat : Int) = 63 := rfl
  rw [e63, hcut] at HCUT
  have HCU : Hid _ := HCUT
  have HM : Hid (Mx w) := hM
  have hby : (bs y).size ≤ maxLen := by rw [bs_size]; unfold maxLen; omega
  clear hcl hcut hwl HCUT hM
  go_enter Tryz.func136, Tryz.ntmps136
  go_wp2_with fail
  refine (HCU.out _ (HM.out.alloc _)).mono ?_
  rintro e w1 ⟨rfl, nq, hw1⟩
  have HB1 : Hid (Below (w.heap.size + 1) (w.alloc (.cells #[.string ⟨#[]⟩, .slice none 0 0, .bool false, .string ⟨#[]⟩] 97)) w1) := by
    subst hw1
    exact ⟨rfl, rfl, rfl, Nat.le_refl _, fun _ _ => rfl⟩
  have HM1 : Hid (Mx w1) := by subst hw1; exact (HM.out.alloc _).drewN _
  clear hw1
  dsimp only
  go_wp2_with fail
  refine (implEsc_any (bs y) _ hby).mono ?_
  rintro e w2 ⟨rfl, hb2⟩
  have hz1' : w.heap.size + 1 ≤ w1.heap.size := by have := HB1.out.size; simp at this; omega
  have HB2 : Hid (Below (w.heap.size + 1) (w.alloc (.cells #[.string ⟨#[]⟩, .slice none 0 0, .bool false, .string ⟨#[]⟩] 97)) w2) := HB1.out.trans (hb2.mono hz1')
  have HM2 : Hid (Mx w2) := HM1.out.below hb2
  clear hb2 HB1 HM1
  have hb2' := HB2.out
  obtain ⟨⟨d0, d1, d2, d3⟩, dz⟩ := one_cells hb2'
  clear hb2'
  cases hq : escB (bs y) with
  | false =>
    have HNo : Hid (wayF house [] way = none) := by
      show _ = _
      rw [HW.out]
      split
      · rfl
      · rw [hq]; rfl
    clear hq
    go_wp2
    refine bodyPost_ret (v := .tuple #[.agg #[.string ⟨#[]⟩, .slice none 0 0, .bool false, .string ⟨#[]⟩], .bool false]) (by simp [results, Tryz.results136, go_sem, d0, d1, d2, d3]) rfl ?_
    refine ⟨zeroAd, false, none, 0, rfl, Or.inr ⟨rfl, HNo.out, rfl⟩, Owns.nil _ _, ?_⟩
    have hbw : Below w.heap.size w w2 := ((Below.refl _ w).alloc (Nat.le_refl _) _).trans (HB2.out.mono (by omega))
    iterate 4 refine Below.setCell ?_ (by dsimp only; omega) _
    exact hbw
  | true =>
    have HQ : Hid _ := hq
    clear hq
    go_wp2_with fail
    refine (clone_nil _ _ _).mono ?_
    rintro e w3 ⟨rfl, rfl⟩
    go_wp2_with fail
    refine (split_any (bs x) _ HM2.out (by rw [bs_size]; omega)).mono ?_
    rintro e w4 ⟨rfl, hw4⟩
    obtain ⟨S, hS⟩ : ∃ S, w3.heap.size = S := ⟨_, rfl⟩
    have hz3 : w.heap.size + 1 ≤ S := by have := HB2.out.size; simp at this; omega
    have hSz : w4.heap.size = S + 1 := by rw [hw4]; simp; exact hS
    have hsl : (splitS 47 (bs x)).length ≤ 61 := by
      unfold splitS
      rw [List.length_map]
      have h1 := split_len 47 (bs x).data.toList
      rw [bs_list] at h1 ⊢; omega
    have hpm : ∀ z ∈ splitS 47 (bs x), z.size ≤ 60 := fun z hz => by have := splitS_mem 47 _ z hz; rw [bs_size] at this; omega
    have hIs : IsStrs w4 (some ⟨S, 0, none⟩) (splitS 47 (bs x)).length (splitS 47 (bs x)) := by
      refine ⟨Nat.le_refl _, by unfold maxLen; omega, (fun e => by cases e), fun _ => ⟨S, 0, rfl, fun i hi => ?_⟩⟩
      have hb : w4.heap[S]? = some (.cells ((splitS 47 (bs x)).map Value.string).toArray 9) := by rw [hw4, ← hS]; show (w3.heap.push _)[w3.heap.size]? = _; simp
      unfold World.cell?
      dsimp only
      rw [hb]; simp [List.getElem?_eq_getElem hi]
    have HB4 : Hid (Below (w.heap.size + 1) (w.alloc (.cells #[.string ⟨#[]⟩, .slice none 0 0, .bool false, .string ⟨#[]⟩] 97)) w4) := by rw [hw4]; exact HB2.out.alloc (by rw [hS]; exact hz3) _
    have HPM : Hid _ := hpm
    have HIS : Hid (IsStrs w4 (some ⟨S, 0, none⟩) (splitS 47 (bs x)).length (splitS 47 (bs x))) := hIs
    clear hpm hIs hw4 d0 d1 d2 d3 dz HB2 HM2
    generalize hP : splitS 47 (bs x) = P at *
    have HP : Hid _ := hP
    clear hP
    have hzs : S + 1 ≤ w4.heap.size := by omega
    clear hSz
    go_wp2
    go_loopw [13, 38] (fun v i wr => ∃ k : Nat, k ≤ P.length ∧ i = .int .i64 (k : Int) ∧ Hid (Owns wr (S + 1) v ((P.take k).map escS)) ∧ Hid (∀ z ∈ P.take k, escB z = true) ∧ Hid (IsStrs wr (some ⟨S, 0, none⟩) P.length P) ∧
        Hid (Below (w.heap.size + 1) (w.alloc (.cells #[.string ⟨#[]⟩, .slice none 0 0, .bool false, .string ⟨#[]⟩] 97)) wr) ∧ S + 1 ≤ wr.heap.size) (fun _ i _ => P.length - (intOf i).toNat)
    case atStart => exact ⟨0, Nat.zero_le _, rfl, (by show Owns _ _ _ _; simpa using Owns.nil w4 (S + 1)), (by intro z hz; simp at hz), HIS, HB4, hzs⟩
    case round =>
      obtain ⟨k, hk, rfl, HO, HE, HI, HB, hzr⟩ := hrel
      have hb := HB.out
      obtain ⟨⟨d0, d1, d2, d3⟩, dz⟩ := one_cells hb
      clear hb
      by_cases hlt : k < P.length
      · obtain ⟨b, o, e, c⟩ := HI.out.at hlt
        injection e with e
        injection e with e1 e2 _
        subst e1; subst e2
        rw [Nat.zero_add] at c
        have hpz := HPM.out _ (List.getElem_mem hlt)
        have hpz' : P[k].size ≤ maxLen := by unfold maxLen; omega
        cases hq : escB P[k] with
        | false =>
          have HNo : Hid (wayF house [] way = none) := by show _ = _; rw [HW.out, normS_no hlt hq]
          have HF : Hid _ := hq
          clear hq
          go_wp2_with fail
          refine (implEsc_any P[k] _ hpz').mono ?_
          rintro e w6 ⟨rfl, hb6⟩
          rw [HF.out]
          have HB6 : Hid (Below (w.heap.size + 1) (w.alloc (.cells #[.string ⟨#[]⟩, .slice none 0 0, .bool false, .string ⟨#[]⟩] 97)) w6) := HB.out.trans (hb6.mono (by omega))
          clear hb6 d0 d1 d2 d3 dz
          have hb6' := HB6.out
          obtain ⟨⟨d0, d1, d2, d3⟩, dz⟩ := one_cells hb6'
          clear hb6'
          go_wp2
          refine bodyPost_ret (v := .tuple #[.agg #[.string ⟨#[]⟩, .slice none 0 0, .bool false, .string ⟨#[]⟩], .bool false]) (by simp [results, Tryz.results136, go_sem, d0, d1, d2, d3]) rfl ?_
          refine ⟨zeroAd, false, none, 0, rfl, Or.inr ⟨rfl, HNo.out, rfl⟩, Owns.nil _ _, ?_⟩
          have hbw : Below w.heap.size w w6 := ((Below.refl _ w).alloc (Nat.le_refl _) _).trans (HB6.out.mono (by omega))
          iterate 4 refine Below.setCell ?_ (by dsimp only; omega) _
          exact hbw
        | true =>
          have HT : Hid ((P.take (k + 1)).map escS = (P.take k).map escS ++ [escS P[k]]) := by
            show _ = _
            rw [List.take_succ_eq_append_getElem hlt, List.map_append]; rfl
          have HE2 : Hid (∀ z ∈ P.take (k + 1), escB z = true) := by
            intro z hz
            rw [List.take_succ_eq_append_getElem hlt] at hz
            rcases List.mem_append.1 hz with hz | hz
            · exact HE.out z hz
            · simp at hz; subst hz; exact hq
          have HF : Hid _ := hq
          clear hq
          have hlen : ((P.take k).map escS).length ≤ k := by simp; omega
          go_wp2_with fail
          refine (implEsc_any P[k] _ hpz').mono ?_
          rintro e w6 ⟨rfl, hb6⟩
          rw [HF.out]
          have HB6 : Hid (Below (w.heap.size + 1) (w.alloc (.cells #[.string ⟨#[]⟩, .slice none 0 0, .bool false, .string ⟨#[]⟩] 97)) w6) := HB.out.trans (hb6.mono (by omega))
          have HO6 : Hid (Owns w6 (S + 1) u13 ((P.take k).map escS)) := Owns.below HO.out hb6
          have HI6 : Hid (IsStrs w6 (some ⟨S, 0, none⟩) P.length P) := HI.out.below hb6
          have hz6 : S + 1 ≤ w6.heap.size := Nat.le_trans hzr hb6.size
          clear hb6 d0 d1 d2 d3 dz c
          generalize escS P[k] = p at *
          obtain ⟨ao, co, hv, hst⟩ := HO6.out.strs
          have hso := hst.1
          have hsm := hst.2.1
          unfold maxLen at hsm
          clear hst
          generalize hX : (P.take k).map escS = X at *
          subst hv
          go_wp2_with (at_builtin; refine wpList_append_own _ rfl _ _ 23 rfl (S + 1) 9 i0 (.string ⟨#[]⟩) 1 16 Tryz.underlying23 hi hz0 hz1 hz2 rfl (by decide) _ _ _ rfl (World.ownsRow.alloc HO6.out _) ⟨w6.heap.size, 0, none⟩ 1 1 [.string p] rfl rfl (cell_one_new _ _ _) ?c2 ?c3 ?c4 ?c5 ?_)
          case c2 => intro u hu; simp at hu; subst hu; rfl
          case c3 => unfold maxLen; omega
          case c4 => omega
          case c5 => simp; omega
          intro v' w7 hown' hgrow _
          have HO' : Hid _ := hown'
          have hbg : Below (S + 1) w6 w7 := Below.grown ((Below.refl _ _).alloc hz6 _) hgrow (by simp; omega) (Owns.block HO6.out)
          have HB7 : Hid (Below (w.heap.size + 1) (w.alloc (.cells #[.string ⟨#[]⟩, .slice none 0 0, .bool false, .string ⟨#[]⟩] 97)) w7) := HB6.out.trans (hbg.mono (by omega))
          have HI7 : Hid (IsStrs w7 (some ⟨S, 0, none⟩) P.length P) := by
            obtain ⟨j1, j2, j3, j4⟩ := HI6.out
            refine ⟨j1, j2, j3, fun hne => ?_⟩
            obtain ⟨bb, off, e, hc⟩ := j4 hne
            refine ⟨bb, off, e, fun i hi => ?_⟩
            injection e with e
            injection e with e1 e2 _
            subst e1
            rw [hbg.cell (by show S < S + 1; omega)]; exact hc i hi
          have hz7 : S + 1 ≤ w7.heap.size := Nat.le_trans hz6 hbg.size
          clear hown' hgrow hbg
          go_wp2
          go_roundw
          case rel => exact ⟨k + 1, by omega, by go_num, by rw [HT.out]; exact Owns.append HO'.out, HE2, HI7, HB7, hz7⟩
          case measure => simp [intOf]; omega
      · have hall : P.take k = P := List.take_of_length_le (by omega)
        rw [hall] at HO HE
        clear hall
        have HN : Hid (wayF house [] way = if okB ⟨house, cleanL (P.map escS), f, escS (bs y)⟩ = true then some ⟨house, cleanL (P.map escS), f, escS (bs y)⟩ else none) := by
          show _ = _
          rw [HW.out, normS_all HE.out, HQ.out]
          simp only [if_true, List.nil_append]
        have hXl : (P.map escS).length ≤ 61 := by simp; omega
        have hXs : sumS (cleanL (P.map escS)) ≤ 61 * 180 := by
          refine Nat.le_trans (sum_clean _) (Nat.le_trans (sum_le (m := 180) (fun z hz => ?_)) (Nat.mul_le_mul_right _ hXl))
          obtain ⟨q, _, rfl⟩ := List.mem_map.1 hz
          exact escS_size q
        have hcl := clean_len (P.map escS)
        have hys := escS_size (bs y)
        have HBK : Hid (bulkA ⟨house, cleanL (P.map escS), f, escS (bs y)⟩ ≤ 4194304) := by
          show house.size + sumS (cleanL (P.map escS)) + (cleanL (P.map escS)).length + (escS (bs y)).size ≤ _
          omega
        generalize hX : P.map escS = X at *
        generalize hA : escS (bs y) = ask at *
        clear hX hA hXs hcl hys d0 d1 d2 d3 dz HE HW HI
        obtain ⟨a5, c5, hv5, hS5⟩ := HO.out.strs
        subst hv5
        go_wp2_with fail
        refine (implPath_any a5 c5 X _ hS5 (by omega)).mono ?_
        rintro e w8 ⟨v8, rfl, hO8, hb8⟩
        obtain ⟨a8, c8, hv8, hS8⟩ := hO8.strs
        subst hv8
        have HB8 : Hid (Below (w.heap.size + 1) (w.alloc (.cells #[.string ⟨#[]⟩, .slice none 0 0, .bool false, .string ⟨#[]⟩] 97)) w8) := HB.out.trans (hb8.mono (by omega))
        have HO8 : Hid (Owns w8 (w.heap.size + 1) (.slice a8 (cleanL X).length c8) (cleanL X)) := Owns.mono hO8 (by omega)
        have hz8 : S + 1 ≤ w8.heap.size := Nat.le_trans hzr hb8.size
        clear hO8 hb8 hS8 hS5
        have HX8 : Hid ((w8.alloc (.cells #[.string house, .slice a8 (cleanL X).length c8, .bool f, .string ask] 97)).heap[w8.heap.size]? = some (.cells #[.string house, .slice a8 (cleanL X).length c8, .bool f, .string ask] 97)) := by
          show (w8.heap.push _)[w8.heap.size]? = _
          simp
        have HB8a : Hid (Below (w.heap.size + 1) (w.alloc (.cells #[.string ⟨#[]⟩, .slice none 0 0, .bool false, .string ⟨#[]⟩] 97)) (w8.alloc (.cells #[.string house, .slice a8 (cleanL X).length c8, .bool f, .string ask] 97))) := HB8.out.alloc (by omega) _
        have HO8a : Hid (Owns (w8.alloc (.cells #[.string house, .slice a8 (cleanL X).length c8, .bool f, .string ask] 97)) (w.heap.size + 1) (.slice a8 (cleanL X).length c8) (cleanL X)) := Owns.keep HO8.out (alloc_keep w8 _)
        obtain ⟨G, hG⟩ : ∃ G, w8.heap.size = G := ⟨_, rfl⟩
        have hGw : w.heap.size + 1 ≤ G := by omega
        rw [hG] at HX8
        go_wp2_with fail
        refine (implOk_any ⟨house, cleanL X, f, ask⟩ a8 c8 _ (Owns.strsOf HO8a.out) HBK.out).mono ?_
        rintro e w9 ⟨rfl, hb9⟩
        have hz9 : (w8.alloc (.cells #[.string house, .slice a8 (cleanL X).length c8, .bool f, .string ask] 97)).heap.size = G + 1 := by simp; exact hG
        have HB9 : Hid (Below (w.heap.size + 1) (w.alloc (.cells #[.string ⟨#[]⟩, .slice none 0 0, .bool false, .string ⟨#[]⟩] 97)) w9) := HB8a.out.trans (hb9.mono (by omega))
        have HO9 : Hid (Owns w9 (w.heap.size + 1) (.slice a8 (cleanL X).length c8) (cleanL X)) := Owns.below HO8a.out hb9
        have hx9 : w9.heap[G]? = some (.cells #[.string house, .slice a8 (cleanL X).length c8, .bool f, .string ask] 97) := by rw [hb9.block G (by omega)]; exact HX8.out
        have k0 : w9.cell? ⟨G, 0, none⟩ = some (.string house) := by simp [World.cell?, hx9]
        have k1 : w9.cell? ⟨G, 1, none⟩ = some (.slice a8 (cleanL X).length c8) := by simp [World.cell?, hx9]
        have k2 : w9.cell? ⟨G, 2, none⟩ = some (.bool f) := by simp [World.cell?, hx9]
        have k3 : w9.cell? ⟨G, 3, none⟩ = some (.string ask) := by simp [World.cell?, hx9]
        clear hb9 hz9 hx9 HX8 HB8a HO8a HO8 HB8 hG
        have hb9' := HB9.out
        obtain ⟨⟨d0, d1, d2, d3⟩, dz⟩ := one_cells hb9'
        clear hb9'
        have hbw : Below w.heap.size w w9 := ((Below.refl _ w).alloc (Nat.le_refl _) _).trans (HB9.out.mono (by omega))
        have HBW : Hid _ := hbw
        clear hbw
        cases hk2 : okB ⟨house, cleanL X, f, ask⟩ with
        | false =>
          have HNo : Hid (wayF house [] way = none) := by show _ = _; rw [HN.out, hk2]; rfl
          clear hk2
          go_wp2
          refine bodyPost_ret (v := .tuple #[.agg #[.string ⟨#[]⟩, .slice none 0 0, .bool false, .string ⟨#[]⟩], .bool false]) (by simp [results, Tryz.results136, go_sem, d0, d1, d2, d3]) rfl ?_
          refine ⟨zeroAd, false, none, 0, rfl, Or.inr ⟨rfl, HNo.out, rfl⟩, Owns.nil _ _, ?_⟩
          have hbw := HBW.out
          iterate 4 refine Below.setCell ?_ (by dsimp only; omega) _
          exact hbw
        | true =>
          have HYes : Hid (wayF house [] way = some ⟨house, cleanL X, f, ask⟩) := by show _ = _; rw [HN.out, hk2]; rfl
          clear hk2
          go_wp2
          refine bodyPost_ret (v := .tuple #[.agg #[.string house, .slice a8 (cleanL X).length c8, .bool f, .string ask], .bool true]) (by simp [results, Tryz.results136, go_sem, d0, d1, d2, d3]) rfl ?_
          refine ⟨⟨house, cleanL X, f, ask⟩, true, a8, c8, rfl, Or.inl ⟨rfl, HYes.out⟩, ?_, ?_⟩
          · refine Owns.mono (?_ : Owns _ (w.heap.size + 1) _ _) (by omega)
            have hO := HO9.out
            iterate 4 refine ownsRow_setCell_below ?_ (by dsimp only; omega) _
            exact hO
          · have hbw := HBW.out
            iterate 4 refine Below.setCell ?_ (by dsimp only; omega) _
            exact hbw
end Go.Proofs.YtiennniclkbjlaaGreatDoor.Im
/- Of which texts the program's AddrRead is walked: of all. -/
namespace Go.Proofs.YtiennniclkbjlaaGreatDoor.Im
open Go.RowKit Go.Proofs.YtiennniclkbjlaaGreatDoor.EscM Go.Proofs.YtiennniclkbjlaaGreatDoor.AddrM Go.Proofs.YtiennniclkbjlaaGreatDoor.ReadM Go.Proofs.YtiennniclkbjlaaGreatDoor.St Go.Proofs.YtiennniclkbjlaaGreatDoor.EscL Go.Proofs.YtiennniclkbjlaaGreatDoor.PathM Go.Proofs.YtiennniclkbjlaaGreatDoor.Ad1 Go.Proofs.YtiennniclkbjlaaGreatDoor.Rd1 Go.Proofs.YtiennniclkbjlaaGreatDoor.LibM

def ascii (_ : ByteArray) : Prop := True
theorem ascii_drop {s : ByteArray} (n : Nat) (_ : ascii s) : ascii (bs (s.data.toList.drop n)) := trivial
theorem cut_ascii {s : ByteArray} (c : Int) (_ : ascii s) : ascii (bs (cutL c s.data.toList).1) := trivial
theorem any_any (s : ByteArray) (w : World) (hs : s.size ≤ 1000000) (_ : ascii s) :
    Calls Tryz.prog 135 #[.string s, .string ⟨#[47, 63]⟩] w fun e w' => e = .returned (.int .i64 (Lib.indexAny s.data.toList [47, 63])) ∧ Below w.heap.size w w' := DecM.any_all s w hs
end Go.Proofs.YtiennniclkbjlaaGreatDoor.Im
/- The program's AddrRead, of a text of ASCII bytes. -/
namespace Go.Proofs.YtiennniclkbjlaaGreatDoor.Im
open Go.RowKit Go.Proofs.YtiennniclkbjlaaGreatDoor.EscM Go.Proofs.YtiennniclkbjlaaGreatDoor.AddrM Go.Proofs.YtiennniclkbjlaaGreatDoor.ReadM Go.Proofs.YtiennniclkbjlaaGreatDoor.St Go.Proofs.YtiennniclkbjlaaGreatDoor.EscL Go.Proofs.YtiennniclkbjlaaGreatDoor.PathM Go.Proofs.YtiennniclkbjlaaGreatDoor.Ad1 Go.Proofs.YtiennniclkbjlaaGreatDoor.Rd1 Go.Proofs.YtiennniclkbjlaaGreatDoor.LibM

/-- readWhole, as a function on lists -/
def wholeR (l : List UInt8) : Option Ad := if l.take 2 = [47, 47] then wholeF (l.drop 2) else none

set_option maxRecDepth 100000 in
set_option maxHeartbeats 4000000 in
theorem implWhole_ascii (text : ByteArray) (w : World) (hM : Mx w) (ht : text.size ≤ 60) (ha : ascii text) :
    Calls Tryz.prog 114 #[.string text] w fun e w' => Reads (wholeR text.data.toList) w e w' := by
  have hl : text.data.toList.length = text.size := by simp
  have HM : Hid (Mx w) := hM
  clear hM
  have hb0 : Below (w.heap.size + 1) (w.alloc (.cells #[.string ⟨#[]⟩, .slice none 0 0, .bool false, .string ⟨#[]⟩] 97)) (w.alloc (.cells #[.string ⟨#[]⟩, .slice none 0 0, .bool false, .string ⟨#[]⟩] 97)) := Below.refl _ _
  by_cases hp : text.data.toList.take 2 = [47, 47]
  · have HY : Hid (wholeR text.data.toList = wholeF (text.data.toList.drop 2)) := by show _ = _; unfold wholeR; rw [if_pos hp]
    have HP : Hid (text.data.toList.take 2 = [47, 47]) := hp
    have har : ascii (bs (text.data.toList.drop 2)) := ascii_drop 2 ha
    have hrs : (bs (text.data.toList.drop 2)).size ≤ 60 := by rw [bs_size]; simp; omega
    have HAR : Hid _ := har
    clear hp har
    have hrl : (bs (text.data.toList.drop 2)).data.toList = text.data.toList.drop 2 := bs_list _
    have HRL : Hid _ := hrl
    clear hrl
    go_enter Tryz.func114, Tryz.ntmps114
    go_wp2_with fail
    refine (prefix_yes text _ (by omega) HP.out).mono ?_
    rintro e w1 ⟨rfl, rfl⟩
    generalize bs (text.data.toList.drop 2) = rest at *
    go_wp2_with fail
    refine (any_any rest _ (by omega) HAR.out).mono ?_
    rintro e w2 ⟨rfl, hb2⟩
    have HB2 : Hid (Below (w.heap.size + 1) (w.alloc (.cells #[.string ⟨#[]⟩, .slice none 0 0, .bool false, .string ⟨#[]⟩] 97)) w2) := below_one hb2
    have HM2 : Hid (Mx w2) := (HM.out.alloc _).below hb2
    clear hb2
    rcases any_lib rest.data.toList with ⟨i1, i2, i3⟩ | ⟨i, i0, i1, i2, i3⟩
    · have HWH : Hid (wholeR text.data.toList = wayF (bs (smallL rest.data.toList)) [] ByteArray.empty) := by
        show _ = _
        rw [HY.out, ← HRL.out]; unfold wholeF; rw [i2, i3]; rfl
      rw [i1]
      have hz2 : w.heap.size + 1 ≤ w2.heap.size := by have := HB2.out.size; simp at this; omega
      have hq1 : (0 : Int) ≤ (rest.size : Int) := by omega
      clear i1 i2 i3 hb0
      go_wp2_with fail
      go_region_with (first
        | (go_at_call 137
           refine (lower_any _ w2.drew (by first | omega | (simp; omega))).mono ?_
           rintro e w3 ⟨rfl, hb3⟩
           have HM3 : Hid (Mx w3) := (Mx.keep HM2.out (fun _ _ => rfl) : Mx w2.drew).below hb3
           have HB3 : Hid (Below (w.heap.size + 1) (w.alloc (.cells #[.string ⟨#[]⟩, .slice none 0 0, .bool false, .string ⟨#[]⟩] 97)) w3) := HB2.out.drew.trans (hb3.mono hz2)
           have hz3 : w.heap.size + 1 ≤ w3.heap.size := Nat.le_trans hz2 hb3.size
           clear hb3)
        | (go_at_call 136
           refine (implWay_nil _ _ w3 HM3.out (by rw [bs_size, small_len]; simp; omega) (by first | decide | (simp; omega))).mono ?_
           rintro e w4 ⟨A, ok, a1, c1, rfl, hans, hO, hb4⟩
           have HANS : Hid _ := hans
           have HO4 : Hid _ := hO
           have HB4 : Hid (Below (w.heap.size + 1) (w.alloc (.cells #[.string ⟨#[]⟩, .slice none 0 0, .bool false, .string ⟨#[]⟩] 97)) w4) := HB3.out.trans (hb4.mono hz3)
           clear hans hO hb4
           have hb4' := HB4.out
           obtain ⟨⟨d0, d1, d2, d3⟩, dz⟩ := one_cells hb4'
           clear hb4')
        | fail)
      all_goals
        go_wp2
        refine bodyPost_ret (v := .tuple #[.agg #[.string A.house, .slice a1 A.parts.length c1, .bool A.asks, .string A.ask], .bool ok]) (by simp [results, Tryz.results114, go_sem, d0, d1, d2, d3]) rfl ?_
        refine ⟨A, ok, a1, c1, rfl, ?_, ?_, ?_⟩
        · rw [HWH.out]; exact HANS.out
        · refine Owns.mono (?_ : Owns _ w3.heap.size _ _) (by omega)
          have hO := HO4.out
          iterate 4 refine ownsRow_setCell_below ?_ (by dsimp only; omega) _
          exact hO
        · have hbw : Below w.heap.size w w4 := ((Below.refl _ w).alloc (Nat.le_refl _) _).trans (HB4.out.mono (by omega))
          iterate 4 refine Below.setCell ?_ (by dsimp only; omega) _
          exact hbw
    · have HWH : Hid (wholeR text.data.toList = wayF (bs (smallL (List.take i rest.data.toList))) [] (rest.extract i rest.size)) := by
        show _ = _
        rw [HY.out, ← HRL.out]; unfold wholeF; rw [i2, i3, ext_drop]
      rw [i1]
      have hz2 : w.heap.size + 1 ≤ w2.heap.size := by have := HB2.out.size; simp at this; omega
      have hin : (0 : Int) ≤ (i : Int) := by omega
      have hi1 : (i : Int) ≤ (rest.size : Int) := by
        have : rest.data.toList.length = rest.size := by simp
        omega
      clear i1 i2 i3 hb0
      go_wp2_with fail
      go_region_with (first
        | (go_at_call 137
           refine (lower_any _ w2.drew (by first | omega | (simp; omega))).mono ?_
           rintro e w3 ⟨rfl, hb3⟩
           have HM3 : Hid (Mx w3) := (Mx.keep HM2.out (fun _ _ => rfl) : Mx w2.drew).below hb3
           have HB3 : Hid (Below (w.heap.size + 1) (w.alloc (.cells #[.string ⟨#[]⟩, .slice none 0 0, .bool false, .string ⟨#[]⟩] 97)) w3) := HB2.out.drew.trans (hb3.mono hz2)
           have hz3 : w.heap.size + 1 ≤ w3.heap.size := Nat.le_trans hz2 hb3.size
           clear hb3)
        | (go_at_call 136
           refine (implWay_nil _ _ w3 HM3.out (by rw [bs_size, small_len]; simp; omega) (by first | decide | (simp; omega))).mono ?_
           rintro e w4 ⟨A, ok, a1, c1, rfl, hans, hO, hb4⟩
           have HANS : Hid _ := hans
           have HO4 : Hid _ := hO
           have HB4 : Hid (Below (w.heap.size + 1) (w.alloc (.cells #[.string ⟨#[]⟩, .slice none 0 0, .bool false, .string ⟨#[]⟩] 97)) w4) := HB3.out.trans (hb4.mono hz3)
           clear hans hO hb4
           have hb4' := HB4.out
           obtain ⟨⟨d0, d1, d2, d3⟩, dz⟩ := one_cells hb4'
           clear hb4')
        | fail)
      all_goals
        go_wp2
        refine bodyPost_ret (v := .tuple #[.agg #[.string A.house, .slice a1 A.parts.length c1, .bool A.asks, .string A.ask], .bool ok]) (by simp [results, Tryz.results114, go_sem, d0, d1, d2, d3]) rfl ?_
        refine ⟨A, ok, a1, c1, rfl, ?_, ?_, ?_⟩
        · rw [HWH.out]; exact HANS.out
        · refine Owns.mono (?_ : Owns _ w3.heap.size _ _) (by omega)
          have hO := HO4.out
          iterate 4 refine ownsRow_setCell_below ?_ (by dsimp only; omega) _
          exact hO
        · have hbw : Below w.heap.size w w4 := ((Below.refl _ w).alloc (Nat.le_refl _) _).trans (HB4.out.mono (by omega))
          iterate 4 refine Below.setCell ?_ (by dsimp only; omega) _
          exact hbw
  · have HNo : Hid (wholeR text.data.toList = none) := by show _ = _; unfold wholeR; rw [if_neg hp]
    have HP : Hid _ := hp
    clear hp
    obtain ⟨⟨d0, d1, d2, d3⟩, dz⟩ := one_cells hb0
    clear hb0
    go_enter Tryz.func114, Tryz.ntmps114
    go_wp2_with fail
    refine (prefix_no text _ (by omega) HP.out).mono ?_
    rintro e w1 ⟨rfl, rfl⟩
    go_wp2
    refine bodyPost_ret (v := .tuple #[.agg #[.string ⟨#[]⟩, .slice none 0 0, .bool false, .string ⟨#[]⟩], .bool false]) (by simp [results, Tryz.results114, go_sem, d0, d1, d2, d3]) rfl ?_
    refine ⟨zeroAd, false, none, 0, rfl, Or.inr ⟨rfl, HNo.out, rfl⟩, Owns.nil _ _, ?_⟩
    have hbw : Below w.heap.size w (w.alloc (.cells #[.string ⟨#[]⟩, .slice none 0 0, .bool false, .string ⟨#[]⟩] 97)) := (Below.refl _ w).alloc (Nat.le_refl _) _
    exact hbw

theorem read_whole {l : List UInt8} (h : ¬ 60 < l.length) : readF l = wholeR (cutL 35 l).1 := by
  unfold readF wholeR; rw [if_neg h]

set_option maxRecDepth 100000 in
set_option maxHeartbeats 4000000 in
/-- AddrRead OF THE PROGRAM, OF ASCII BYTES: as the model's -/
theorem implRead_ascii (raw : ByteArray) (w : World) (hM : Mx w) (hr : raw.size ≤ 60) (ha : ascii raw) :
    Calls Tryz.prog 86 #[.string raw] w fun e w' => Reads (readF raw.data.toList) w e w' := by
  have hl : raw.data.toList.length = raw.size := by simp
  have HR : Hid (readF raw.data.toList = wholeR (bs (cutL 35 raw.data.toList).1).data.toList) := by show _ = _; rw [bs_list]; exact read_whole (by omega)
  have hcl := (cut_len 35 raw.data.toList).1
  have hcs : (bs (cutL 35 raw.data.toList).1).size ≤ 60 := by rw [bs_size]; omega
  have HA : Hid _ := cut_ascii 35 ha
  have HM : Hid (Mx w) := hM
  have HCR := fun W hW => cross_any raw W hW (by omega)
  have HC : Hid _ := HCR
  clear HCR hcl hM
  generalize bs (cutL 35 raw.data.toList).1 = t at *
  go_enter Tryz.func86, Tryz.ntmps86
  go_wp2_with fail
  refine (HC.out _ (HM.out.alloc _)).mono ?_
  rintro e w1 ⟨rfl, nq, hw1⟩
  have HB1 : Hid (Below (w.heap.size + 1) (w.alloc (.cells #[.string ⟨#[]⟩, .slice none 0 0, .bool false, .string ⟨#[]⟩] 97)) w1) := by
    subst hw1
    exact ⟨rfl, rfl, rfl, Nat.le_refl _, fun _ _ => rfl⟩
  have HM1 : Hid (Mx w1) := by subst hw1; exact (HM.out.alloc _).drewN _
  clear hw1
  have hz1 : w.heap.size + 1 ≤ w1.heap.size := by have := HB1.out.size; simp at this; omega
  go_wp2_with fail
  refine (implWhole_ascii t _ HM1.out hcs HA.out).mono ?_
  rintro e w4 ⟨A, ok, a1, c1, rfl, hans, hO, hb4⟩
  have HANS : Hid _ := hans
  have HO4 : Hid _ := hO
  have HB4 : Hid (Below (w.heap.size + 1) (w.alloc (.cells #[.string ⟨#[]⟩, .slice none 0 0, .bool false, .string ⟨#[]⟩] 97)) w4) := HB1.out.trans (hb4.mono hz1)
  clear hans hO hb4
  have hb4' := HB4.out
  obtain ⟨⟨d0, d1, d2, d3⟩, dz⟩ := one_cells hb4'
  clear hb4'
  go_wp2
  refine bodyPost_ret (v := .tuple #[.agg #[.string A.house, .slice a1 A.parts.length c1, .bool A.asks, .string A.ask], .bool ok]) (by simp [results, Tryz.results86, go_sem, d0, d1, d2, d3]) rfl ?_
  refine ⟨A, ok, a1, c1, rfl, ?_, ?_, ?_⟩
  · rw [HR.out]; exact HANS.out
  · refine Owns.mono (?_ : Owns _ w1.heap.size _ _) (by omega)
    have hO := HO4.out
    iterate 4 refine ownsRow_setCell_below ?_ (by dsimp only; omega) _
    exact hO
  · have hbw : Below w.heap.size w w4 := ((Below.refl _ w).alloc (Nat.le_refl _) _).trans (HB4.out.mono (by omega))
    iterate 4 refine Below.setCell ?_ (by dsimp only; omega) _
    exact hbw
end Go.Proofs.YtiennniclkbjlaaGreatDoor.Im
/- The program's reading of a way, from whatever parts. -/
namespace Go.Proofs.YtiennniclkbjlaaGreatDoor.Im
open Go.RowKit Go.Proofs.YtiennniclkbjlaaGreatDoor.EscM Go.Proofs.YtiennniclkbjlaaGreatDoor.AddrM Go.Proofs.YtiennniclkbjlaaGreatDoor.ReadM Go.Proofs.YtiennniclkbjlaaGreatDoor.St Go.Proofs.YtiennniclkbjlaaGreatDoor.EscL Go.Proofs.YtiennniclkbjlaaGreatDoor.PathM Go.Proofs.YtiennniclkbjlaaGreatDoor.Ad1 Go.Proofs.YtiennniclkbjlaaGreatDoor.Rd1 Go.Proofs.YtiennniclkbjlaaGreatDoor.LibM

theorem clone_any (a0 : Option Addr) (cap : Nat) (L : List ByteArray) (w : World) (h : IsStrs w a0 cap L) (hL : L.length ≤ 1000) :
    Calls Tryz.prog 100 #[.slice a0 L.length cap] w fun e w' => ∃ v, e = .returned v ∧ Owns w' w.heap.size v L ∧ Below w.heap.size w w' := by
  cases a0 with
  | none =>
    have h0 := (h.none rfl).1
    have : L = [] := List.eq_nil_of_length_eq_zero h0
    subst this
    refine (clone_nil _ _ _).mono ?_
    rintro e w' ⟨rfl, rfl⟩
    exact ⟨_, rfl, Owns.nil _ _, Below.refl _ _⟩
  | some ad =>
    by_cases h0 : L.length = 0
    · have : L = [] := List.eq_nil_of_length_eq_zero h0
      subst this
      refine (Tryz.slices_Clone_string_zero ad cap w).mono ?_
      rintro e w' ⟨v, rfl, hO, _, hb⟩
      exact ⟨v, rfl, Owns.of_row hO rfl rfl, hb⟩
    · obtain ⟨b, off, e, hc⟩ := h.2.2.2 (by intro e; rw [e] at h0; simp at h0)
      injection e with e
      subst e
      refine (Tryz.slices_Clone_string b off L.length cap L w (Nat.le_refl _) (by omega) (fun j hj => by rw [hc j hj, List.getD_eq_getElem?_getD, List.getElem?_eq_getElem hj]; rfl)).mono ?_
      rintro e w' ⟨v, rfl, hO, _, hb⟩
      exact ⟨v, rfl, Owns.of_row hO rfl (by rw [List.take_of_length_le (Nat.le_refl _)]; rfl), hb⟩
theorem strs_past {w w' : World} {S c : Nat} {P : List ByteArray} {row : Option Nat} (h : IsStrs w (some ⟨S, 0, none⟩) c P) (hg : w.grownBy w' row) (hS : S < w.heap.size) (hr : row ≠ some S) : IsStrs w' (some ⟨S, 0, none⟩) c P := by
  obtain ⟨j1, j2, j3, j4⟩ := h
  refine ⟨j1, j2, j3, fun hne => ?_⟩
  obtain ⟨bb, off, e, hc⟩ := j4 hne
  refine ⟨bb, off, e, fun i hi => ?_⟩
  injection e with e
  injection e with e1 e2 _
  subst e1
  rw [World.cell?_of_block (w := w) (hg.block S hS (fun e => hr e.symm))]; exact hc i hi

set_option maxRecDepth 100000 in
set_option maxHeartbeats 4000000 in
theorem implWay_any (house way : ByteArray) (frm : List ByteArray) (a0 : Option Addr) (cap : Nat) (w : World) (hM : Mx w) (hS : IsStrs w a0 cap frm) (hf : frm.length ≤ 1000) (hfs : sumS frm ≤ 100000) (hh : house.size ≤ 1000) (hw : way.size ≤ 60) :
    Calls Tryz.prog 136 #[.string house, .slice a0 frm.length cap, .string way] w fun e w' => Reads (wayF house frm way) w e w' := by
  obtain ⟨i0, hi, hz0, hz1, hz2⟩ := info_parts Tryz.infoS
  have hcl := cut_len 63 way.data.toList
  have hwl : way.data.toList.length = way.size := by simp
  obtain ⟨x, y, f, hcut⟩ : ∃ x y f, cutL 63 way.data.toList = (x, y, f) := ⟨_, _, _, rfl⟩
  have HW : Hid _ := way_cut (house := house) (frm := frm) hcut
  rw [bs_data] at HW
  rw [hcut] at hcl
  have hxl : x.length ≤ 60 := by have := hcl.1; simp at this; omega
  have hyl : y.length ≤ 60 := by have := hcl.1; simp at this; omega
  have HCUT := fun W hW => cut_any way 63 W hW (by omega)
  have e63 : ((63 : UInt8).toNat : Int) = 63 := rfl
  rw [e63, hcut] at HCUT
  have HCU : Hid _ := HCUT
  have HM : Hid (Mx w) := hM
  have HS : Hid (IsStrs w a0 cap frm) := hS
  have hby : (bs y).size ≤ maxLen := by rw [bs_size]; unfold maxLen; omega
  clear hcl hcut hwl HCUT hM hS
  go_enter Tryz.func136, Tryz.ntmps136
  go_wp2_with fail
  refine (HCU.out _ (HM.out.alloc _)).mono ?_
  rintro e w1 ⟨rfl, nq, hw1⟩
  have HB1 : Hid (Below (w.heap.size + 1) (w.alloc (.cells #[.string ⟨#[]⟩, .slice none 0 0, .bool false, .string ⟨#[]⟩] 97)) w1) := by
    subst hw1
    exact ⟨rfl, rfl, rfl, Nat.le_refl _, fun _ _ => rfl⟩
  have HM1 : Hid (Mx w1) := by subst hw1; exact (HM.out.alloc _).drewN _
  have HS1 : Hid (IsStrs w1 a0 cap frm) := by subst hw1; exact (HS.out.keep (alloc_keep w _)).drewN _
  clear hw1
  dsimp only
  go_wp2_with fail
  refine (implEsc_any (bs y) _ hby).mono ?_
  rintro e w2 ⟨rfl, hb2⟩
  have hz1' : w.heap.size + 1 ≤ w1.heap.size := by have := HB1.out.size; simp at this; omega
  have HB2 : Hid (Below (w.heap.size + 1) (w.alloc (.cells #[.string ⟨#[]⟩, .slice none 0 0, .bool false, .string ⟨#[]⟩] 97)) w2) := HB1.out.trans (hb2.mono hz1')
  have HM2 : Hid (Mx w2) := HM1.out.below hb2
  have HS2 : Hid (IsStrs w2 a0 cap frm) := HS1.out.below hb2
  clear hb2 HB1 HM1 HS1
  have hb2' := HB2.out
  obtain ⟨⟨d0, d1, d2, d3⟩, dz⟩ := one_cells hb2'
  clear hb2'
  cases hq : escB (bs y) with
  | false =>
    have HNo : Hid (wayF house frm way = none) := by
      show _ = _
      rw [HW.out]
      split
      · rfl
      · rw [hq]; rfl
    clear hq
    go_wp2
    refine bodyPost_ret (v := .tuple #[.agg #[.string ⟨#[]⟩, .slice none 0 0, .bool false, .string ⟨#[]⟩], .bool false]) (by simp [results, Tryz.results136, go_sem, d0, d1, d2, d3]) rfl ?_
    refine ⟨zeroAd, false, none, 0, rfl, Or.inr ⟨rfl, HNo.out, rfl⟩, Owns.nil _ _, ?_⟩
    have hbw : Below w.heap.size w w2 := ((Below.refl _ w).alloc (Nat.le_refl _) _).trans (HB2.out.mono (by omega))
    iterate 4 refine Below.setCell ?_ (by dsimp only; omega) _
    exact hbw
  | true =>
    have HQ : Hid _ := hq
    clear hq
    go_wp2_with fail
    refine (clone_any a0 cap frm _ HS2.out hf).mono ?_
    rintro e w3 ⟨v3, rfl, hO3, hb3⟩
    have hzB : w.heap.size + 1 ≤ w2.heap.size := by have := HB2.out.size; simp at this; omega
    have HB3 : Hid (Below (w.heap.size + 1) (w.alloc (.cells #[.string ⟨#[]⟩, .slice none 0 0, .bool false, .string ⟨#[]⟩] 97)) w3) := HB2.out.trans (hb3.mono hzB)
    have HM3 : Hid (Mx w3) := HM2.out.below hb3
    have HO3 : Hid (Owns w3 w2.heap.size v3 frm) := hO3
    have HV3 : Hid (∀ g, v3.ownBlock = some g → g < w3.heap.size) := fun g hg => (World.ownsRow.lt hO3 g hg).2
    have hz23 := hb3.size
    clear hO3 hb3 HB2 HM2 HS2
    go_wp2_with fail
    refine (split_any (bs x) _ HM3.out (by rw [bs_size]; omega)).mono ?_
    rintro e w4 ⟨rfl, hw4⟩
    obtain ⟨S, hS⟩ : ∃ S, w3.heap.size = S := ⟨_, rfl⟩
    have hz3 : w.heap.size + 1 ≤ S := by omega
    rw [hS] at HV3
    have hSz : w4.heap.size = S + 1 := by rw [hw4]; simp; exact hS
    have hsl : (splitS 47 (bs x)).length ≤ 61 := by
      unfold splitS
      rw [List.length_map]
      have h1 := split_len 47 (bs x).data.toList
      rw [bs_list] at h1 ⊢; omega
    have hpm : ∀ z ∈ splitS 47 (bs x), z.size ≤ 60 := fun z hz => by have := splitS_mem 47 _ z hz; rw [bs_size] at this; omega
    have hIs : IsStrs w4 (some ⟨S, 0, none⟩) (splitS 47 (bs x)).length (splitS 47 (bs x)) := by
      refine ⟨Nat.le_refl _, by unfold maxLen; omega, (fun e => by cases e), fun _ => ⟨S, 0, rfl, fun i hi => ?_⟩⟩
      have hb : w4.heap[S]? = some (.cells ((splitS 47 (bs x)).map Value.string).toArray 9) := by rw [hw4, ← hS]; show (w3.heap.push _)[w3.heap.size]? = _; simp
      unfold World.cell?
      dsimp only
      rw [hb]; simp [List.getElem?_eq_getElem hi]
    have HB4 : Hid (Below (w.heap.size + 1) (w.alloc (.cells #[.string ⟨#[]⟩, .slice none 0 0, .bool false, .string ⟨#[]⟩] 97)) w4) := by rw [hw4]; exact HB3.out.alloc (by rw [hS]; exact hz3) _
    have HO4 : Hid (Owns w4 w2.heap.size v3 frm) := by rw [hw4]; exact Owns.keep HO3.out (alloc_keep w3 _)
    have hBS : w2.heap.size ≤ S := by omega
    have HPM : Hid _ := hpm
    have HIS : Hid (IsStrs w4 (some ⟨S, 0, none⟩) (splitS 47 (bs x)).length (splitS 47 (bs x))) := hIs
    clear hpm hIs hw4 d0 d1 d2 d3 dz HB3 HM3 HO3 hz23
    obtain ⟨B, hB⟩ : ∃ B, w2.heap.size = B := ⟨_, rfl⟩
    rw [hB] at HO4 hBS hzB
    clear hB
    generalize hP : splitS 47 (bs x) = P at *
    have HP : Hid _ := hP
    clear hP
    have hzs : S + 1 ≤ w4.heap.size := by omega
    clear hSz
    go_wp2
    go_loopw [13, 38] (fun v i wr => ∃ k : Nat, k ≤ P.length ∧ i = .int .i64 (k : Int) ∧ Hid (Owns wr B v (frm ++ (P.take k).map escS)) ∧ Hid (∀ g, v.ownBlock = some g → g < S ∨ S + 1 ≤ g) ∧ Hid (∀ z ∈ P.take k, escB z = true) ∧ Hid (IsStrs wr (some ⟨S, 0, none⟩) P.length P) ∧
        Hid (Below (w.heap.size + 1) (w.alloc (.cells #[.string ⟨#[]⟩, .slice none 0 0, .bool false, .string ⟨#[]⟩] 97)) wr) ∧ S + 1 ≤ wr.heap.size) (fun _ i _ => P.length - (intOf i).toNat)
    case atStart => exact ⟨0, Nat.zero_le _, rfl, (by show Owns _ _ _ _; simpa using HO4.out), (fun g hg => Or.inl (HV3.out g hg)), (by intro z hz; simp at hz), HIS, HB4, hzs⟩
    case round =>
      obtain ⟨k, hk, rfl, HO, HV, HE, HI, HB, hzr⟩ := hrel
      have hb := HB.out
      obtain ⟨⟨d0, d1, d2, d3⟩, dz⟩ := one_cells hb
      clear hb
      by_cases hlt : k < P.length
      · obtain ⟨b, o, e, c⟩ := HI.out.at hlt
        injection e with e
        injection e with e1 e2 _
        subst e1; subst e2
        rw [Nat.zero_add] at c
        have hpz := HPM.out _ (List.getElem_mem hlt)
        have hpz' : P[k].size ≤ maxLen := by unfold maxLen; omega
        cases hq : escB P[k] with
        | false =>
          have HNo : Hid (wayF house frm way = none) := by show _ = _; rw [HW.out, normS_no hlt hq]
          have HF : Hid _ := hq
          clear hq
          go_wp2_with fail
          refine (implEsc_any P[k] _ hpz').mono ?_
          rintro e w6 ⟨rfl, hb6⟩
          rw [HF.out]
          have HB6 : Hid (Below (w.heap.size + 1) (w.alloc (.cells #[.string ⟨#[]⟩, .slice none 0 0, .bool false, .string ⟨#[]⟩] 97)) w6) := HB.out.trans (hb6.mono (by omega))
          clear hb6 d0 d1 d2 d3 dz
          have hb6' := HB6.out
          obtain ⟨⟨d0, d1, d2, d3⟩, dz⟩ := one_cells hb6'
          clear hb6'
          go_wp2
          refine bodyPost_ret (v := .tuple #[.agg #[.string ⟨#[]⟩, .slice none 0 0, .bool false, .string ⟨#[]⟩], .bool false]) (by simp [results, Tryz.results136, go_sem, d0, d1, d2, d3]) rfl ?_
          refine ⟨zeroAd, false, none, 0, rfl, Or.inr ⟨rfl, HNo.out, rfl⟩, Owns.nil _ _, ?_⟩
          have hbw : Below w.heap.size w w6 := ((Below.refl _ w).alloc (Nat.le_refl _) _).trans (HB6.out.mono (by omega))
          iterate 4 refine Below.setCell ?_ (by dsimp only; omega) _
          exact hbw
        | true =>
          have HT : Hid (frm ++ (P.take (k + 1)).map escS = (frm ++ (P.take k).map escS) ++ [escS P[k]]) := by
            show _ = _
            rw [List.take_succ_eq_append_getElem hlt, List.map_append, List.append_assoc]; rfl
          have HE2 : Hid (∀ z ∈ P.take (k + 1), escB z = true) := by
            intro z hz
            rw [List.take_succ_eq_append_getElem hlt] at hz
            rcases List.mem_append.1 hz with hz | hz
            · exact HE.out z hz
            · simp at hz; subst hz; exact hq
          have HF : Hid _ := hq
          clear hq
          have hlen : (frm ++ (P.take k).map escS).length ≤ 1061 := by simp; omega
          go_wp2_with fail
          refine (implEsc_any P[k] _ hpz').mono ?_
          rintro e w6 ⟨rfl, hb6⟩
          rw [HF.out]
          have HB6 : Hid (Below (w.heap.size + 1) (w.alloc (.cells #[.string ⟨#[]⟩, .slice none 0 0, .bool false, .string ⟨#[]⟩] 97)) w6) := HB.out.trans (hb6.mono (by omega))
          have HO6 : Hid (Owns w6 B u13 (frm ++ (P.take k).map escS)) := Owns.below HO.out hb6
          have HI6 : Hid (IsStrs w6 (some ⟨S, 0, none⟩) P.length P) := HI.out.below hb6
          have hz6 : S + 1 ≤ w6.heap.size := Nat.le_trans hzr hb6.size
          clear hb6 d0 d1 d2 d3 dz c
          generalize escS P[k] = p at *
          generalize hX : frm ++ (P.take k).map escS = X at *
          go_wp2_with (at_builtin; refine wpList_append_lies _ rfl _ _ 23 rfl B 9 i0 (.string ⟨#[]⟩) 1 16 Tryz.underlying23 hi hz0 hz1 hz2 rfl (by decide) u13 _ _ rfl (World.ownsRow.alloc HO6.out _) ⟨w6.heap.size, 0, none⟩ 1 1 [.string p] rfl rfl (cell_one_new _ _ _) ?c2 (by omega) ?c3 ?c4 ?c5 _ rfl ?_)
          case c2 => intro u hu; simp at hu; subst hu; rfl
          case c3 => unfold maxLen; omega
          case c4 => omega
          case c5 => simp; omega
          intro g7 cap7 w7 hown' hgrow hat7 hlt7
          have HO' : Hid (Owns w7 B (.slice (some ⟨g7, 0, none⟩) (X.length + 1) cap7) (X ++ [p])) := Owns.append hown'
          have hne : u13.ownBlock ≠ some S := fun e => by rcases HV.out S e with h | h <;> omega
          have HV7 : Hid (∀ g, (Value.slice (some ⟨g7, 0, none⟩) (X.length + 1) cap7).ownBlock = some g → g < S ∨ S + 1 ≤ g) := by
            intro g hg
            have hg' : g7 = g := by simpa [Value.ownBlock] using hg
            subst hg'
            rcases hat7 with h | h
            · exact HV.out _ h
            · right; omega
          have HB7 : Hid (Below (w.heap.size + 1) (w.alloc (.cells #[.string ⟨#[]⟩, .slice none 0 0, .bool false, .string ⟨#[]⟩] 97)) w7) :=
            Below.grown (HB6.out.alloc (by omega) _) hgrow (by simp; omega) (by intro g hg; have := Owns.block HO6.out g hg; omega)
          have HI7 : Hid (IsStrs w7 (some ⟨S, 0, none⟩) P.length P) := strs_past (HI6.out.keep (alloc_keep w6 _)) hgrow (by simp; omega) hne
          have hz7 : S + 1 ≤ w7.heap.size := by have := hgrow.size; simp at this; omega
          clear hown' hgrow hat7 hne
          go_wp2
          go_roundw
          case rel => exact ⟨k + 1, by omega, by go_num, by rw [HT.out]; exact HO'.out, HV7, HE2, HI7, HB7, hz7⟩
          case measure => simp [intOf]; omega
      · have hall : P.take k = P := List.take_of_length_le (by omega)
        rw [hall] at HO HE
        clear hall
        have HN : Hid (wayF house frm way = if okB ⟨house, cleanL (frm ++ P.map escS), f, escS (bs y)⟩ = true then some ⟨house, cleanL (frm ++ P.map escS), f, escS (bs y)⟩ else none) := by
          show _ = _
          rw [HW.out, normS_all HE.out, HQ.out]
          simp only [if_true]
        have hXl : (frm ++ P.map escS).length ≤ 1061 := by simp; omega
        have hXs : sumS (cleanL (frm ++ P.map escS)) ≤ 120000 := by
          refine Nat.le_trans (sum_clean _) ?_
          rw [sumS_append]
          have h1 := sum_le (L := P.map escS) (m := 180) (by intro z hz; obtain ⟨q, _, rfl⟩ := List.mem_map.1 hz; exact escS_size q)
          rw [List.length_map] at h1
          omega
        have hcl := clean_len (frm ++ P.map escS)
        have hys := escS_size (bs y)
        have HBK : Hid (bulkA ⟨house, cleanL (frm ++ P.map escS), f, escS (bs y)⟩ ≤ 4194304) := by
          show house.size + sumS (cleanL (frm ++ P.map escS)) + (cleanL (frm ++ P.map escS)).length + (escS (bs y)).size ≤ _
          omega
        generalize hX : frm ++ P.map escS = X at *
        generalize hA : escS (bs y) = ask at *
        clear hX hA hXs hcl hys d0 d1 d2 d3 dz HE HW HI HV
        obtain ⟨a5, c5, hv5, hS5⟩ := HO.out.strs
        subst hv5
        go_wp2_with fail
        refine (implPath_any a5 c5 X _ hS5 (by omega)).mono ?_
        rintro e w8 ⟨v8, rfl, hO8, hb8⟩
        obtain ⟨a8, c8, hv8, hS8⟩ := hO8.strs
        subst hv8
        have HB8 : Hid (Below (w.heap.size + 1) (w.alloc (.cells #[.string ⟨#[]⟩, .slice none 0 0, .bool false, .string ⟨#[]⟩] 97)) w8) := HB.out.trans (hb8.mono (by omega))
        have HO8 : Hid (Owns w8 (w.heap.size + 1) (.slice a8 (cleanL X).length c8) (cleanL X)) := Owns.mono hO8 (by omega)
        have hz8 : S + 1 ≤ w8.heap.size := Nat.le_trans hzr hb8.size
        clear hO8 hb8 hS8 hS5
        have HX8 : Hid ((w8.alloc (.cells #[.string house, .slice a8 (cleanL X).length c8, .bool f, .string ask] 97)).heap[w8.heap.size]? = some (.cells #[.string house, .slice a8 (cleanL X).length c8, .bool f, .string ask] 97)) := by
          show (w8.heap.push _)[w8.heap.size]? = _
          simp
        have HB8a : Hid (Below (w.heap.size + 1) (w.alloc (.cells #[.string ⟨#[]⟩, .slice none 0 0, .bool false, .string ⟨#[]⟩] 97)) (w8.alloc (.cells #[.string house, .slice a8 (cleanL X).length c8, .bool f, .string ask] 97))) := HB8.out.alloc (by omega) _
        have HO8a : Hid (Owns (w8.alloc (.cells #[.string house, .slice a8 (cleanL X).length c8, .bool f, .string ask] 97)) (w.heap.size + 1) (.slice a8 (cleanL X).length c8) (cleanL X)) := Owns.keep HO8.out (alloc_keep w8 _)
        obtain ⟨G, hG⟩ : ∃ G, w8.heap.size = G := ⟨_, rfl⟩
        have hGw : w.heap.size + 1 ≤ G := by omega
        rw [hG] at HX8
        go_wp2_with fail
        refine (implOk_any ⟨house, cleanL X, f, ask⟩ a8 c8 _ (Owns.strsOf HO8a.out) HBK.out).mono ?_
        rintro e w9 ⟨rfl, hb9⟩
        have hz9 : (w8.alloc (.cells #[.string house, .slice a8 (cleanL X).length c8, .bool f, .string ask] 97)).heap.size = G + 1 := by simp; exact hG
        have HB9 : Hid (Below (w.heap.size + 1) (w.alloc (.cells #[.string ⟨#[]⟩, .slice none 0 0, .bool false, .string ⟨#[]⟩] 97)) w9) := HB8a.out.trans (hb9.mono (by omega))
        have HO9 : Hid (Owns w9 (w.heap.size + 1) (.slice a8 (cleanL X).length c8) (cleanL X)) := Owns.below HO8a.out hb9
        have hx9 : w9.heap[G]? = some (.cells #[.string house, .slice a8 (cleanL X).length c8, .bool f, .string ask] 97) := by rw [hb9.block G (by omega)]; exact HX8.out
        have k0 : w9.cell? ⟨G, 0, none⟩ = some (.string house) := by simp [World.cell?, hx9]
        have k1 : w9.cell? ⟨G, 1, none⟩ = some (.slice a8 (cleanL X).length c8) := by simp [World.cell?, hx9]
        have k2 : w9.cell? ⟨G, 2, none⟩ = some (.bool f) := by simp [World.cell?, hx9]
        have k3 : w9.cell? ⟨G, 3, none⟩ = some (.string ask) := by simp [World.cell?, hx9]
        clear hb9 hz9 hx9 HX8 HB8a HO8a HO8 HB8 hG
        have hb9' := HB9.out
        obtain ⟨⟨d0, d1, d2, d3⟩, dz⟩ := one_cells hb9'
        clear hb9'
        have hbw : Below w.heap.size w w9 := ((Below.refl _ w).alloc (Nat.le_refl _) _).trans (HB9.out.mono (by omega))
        have HBW : Hid _ := hbw
        clear hbw
        cases hk2 : okB ⟨house, cleanL X, f, ask⟩ with
        | false =>
          have HNo : Hid (wayF house frm way = none) := by show _ = _; rw [HN.out, hk2]; rfl
          clear hk2
          go_wp2
          refine bodyPost_ret (v := .tuple #[.agg #[.string ⟨#[]⟩, .slice none 0 0, .bool false, .string ⟨#[]⟩], .bool false]) (by simp [results, Tryz.results136, go_sem, d0, d1, d2, d3]) rfl ?_
          refine ⟨zeroAd, false, none, 0, rfl, Or.inr ⟨rfl, HNo.out, rfl⟩, Owns.nil _ _, ?_⟩
          have hbw := HBW.out
          iterate 4 refine Below.setCell ?_ (by dsimp only; omega) _
          exact hbw
        | true =>
          have HYes : Hid (wayF house frm way = some ⟨house, cleanL X, f, ask⟩) := by show _ = _; rw [HN.out, hk2]; rfl
          clear hk2
          go_wp2
          refine bodyPost_ret (v := .tuple #[.agg #[.string house, .slice a8 (cleanL X).length c8, .bool f, .string ask], .bool true]) (by simp [results, Tryz.results136, go_sem, d0, d1, d2, d3]) rfl ?_
          refine ⟨⟨house, cleanL X, f, ask⟩, true, a8, c8, rfl, Or.inl ⟨rfl, HYes.out⟩, ?_, ?_⟩
          · refine Owns.mono (?_ : Owns _ (w.heap.size + 1) _ _) (by omega)
            have hO := HO9.out
            iterate 4 refine ownsRow_setCell_below ?_ (by dsimp only; omega) _
            exact hO
          · have hbw := HBW.out
            iterate 4 refine Below.setCell ?_ (by dsimp only; omega) _
            exact hbw
end Go.Proofs.YtiennniclkbjlaaGreatDoor.Im
/- An address that is ok is small: plain mathematics. -/
namespace Go.Proofs.YtiennniclkbjlaaGreatDoor.OB
open Go.RowKit Go.Proofs.YtiennniclkbjlaaGreatDoor.EscM Go.Proofs.YtiennniclkbjlaaGreatDoor.AddrM Go.Proofs.YtiennniclkbjlaaGreatDoor.ReadM Go.Proofs.YtiennniclkbjlaaGreatDoor.St Go.Proofs.YtiennniclkbjlaaGreatDoor.EscL Go.Proofs.YtiennniclkbjlaaGreatDoor.PathM Go.Proofs.YtiennniclkbjlaaGreatDoor.Ad1 Go.Proofs.YtiennniclkbjlaaGreatDoor.Rd1

theorem sum_join : ∀ L : List ByteArray, sumS L ≤ (joinL L).length := by
  intro L
  induction L with
  | nil => simp [sumS]
  | cons y L ih =>
    have : y.data.toList.length = y.size := by simp
    rcases L with _ | ⟨z, L⟩
    · simp [joinL, sumS]
    · simp only [joinL, sumS, List.length_append, List.length_cons] at ih ⊢
      omega
theorem ok_parts {A : Ad} (h : okB A = true) : houseB A.house = true ∧ A.parts.length ≤ 5 ∧ A.parts.all partB = true ∧ (A.asks || A.ask.toList.isEmpty) = true ∧ normB A.ask = true ∧ (textL A).length ≤ 60 := by
  unfold okB at h
  simp only [Bool.and_eq_true, decide_eq_true_eq] at h
  exact ⟨h.1.1.1.1.1, h.1.1.1.1.2, h.1.1.1.2, h.1.1.2, h.1.2, h.2⟩
theorem ok_bulk {A : Ad} (h : okB A = true) : bulkA A ≤ 70 := by
  obtain ⟨_, h2, _, h4, _, h6⟩ := ok_parts h
  have hj := sum_join A.parts
  have hh : A.house.data.toList.length = A.house.size := by simp
  have ha : A.ask.data.toList.length = A.ask.size := by simp
  unfold bulkA
  unfold textL pathL at h6
  simp only [List.length_cons, List.length_append] at h6
  cases hq : A.asks with
  | true => rw [hq] at h6; simp only [if_true, List.length_cons] at h6; omega
  | false =>
    rw [hq] at h4 h6
    simp only [Bool.false_or] at h4
    rw [ByteArray.toList_eq] at h4
    have h0 : A.ask.data.toList.length = 0 := by rw [List.isEmpty_iff.1 h4]; rfl
    omega
theorem way_ok {house : ByteArray} {frm : List ByteArray} {way : ByteArray} {A : Ad} (h : wayF house frm way = some A) : okB A = true := by
  unfold wayF at h
  split at h
  · cases h
  · split at h
    · split at h
      · rename_i hk; cases h; exact hk
      · cases h
    · cases h
theorem read_ok {l : List UInt8} {A : Ad} (h : readF l = some A) : okB A = true := by
  unfold readF at h
  split at h
  · cases h
  · split at h
    · exact way_ok h
    · cases h
theorem reads_bulk {l : List UInt8} {A : Ad} {ok : Bool} (h : (ok = true ∧ readF l = some A) ∨ (ok = false ∧ readF l = none ∧ A = zeroAd)) : bulkA A ≤ 70 := by
  rcases h with ⟨_, h⟩ | ⟨_, _, rfl⟩
  · exact ok_bulk (read_ok h)
  · decide

end Go.Proofs.YtiennniclkbjlaaGreatDoor.OB
/- Worlds: plain mathematics. -/
namespace Go.Proofs.YtiennniclkbjlaaGreatDoor.WdM
open Go.RowKit Go.Proofs.YtiennniclkbjlaaGreatDoor.EscM Go.Proofs.YtiennniclkbjlaaGreatDoor.AddrM Go.Proofs.YtiennniclkbjlaaGreatDoor.ReadM Go.Proofs.YtiennniclkbjlaaGreatDoor.Ad1 Go.Proofs.YtiennniclkbjlaaGreatDoor.Rd1 Go.Proofs.YtiennniclkbjlaaGreatDoor.RR Go.Proofs.YtiennniclkbjlaaGreatDoor.RoPg

/-- is a text an address, written in the one way? -/
def normT (s : ByteArray) : Bool := match readF s.data.toList with
  | some A => ((textF A).toList == s.toList)
  | none => false
def pgB (p : Pg) : Bool := normT p.addr && decide (p.text.size ≤ 300) && decide (0 ≤ p.fails ∧ p.fails ≤ 9) && (p.lead.toList.isEmpty || (p.text.toList.isEmpty && normT p.lead))
def sameA (s : ByteArray) (p : Pg) : Bool := p.addr.toList == s.toList
/-- are the first k pages such that they may stand in a world? -/
def okTo (L : List Pg) : Nat → Bool
  | 0 => true
  | k + 1 => okTo L k && (match L[k]? with
    | some p => pgB p && !((L.take k).any (sameA p.addr))
    | none => true)
def wOk (L : List Pg) : Bool := okTo L L.length && decide (L.length ≤ 12)
theorem okTo_step {L : List Pg} {k : Nat} (h : k < L.length) : okTo L (k + 1) = (okTo L k && (pgB L[k] && !((L.take k).any (sameA L[k].addr)))) := by
  show (okTo L k && _) = _
  rw [List.getElem?_eq_getElem h]
theorem okTo_no {L : List Pg} {k : Nat} (h : okTo L k = false) : ∀ n, k ≤ n → okTo L n = false := by
  intro n hn
  induction n with
  | zero => have : k = 0 := by omega
            subst this; exact h
  | succ n ih =>
    by_cases e : k = n + 1
    · subst e; exact h
    · show (okTo L n && _) = false
      rw [ih (by omega)]; rfl
theorem wOk_no {L : List Pg} {k : Nat} (hk : k < L.length) (h : (pgB L[k] && !((L.take k).any (sameA L[k].addr))) = false) : wOk L = false := by
  have h1 : okTo L (k + 1) = false := by rw [okTo_step hk, h]; simp
  unfold wOk
  rw [okTo_no h1 L.length (by omega)]; rfl
theorem wOk_bad {L : List Pg} {k : Nat} (hk : k < L.length) (h : pgB L[k] = false) : wOk L = false := wOk_no hk (by rw [h]; rfl)
theorem wOk_twice {L : List Pg} {k : Nat} (hk : k < L.length) (h : (L.take k).any (sameA L[k].addr) = true) : wOk L = false := wOk_no hk (by rw [h]; simp)
theorem wOk_long {L : List Pg} (h : ¬ L.length ≤ 12) : wOk L = false := by unfold wOk; rw [decide_eq_false h]; simp
theorem okTo_on {L : List Pg} {k : Nat} (hk : k < L.length) (h0 : okTo L k = true) (h1 : pgB L[k] = true) (h2 : (L.take k).any (sameA L[k].addr) = false) : okTo L (k + 1) = true := by
  rw [okTo_step hk, h0, h1, h2]; rfl
/-- what one gets -/
def kindF (L : List Pg) (a : ByteArray) (t : Int) : Int × ByteArray := match L.find? (sameA a) with
  | none => (0, ⟨#[]⟩)
  | some p => if t < p.fails then (3, ⟨#[]⟩) else if p.lead.toList.isEmpty then (1, p.text) else (2, p.lead)
def getF (L : List Pg) (a : ByteArray) (t : Int) : Int × ByteArray := if wOk L && decide (0 ≤ t) then kindF L a t else (0, ⟨#[]⟩)
theorem any_step {L : List Pg} {k : Nat} (f : Pg → Bool) (h : k < L.length) (h0 : (L.take k).any f = false) (h1 : f L[k] = false) : (L.take (k + 1)).any f = false := by
  rw [List.take_succ_eq_append_getElem h, List.any_append, h0]; simp [h1]
theorem any_hit {L : List Pg} {k n : Nat} (f : Pg → Bool) (h : k < L.length) (hn : k < n) (h1 : f L[k] = true) : (L.take n).any f = true := by
  rw [List.any_eq_true]
  refine ⟨L[k], ?_, h1⟩
  have : L[k] = (L.take n)[k]'(by simp; omega) := by simp
  rw [this]; exact List.getElem_mem _
theorem find_hit {L : List Pg} {k : Nat} (f : Pg → Bool) (h : k < L.length) (h0 : (L.take k).any f = false) (h1 : f L[k] = true) : L.find? f = some L[k] := by
  have hn : (L.take k).find? f = none := by
    rw [List.find?_eq_none]
    intro x hx hf
    have := List.any_eq_false.1 h0 x hx
    exact this hf
  have e : L.find? f = (L.take k ++ (L[k] :: L.drop (k + 1))).find? f := by rw [← List.drop_eq_getElem_cons h, List.take_append_drop]
  rw [e, List.find?_append, hn, List.find?_cons, h1]; rfl
theorem find_none {L : List Pg} (f : Pg → Bool) (h0 : L.any f = false) : L.find? f = none := by
  rw [List.find?_eq_none]
  intro x hx hf
  exact (List.any_eq_false.1 h0 x hx) hf
theorem norm_short {s : ByteArray} (h : normT s = true) : s.size ≤ 60 := by
  unfold normT at h
  cases hr : readF s.data.toList with
  | none => rw [hr] at h; cases h
  | some A =>
    rcases Nat.lt_or_ge 60 s.size with hl | hl
    · unfold readF at hr
      rw [if_pos (by simpa using hl)] at hr
      cases hr
    · exact hl
end Go.Proofs.YtiennniclkbjlaaGreatDoor.WdM
/- Worlds: what holds of those that are ok. -/
namespace Go.Proofs.YtiennniclkbjlaaGreatDoor.WdM
open Go.RowKit Go.Proofs.YtiennniclkbjlaaGreatDoor.EscM Go.Proofs.YtiennniclkbjlaaGreatDoor.AddrM Go.Proofs.YtiennniclkbjlaaGreatDoor.ReadM Go.Proofs.YtiennniclkbjlaaGreatDoor.Ad1 Go.Proofs.YtiennniclkbjlaaGreatDoor.Rd1 Go.Proofs.YtiennniclkbjlaaGreatDoor.RR Go.Proofs.YtiennniclkbjlaaGreatDoor.RoPg

theorem okTo_iff (L : List Pg) : ∀ k, okTo L k = true ↔ ∀ (i : Nat) (h : i < L.length), i < k → pgB L[i] = true ∧ (L.take i).any (sameA L[i].addr) = false := by
  intro k
  induction k with
  | zero => exact ⟨fun _ i _ h => absurd h (by omega), fun _ => rfl⟩
  | succ k ih =>
    by_cases hk : k < L.length
    · rw [okTo_step hk, Bool.and_eq_true, Bool.and_eq_true, Bool.not_eq_true', ih]
      constructor
      · rintro ⟨h1, h2⟩ i hi hik
        by_cases e : i = k
        · subst e; exact h2
        · exact h1 i hi (by omega)
      · intro h
        exact ⟨fun i hi hik => h i hi (by omega), h k hk (by omega)⟩
    · have e : okTo L (k + 1) = okTo L k := by
        show (okTo L k && _) = _
        rw [List.getElem?_eq_none (by omega)]; simp
      rw [e, ih]
      exact ⟨fun h i hi hik => h i hi (by omega), fun h i hi hik => h i hi (by omega)⟩
theorem wOk_iff (L : List Pg) : wOk L = true ↔ (∀ (i : Nat) (h : i < L.length), pgB L[i] = true ∧ (L.take i).any (sameA L[i].addr) = false) ∧ L.length ≤ 12 := by
  unfold wOk
  rw [Bool.and_eq_true, decide_eq_true_eq, okTo_iff]
  exact ⟨fun ⟨h1, h2⟩ => ⟨fun i hi => h1 i hi hi, h2⟩, fun ⟨h1, h2⟩ => ⟨fun i hi _ => h1 i hi, h2⟩⟩
theorem wOk_take {L : List Pg} (h : wOk L = true) (n : Nat) : wOk (L.take n) = true := by
  rw [wOk_iff] at h ⊢
  refine ⟨fun i hi => ?_, by have := h.2; simp; omega⟩
  have hi1 : i < L.length := by simp at hi; omega
  have hi2 : i < n := by simp at hi; omega
  have h2 := h.1 i hi1
  have e : (L.take n)[i] = L[i] := by simp
  have e2 : (L.take n).take i = L.take i := by rw [List.take_take]; congr 1; omega
  rw [e, e2]; exact h2
theorem wOk_drop {L : List Pg} (h : wOk L = true) (n : Nat) : wOk (L.drop n) = true := by
  rw [wOk_iff] at h ⊢
  refine ⟨fun i hi => ?_, by have := h.2; simp; omega⟩
  have hi1 : n + i < L.length := by simp at hi; omega
  have h2 := h.1 (n + i) hi1
  have e : (L.drop n)[i] = L[n + i] := by simp
  rw [e]
  refine ⟨h2.1, ?_⟩
  rw [List.any_eq_false] at h2 ⊢
  intro x hx
  refine h2.2 x ?_
  rw [List.take_add]
  exact List.mem_append_right _ hx
theorem wOk_norm {L : List Pg} (h : wOk L = true) {i : Nat} (hi : i < L.length) : normT L[i].addr = true := by
  rw [wOk_iff] at h
  have h2 := (h.1 i hi).1
  unfold pgB at h2
  simp only [Bool.and_eq_true] at h2
  exact h2.1.1.1
theorem norm_read {s : ByteArray} (h : normT s = true) : ∃ A, readF s.data.toList = some A ∧ ((textF A).toList == s.toList) = true := by
  unfold normT at h
  cases hr : readF s.data.toList with
  | none => rw [hr] at h; cases h
  | some A => rw [hr] at h; exact ⟨A, rfl, h⟩
end Go.Proofs.YtiennniclkbjlaaGreatDoor.WdM
/- A line of a notice is read: of the program. -/
namespace Go.Proofs.YtiennniclkbjlaaGreatDoor.NiP
open Go.RowKit Go.Proofs.YtiennniclkbjlaaGreatDoor.EscM Go.Proofs.YtiennniclkbjlaaGreatDoor.EscL Go.Proofs.YtiennniclkbjlaaGreatDoor.RuleM Go.Proofs.YtiennniclkbjlaaGreatDoor.Ru1 Go.Proofs.YtiennniclkbjlaaGreatDoor.ReadM Go.Proofs.YtiennniclkbjlaaGreatDoor.Rd1 Go.Proofs.YtiennniclkbjlaaGreatDoor.St Go.Proofs.YtiennniclkbjlaaGreatDoor.RR Go.Proofs.YtiennniclkbjlaaGreatDoor.LetM Go.Proofs.YtiennniclkbjlaaGreatDoor.Nm Go.Proofs.YtiennniclkbjlaaGreatDoor.GrM Go.Proofs.YtiennniclkbjlaaGreatDoor.Dr Go.Proofs.YtiennniclkbjlaaGreatDoor.NrM Go.Proofs.YtiennniclkbjlaaGreatDoor.NrW Go.Proofs.YtiennniclkbjlaaGreatDoor.NrS Go.Proofs.YtiennniclkbjlaaGreatDoor.Im Go.Proofs.YtiennniclkbjlaaGreatDoor.DecM

set_option maxRecDepth 100000 in
set_option maxHeartbeats 1600000 in
theorem readWait_any (s : ByteArray) (w : World) (_hs : s.size ≤ 4194304) :
    Calls Tryz.prog 192 #[.string s] w fun e w' => e = .returned (.int .i64 (numF s.data.toList : Int)) ∧ Below w.heap.size w w' := by
  have hdl : s.data.toList.length = s.size := by simp
  have hit0 : (w.iter s 0).heap[w.heap.size]? = some (.stringIter s 0) := World.iter_heap _ _ _
  have hbw0 : Below w.heap.size w (w.iter s 0) := (Below.refl _ w).alloc (Nat.le_refl _) _
  go_enter Tryz.func192, Tryz.ntmps192
  generalize hK : w.heap.size = K at *
  go_wp2
  go_loopg [3] s.size (fun g n wr => ∃ i m : Nat, i + g = s.size ∧ n = .int .i64 (m : Int) ∧ m ≤ 20 ∧ Hid (numF s.data.toList = (numGo m (s.data.toList.drop i)).getD 0) ∧ Hid (wr.heap[K]? = some (.stringIter s i)) ∧ Hid (Below K w wr))
  case atStart => exact ⟨0, 0, by omega, rfl, by omega, rfl, hit0, hbw0⟩
  case round =>
    obtain ⟨i, m, hig, rfl, hm, HN, HI, HB⟩ := hrel
    cases gk with
    | zero =>
      obtain rfl : i = s.size := by omega
      have hnx := fun ty => Lib.run_next_end_at (P := Tryz.prog) wr K s s.size ty HI.out (by omega)
      have HE : Hid (numF s.data.toList = m) := by
        show _ = _
        rw [HN.out, List.drop_of_length_le (by omega)]; rfl
      go_wp2
      go_ret
      exact ⟨ret_int (by rw [HE.out]), HB.out⟩
    | succ g =>
      have hi : i < s.size := by omega
      have hl2 : i < s.data.toList.length := by omega
      have HT : Hid _ := num_take hl2 HN.out
      rw [NrS.data_at s i hi hl2] at HT
      by_cases hx : (s[i]'hi).toNat < 128
      · have hnx := fun ty => Lib.run_next_ascii_at (P := Tryz.prog) wr K s i ty HI.out hi hx
        have HI2 : Hid ((wr.iterAt K s (i + 1)).heap[K]? = some (.stringIter s (i + 1))) := Lib.iterAt_heap _ _ _ _ _ HI.out
        have HB2 : Hid (Below K w (wr.iterAt K s (i + 1))) := Lib.below_iterAt HB.out (Nat.le_refl _) _ _
        generalize hX : (s[i]'hi) = x at *
        clear hX
        generalize wr.iterAt K s (i + 1) = wn at *
        by_cases h1 : (x.toNat : Int) < 48
        · have HZ : Hid (numF s.data.toList = 0) := HT.out.2 (by omega)
          clear HT
          go_wp2
          go_ret
          exact ⟨ret_int (by rw [HZ.out]; rfl), HB2.out⟩
        by_cases h2 : (57 : Int) < (x.toNat : Int)
        · have HZ : Hid (numF s.data.toList = 0) := HT.out.2 (by omega)
          clear HT
          go_wp2
          go_ret
          exact ⟨ret_int (by rw [HZ.out]; rfl), HB2.out⟩
        have HX : Hid (numF s.data.toList = (numGo (min (m * 10 + (x.toNat - 48)) 20) (s.data.toList.drop (i + 1))).getD 0) := HT.out.1 (by omega)
        clear HT
        obtain ⟨d, hd, hd9⟩ : ∃ d : Nat, x.toNat = 48 + d ∧ d ≤ 9 := ⟨x.toNat - 48, by omega, by omega⟩
        have e0 : (x.toNat : Int) - 48 = (d : Int) := by omega
        have e1 : IntKind.i32.wrap ((x.toNat : Int) - 48) = (d : Int) := by
          rw [e0]
          have : d = 0 ∨ d = 1 ∨ d = 2 ∨ d = 3 ∨ d = 4 ∨ d = 5 ∨ d = 6 ∨ d = 7 ∨ d = 8 ∨ d = 9 := by omega
          clear e0 hd
          rcases this with rfl | rfl | rfl | rfl | rfl | rfl | rfl | rfl | rfl | rfl <;> decide
        have e2 : IntKind.i64.wrap ((m : Int) * 10) = (m : Int) * 10 := IntWalk.i64_in _ (by omega)
        have e3 : IntKind.i64.wrap ((m : Int) * 10 + (d : Int)) = (m : Int) * 10 + (d : Int) := IntWalk.i64_in _ (by omega)
        have e4 : IntKind.i64.wrap (d : Int) = (d : Int) := IntWalk.i64_in _ (by omega)
        have HX2 : Hid (numF s.data.toList = (numGo (min (m * 10 + d) 20) (s.data.toList.drop (i + 1))).getD 0) := by show _ = _; rw [HX.out, hd]; congr 4; omega
        go_wp2
        go_roundg g
        case measure => omega
        case rel => exact ⟨i + 1, min (m * 10 + d) 20, by omega, by go_num, Nat.min_le_right _ _, HX2, HI2, HB2⟩
      · have hx2 : 128 ≤ (s[i]'hi).toNat := by omega
        have HZ : Hid (numF s.data.toList = 0) := HT.out.2 (by omega)
        obtain ⟨hd1, hd2⟩ := decode_high s i hi hx2
        have hnx := fun ty => Lib.run_next_any_at (P := Tryz.prog) wr K s i ty HI.out hi
        generalize hD1 : (Utf8.decode s i).1 = r at *
        generalize hD2 : (Utf8.decode s i).2 = n at *
        have HB2 : Hid (Below K w (wr.iterAt K s (i + n))) := Lib.below_iterAt HB.out (Nat.le_refl _) _ _
        generalize wr.iterAt K s (i + n) = wn at *
        have hr1 : (57 : Int) < (r : Int) := by omega
        clear hx hx2 hD1 hD2 HT
        go_wp2
        go_ret
        exact ⟨ret_int (by rw [HZ.out]; rfl), HB2.out⟩
end Go.Proofs.YtiennniclkbjlaaGreatDoor.NiP
/- A line of a notice is read: of the program: what it says. -/
namespace Go.Proofs.YtiennniclkbjlaaGreatDoor.NiP
open Go.RowKit Go.Proofs.YtiennniclkbjlaaGreatDoor.EscM Go.Proofs.YtiennniclkbjlaaGreatDoor.EscL Go.Proofs.YtiennniclkbjlaaGreatDoor.RuleM Go.Proofs.YtiennniclkbjlaaGreatDoor.Ru1 Go.Proofs.YtiennniclkbjlaaGreatDoor.ReadM Go.Proofs.YtiennniclkbjlaaGreatDoor.Rd1 Go.Proofs.YtiennniclkbjlaaGreatDoor.St Go.Proofs.YtiennniclkbjlaaGreatDoor.RR Go.Proofs.YtiennniclkbjlaaGreatDoor.LetM Go.Proofs.YtiennniclkbjlaaGreatDoor.Nm Go.Proofs.YtiennniclkbjlaaGreatDoor.GrM Go.Proofs.YtiennniclkbjlaaGreatDoor.Dr Go.Proofs.YtiennniclkbjlaaGreatDoor.NrM Go.Proofs.YtiennniclkbjlaaGreatDoor.NrW Go.Proofs.YtiennniclkbjlaaGreatDoor.NrS Go.Proofs.YtiennniclkbjlaaGreatDoor.Im

/-- a line that was read, as a value -/
def lkV : Option Lk → Value
  | none => .nilIface
  | some (.c s) => .iface 225 (.agg #[.string s])
  | some (.r x) => .iface 227 (.agg #[.bool x.lt, .string x.path])
  | some (.t n) => .iface 230 (.agg #[.int .i64 (n : Int)])

set_option maxRecDepth 100000 in
set_option maxHeartbeats 3200000 in
theorem readLine_any (s : ByteArray) (w : World) (hM : Mx w) (hs : s.size ≤ 1000000) :
    Calls Tryz.prog 172 #[.string s] w fun e w' => e = .returned (.tuple #[lkV (lineF s), .bool (lineF s).isSome]) ∧ Below w.heap.size w w' := by
  have HM : Hid (Mx w) := hM
  have hcl := cut_le s
  have HE : Hid (∀ o, lineF s = o → (Ending.returned (.tuple #[lkV o, .bool o.isSome]) = .returned (.tuple #[lkV (lineF s), .bool (lineF s).isSome]))) := fun o h => by rw [h]
  have HL : Hid (lineF s = if blankF s then saysF (wordF s) (restF s) else none) := rfl
  have hrz : (restF s).size ≤ 4194304 := by omega
  have HCT : Hid _ := fun W hW => Im.cut_any s 32 W hW hs
  have HCT2 : Hid (∀ W, Mx W → Calls Tryz.prog 138 #[.string s, .string ⟨#[32]⟩] W fun e w' => e = .returned (.tuple #[.string (wordF s), .string (restF s), .bool (blankF s)]) ∧ ∃ n, w' = W.drewN n) := HCT.out
  clear hM HCT hcl
  generalize wordF s = wd at *
  generalize restF s = rs at *
  generalize blankF s = bb at *
  generalize lineF s = o at *
  have HCO : Hid (∀ W : World, _) := fun W => implCall_any rs W (by unfold maxLen; omega)
  have HRU : Hid (∀ W : World, _) := fun W => implRule_any rs W (by unfold maxLen; omega)
  have HWT : Hid (∀ W : World, _) := fun W => readWait_any rs W hrz
  cases bb with
  | false =>
    have HO : Hid (o = none) := HL.out
    go_enter Tryz.func172, Tryz.ntmps172
    go_wp2_with fail
    refine (HCT2.out _ HM.out).mono ?_
    rintro e w1 ⟨rfl, n, rfl⟩
    have HB1 : Hid (Below w.heap.size w (w.drewN n)) := below_drewN (Below.refl _ _) n
    have hsz1 : w.heap.size ≤ (w.drewN n).heap.size := HB1.out.size
    generalize w.drewN n = w1 at *
    go_wp2
    go_ret2
    exact ⟨HE.out _ HO.out, HB1.out⟩
  | true =>
  have HL2 : Hid (o = saysF wd rs) := HL.out
  clear HL
  by_cases h1 : wd.data.toList = wCall
  · have hcall := word_is _ _ [99, 97, 108, 108, 101, 114] h1 rfl
    have hlet : (wd.toList == [108, 101, 116]) = false := word_not _ _ (by rw [h1]; decide)
    have hbar : (wd.toList == [98, 97, 114]) = false := word_not _ _ (by rw [h1]; decide)
    have hwait : (wd.toList == [119, 97, 105, 116]) = false := word_not _ _ (by rw [h1]; decide)
    have HW1 : Hid (wd.data.toList = wCall) := h1
    clear h1
    cases hc : callB rs with
    | true =>
      rw [hc] at HCO
      have HO : Hid (o = some (.c rs)) := by show _ = _; rw [HL2.out]; exact says_c HW1.out hc
      clear hc
      go_enter Tryz.func172, Tryz.ntmps172
      go_wp2_with fail
      refine (HCT2.out _ HM.out).mono ?_
      rintro e w1 ⟨rfl, n, rfl⟩
      have HB1 : Hid (Below w.heap.size w (w.drewN n)) := below_drewN (Below.refl _ _) n
      have hsz1 : w.heap.size ≤ (w.drewN n).heap.size := HB1.out.size
      generalize w.drewN n = w1 at *
      go_wp2_with (go_at_call 191; refine (HCO.out _).mono ?_; rintro e w2 ⟨rfl, e1⟩; have e2 := e1.symm; subst e2)
      go_ret2
      exact ⟨HE.out _ HO.out, HB1.out⟩
    | false =>
      rw [hc] at HCO
      have HO : Hid (o = none) := by show _ = _; rw [HL2.out]; exact says_cn HW1.out hc
      clear hc
      go_enter Tryz.func172, Tryz.ntmps172
      go_wp2_with fail
      refine (HCT2.out _ HM.out).mono ?_
      rintro e w1 ⟨rfl, n, rfl⟩
      have HB1 : Hid (Below w.heap.size w (w.drewN n)) := below_drewN (Below.refl _ _) n
      have hsz1 : w.heap.size ≤ (w.drewN n).heap.size := HB1.out.size
      generalize w.drewN n = w1 at *
      go_wp2_with (go_at_call 191; refine (HCO.out _).mono ?_; rintro e w2 ⟨rfl, e1⟩; have e2 := e1.symm; subst e2)
      go_ret2
      exact ⟨HE.out _ HO.out, HB1.out⟩
  have hcall := word_not wd [99, 97, 108, 108, 101, 114] h1
  by_cases h : wd.data.toList = wLet
  · have hlet := word_is _ _ [108, 101, 116] h rfl
    have hbar : (wd.toList == [98, 97, 114]) = false := word_not _ _ (by rw [h]; decide)
    have hwait : (wd.toList == [119, 97, 105, 116]) = false := word_not _ _ (by rw [h]; decide)
    have HW1 : Hid (wd.data.toList = wLet) := h
    clear h
    cases hc : ruleL rs.data.toList with
    | true =>
      rw [hc] at HRU
      have HO : Hid (o = some (.r ⟨true, rs⟩)) := by show _ = _; rw [HL2.out, says_l HW1.out, if_pos hc]
      clear hc
      go_enter Tryz.func172, Tryz.ntmps172
      go_wp2_with fail
      refine (HCT2.out _ HM.out).mono ?_
      rintro e w1 ⟨rfl, n, rfl⟩
      have HB1 : Hid (Below w.heap.size w (w.drewN n)) := below_drewN (Below.refl _ _) n
      have hsz1 : w.heap.size ≤ (w.drewN n).heap.size := HB1.out.size
      generalize w.drewN n = w1 at *
      go_wp2_with (go_at_call 118; refine (HRU.out _).mono ?_; rintro e w2 ⟨rfl, hb2⟩)
      have HB2 : Hid (Below w.heap.size w w2) := HB1.out.trans (hb2.mono hsz1)
      go_ret2
      exact ⟨HE.out _ HO.out, HB2.out⟩
    | false =>
      rw [hc] at HRU
      have HO : Hid (o = none) := by show _ = _; rw [HL2.out, says_l HW1.out, if_neg (by rw [hc]; decide)]
      clear hc
      go_enter Tryz.func172, Tryz.ntmps172
      go_wp2_with fail
      refine (HCT2.out _ HM.out).mono ?_
      rintro e w1 ⟨rfl, n, rfl⟩
      have HB1 : Hid (Below w.heap.size w (w.drewN n)) := below_drewN (Below.refl _ _) n
      have hsz1 : w.heap.size ≤ (w.drewN n).heap.size := HB1.out.size
      generalize w.drewN n = w1 at *
      go_wp2_with (go_at_call 118; refine (HRU.out _).mono ?_; rintro e w2 ⟨rfl, hb2⟩)
      have HB2 : Hid (Below w.heap.size w w2) := HB1.out.trans (hb2.mono hsz1)
      go_ret2
      exact ⟨HE.out _ HO.out, HB2.out⟩
  have hletN : wd.data.toList ≠ wLet := h
  have hlet := word_not wd [108, 101, 116] h
  clear h
  by_cases h : wd.data.toList = wBar
  · have hbar := word_is _ _ [98, 97, 114] h rfl
    have hwait : (wd.toList == [119, 97, 105, 116]) = false := word_not _ _ (by rw [h]; decide)
    have HW1 : Hid (wd.data.toList = wBar) := h
    clear h
    cases hc : ruleL rs.data.toList with
    | true =>
      rw [hc] at HRU
      have HO : Hid (o = some (.r ⟨false, rs⟩)) := by show _ = _; rw [HL2.out, says_b HW1.out, if_pos hc]
      clear hc
      go_enter Tryz.func172, Tryz.ntmps172
      go_wp2_with fail
      refine (HCT2.out _ HM.out).mono ?_
      rintro e w1 ⟨rfl, n, rfl⟩
      have HB1 : Hid (Below w.heap.size w (w.drewN n)) := below_drewN (Below.refl _ _) n
      have hsz1 : w.heap.size ≤ (w.drewN n).heap.size := HB1.out.size
      generalize w.drewN n = w1 at *
      go_wp2_with (go_at_call 118; refine (HRU.out _).mono ?_; rintro e w2 ⟨rfl, hb2⟩)
      have HB2 : Hid (Below w.heap.size w w2) := HB1.out.trans (hb2.mono hsz1)
      go_ret2
      exact ⟨HE.out _ HO.out, HB2.out⟩
    | false =>
      rw [hc] at HRU
      have HO : Hid (o = none) := by show _ = _; rw [HL2.out, says_b HW1.out, if_neg (by rw [hc]; decide)]
      clear hc
      go_enter Tryz.func172, Tryz.ntmps172
      go_wp2_with fail
      refine (HCT2.out _ HM.out).mono ?_
      rintro e w1 ⟨rfl, n, rfl⟩
      have HB1 : Hid (Below w.heap.size w (w.drewN n)) := below_drewN (Below.refl _ _) n
      have hsz1 : w.heap.size ≤ (w.drewN n).heap.size := HB1.out.size
      generalize w.drewN n = w1 at *
      go_wp2_with (go_at_call 118; refine (HRU.out _).mono ?_; rintro e w2 ⟨rfl, hb2⟩)
      have HB2 : Hid (Below w.heap.size w w2) := HB1.out.trans (hb2.mono hsz1)
      go_ret2
      exact ⟨HE.out _ HO.out, HB2.out⟩
  have hbarN : wd.data.toList ≠ wBar := h
  have hbar := word_not wd [98, 97, 114] h
  clear h
  by_cases h : wd.data.toList = wWait
  · have hwait := word_is _ _ [119, 97, 105, 116] h rfl
    have HO : Hid (o = some (.t (numF rs.data.toList))) := by show _ = _; rw [HL2.out]; exact says_w h
    clear h h1 hletN hbarN
    go_enter Tryz.func172, Tryz.ntmps172
    go_wp2_with fail
    refine (HCT2.out _ HM.out).mono ?_
    rintro e w1 ⟨rfl, n, rfl⟩
    have HB1 : Hid (Below w.heap.size w (w.drewN n)) := below_drewN (Below.refl _ _) n
    have hsz1 : w.heap.size ≤ (w.drewN n).heap.size := HB1.out.size
    generalize w.drewN n = w1 at *
    go_wp2_with (go_at_call 192; refine (HWT.out _).mono ?_; rintro e w2 ⟨rfl, hb2⟩)
    have HB2 : Hid (Below w.heap.size w w2) := HB1.out.trans (hb2.mono hsz1)
    go_ret2
    exact ⟨HE.out _ HO.out, HB2.out⟩
  have HO : Hid (o = none) := by show _ = _; rw [HL2.out]; exact says_no h1 hletN hbarN h
  have hwait := word_not wd [119, 97, 105, 116] h
  clear h h1 hletN hbarN
  go_enter Tryz.func172, Tryz.ntmps172
  go_wp2_with fail
  refine (HCT2.out _ HM.out).mono ?_
  rintro e w1 ⟨rfl, n, rfl⟩
  have HB1 : Hid (Below w.heap.size w (w.drewN n)) := below_drewN (Below.refl _ _) n
  have hsz1 : w.heap.size ≤ (w.drewN n).heap.size := HB1.out.size
  generalize w.drewN n = w1 at *
  go_wp2
  go_ret2
  exact ⟨HE.out _ HO.out, HB1.out⟩
end Go.Proofs.YtiennniclkbjlaaGreatDoor.NiP
/- A line of a notice is read, of the program: put behind what was read. -/
namespace Go.Proofs.YtiennniclkbjlaaGreatDoor.NiP
open Go.RowKit Go.Proofs.YtiennniclkbjlaaGreatDoor.EscM Go.Proofs.YtiennniclkbjlaaGreatDoor.EscL Go.Proofs.YtiennniclkbjlaaGreatDoor.RuleM Go.Proofs.YtiennniclkbjlaaGreatDoor.Ru1 Go.Proofs.YtiennniclkbjlaaGreatDoor.ReadM Go.Proofs.YtiennniclkbjlaaGreatDoor.Rd1 Go.Proofs.YtiennniclkbjlaaGreatDoor.St Go.Proofs.YtiennniclkbjlaaGreatDoor.RR Go.Proofs.YtiennniclkbjlaaGreatDoor.LetM Go.Proofs.YtiennniclkbjlaaGreatDoor.Nm Go.Proofs.YtiennniclkbjlaaGreatDoor.GrM Go.Proofs.YtiennniclkbjlaaGreatDoor.Dr Go.Proofs.YtiennniclkbjlaaGreatDoor.NrM Go.Proofs.YtiennniclkbjlaaGreatDoor.NrW Go.Proofs.YtiennniclkbjlaaGreatDoor.NrS Go.Proofs.YtiennniclkbjlaaGreatDoor.Im

theorem new_blkR0 {L : List Gr} : ∀ x ∈ L, ∀ b, ruBlk x = some b → (Value.slice none 0 0).ownBlock ≠ some b := fun _ _ _ _ e => by simp [Value.ownBlock] at e
theorem heap_cell {w w' : World} (e : w'.heap = w.heap) {p : Addr} {v : Value} (h : w.cell? p = some v) : w'.cell? p = some v := by unfold World.cell? at *; rw [e]; exact h
theorem alloc_cell {w : World} (o : Obj) {p : Addr} {v : Value} (h : w.cell? p = some v) : (w.alloc o).cell? p = some v := by
  rw [World.cell?_of_block (w := w) (alloc_keep _ _ _ (St.cell_block h))]; exact h

theorem Tryz.ta_c (x : Value) (w : World) : (Instr.typeAssert (.iface 225 x) 209 225 true).run Tryz.prog w = .ok (.tuple #[x, .bool true]) w := by kernel_rfl
theorem Tryz.ta_r (x : Value) (w : World) : (Instr.typeAssert (.iface 227 x) 209 227 true).run Tryz.prog w = .ok (.tuple #[x, .bool true]) w := by kernel_rfl
theorem Tryz.ta_t (x : Value) (w : World) : (Instr.typeAssert (.iface 230 x) 209 230 true).run Tryz.prog w = .ok (.tuple #[x, .bool true]) w := by kernel_rfl
theorem Tryz.ta_rc (x : Value) (w : World) : (Instr.typeAssert (.iface 227 x) 209 225 true).run Tryz.prog w = .ok (.tuple #[.agg #[.string ⟨#[]⟩], .bool false]) w := by kernel_rfl
theorem Tryz.ta_tc (x : Value) (w : World) : (Instr.typeAssert (.iface 230 x) 209 225 true).run Tryz.prog w = .ok (.tuple #[.agg #[.string ⟨#[]⟩], .bool false]) w := by kernel_rfl
theorem Tryz.ta_tr (x : Value) (w : World) : (Instr.typeAssert (.iface 230 x) 209 227 true).run Tryz.prog w = .ok (.tuple #[.agg #[.bool false, .string ⟨#[]⟩], .bool false]) w := by kernel_rfl
set_option maxRecDepth 100000 in
set_option maxHeartbeats 3200000 in
theorem add_new (base base2 : Nat) (v : Value) (L : List Gr) (rs : ByteArray) (w : World) (h : GsOwn w base base2 v L) (hb : base ≤ w.heap.size) (hb2 : base2 ≤ w.heap.size) (hl : L.length ≤ 1000) (hp : 0 < L.length) :
    Calls Tryz.prog 173 #[v, .bool true, .iface 225 (.agg #[.string rs])] w fun e w' => NrS.Read base base2 w ⟨L.map grp ++ [([rs], [], 0)], false⟩ e w' := by
  obtain ⟨i0, hi, hz0, hz1, hz2⟩ := info_group
  obtain ⟨a0, cap, hv, hI, _⟩ := h.at
  subst hv
  have HG : Hid (GsOwn w base base2 (.slice a0 L.length cap) L) := h
  have hc1 : L.length ≤ cap := hI.1
  have hc2 := hI.2.1
  unfold maxLen at hc2
  clear h hI
  have HN0 : Hid (GsOwn (w.alloc (.cells #[.string rs] 225)) base base2 (.slice a0 L.length cap) L) := HG.out.alloc _
  have HN2 : Hid (GsOwn ((w.alloc (.cells #[.string rs] 225)).alloc (.cells #[.string rs] 9)) base base2 (.slice a0 L.length cap) L) := HN0.out.alloc _
  obtain ⟨g, hg⟩ : ∃ g : Gr, g = ⟨[rs], some ⟨w.heap.size + 1, 0, none⟩, 1, [], none, 0, 0⟩ := ⟨_, rfl⟩
  have HGN : Hid (grp g = ([rs], [], 0)) := by rw [hg]; rfl
  have HEN : Hid (FGr.enc g = [.slice (some ⟨w.heap.size + 1, 0, none⟩) 1 1, .slice none 0 0, .int .i64 0]) := by rw [hg]; rfl
  have hs0 : (w.alloc (.cells #[.string rs] 225)).heap.size = w.heap.size + 1 := by simp
  have HGO : Hid (GrOwn ((w.alloc (.cells #[.string rs] 225)).alloc (.cells #[.string rs] 9)) base2 g) := by
    rw [hg]
    refine ⟨?_, OwnsR.nil _ _ _ _⟩
    have := Owns.lit1 (w.alloc (.cells #[.string rs] 225)) base2 rs (by simp; omega)
    rw [hs0] at this; exact this
  have HDN : Hid (∀ x ∈ L, ∀ b, nmBlk x = some b → nmBlk g ≠ some b) := by rw [hg]; exact new_blk HG.out.2.1 (by omega)
  have HDR : Hid (∀ x ∈ L, ∀ b, ruBlk x = some b → ruBlk g ≠ some b) := by rw [hg]; exact new_blkR0
  have HFR : Hid (Fr base base2 w ((w.alloc (.cells #[.string rs] 225)).alloc (.cells #[.string rs] 9))) := (Fr.alloc base base2 w _ hb hb2).trans (Fr.alloc base base2 _ _ (by simp; omega) (by simp; omega))
  have hsz : ((w.alloc (.cells #[.string rs] 225)).alloc (.cells #[.string rs] 9)).heap.size = w.heap.size + 1 + 1 := by simp
  have HX2 : Hid (∀ j u, (FGr.enc g)[j]? = some u → (((w.alloc (.cells #[.string rs] 225)).alloc (.cells #[.string rs] 9)).alloc (.cells #[.slice (some ⟨w.heap.size + 1, 0, none⟩) 1 1, .slice none 0 0, .int .i64 0] 35)).cell? ((⟨w.heap.size + 1 + 1, 0, none⟩ : Addr).add j) = some u) := HEN.out ▸ cell_three_newE hsz _ _ _ _
  clear hg hsz hs0
  have hng : decide ((L.length : Int) - 1 < 0) = false := decide_eq_false (by omega)
  have ta1 := Tryz.ta_c
  have ta2 := Tryz.ta_r
  have ta3 := Tryz.ta_t
  have ta4 := Tryz.ta_rc
  have ta5 := Tryz.ta_tc
  have ta6 := Tryz.ta_tr
  go_enter Tryz.func173, Tryz.ntmps173
  go_wp2_with (at_builtin; refine wpList_append_own _ rfl _ _ 143 rfl base 35 i0 (.agg #[.slice none 0 0, .slice none 0 0, .int .i64 0]) 3 56 Tryz.underlying143 hi hz0 hz1 hz2 rfl (by decide) _ _ _ rfl (HN2.out.alloc _).1 ⟨w.heap.size + 1 + 1, 0, none⟩ 1 1 (FGr.enc g) rfl rfl HX2.out (FGr.one g) ?c3 ?c4 ?c5 ?_)
  case c3 => first | (unfold maxLen; omega) | (simp [maxLen])
  case c4 => first | omega | simp
  case c5 => simp; omega
  intro v8 w8 hown8 hgrow8 _
  have H8 : Hid (GsOwn w8 base base2 v8 (L ++ [g])) := (HN2.out.alloc _).more (HGO.out.keep (alloc_keep _ _)) HDN.out HDR.out hown8 hgrow8
  have HF8 : Hid (Fr base base2 w w8) := (HFR.out.trans (Fr.alloc base base2 _ _ (by simp; omega) (by simp; omega))).trans (Fr.row (HN2.out.alloc _).1 hgrow8 (by simp; omega))
  clear hown8 hgrow8
  go_wp2
  go_ret2
  exact ⟨v8, L ++ [g], rfl, H8.out, by rw [List.map_append, List.map_cons, List.map_nil, HGN.out], HF8.out⟩
set_option maxRecDepth 100000 in
set_option maxHeartbeats 3200000 in
theorem add_new0 (base base2 : Nat) (v : Value) (bg : Bool) (rs : ByteArray) (w : World) (h : GsOwn w base base2 v []) (hb : base ≤ w.heap.size) (hb2 : base2 ≤ w.heap.size) :
    Calls Tryz.prog 173 #[v, .bool bg, .iface 225 (.agg #[.string rs])] w fun e w' => NrS.Read base base2 w ⟨[([rs], [], 0)], false⟩ e w' := by
  obtain ⟨i0, hi, hz0, hz1, hz2⟩ := info_group
  obtain ⟨a0, cap, hv, hI, _⟩ := h.at
  have hv : v = .slice a0 0 cap := hv
  subst hv
  have HG : Hid (GsOwn w base base2 (.slice a0 0 cap) []) := h
  have hc1 : 0 ≤ cap := hI.1
  have hc2 := hI.2.1
  unfold maxLen at hc2
  clear h hI
  have HN0 : Hid (GsOwn (w.alloc (.cells #[.string rs] 225)) base base2 (.slice a0 0 cap) []) := HG.out.alloc _
  have HN2 : Hid (GsOwn ((w.alloc (.cells #[.string rs] 225)).alloc (.cells #[.string rs] 9)) base base2 (.slice a0 0 cap) []) := HN0.out.alloc _
  obtain ⟨g, hg⟩ : ∃ g : Gr, g = ⟨[rs], some ⟨w.heap.size + 1, 0, none⟩, 1, [], none, 0, 0⟩ := ⟨_, rfl⟩
  have HGN : Hid (grp g = ([rs], [], 0)) := by rw [hg]; rfl
  have HEN : Hid (FGr.enc g = [.slice (some ⟨w.heap.size + 1, 0, none⟩) 1 1, .slice none 0 0, .int .i64 0]) := by rw [hg]; rfl
  have hs0 : (w.alloc (.cells #[.string rs] 225)).heap.size = w.heap.size + 1 := by simp
  have HGO : Hid (GrOwn ((w.alloc (.cells #[.string rs] 225)).alloc (.cells #[.string rs] 9)) base2 g) := by
    rw [hg]
    refine ⟨?_, OwnsR.nil _ _ _ _⟩
    have := Owns.lit1 (w.alloc (.cells #[.string rs] 225)) base2 rs (by simp; omega)
    rw [hs0] at this; exact this
  have HDN : Hid (∀ x ∈ [], ∀ b, nmBlk x = some b → nmBlk g ≠ some b) := by rw [hg]; exact new_blk HG.out.2.1 (by omega)
  have HDR : Hid (∀ x ∈ [], ∀ b, ruBlk x = some b → ruBlk g ≠ some b) := by rw [hg]; exact new_blkR0
  have HFR : Hid (Fr base base2 w ((w.alloc (.cells #[.string rs] 225)).alloc (.cells #[.string rs] 9))) := (Fr.alloc base base2 w _ hb hb2).trans (Fr.alloc base base2 _ _ (by simp; omega) (by simp; omega))
  have hsz : ((w.alloc (.cells #[.string rs] 225)).alloc (.cells #[.string rs] 9)).heap.size = w.heap.size + 1 + 1 := by simp
  have HX2 : Hid (∀ j u, (FGr.enc g)[j]? = some u → (((w.alloc (.cells #[.string rs] 225)).alloc (.cells #[.string rs] 9)).alloc (.cells #[.slice (some ⟨w.heap.size + 1, 0, none⟩) 1 1, .slice none 0 0, .int .i64 0] 35)).cell? ((⟨w.heap.size + 1 + 1, 0, none⟩ : Addr).add j) = some u) := HEN.out ▸ cell_three_newE hsz _ _ _ _
  clear hg hsz hs0
  have ta1 := Tryz.ta_c
  have ta2 := Tryz.ta_r
  have ta3 := Tryz.ta_t
  have ta4 := Tryz.ta_rc
  have ta5 := Tryz.ta_tc
  have ta6 := Tryz.ta_tr
  go_enter Tryz.func173, Tryz.ntmps173
  go_wp2_with (at_builtin; refine wpList_append_own _ rfl _ _ 143 rfl base 35 i0 (.agg #[.slice none 0 0, .slice none 0 0, .int .i64 0]) 3 56 Tryz.underlying143 hi hz0 hz1 hz2 rfl (by decide) _ _ _ rfl (HN2.out.alloc _).1 ⟨w.heap.size + 1 + 1, 0, none⟩ 1 1 (FGr.enc g) rfl rfl HX2.out (FGr.one g) ?c3 ?c4 ?c5 ?_)
  case c3 => first | (unfold maxLen; omega) | (simp [maxLen])
  case c4 => first | omega | simp
  case c5 => simp; omega
  intro v8 w8 hown8 hgrow8 _
  have H8 : Hid (GsOwn w8 base base2 v8 ([] ++ [g])) := (HN2.out.alloc _).more (HGO.out.keep (alloc_keep _ _)) HDN.out HDR.out hown8 hgrow8
  have HF8 : Hid (Fr base base2 w w8) := (HFR.out.trans (Fr.alloc base base2 _ _ (by simp; omega) (by simp; omega))).trans (Fr.row (HN2.out.alloc _).1 hgrow8 (by simp; omega))
  clear hown8 hgrow8
  go_wp2
  go_ret2
  exact ⟨v8, [] ++ [g], rfl, H8.out, by rw [List.map_append, List.map_cons, List.map_nil, HGN.out]; rfl, HF8.out⟩
end Go.Proofs.YtiennniclkbjlaaGreatDoor.NiP
/- A line of a notice is read, of the program: the last group is written into. -/
namespace Go.Proofs.YtiennniclkbjlaaGreatDoor.NiP
open Go.RowKit Go.Proofs.YtiennniclkbjlaaGreatDoor.EscM Go.Proofs.YtiennniclkbjlaaGreatDoor.EscL Go.Proofs.YtiennniclkbjlaaGreatDoor.RuleM Go.Proofs.YtiennniclkbjlaaGreatDoor.Ru1 Go.Proofs.YtiennniclkbjlaaGreatDoor.ReadM Go.Proofs.YtiennniclkbjlaaGreatDoor.Rd1 Go.Proofs.YtiennniclkbjlaaGreatDoor.St Go.Proofs.YtiennniclkbjlaaGreatDoor.RR Go.Proofs.YtiennniclkbjlaaGreatDoor.LetM Go.Proofs.YtiennniclkbjlaaGreatDoor.Nm Go.Proofs.YtiennniclkbjlaaGreatDoor.GrM Go.Proofs.YtiennniclkbjlaaGreatDoor.Dr Go.Proofs.YtiennniclkbjlaaGreatDoor.NrM Go.Proofs.YtiennniclkbjlaaGreatDoor.NrW Go.Proofs.YtiennniclkbjlaaGreatDoor.NrS Go.Proofs.YtiennniclkbjlaaGreatDoor.Im

set_option maxRecDepth 100000 in
set_option maxHeartbeats 3200000 in
theorem add_name (base base2 n : Nat) (v : Value) (M : List Gr) (g : Gr) (rs : ByteArray) (w : World) (hn : M.length = n) (h : GsOwn w base base2 v (M ++ [g])) (hbb : base ≤ base2) (hb2 : base2 ≤ w.heap.size) (hl : n ≤ 1000) (hl2 : g.nm.length ≤ 1000) :
    Calls Tryz.prog 173 #[v, .bool false, .iface 225 (.agg #[.string rs])] w fun e w' => NrS.Read base base2 w ⟨M.map grp ++ [(g.nm ++ [rs], g.ru, g.wait)], false⟩ e w' := by
  obtain ⟨i9, hi9, hz90, hz91, hz92⟩ := info_parts Tryz.infoS
  obtain ⟨b, cap, hv, hbb1, hblt, f0, c0, c1, c2⟩ := h.last
  rw [hn] at hv c0 c1 c2
  subst hv
  have HG : Hid (GsOwn w base base2 (.slice (some ⟨b, 0, none⟩) (n + 1) cap) (M ++ [g])) := h
  have hI := OwnsR.rowsOf h.1
  have hc1 : n + 1 ≤ cap := by have := hI.1; rw [List.length_append, hn] at this; exact this
  have hc2 := hI.2.1
  unfold maxLen at hc2
  have HN : Hid (M.length = n) := hn
  clear h hI hn
  have hw3 : IntKind.i64.wrap (n : Int) = (n : Int) := IntWalk.i64_in _ (by omega)
  have hn0 : (0 : Int) ≤ (n : Int) := by omega
  have hn1 : (n : Int) ≤ (cap : Int) := by omega
  have hnl : decide ((n : Int) < 0) = false := decide_eq_false (by omega)
  have hn2 : (n : Int) < (n : Int) + 1 := by omega
  have hn3 : n < n + 1 := by omega
  have HA : Hid (GsOwn ((w.alloc (.cells #[.string rs] 225)).alloc (.cells #[.string rs] 9)) base base2 (.slice (some ⟨b, 0, none⟩) (n + 1) cap) (M ++ [g])) := (HG.out.alloc (.cells #[.string rs] 225)).alloc _
  have HNO : Hid (Owns ((w.alloc (.cells #[.string rs] 225)).alloc (.cells #[.string rs] 9)) base2 (.slice g.na g.nm.length g.nc) g.nm) := (HA.out.2.1 g (by simp)).1
  have hs1 : (w.alloc (.cells #[.string rs] 225)).heap.size = w.heap.size + 1 := by simp
  have HX2 : Hid (∀ j u, [Value.string rs][j]? = some u → ((w.alloc (.cells #[.string rs] 225)).alloc (.cells #[.string rs] 9)).cell? ((⟨w.heap.size + 1, 0, none⟩ : Addr).add j) = some u) := by
    have := cell_one_new (w.alloc (.cells #[.string rs] 225)) (.string rs) 9
    rw [hs1] at this; exact this
  have HFA : Hid (Fr base base2 w ((w.alloc (.cells #[.string rs] 225)).alloc (.cells #[.string rs] 9))) := (Fr.alloc base base2 w _ (by omega) hb2).trans (Fr.alloc base base2 _ _ (by simp; omega) (by simp; omega))
  have x0 : (w.alloc (.cells #[.string rs] 225)).cell? ⟨w.heap.size, 0, none⟩ = some (.string rs) := (Bx.new 225 w _).cell 0 rfl
  have p0 : (w.alloc (.cells #[.string rs] 225)).cell? ⟨b, n * 3, none⟩ = some (.slice g.na g.nm.length g.nc) := alloc_cell _ c0
  have p0a : ∀ o, ((w.alloc (.cells #[.string rs] 225)).alloc o).cell? ⟨b, n * 3, none⟩ = some (.slice g.na g.nm.length g.nc) := fun o => alloc_cell o p0
  have p0d : (w.alloc (.cells #[.string rs] 225)).drew.cell? ⟨b, n * 3, none⟩ = some (.slice g.na g.nm.length g.nc) := p0
  have p0ad : ∀ o, ((w.alloc (.cells #[.string rs] 225)).alloc o).drew.cell? ⟨b, n * 3, none⟩ = some (.slice g.na g.nm.length g.nc) := fun o => p0a o
  have p0da : ∀ o, ((w.alloc (.cells #[.string rs] 225)).drew.alloc o).cell? ⟨b, n * 3, none⟩ = some (.slice g.na g.nm.length g.nc) := fun o => p0a o
  clear hs1
  have ta1 := Tryz.ta_c
  have ta2 := Tryz.ta_r
  have ta3 := Tryz.ta_t
  have ta4 := Tryz.ta_rc
  have ta5 := Tryz.ta_tc
  have ta6 := Tryz.ta_tr
  go_enter Tryz.func173, Tryz.ntmps173
  go_wp2
  go_region_law
    (first
    | (refine step_append_lies _ rfl (.tmp 37) (.tmp 40) 23 rfl base2 9 i9 (.string ⟨#[]⟩) 1 16 Tryz.underlying23 hi9 hz90 hz91 hz92 rfl (by decide) (.slice g.na g.nm.length g.nc) g.nm.length (cellsS g.nm) rfl (by exact Owns.heapEq HNO.out rfl) ⟨w.heap.size + 1, 0, none⟩ 1 1 [Value.string rs] rfl rfl (by exact HX2.out) (by intro u hu; simp at hu; subst hu; rfl) (by omega) (by unfold maxLen; omega) (by omega) (by simp; omega) (w.heap.size + 1 + 1) (by simp) ?_
       intro g1 k1 w8 hown8 hgrow8 hat8 hlt8
       have hgA : ((w.alloc (.cells #[.string rs] 225)).alloc (.cells #[.string rs] 9)).grownBy w8 ((.slice g.na g.nm.length g.nc) : Value).ownBlock := by
         refine Dr.grown_trans ?_ hgrow8
         exact ⟨rfl, rfl, rfl, Nat.le_refl _, fun _ _ _ => rfl⟩
       have hr8 := HA.out.row1 hgA
       have H9 : Hid (GsOwn (w8.setCell ⟨b, M.length * 3, none⟩ (.slice (some ⟨g1, 0, none⟩) (g.nm.length + 1) k1)) base base2 (.slice (some ⟨b, 0, none⟩) (M.length + 1) cap) (M ++ [{ g with nm := g.nm ++ [rs], na := some ⟨g1, 0, none⟩, nc := k1 }])) := GsOwn.name (by rw [HN.out]; exact HA.out) hown8 hgA hat8 (by simp)
       have HF8 : Hid (Fr base base2 w (w8.setCell ⟨b, M.length * 3, none⟩ (.slice (some ⟨g1, 0, none⟩) (g.nm.length + 1) k1))) := (HFA.out.trans (Fr.far hgA (by simp; omega) (fun k hk => by have := Owns.block HNO.out k hk; omega))).trans (Fr.set hr8 (by have := hgA.size; simp at this; omega))
       have hl8 := row_last hr8
       rw [HN.out] at hl8 H9 HF8
       obtain ⟨f8, q0, q1, q2⟩ := hl8
       clear hown8 hgrow8 hat8 hr8 hgA)
    | fail)
  all_goals
    go_wp2
    go_ret2
    exact ⟨.slice (some ⟨b, 0, none⟩) (n + 1) cap, M ++ [{ g with nm := g.nm ++ [rs], na := some ⟨g1, 0, none⟩, nc := k1 }], rfl, H9.out, by rw [List.map_append]; rfl, HF8.out⟩
set_option maxRecDepth 100000 in
set_option maxHeartbeats 3200000 in
theorem add_rule (base base2 n : Nat) (v : Value) (M : List Gr) (g : Gr) (bg : Bool) (x : Ru) (w : World) (hn : M.length = n) (h : GsOwn w base base2 v (M ++ [g])) (hbb : base ≤ base2) (hb2 : base2 ≤ w.heap.size) (hl : n ≤ 1000) (h6 : g.ru.length < 6) :
    Calls Tryz.prog 173 #[v, .bool bg, .iface 227 (.agg #[.bool x.lt, .string x.path])] w fun e w' => NrS.Read base base2 w ⟨M.map grp ++ [(g.nm, g.ru ++ [x], g.wait)], true⟩ e w' := by
  obtain ⟨i9, hi9, hz90, hz91, hz92⟩ := info_rule
  obtain ⟨b, cap, hv, hbb1, hblt, f0, c0, c1, c2⟩ := h.last
  rw [hn] at hv c0 c1 c2
  subst hv
  have HG : Hid (GsOwn w base base2 (.slice (some ⟨b, 0, none⟩) (n + 1) cap) (M ++ [g])) := h
  have hI := OwnsR.rowsOf h.1
  have hc1 : n + 1 ≤ cap := by have := hI.1; rw [List.length_append, hn] at this; exact this
  have hc2 := hI.2.1
  unfold maxLen at hc2
  have HN : Hid (M.length = n) := hn
  clear h hI hn
  have hw3 : IntKind.i64.wrap (n : Int) = (n : Int) := IntWalk.i64_in _ (by omega)
  have hn0 : (0 : Int) ≤ (n : Int) := by omega
  have hn1 : (n : Int) ≤ (cap : Int) := by omega
  have hnl : decide ((n : Int) < 0) = false := decide_eq_false (by omega)
  have hn2 : (n : Int) < (n : Int) + 1 := by omega
  have hn3 : n < n + 1 := by omega
  have HA : Hid (GsOwn ((w.alloc (.cells #[.bool x.lt, .string x.path] 227)).alloc (.cells #[.bool x.lt, .string x.path] 135)) base base2 (.slice (some ⟨b, 0, none⟩) (n + 1) cap) (M ++ [g])) := (HG.out.alloc (.cells #[.bool x.lt, .string x.path] 227)).alloc _
  have HNO : Hid (OwnsR FRu 135 ((w.alloc (.cells #[.bool x.lt, .string x.path] 227)).alloc (.cells #[.bool x.lt, .string x.path] 135)) base2 (.slice g.ra g.ru.length g.rc) g.ru) := (HA.out.2.1 g (by simp)).2
  have hs1 : (w.alloc (.cells #[.bool x.lt, .string x.path] 227)).heap.size = w.heap.size + 1 := by simp
  have HX2 : Hid (∀ j u, (FRu.enc x)[j]? = some u → ((w.alloc (.cells #[.bool x.lt, .string x.path] 227)).alloc (.cells #[.bool x.lt, .string x.path] 135)).cell? ((⟨w.heap.size + 1, 0, none⟩ : Addr).add j) = some u) := by
    have := cell_two_new (w.alloc (.cells #[.bool x.lt, .string x.path] 227)) (.bool x.lt) (.string x.path) 135
    rw [hs1] at this; exact this
  have HFA : Hid (Fr base base2 w ((w.alloc (.cells #[.bool x.lt, .string x.path] 227)).alloc (.cells #[.bool x.lt, .string x.path] 135))) := (Fr.alloc base base2 w _ (by omega) hb2).trans (Fr.alloc base base2 _ _ (by simp; omega) (by simp; omega))
  have x0 : (w.alloc (.cells #[.bool x.lt, .string x.path] 227)).cell? ⟨w.heap.size, 0, none⟩ = some (.bool x.lt) := (Bx.new 227 w _).cell 0 rfl
  have x1 : (w.alloc (.cells #[.bool x.lt, .string x.path] 227)).cell? ⟨w.heap.size, 1, none⟩ = some (.string x.path) := (Bx.new 227 w _).cell 1 rfl
  have p0 : (w.alloc (.cells #[.bool x.lt, .string x.path] 227)).cell? ⟨b, n * 3 + 1, none⟩ = some (.slice g.ra g.ru.length g.rc) := alloc_cell _ c1
  have p0a : ∀ o, ((w.alloc (.cells #[.bool x.lt, .string x.path] 227)).alloc o).cell? ⟨b, n * 3 + 1, none⟩ = some (.slice g.ra g.ru.length g.rc) := fun o => alloc_cell o p0
  have p0d : (w.alloc (.cells #[.bool x.lt, .string x.path] 227)).drew.cell? ⟨b, n * 3 + 1, none⟩ = some (.slice g.ra g.ru.length g.rc) := p0
  have p0ad : ∀ o, ((w.alloc (.cells #[.bool x.lt, .string x.path] 227)).alloc o).drew.cell? ⟨b, n * 3 + 1, none⟩ = some (.slice g.ra g.ru.length g.rc) := fun o => p0a o
  have p0da : ∀ o, ((w.alloc (.cells #[.bool x.lt, .string x.path] 227)).drew.alloc o).cell? ⟨b, n * 3 + 1, none⟩ = some (.slice g.ra g.ru.length g.rc) := fun o => p0a o
  clear hs1
  have ta1 := Tryz.ta_c
  have ta2 := Tryz.ta_r
  have ta3 := Tryz.ta_t
  have ta4 := Tryz.ta_rc
  have ta5 := Tryz.ta_tc
  have ta6 := Tryz.ta_tr
  go_enter Tryz.func173, Tryz.ntmps173
  go_wp2
  go_region_law
    (first
    | (refine step_append_lies _ rfl (.tmp 63) (.tmp 66) 33 rfl base2 135 i9 (.agg #[.bool false, .string ⟨#[]⟩]) 2 24 Tryz.underlying33 hi9 hz90 hz91 hz92 rfl (by decide) (.slice g.ra g.ru.length g.rc) g.ru.length (FRu.cells g.ru) rfl (by exact OwnsR.heapEq HNO.out rfl) ⟨w.heap.size + 1, 0, none⟩ 1 1 (FRu.enc x) rfl rfl (by exact HX2.out) (FRu.one x) (by omega) (by unfold maxLen; omega) (by omega) (by simp; omega) (w.heap.size + 1 + 1) (by simp) ?_
       intro g1 k1 w8 hown8 hgrow8 hat8 hlt8
       have hgA : ((w.alloc (.cells #[.bool x.lt, .string x.path] 227)).alloc (.cells #[.bool x.lt, .string x.path] 135)).grownBy w8 ((.slice g.ra g.ru.length g.rc) : Value).ownBlock := by
         refine Dr.grown_trans ?_ hgrow8
         exact ⟨rfl, rfl, rfl, Nat.le_refl _, fun _ _ _ => rfl⟩
       have hr8 := HA.out.row2 hgA
       have H9 : Hid (GsOwn (w8.setCell ⟨b, M.length * 3 + 1, none⟩ (.slice (some ⟨g1, 0, none⟩) (g.ru.length + 1) k1)) base base2 (.slice (some ⟨b, 0, none⟩) (M.length + 1) cap) (M ++ [{ g with ru := g.ru ++ [x], ra := some ⟨g1, 0, none⟩, rc := k1 }])) := GsOwn.rule (by rw [HN.out]; exact HA.out) hown8 hgA hat8 (by simp)
       have HF8 : Hid (Fr base base2 w (w8.setCell ⟨b, M.length * 3 + 1, none⟩ (.slice (some ⟨g1, 0, none⟩) (g.ru.length + 1) k1))) := (HFA.out.trans (Fr.far hgA (by simp; omega) (fun k hk => by have := OwnsR.block HNO.out k hk; omega))).trans (Fr.set hr8 (by have := hgA.size; simp at this; omega))
       have hl8 := row_last hr8
       rw [HN.out] at hl8 H9 HF8
       obtain ⟨f8, q0, q1, q2⟩ := hl8
       clear hown8 hgrow8 hat8 hr8 hgA)
    | fail)
  all_goals
    go_wp2
    go_ret2
    exact ⟨.slice (some ⟨b, 0, none⟩) (n + 1) cap, M ++ [{ g with ru := g.ru ++ [x], ra := some ⟨g1, 0, none⟩, rc := k1 }], rfl, H9.out, by rw [List.map_append]; rfl, HF8.out⟩
end Go.Proofs.YtiennniclkbjlaaGreatDoor.NiP
/- A line of a notice is read, of the program: what is left; and a whole notice. -/
namespace Go.Proofs.YtiennniclkbjlaaGreatDoor.NiP
open Go.RowKit Go.Proofs.YtiennniclkbjlaaGreatDoor.LibM Go.Proofs.YtiennniclkbjlaaGreatDoor.EscM Go.Proofs.YtiennniclkbjlaaGreatDoor.EscL Go.Proofs.YtiennniclkbjlaaGreatDoor.RuleM Go.Proofs.YtiennniclkbjlaaGreatDoor.Ru1 Go.Proofs.YtiennniclkbjlaaGreatDoor.ReadM Go.Proofs.YtiennniclkbjlaaGreatDoor.Rd1 Go.Proofs.YtiennniclkbjlaaGreatDoor.St Go.Proofs.YtiennniclkbjlaaGreatDoor.RR Go.Proofs.YtiennniclkbjlaaGreatDoor.LetM Go.Proofs.YtiennniclkbjlaaGreatDoor.Nm Go.Proofs.YtiennniclkbjlaaGreatDoor.GrM Go.Proofs.YtiennniclkbjlaaGreatDoor.Dr Go.Proofs.YtiennniclkbjlaaGreatDoor.NrM Go.Proofs.YtiennniclkbjlaaGreatDoor.NrW Go.Proofs.YtiennniclkbjlaaGreatDoor.NrS Go.Proofs.YtiennniclkbjlaaGreatDoor.Im

set_option maxRecDepth 100000 in
set_option maxHeartbeats 3200000 in
theorem add_rule0 (base base2 : Nat) (v : Value) (x : Ru) (w : World) (h : GsOwn w base base2 v []) (hb : base ≤ w.heap.size) (hb2 : base2 ≤ w.heap.size) :
    Calls Tryz.prog 173 #[v, .bool false, .iface 227 (.agg #[.bool x.lt, .string x.path])] w fun e w' => NrS.Read base base2 w ⟨[], false⟩ e w' := by
  obtain ⟨a0, cap, hv, _⟩ := h.at
  have hv : v = .slice a0 0 cap := hv
  subst hv
  have HG : Hid (GsOwn (w.alloc (.cells #[.bool x.lt, .string x.path] 227)) base base2 (.slice a0 0 cap) []) := h.alloc _
  have HF : Hid (Fr base base2 w (w.alloc (.cells #[.bool x.lt, .string x.path] 227))) := Fr.alloc base base2 w _ hb hb2
  clear h
  have ta1 := Tryz.ta_c
  have ta2 := Tryz.ta_r
  have ta3 := Tryz.ta_t
  have ta4 := Tryz.ta_rc
  have ta5 := Tryz.ta_tc
  have ta6 := Tryz.ta_tr
  go_enter Tryz.func173, Tryz.ntmps173
  go_wp2
  go_ret2
  exact ⟨.slice a0 0 cap, [], rfl, HG.out, rfl, HF.out⟩
set_option maxRecDepth 100000 in
set_option maxHeartbeats 3200000 in
theorem add_wait0 (base base2 : Nat) (v : Value) (q : Nat) (w : World) (h : GsOwn w base base2 v []) (hb : base ≤ w.heap.size) (hb2 : base2 ≤ w.heap.size) :
    Calls Tryz.prog 173 #[v, .bool false, .iface 230 (.agg #[.int .i64 (q : Int)])] w fun e w' => NrS.Read base base2 w ⟨[], false⟩ e w' := by
  obtain ⟨a0, cap, hv, _⟩ := h.at
  have hv : v = .slice a0 0 cap := hv
  subst hv
  have HG : Hid (GsOwn (w.alloc (.cells #[.int .i64 (q : Int)] 230)) base base2 (.slice a0 0 cap) []) := h.alloc _
  have HF : Hid (Fr base base2 w (w.alloc (.cells #[.int .i64 (q : Int)] 230))) := Fr.alloc base base2 w _ hb hb2
  clear h
  have ta1 := Tryz.ta_c
  have ta2 := Tryz.ta_r
  have ta3 := Tryz.ta_t
  have ta4 := Tryz.ta_rc
  have ta5 := Tryz.ta_tc
  have ta6 := Tryz.ta_tr
  go_enter Tryz.func173, Tryz.ntmps173
  go_wp2
  go_ret2
  exact ⟨.slice a0 0 cap, [], rfl, HG.out, rfl, HF.out⟩
set_option maxRecDepth 100000 in
set_option maxHeartbeats 3200000 in
theorem add_full (base base2 n : Nat) (v : Value) (M : List Gr) (g : Gr) (bg : Bool) (x : Ru) (w : World) (hn : M.length = n) (h : GsOwn w base base2 v (M ++ [g])) (hbb : base ≤ base2) (hb2 : base2 ≤ w.heap.size) (hl : n ≤ 1000) (h6 : 6 ≤ g.ru.length) :
    Calls Tryz.prog 173 #[v, .bool bg, .iface 227 (.agg #[.bool x.lt, .string x.path])] w fun e w' => NrS.Read base base2 w ⟨(M ++ [g]).map grp, true⟩ e w' := by
  obtain ⟨b, cap, hv, hbb1, hblt, f0, c0, c1, c2⟩ := h.last
  rw [hn] at hv c0 c1 c2
  subst hv
  have HG : Hid (GsOwn w base base2 (.slice (some ⟨b, 0, none⟩) (n + 1) cap) (M ++ [g])) := h
  have hI := OwnsR.rowsOf h.1
  have hc1 : n + 1 ≤ cap := by have := hI.1; rw [List.length_append, hn] at this; exact this
  have hc2 := hI.2.1
  unfold maxLen at hc2
  have HN : Hid (M.length = n) := hn
  clear h hI hn
  have hw3 : IntKind.i64.wrap (n : Int) = (n : Int) := IntWalk.i64_in _ (by omega)
  have hn0 : (0 : Int) ≤ (n : Int) := by omega
  have hn1 : (n : Int) ≤ (cap : Int) := by omega
  have hnl : decide ((n : Int) < 0) = false := decide_eq_false (by omega)
  have hn2 : (n : Int) < (n : Int) + 1 := by omega
  have hn3 : n < n + 1 := by omega
  have HA : Hid (GsOwn (w.alloc (.cells #[.bool x.lt, .string x.path] 227)) base base2 (.slice (some ⟨b, 0, none⟩) (n + 1) cap) (M ++ [g])) := HG.out.alloc _
  have HF : Hid (Fr base base2 w (w.alloc (.cells #[.bool x.lt, .string x.path] 227))) := Fr.alloc base base2 w _ (by omega) hb2
  have p1 : (w.alloc (.cells #[.bool x.lt, .string x.path] 227)).cell? ⟨b, n * 3 + 1, none⟩ = some (.slice g.ra g.ru.length g.rc) := alloc_cell _ c1
  have h6d : decide ((g.ru.length : Int) < 6) = false := decide_eq_false (by omega)
  have ta1 := Tryz.ta_c
  have ta2 := Tryz.ta_r
  have ta3 := Tryz.ta_t
  have ta4 := Tryz.ta_rc
  have ta5 := Tryz.ta_tc
  have ta6 := Tryz.ta_tr
  go_enter Tryz.func173, Tryz.ntmps173
  go_wp2
  go_ret2
  exact ⟨.slice (some ⟨b, 0, none⟩) (n + 1) cap, M ++ [g], rfl, HA.out, rfl, HF.out⟩
set_option maxRecDepth 100000 in
set_option maxHeartbeats 3200000 in
theorem add_wait (base base2 n : Nat) (v : Value) (M : List Gr) (g : Gr) (bg : Bool) (q : Nat) (w : World) (hn : M.length = n) (h : GsOwn w base base2 v (M ++ [g])) (hbb : base ≤ base2) (hb2 : base2 ≤ w.heap.size) (hl : n ≤ 1000) :
    Calls Tryz.prog 173 #[v, .bool bg, .iface 230 (.agg #[.int .i64 (q : Int)])] w fun e w' => NrS.Read base base2 w ⟨M.map grp ++ [(g.nm, g.ru, (q : Int))], true⟩ e w' := by
  obtain ⟨b, cap, hv, hbb1, hblt, f0, c0, c1, c2⟩ := h.last
  rw [hn] at hv c0 c1 c2
  subst hv
  have HG : Hid (GsOwn w base base2 (.slice (some ⟨b, 0, none⟩) (n + 1) cap) (M ++ [g])) := h
  have hI := OwnsR.rowsOf h.1
  have hc1 : n + 1 ≤ cap := by have := hI.1; rw [List.length_append, hn] at this; exact this
  have hc2 := hI.2.1
  unfold maxLen at hc2
  have HN : Hid (M.length = n) := hn
  clear h hI hn
  have hw3 : IntKind.i64.wrap (n : Int) = (n : Int) := IntWalk.i64_in _ (by omega)
  have hn0 : (0 : Int) ≤ (n : Int) := by omega
  have hn1 : (n : Int) ≤ (cap : Int) := by omega
  have hnl : decide ((n : Int) < 0) = false := decide_eq_false (by omega)
  have hn2 : (n : Int) < (n : Int) + 1 := by omega
  have hn3 : n < n + 1 := by omega
  have hW := HG.out
  have hz2 : (w.setCell ⟨b, n * 3 + 2, none⟩ (.int .i64 (q : Int))).heap.size = w.heap.size := by simp [World.setCell]
  have H9 : Hid (GsOwn ((w.setCell ⟨b, n * 3 + 2, none⟩ (.int .i64 (q : Int))).alloc (.cells #[.int .i64 (q : Int)] 230)) base base2 (.slice (some ⟨b, 0, none⟩) (n + 1) cap) (M ++ [{ g with wait := (q : Int) }])) := by
    have := GsOwn.wait (M := M) (q : Int) (by rw [HN.out]; exact hW)
    rw [HN.out] at this; exact this.alloc _
  have HF9 : Hid (Fr base base2 w ((w.setCell ⟨b, n * 3 + 2, none⟩ (.int .i64 (q : Int))).alloc (.cells #[.int .i64 (q : Int)] 230))) := (Fr.set hW.1 (by omega)).trans (Fr.alloc base base2 _ _ (by rw [hz2]; omega) (by rw [hz2]; omega))
  have p2 : (w.alloc (.cells #[.int .i64 (q : Int)] 230)).cell? ⟨b, n * 3 + 2, none⟩ = some (.int .i64 g.wait) := alloc_cell _ c2
  have f2 : ∀ j, (w.alloc (.cells #[.int .i64 (q : Int)] 230)).frozen? ⟨b, j, none⟩ = false := by
    have hl9 := row_last (hW.alloc (.cells #[.int .i64 (q : Int)] 230)).1
    exact hl9.1
  clear hW hz2
  have ta1 := Tryz.ta_c
  have ta2 := Tryz.ta_r
  have ta3 := Tryz.ta_t
  have ta4 := Tryz.ta_rc
  have ta5 := Tryz.ta_tc
  have ta6 := Tryz.ta_tr
  go_enter Tryz.func173, Tryz.ntmps173
  go_wp2
  go_ret2
  exact ⟨.slice (some ⟨b, 0, none⟩) (n + 1) cap, M ++ [{ g with wait := (q : Int) }], rfl, H9.out, by rw [List.map_append]; rfl, HF9.out⟩

theorem implAdd_any (base base2 : Nat) (v : Value) (L : List Gr) (bg : Bool) (x : Lk) (w : World) (h : GsOwn w base base2 v L) (hok : NrOk ⟨L.map grp, bg⟩) (hsz : NrSz ⟨L.map grp, bg⟩ 1000) (hbb : base ≤ base2) (hb2 : base2 ≤ w.heap.size) :
    Calls Tryz.prog 173 #[v, .bool bg, lkV (some x)] w fun e w' => NrS.Read base base2 w (addF ⟨L.map grp, bg⟩ x) e w' := by
  rcases List.eq_nil_or_concat L with rfl | ⟨M, g, e⟩
  · have hb : bg = false := hok.1 rfl
    subst hb
    cases x with
    | c s =>
      rw [show (⟨List.map grp [], false⟩ : Nr) = ⟨[], false⟩ from rfl, add_c, if_pos (Or.inl rfl)]
      exact add_new0 base base2 v false s w h (by omega) hb2
    | r x => exact add_rule0 base base2 v x w h (by omega) hb2
    | t q => exact add_wait0 base base2 v q w h (by omega) hb2
  · rw [List.concat_eq_append] at e
    subst e
    have hMl : M.length ≤ 1000 := by have := hsz.1; simp at this; omega
    have hgs := hsz.2 (grp g) (by simp)
    have hnm : g.nm.length ≤ 1000 := hgs.1
    cases x with
    | c s =>
      rw [add_c]
      cases bg with
      | true =>
        rw [if_pos (Or.inr rfl)]
        exact add_new base base2 v (M ++ [g]) s w h (by omega) hb2 (by have := hsz.1; simp at this ⊢; omega) (by simp)
      | false =>
        rw [if_neg (fun e => by rcases e with e | e; exact map_ne M g e; cases e)]
        dsimp only
        rw [map_last, map_drop]
        exact add_name base base2 M.length v M g s w rfl h hbb hb2 hMl hnm
    | r x =>
      rw [add_r, if_neg (map_ne M g)]
      dsimp only
      rw [map_last, map_drop]
      by_cases h6 : g.ru.length < 6
      · rw [if_pos (show (grp g).2.1.length < 6 from h6)]
        exact add_rule base base2 M.length v M g bg x w rfl h hbb hb2 hMl h6
      · rw [if_neg (show ¬ (grp g).2.1.length < 6 from h6)]
        exact add_full base base2 M.length v M g bg x w rfl h hbb hb2 hMl (by omega)
    | t q =>
      rw [add_t, if_neg (map_ne M g)]
      dsimp only
      rw [map_last, map_drop]
      exact add_wait base base2 M.length v M g bg q w rfl h hbb hb2 hMl

theorem splitK_take (d : UInt8) : ∀ (m : Nat) (l : List UInt8), (Lib.splitK [d] 0 m l).take m = (splitL d.toNat l).take m := by
  intro m
  induction m with
  | zero => intro l; rfl
  | succ m ih =>
    intro l
    rw [split_cut]
    rcases idx_one d l with ⟨i1, i2⟩ | ⟨i, i0, i1, i2⟩
    · rw [i2]; unfold Lib.splitK; rw [i1]; rfl
    · rw [i2]
      unfold Lib.splitK
      have : ((i : Int) == -1) = false := by simp
      rw [i1, this]
      simp only [List.length_singleton, Int.toNat_natCast, Nat.add_zero]
      show l.take i :: (Lib.splitK [d] 0 m (l.drop (i + 1))).take m = l.take i :: (splitL d.toNat (l.drop (i + 1))).take m
      rw [ih]
theorem splitK_all (d : UInt8) : ∀ (m : Nat) (l : List UInt8), (splitL d.toNat l).length ≤ m + 1 → Lib.splitK [d] 0 m l = splitL d.toNat l := by
  intro m
  induction m with
  | zero =>
    intro l h
    rw [split_cut] at h ⊢
    rcases idx_one d l with ⟨i1, i2⟩ | ⟨i, i0, i1, i2⟩
    · rw [i2]; rfl
    · rw [i2] at h
      have hn := split_ne d.toNat (l.drop (i + 1))
      have h2 : (splitL d.toNat (l.drop (i + 1))).length + 1 ≤ 0 + 1 := h
      exact absurd (List.eq_nil_of_length_eq_zero (by omega)) hn
  | succ m ih =>
    intro l h
    rw [split_cut] at h ⊢
    rcases idx_one d l with ⟨i1, i2⟩ | ⟨i, i0, i1, i2⟩
    · rw [i2]; unfold Lib.splitK; rw [i1]; rfl
    · rw [i2] at h ⊢
      have h2 : (splitL d.toNat (l.drop (i + 1))).length + 1 ≤ m + 1 + 1 := h
      unfold Lib.splitK
      have : ((i : Int) == -1) = false := by simp
      rw [i1, this]
      simp only [List.length_singleton, Int.toNat_natCast, Nat.add_zero]
      show l.take i :: Lib.splitK [d] 0 m (l.drop (i + 1)) = l.take i :: splitL d.toNat (l.drop (i + 1))
      rw [ih _ (by omega)]
/-- the pieces that SplitN cuts -/
def piecesN (s : ByteArray) : List ByteArray := Lib.splitB ⟨#[10]⟩ 0 (min 41 (s.size + 1) - 1) s
theorem pieces_data (s : ByteArray) : (piecesN s).map (·.data.toList) = Lib.splitK [10] 0 (min 41 (s.size + 1) - 1) s.data.toList := Lib.splitB_data ⟨#[10]⟩ 0 _ s
theorem data_inj : ∀ (A B : List ByteArray), A.map (·.data.toList) = B.map (·.data.toList) → A = B := by
  intro A
  induction A with
  | nil => intro B h; cases B with | nil => rfl | cons _ _ => simp at h
  | cons x r ih =>
    intro B h
    cases B with
    | nil => simp at h
    | cons y t =>
      simp only [List.map_cons, List.cons.injEq] at h
      have : x = y := ByteArray.ext (Array.ext' h.1)
      rw [this, ih t h.2]
theorem splitS_data (c : Int) (s : ByteArray) : (splitS c s).map (·.data.toList) = splitL c s.data.toList := by
  unfold splitS
  rw [List.map_map]
  have e : (fun x : ByteArray => x.data.toList) ∘ bs = id := by funext l; simp [bs]
  rw [e, List.map_id]
theorem pieces_take (s : ByteArray) : (piecesN s).take 40 = (splitS 10 s).take 40 := by
  apply data_inj
  rw [List.map_take, List.map_take, pieces_data, splitS_data]
  have e10 : splitL 10 s.data.toList = splitL (10 : UInt8).toNat s.data.toList := rfl
  rw [e10]
  by_cases h : 40 ≤ s.size
  · rw [show min 41 (s.size + 1) - 1 = 40 by omega]
    exact splitK_take 10 40 _
  · rw [splitK_all]
    have := split_len (10 : UInt8).toNat s.data.toList
    have h2 : s.data.toList.length = s.size := by simp
    omega
theorem pieces_len (s : ByteArray) : (piecesN s).length ≤ 41 := by
  have := Lib.splitB_length_le ⟨#[10]⟩ 0 (min 41 (s.size + 1) - 1) s
  unfold piecesN; omega
theorem read_cut (f : ByteArray → Option Lk) (L : List ByteArray) (n : Nat) : ∀ k, k ≤ n → readTo f (L.take n) k = readTo f L k := by
  intro k
  induction k with
  | zero => intro _; rfl
  | succ k ih =>
    intro h
    show (match (L.take n)[k]? with | some s => stepF (readTo f (L.take n) k) (f s) | none => readTo f (L.take n) k) = (match L[k]? with | some s => stepF (readTo f L k) (f s) | none => readTo f L k)
    rw [ih (by omega), List.getElem?_take_of_lt (by omega)]
theorem read_pieces (f : ByteArray → Option Lk) (s : ByteArray) : readTo f (piecesN s) (min 40 (piecesN s).length) = readTo f (splitS 10 s) (min 40 (splitS 10 s).length) := by
  rw [← read_cut f (piecesN s) 40 _ (Nat.min_le_left _ _), ← read_cut f (splitS 10 s) 40 _ (Nat.min_le_left _ _), pieces_take]
  have := congrArg List.length (pieces_take s)
  rw [List.length_take, List.length_take] at this
  rw [this]
theorem pieces_at {s x : ByteArray} (h : x ∈ (piecesN s).take 40) : x.size ≤ s.size := by
  rw [pieces_take] at h
  exact splitS_at (List.mem_of_mem_take h)

theorem splitN_any (s : ByteArray) (w : World) (h : Mx w) (hs : s.size ≤ 1000000) :
    Calls Tryz.prog 171 #[.string s, .string ⟨#[10]⟩, .int .i64 41] w fun e w' => ∃ a cap, e = .returned (.slice a (piecesN s).length cap) ∧ IsStrs w' a cap (piecesN s) ∧ Below w.heap.size w w' := by
  obtain ⟨m, hm⟩ := h
  refine (Tryz.strings_SplitN s ⟨#[10]⟩ 41 m w (by omega) hm (by decide) (by decide) (by decide)).mono ?_
  rintro e w' ⟨rfl, rfl⟩
  have hl : (piecesN s).length ≤ min 41 (s.size + 1) := by
    have := Lib.splitB_length_le ⟨#[10]⟩ 0 (min 41 (s.size + 1) - 1) s
    unfold piecesN; omega
  refine ⟨_, _, rfl, ⟨hl, by unfold maxLen; omega, (fun e => by cases e), fun hne => ⟨w.heap.size, 0, rfl, fun i hi => ?_⟩⟩, (Below.refl _ w).alloc (Nat.le_refl _) _⟩
  have hb : (w.alloc (.cells (Lib.cellsOf (piecesN s) (min 41 (s.size + 1))) 9)).heap[w.heap.size]? = some (.cells (Lib.cellsOf (piecesN s) (min 41 (s.size + 1))) 9) := by show (w.heap.push _)[w.heap.size]? = _; simp
  have hgoal : (w.alloc (.cells (Lib.cellsOf (piecesN s) (min 41 (s.size + 1))) 9)).cell? ⟨w.heap.size, 0 + i, none⟩ = some (.string (piecesN s)[i]) := by
    unfold World.cell?
    dsimp only
    rw [hb]
    simp [Lib.cellsOf, List.getElem?_append, hi]
  exact hgoal

set_option maxRecDepth 100000 in
set_option maxHeartbeats 3200000 in
theorem implRead_notice (s : ByteArray) (w : World) (hM : Mx w) (hs : s.size ≤ 1000000) :
    Calls Tryz.prog 150 #[.string s] w fun e w' => ∃ v L, e = .returned v ∧ GsOwn w' w.heap.size w.heap.size v L ∧ L.map grp = noticeF s ∧ Below w.heap.size w w' := by
  have HM : Hid (Mx w) := hM
  have HSP : Hid _ := splitN_any s w hM hs
  have HRP : Hid ((readTo lineF (piecesN s) (min 40 (piecesN s).length)).gs = noticeF s) := by show _ = _; rw [read_pieces]; rfl
  have hpl := pieces_len s
  have HZ : Hid (∀ x ∈ (piecesN s).take 40, x.size ≤ 1000000) := fun x hx => by have := pieces_at hx; omega
  clear hM
  generalize piecesN s = Ls at *
  go_enter Tryz.func150, Tryz.ntmps150
  go_wp2_with fail
  refine Calls.mono HSP.out ?_
  rintro e w1 ⟨a0, cap, rfl, hI, hb1⟩
  have HI : Hid (IsStrs w1 a0 cap Ls) := hI
  have HB1 : Hid (Below w.heap.size w w1) := hb1
  have hw1 : w.heap.size ≤ w1.heap.size := hb1.size
  have HM1 : Hid (Mx w1) := HM.out.below hb1
  have HG1 : Hid (GsOwn w1 w1.heap.size w1.heap.size (.slice none 0 0) []) := GsOwn.nil _ _ _
  have HF1 : Hid (Below w1.heap.size w1 w1) := Below.refl _ _
  clear hI hb1 HSP HM
  go_wp2
  go_loopw [3, 4, 12] (fun v b i wr => ∃ (k : Nat) (L : List Gr) (bg : Bool), k ≤ Ls.length ∧ k ≤ 40 ∧ i = .int .i64 (k : Int) ∧ b = .bool bg ∧ Hid (GsOwn wr w1.heap.size w1.heap.size v L) ∧ Hid ((⟨L.map grp, bg⟩ : Nr) = readTo lineF Ls k) ∧ Hid (Below w1.heap.size w1 wr)) (fun _ _ i _ => Ls.length - (intOf i).toNat)
  case atStart => exact ⟨0, [], false, Nat.zero_le _, by omega, rfl, rfl, HG1, rfl, HF1⟩
  case round =>
    obtain ⟨k, L, bg, hk, hk40, rfl, rfl, HG, HR, HB⟩ := hrel
    have hwz : w1.heap.size ≤ wr.heap.size := HB.out.size
    by_cases hlt : k < Ls.length
    · obtain ⟨b, o, e1, c1⟩ := (HI.out.below HB.out).at hlt
      have e1' := e1
      subst e1'
      by_cases h40 : k = 40
      · have HE : Hid (L.map grp = noticeF s) := by
          show _ = _
          rw [← HRP.out, Nat.min_eq_left (by omega), ← h40, ← HR.out]
        have h40b : ((k : Int) == 40) = true := by simp; omega
        have HFB : Hid (Below w.heap.size w wr) := HB1.out.trans (HB.out.mono hw1)
        clear h40
        go_wp2
        go_ret
        exact ⟨u3, rfl, L, ⟨HG.out.1.mono hw1, HG.out.2.1.mono hw1, HG.out.2.2⟩, HE.out, HFB.out⟩
      · have h40b : ((k : Int) == 40) = false := by simp; omega
        have hz : Ls[k].size ≤ 1000000 := HZ.out _ (by
          have : Ls[k] = (Ls.take 40)[k]'(by simp; omega) := by simp
          rw [this]; exact List.getElem_mem _)
        have HST : Hid (readTo lineF Ls (k + 1) = stepF ⟨L.map grp, bg⟩ (lineF Ls[k])) := by
          show _ = _
          rw [read_step hlt, ← HR.out]
        have HOK : Hid (NrOk ⟨L.map grp, bg⟩) := by rw [HR.out]; exact ok_read _ _ _
        have HSZ : Hid (NrSz ⟨L.map grp, bg⟩ 1000) := by rw [HR.out]; exact sz_mono (sz_read _ (fun _ _ h => line_ok h) _ _) (by omega)
        have HRL : Hid _ := fun W hW => readLine_any Ls[k] W hW hz
        clear HR
        generalize lineF Ls[k] = o at *
        go_wp2_with fail
        refine (HRL.out _ (HM1.out.below HB.out)).mono ?_
        rintro e w2 ⟨rfl, hb2⟩
        have HG2 : Hid (GsOwn w2 w1.heap.size w1.heap.size u3 L) := HG.out.below hb2
        have HB2 : Hid (Below w1.heap.size w1 w2) := HB.out.trans (hb2.mono hwz)
        have hwz2 : w1.heap.size ≤ w2.heap.size := HB2.out.size
        clear hb2 HG HB c1
        cases o with
        | none =>
          have HM3 : Hid ((⟨L.map grp, bg⟩ : Nr) = readTo lineF Ls (k + 1)) := HST.out.symm
          have hso : (none : Option Lk).isSome = false := rfl
          go_wp2
          go_roundw
          case rel => exact ⟨k + 1, L, bg, by omega, by omega, by go_num, rfl, HG2, HM3, HB2⟩
          case measure => simp [intOf]; omega
        | some x =>
          have hso : (some x).isSome = true := rfl
          have HADD : Hid _ := implAdd_any w1.heap.size w1.heap.size u3 L bg x w2 HG2.out HOK.out HSZ.out (Nat.le_refl _) hwz2
          have HST2 : Hid (readTo lineF Ls (k + 1) = addF ⟨L.map grp, bg⟩ x) := HST.out
          clear HST
          generalize lkV (some x) = lv at *
          generalize addF ⟨L.map grp, bg⟩ x = S2 at *
          go_wp2_with fail
          refine Calls.mono HADD.out ?_
          rintro e w3 ⟨v3, L3, rfl, hg3, hm3, hf3⟩
          have HG3 : Hid (GsOwn w3 w1.heap.size w1.heap.size v3 L3) := hg3
          have HM3 : Hid ((⟨L3.map grp, S2.bg⟩ : Nr) = readTo lineF Ls (k + 1)) := by show _ = _; rw [hm3, HST2.out]
          have HB3 : Hid (Below w1.heap.size w1 w3) := HB2.out.trans hf3.1
          clear hg3 hm3 hf3
          generalize S2.bg = b3 at *
          go_wp2
          go_roundw
          case rel => exact ⟨k + 1, L3, b3, by omega, by omega, by go_num, rfl, HG3, HM3, HB3⟩
          case measure => simp [intOf]; omega
    · have HE : Hid (L.map grp = noticeF s) := by
        show _ = _
        have e : min 40 Ls.length = k := by omega
        rw [← HRP.out, e, ← HR.out]
      have HFB : Hid (Below w.heap.size w wr) := HB1.out.trans (HB.out.mono hw1)
      go_wp2
      go_ret
      exact ⟨_, L, rfl, ⟨HG.out.1.mono hw1, HG.out.2.1.mono hw1, HG.out.2.2⟩, HE.out, HFB.out⟩

end Go.Proofs.YtiennniclkbjlaaGreatDoor.NiP
