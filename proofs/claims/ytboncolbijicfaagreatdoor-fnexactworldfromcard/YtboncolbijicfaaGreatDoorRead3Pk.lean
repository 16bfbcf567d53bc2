/- Several texts in one: Read3, Read4, Read5, Read6. -/
import Derived.Test.YtboncolbijicfaaGreatDoorRead1Pk
import Derived.Test.YtboncolbijicfaaGreatDoorAddr1Pk
import Derived.Test.YtboncolbijicfaaGreatDoorPath1
import Derived.Test.YtboncolbijicfaaGreatDoorStep
import Derived.Deep.AppendLies
/- The model's reading of an address: a way. -/
namespace Go.Proofs.YtboncolbijicfaaGreatDoor.Rd1
open Go.RowKit Go.Proofs.YtboncolbijicfaaGreatDoor.EscM Go.Proofs.YtboncolbijicfaaGreatDoor.AddrM Go.Proofs.YtboncolbijicfaaGreatDoor.ReadM Go.Proofs.YtboncolbijicfaaGreatDoor.St Go.Proofs.YtboncolbijicfaaGreatDoor.EscL Go.Proofs.YtboncolbijicfaaGreatDoor.PathM Go.Proofs.YtboncolbijicfaaGreatDoor.Ad1

/-- the box of what came in, and the place of the answer, kept -/
theorem two_cells {w wr : World} {x0 x1 x2 x3 y0 y1 y2 y3 : Value} {t t' : TypeId} (hb : Below (w.heap.size + 1 + 1) ((w.alloc (.cells #[x0, x1, x2, x3] t)).alloc (.cells #[y0, y1, y2, y3] t')) wr) :
    (wr.cell? ⟨w.heap.size, 0, none⟩ = some x0 ∧ wr.cell? ⟨w.heap.size, 1, none⟩ = some x1 ∧ wr.cell? ⟨w.heap.size, 2, none⟩ = some x2 ∧ wr.cell? ⟨w.heap.size, 3, none⟩ = some x3) ∧
    (wr.cell? ⟨w.heap.size + 1, 0, none⟩ = some y0 ∧ wr.cell? ⟨w.heap.size + 1, 1, none⟩ = some y1 ∧ wr.cell? ⟨w.heap.size + 1, 2, none⟩ = some y2 ∧ wr.cell? ⟨w.heap.size + 1, 3, none⟩ = some y3) ∧
    (∀ j, wr.frozen? ⟨w.heap.size + 1, j, none⟩ = false) := by
  have h : ∀ j, wr.cell? ⟨w.heap.size, j, none⟩ = ((w.alloc (.cells #[x0, x1, x2, x3] t)).alloc (.cells #[y0, y1, y2, y3] t')).cell? ⟨w.heap.size, j, none⟩ := fun j => hb.cell (by show w.heap.size < _; omega)
  have h' : ∀ j, wr.cell? ⟨w.heap.size + 1, j, none⟩ = ((w.alloc (.cells #[x0, x1, x2, x3] t)).alloc (.cells #[y0, y1, y2, y3] t')).cell? ⟨w.heap.size + 1, j, none⟩ := fun j => hb.cell (by show w.heap.size + 1 < _; omega)
  refine ⟨⟨?_, ?_, ?_, ?_⟩, ⟨?_, ?_, ?_, ?_⟩, fun j => ?_⟩
  · rw [h]; go_simp
  · rw [h]; go_simp
  · rw [h]; go_simp
  · rw [h]; go_simp
  · rw [h']; go_simp
  · rw [h']; go_simp
  · rw [h']; go_simp
  · rw [h']; go_simp
  · rw [hb.frozen (show w.heap.size + 1 < w.heap.size + 1 + 1 by omega)]; go_simp

theorem two_below {w wr : World} {o o' : Obj} (hb : Below (w.heap.size + 1 + 1) ((w.alloc o).alloc o') wr) : Below w.heap.size w wr := (((Below.refl _ w).alloc (Nat.le_refl _) _).alloc (by simp) _).trans (hb.mono (by omega))
theorem two_next {w wr w1 : World} {o o' : Obj} (hb : Below (w.heap.size + 1 + 1) ((w.alloc o).alloc o') wr) (h1 : Below wr.heap.size wr w1) : Below (w.heap.size + 1 + 1) ((w.alloc o).alloc o') w1 := hb.trans (h1.mono (by have := hb.size; simp at this; omega))

theorem below_past {w4 w5 : World} {Z : Obj} (h : Below (w4.alloc Z).drew.heap.size (w4.alloc Z).drew w5) : Below w4.heap.size w4 w5 :=
  (((Below.refl w4.heap.size w4).alloc (Nat.le_refl _) Z).drew).trans (h.mono (show w4.heap.size ≤ _ by simp))
theorem zero_past {w4 w5 : World} {x0 x1 x2 x3 : Value} {t : TypeId} (h : Below (w4.alloc (.cells #[x0, x1, x2, x3] t)).drew.heap.size (w4.alloc (.cells #[x0, x1, x2, x3] t)).drew w5) :
    w5.cell? ⟨w4.heap.size, 0, none⟩ = some x0 ∧ w5.cell? ⟨w4.heap.size, 1, none⟩ = some x1 ∧ w5.cell? ⟨w4.heap.size, 2, none⟩ = some x2 ∧ w5.cell? ⟨w4.heap.size, 3, none⟩ = some x3 ∧ ∀ j, w5.frozen? ⟨w4.heap.size, j, none⟩ = false := by
  have hc : ∀ j, w5.cell? ⟨w4.heap.size, j, none⟩ = (w4.alloc (.cells #[x0, x1, x2, x3] t)).drew.cell? ⟨w4.heap.size, j, none⟩ := fun j => h.cell (by show w4.heap.size < _; simp)
  refine ⟨?_, ?_, ?_, ?_, fun j => ?_⟩
  · rw [hc]; go_simp
  · rw [hc]; go_simp
  · rw [hc]; go_simp
  · rw [hc]; go_simp
  · rw [h.frozen (by show w4.heap.size < _; simp)]; go_simp
theorem cell_on {w6 w7 : World} {p j : Nat} {v : Value} (hb : Below w6.heap.size w6 w7) (h : w6.cell? ⟨p, j, none⟩ = some v) (hp : p < w6.heap.size) : w7.cell? ⟨p, j, none⟩ = some v := (hb.cell (p := ⟨p, j, none⟩) hp).trans h
theorem owns_past {w4 w5 : World} {Z : Obj} {v : Value} {L : List ByteArray} (h : Owns w5 (w4.alloc Z).drew.heap.size v L) : Owns w5 (w4.heap.size + 1) v L := Owns.mono h (by simp)

theorem way_cut {house : ByteArray} {frm : List ByteArray} {way x y : List UInt8} {f : Bool} (h : cutL 63 way = (x, y, f)) : wayF house frm (bs way) = match normS (splitS 47 (bs x)) with
    | none => none
    | some ps => if escB (bs y) then if okB ⟨house, cleanL (frm ++ ps), f, escS (bs y)⟩ then some ⟨house, cleanL (frm ++ ps), f, escS (bs y)⟩ else none else none := by
  unfold wayF
  have : (bs way).data.toList = way := by unfold bs; simp
  rw [this, h]
  cases normS (splitS 47 (bs x)) <;> rfl

set_option maxRecDepth 100000 in
set_option maxHeartbeats 4000000 in
theorem specWay_any (house : ByteArray) (frm : List ByteArray) (q0 : Bool) (k0 way : ByteArray) (a0 : Option Addr) (cap : Nat) (w : World) (hS : IsStrs w a0 cap frm) (hh : house.size ≤ 1000) (hf : frm.length ≤ 1000) (hfs : sumS frm ≤ 100000) (hw : way.size ≤ 60) :
    Calls Tryz.prog 143 #[.agg #[.string house, .slice a0 frm.length cap, .bool q0, .string k0], .string way] w fun e w' => ∃ (A : Ad) (ok : Bool) (a1 : Option Addr) (c1 : Nat), e = .returned (.tuple #[.agg #[.string A.house, .slice a1 A.parts.length c1, .bool A.asks, .string A.ask], .bool ok]) ∧
      ((ok = true ∧ wayF house frm way = some A) ∨ (ok = false ∧ wayF house frm way = none ∧ A = zeroAd)) ∧ Owns w' w.heap.size (.slice a1 A.parts.length c1) A.parts ∧ Below w.heap.size w w' := by
  obtain ⟨i0, hi, hz0, hz1, hz2⟩ := info_parts Tryz.infoS
  have HS : Hid (IsStrs w a0 cap frm) := hS
  have hcl := cut_len 63 way.data.toList
  have hwl : way.data.toList.length = way.size := by simp
  obtain ⟨x, y, f, hcut⟩ : ∃ x y f, cutL 63 way.data.toList = (x, y, f) := ⟨_, _, _, rfl⟩
  have HW : Hid _ := way_cut (house := house) (frm := frm) hcut
  rw [bs_data] at HW
  rw [hcut] at hcl
  have hxl : x.length ≤ 60 := by have := hcl.1; simp at this; omega
  have hyl : y.length ≤ 60 := by have := hcl.1; simp at this; omega
  have HCUT : Hid _ := hcut
  clear hS hcl hcut hwl
  go_enter Tryz.func143, Tryz.ntmps143
  go_wp2_with fail
  refine (specCut_any way 63 _ (by omega) (by omega) (by omega)).mono ?_
  rintro e w1 ⟨rfl, n, rfl⟩
  rw [HCUT.out]
  dsimp only
  have HS1 : Hid (IsStrs (((w.alloc (.cells #[.string house, .slice a0 frm.length cap, .bool q0, .string k0] 73)).alloc (.cells #[.string ⟨#[]⟩, .slice none 0 0, .bool false, .string ⟨#[]⟩] 73)).drewN n) a0 cap frm) := HS.out.keep fun k hk => (by show ((w.alloc _).alloc _).heap[k]? = _; rw [alloc_keep _ _ k (by simp; omega), alloc_keep _ _ k hk])
  have hb1 : Below (w.heap.size + 1 + 1) ((w.alloc (.cells #[.string house, .slice a0 frm.length cap, .bool q0, .string k0] 73)).alloc (.cells #[.string ⟨#[]⟩, .slice none 0 0, .bool false, .string ⟨#[]⟩] 73)) (((w.alloc (.cells #[.string house, .slice a0 frm.length cap, .bool q0, .string k0] 73)).alloc (.cells #[.string ⟨#[]⟩, .slice none 0 0, .bool false, .string ⟨#[]⟩] 73)).drewN n) := below_drewN (Below.refl _ _) n
  generalize hW1 : ((w.alloc (.cells #[.string house, .slice a0 frm.length cap, .bool q0, .string k0] 73)).alloc (.cells #[.string ⟨#[]⟩, .slice none 0 0, .bool false, .string ⟨#[]⟩] 73)).drewN n = w1 at *
  clear hW1
  obtain ⟨⟨c0, c1, c2, c3⟩, ⟨d0, d1, d2, d3⟩, dz⟩ := two_cells hb1
  have hz1s : w.heap.size + 1 + 1 ≤ w1.heap.size := by have := hb1.size; simp at this; omega
  have hlt1 : w.heap.size < w1.heap.size := by omega
  go_wp2_with (first
    | (at_builtin; refine wpList_app rfl (.tmp 22) (.tmp 24) 24 rfl w1.heap.size 9 i0 (.string ⟨#[]⟩) 1 16 Tryz.underlying24 hi hz0 hz1 hz2 rfl (by decide) (.slice (some ⟨w1.heap.size, 0, none⟩) 0 0) 0 [] rfl (Owns.empty w1 w1.heap.size (Nat.le_refl _)) a0 frm.length cap (cellsS frm) rfl HS1.out.none (by simp [cellsS]) (HS1.out.newsAny (alloc_keep _ _)) (cellsS_one frm) (by unfold maxLen; omega) (by omega) (by simp) ?_; intro v2 w2 ho2 hg2)
    | fail)
  have hO2 : Owns w2 w1.heap.size v2 frm := Owns.of_row ho2 (by simp) (by simp)
  have hbw2 : Below w1.heap.size w1 w2 := Below.grown ((Below.refl _ _).alloc (Nat.le_refl _) _) hg2 (by simp) (by intro k hk; simp [Value.ownBlock] at hk; omega)
  have hb2 := two_next hb1 hbw2
  have HO2 : Hid (Owns w2 w1.heap.size v2 frm) := hO2
  have hv2 : ∀ g, v2.ownBlock = some g → g < w2.heap.size := fun g hg => (World.ownsRow.lt hO2 g hg).2
  have HV2 : Hid _ := hv2
  clear ho2 hg2 hO2 c0 c1 c2 c3 d0 d1 d2 d3 dz HS1 hv2
  refine (specSplit_any (bs x) 47 _ (by rw [bs_size]; omega) (by omega) (by omega)).mono ?_
  rintro e w3 ⟨v3, rfl, hO3, hbw3⟩
  have hb3 := two_next hb2 hbw3
  obtain ⟨aS, cS, rfl, hSS⟩ := hO3.strs
  have HPO : Hid (Owns w3 w2.heap.size (.slice aS (splitS 47 (bs x)).length cS) (splitS 47 (bs x))) := hO3
  have hgp : ∀ g, (Value.slice aS (splitS 47 (bs x)).length cS).ownBlock = some g → g < w3.heap.size := fun g hg => (World.ownsRow.lt hO3 g hg).2
  have HGP : Hid _ := hgp
  have HO3 : Hid (Owns w3 w1.heap.size v2 frm) := Owns.below HO2.out hbw3
  have hsl : (splitS 47 (bs x)).length ≤ 61 := by
    unfold splitS
    rw [List.length_map]
    have h1 := split_len 47 (bs x).data.toList
    have e : (bs x).data.toList = x := by unfold bs; simp
    rw [e] at h1 ⊢; omega
  have hsz2 : w1.heap.size ≤ w2.heap.size := hbw2.size
  have hsz3 : w2.heap.size ≤ w3.heap.size := hbw3.size
  have hpm : ∀ z ∈ splitS 47 (bs x), z.size ≤ maxLen := fun z hz => by have := splitS_mem 47 _ z hz; rw [bs_size] at this; unfold maxLen; omega
  have HPM : Hid _ := hpm
  clear hpm
  clear hO3 hSS HO2 hbw2 hbw3 hb2 hb1 hgp
  generalize hP : splitS 47 (bs x) = P at *
  have HP : Hid _ := hP
  clear hP
  go_wp2
  go_loopw [8, 10] (fun v i wr => ∃ k : Nat, k ≤ P.length ∧ i = .int .i64 (k : Int) ∧ Hid (Owns wr w1.heap.size v (frm ++ (P.take k).map escS)) ∧ Hid (∀ z ∈ P.take k, escB z = true) ∧ Hid (Owns wr w2.heap.size (.slice aS P.length cS) P) ∧ Hid (∀ g, v.ownBlock = some g → g < w2.heap.size ∨ w3.heap.size ≤ g) ∧
      Hid (Below (w.heap.size + 1 + 1) ((w.alloc (.cells #[.string house, .slice a0 frm.length cap, .bool q0, .string k0] 73)).alloc (.cells #[.string ⟨#[]⟩, .slice none 0 0, .bool false, .string ⟨#[]⟩] 73)) wr) ∧ w3.heap.size ≤ wr.heap.size) (fun _ i _ => P.length - (intOf i).toNat)
  case atStart => exact ⟨0, Nat.zero_le _, rfl, (by show Owns _ _ _ _; simpa using HO3.out), (by intro z hz; simp at hz), HPO, (fun g hg => Or.inl (HV2.out g hg)), hb3, Nat.le_refl _⟩
  case round =>
    obtain ⟨k, hk, rfl, HO, HE, HPr, HVr, HB, hzr⟩ := hrel
    have hb := HB.out
    obtain ⟨⟨c0, c1, c2, c3⟩, ⟨d0, d1, d2, d3⟩, dz⟩ := two_cells hb
    clear hb
    by_cases hlt : k < P.length
    · obtain ⟨b, o, e, c⟩ := HPr.out.strsOf.at hlt
      have hpz := HPM.out _ (List.getElem_mem hlt)
      subst e
      cases hq : escB P[k] with
      | false =>
        have HN : Hid (wayF house frm way = none) := by show _ = _; rw [HW.out, normS_no hlt hq]
        have HQ : Hid _ := hq
        clear hq
        go_wp2_with fail
        refine (specEsc_any P[k] _ hpz).mono ?_
        rintro e w4 ⟨rfl, hb4⟩
        rw [HQ.out]
        have hbn := two_next HB.out hb4
        obtain ⟨⟨c0', c1', c2', c3'⟩, ⟨d0', d1', d2', d3'⟩, dz'⟩ := two_cells hbn
        clear c0 c1 c2 c3 d0 d1 d2 d3 dz c
        go_wp2
        refine bodyPost_ret (v := .tuple #[.agg #[.string ⟨#[]⟩, .slice none 0 0, .bool false, .string ⟨#[]⟩], .bool false]) (by simp [results, Tryz.results143, go_sem, d0', d1', d2', d3']) rfl ?_
        refine ⟨zeroAd, false, none, 0, rfl, Or.inr ⟨rfl, HN.out, rfl⟩, Owns.nil _ _, ?_⟩
        have hbw := two_below hbn
        iterate 4 refine Below.setCell ?_ (by dsimp only; omega) _
        exact hbw
      | true =>
        have HT : Hid (frm ++ (P.take (k + 1)).map escS = (frm ++ (P.take k).map escS) ++ [escS P[k]]) := by
          show _ = _
          rw [List.take_succ_eq_append_getElem hlt, List.map_append, List.append_assoc]; rfl
        have HE2 : Hid (∀ z ∈ P.take (k + 1), escB z = true) := by
          intro z hz
          rw [List.take_succ_eq_append_getElem hlt] at hz
          rcases List.mem_append.1 hz with hz | hz
          · exact HE.out z hz
          · simp at hz; subst hz; exact hq
        have HQ : Hid _ := hq
        clear hq
        go_wp2_with fail
        refine (specEsc_any P[k] _ hpz).mono ?_
        rintro e w4 ⟨rfl, hb4⟩
        rw [HQ.out]
        have HO4 : Hid (Owns w4 w1.heap.size u8 (frm ++ (P.take k).map escS)) := Owns.below HO.out hb4
        have HPr4 : Hid (Owns w4 w2.heap.size (.slice (some ⟨b, o, none⟩) P.length cS) P) := Owns.below HPr.out hb4
        have HB4 : Hid _ := two_next HB.out hb4
        have hz4 : w3.heap.size ≤ w4.heap.size := Nat.le_trans hzr hb4.size
        have hlen4 : (frm ++ (P.take k).map escS).length ≤ 1100 := by simp; omega
        clear c0 c1 c2 c3 d0 d1 d2 d3 dz c hb4 HO
        generalize escS P[k] = z at *
        generalize frm ++ (P.take k).map escS = X at *
        go_wp2_with (at_builtin; refine wpList_append_lies _ rfl _ _ 24 rfl w1.heap.size 9 i0 (.string ⟨#[]⟩) 1 16 Tryz.underlying24 hi hz0 hz1 hz2 rfl (by decide) u8 _ _ rfl (World.ownsRow.alloc HO4.out _) ⟨w4.heap.size, 0, none⟩ 1 1 [.string z] rfl rfl (cell_one_new _ _ _) ?c2 (by omega) ?c3 ?c4 ?c5 _ rfl ?_)
        case c2 => intro u hu; simp at hu; subst hu; rfl
        case c3 => unfold maxLen; omega
        case c4 => omega
        case c5 => simp; omega
        intro g5 cap5 w5 hown5 hgrow5 hat5 hlt5
        have HO5 : Hid (Owns w5 w1.heap.size (.slice (some ⟨g5, 0, none⟩) (X.length + 1) cap5) (X ++ [z])) := Owns.append hown5
        have HG5 : Hid _ := hgrow5
        have HAT : Hid _ := hat5
        clear hown5 hgrow5 hat5
        go_wp2
        go_roundw
        case rel =>
          refine ⟨k + 1, by omega, by go_num, ?_, HE2, ?_, ?_, ?_, ?_⟩
          · show Owns _ _ _ _
            rw [HT.out]
            exact HO5.out
          · show Owns _ _ _ _
            refine World.ownsRow.kept (World.ownsRow.alloc HPr4.out _) HG5.out ?_
            right
            intro e
            have h1 := HGP.out b rfl
            have h2 := Owns.block HPr4.out b rfl
            rcases HVr.out b e.symm with h | h <;> omega
          · intro g hg
            have hg' : g5 = g := by simpa [Value.ownBlock] using hg
            subst hg'
            rcases HAT.out with h | h
            · exact HVr.out _ h
            · right; omega
          · exact Below.grown (HB4.out.alloc (by have := HB4.out.size; simp at this; omega) _) HG5.out (by simp; omega) (by intro g hg; have := Owns.block HO4.out g hg; omega)
          · have := HG5.out.size; simp at this; omega
        case measure => simp [intOf]; omega
    · have hall : P.take k = P := List.take_of_length_le (by omega)
      rw [hall] at HO HE
      have HN : Hid (normS P = some (P.map escS)) := normS_all HE.out
      have hym : (bs y).size ≤ maxLen := by rw [bs_size]; unfold maxLen; omega
      have hal : (frm ++ P.map escS).length ≤ 1061 := by simp; omega
      have hsum : sumS (frm ++ P.map escS) ≤ 120000 := by
        rw [sumS_append]
        have h1 := sum_le (L := P.map escS) (m := 180) (by intro z hz; obtain ⟨q, _, rfl⟩ := List.mem_map.1 hz; exact escS_size q)
        rw [List.length_map] at h1
        omega
      generalize hX : frm ++ P.map escS = X at *
      have HX : Hid _ := hX
      clear hX
      have hcl := clean_len X
      have hcs := sum_clean X
      have hqs := escS_size (bs y)
      clear hall HPr HVr c1 c2 c3 d0 d1 d2 d3 dz
      obtain ⟨aX, cX, hu8, hSX⟩ := HO.out.strs
      have HSX : Hid (IsStrs wr aX cX X) := hSX
      subst hu8
      clear hSX HO
      go_wp2_with fail
      refine (specEsc_any (bs y) _ hym).mono ?_
      rintro e w4 ⟨rfl, hb4⟩
      have HB4 : Hid _ := two_next HB.out hb4
      have HSX4 : Hid (IsStrs w4 aX cX X) := HSX.out.below hb4
      have hb4' := HB4.out
      obtain ⟨⟨c0', _, _, _⟩, _, _⟩ := two_cells hb4'
      clear c0 HSX hb4 HB hb4'
      go_wp2
      have cd : w4.drew.cell? ⟨w.heap.size, 0, none⟩ = some (.string house) := c0'
      have HSXd : Hid (IsStrs w4.drew aX cX X) := HSX4.out
      have hz4 : w.heap.size < w4.drew.heap.size := by have := HB4.out.size; simp at this ⊢; omega
      have hz4n : w.heap.size < w4.heap.size := hz4
      have hz42 : w.heap.size + 1 + 1 ≤ w4.heap.size := by have := HB4.out.size; simp at this; omega
      have HSXa : Hid (IsStrs (w4.alloc (.cells #[.string ⟨#[]⟩, .slice none 0 0, .bool false, .string ⟨#[]⟩] 73)).drew aX cX X) := HSX4.out.keep (alloc_keep _ _)
      go_region_with (first
        | (go_at_call 172
           refine (specPath_any aX cX X w4.drew HSXd.out (by omega)).mono ?_
           rintro e w5 ⟨v5, rfl, hO5, hb5⟩
           obtain ⟨a5, q5, rfl, hS5⟩ := hO5.strs
           have HO5 : Hid (Owns w5 w4.heap.size (.slice a5 (cleanL X).length q5) (cleanL X)) := hO5
           have HB5 : Hid (Below w4.heap.size w4 w5) := ((Below.refl w4.heap.size w4).drew).trans hb5
           have c5 : w5.cell? ⟨w.heap.size, 0, none⟩ = some (.string house) := (HB5.out.cell hz4n).trans cd
           have hz5 : w.heap.size < w5.heap.size := Nat.lt_of_lt_of_le hz4n HB5.out.size
           clear hS5 hO5 hb5)
        | (go_at_call 172
           refine (specPath_any aX cX X (w4.alloc (.cells #[.string ⟨#[]⟩, .slice none 0 0, .bool false, .string ⟨#[]⟩] 73)).drew HSXa.out (by omega)).mono ?_
           rintro e w5 ⟨v5, rfl, hO5, hb5⟩
           obtain ⟨a5, q5, rfl, hS5⟩ := hO5.strs
           have HO5b : Hid (Owns w5 (w4.heap.size + 1) (.slice a5 (cleanL X).length q5) (cleanL X)) := owns_past hO5
           have HB5 : Hid (Below w4.heap.size w4 w5) := below_past hb5
           have c5 : w5.cell? ⟨w.heap.size, 0, none⟩ = some (.string house) := (HB5.out.cell hz4n).trans cd
           have hz5 : w.heap.size < w5.heap.size := Nat.lt_of_lt_of_le hz4n HB5.out.size
           obtain ⟨z0, z1, z2, z3, zf⟩ := zero_past hb5
           have hzb5 : w4.heap.size < w5.heap.size := Nat.lt_of_lt_of_le (show w4.heap.size < _ by simp) hb5.size
           clear hS5 hO5 hb5))
      all_goals (
        first
        | (have hB6 : Below (w.heap.size + 1 + 1) ((w.alloc (.cells #[.string house, .slice a0 frm.length cap, .bool q0, .string k0] 73)).alloc (.cells #[.string ⟨#[]⟩, .slice none 0 0, .bool false, .string ⟨#[]⟩] 73)) (w5.alloc (.cells #[.string house, .slice a5 (cleanL X).length q5, .bool f, .string (escS (bs y))] 73)) := (two_next HB4.out HB5.out).alloc (by have h5 := HB5.out.size; simp; omega) _
           have hO6 : Owns (w5.alloc (.cells #[.string house, .slice a5 (cleanL X).length q5, .bool f, .string (escS (bs y))] 73)) w4.heap.size (.slice a5 (cleanL X).length q5) (cleanL X) := World.ownsRow.alloc HO5.out _
           have c60 : (w5.alloc (.cells #[.string house, .slice a5 (cleanL X).length q5, .bool f, .string (escS (bs y))] 73)).cell? ⟨w5.heap.size, 0, none⟩ = some (.string house) := (by simp)
           have c61 : (w5.alloc (.cells #[.string house, .slice a5 (cleanL X).length q5, .bool f, .string (escS (bs y))] 73)).cell? ⟨w5.heap.size, 1, none⟩ = some (.slice a5 (cleanL X).length q5) := (by simp)
           have c62 : (w5.alloc (.cells #[.string house, .slice a5 (cleanL X).length q5, .bool f, .string (escS (bs y))] 73)).cell? ⟨w5.heap.size, 2, none⟩ = some (.bool f) := (by simp)
           have c63 : (w5.alloc (.cells #[.string house, .slice a5 (cleanL X).length q5, .bool f, .string (escS (bs y))] 73)).cell? ⟨w5.heap.size, 3, none⟩ = some (.string (escS (bs y))) := (by simp)
           have hp6 : w5.heap.size < (w5.alloc (.cells #[.string house, .slice a5 (cleanL X).length q5, .bool f, .string (escS (bs y))] 73)).heap.size := by simp
           generalize (w5.alloc (.cells #[.string house, .slice a5 (cleanL X).length q5, .bool f, .string (escS (bs y))] 73)) = w6 at hp6 hB6 hO6 c60 c61 c62 c63 ⊢)
        | (have hB6 : Below (w.heap.size + 1 + 1) ((w.alloc (.cells #[.string house, .slice a0 frm.length cap, .bool q0, .string k0] 73)).alloc (.cells #[.string ⟨#[]⟩, .slice none 0 0, .bool false, .string ⟨#[]⟩] 73)) ((((w5.setCell ⟨w4.heap.size, 0, none⟩ (.string house)).setCell ⟨w4.heap.size, 1, none⟩ (.slice a5 (cleanL X).length q5)).setCell ⟨w4.heap.size, 2, none⟩ (.bool f)).setCell ⟨w4.heap.size, 3, none⟩ (.string (escS (bs y)))) := ((((two_next HB4.out HB5.out).setCell hz42 _).setCell hz42 _).setCell hz42 _).setCell hz42 _
           have hO6 : Owns ((((w5.setCell ⟨w4.heap.size, 0, none⟩ (.string house)).setCell ⟨w4.heap.size, 1, none⟩ (.slice a5 (cleanL X).length q5)).setCell ⟨w4.heap.size, 2, none⟩ (.bool f)).setCell ⟨w4.heap.size, 3, none⟩ (.string (escS (bs y)))) w4.heap.size (.slice a5 (cleanL X).length q5) (cleanL X) := Owns.mono (ownsRow_setCell_below (ownsRow_setCell_below (ownsRow_setCell_below (ownsRow_setCell_below HO5b.out (by show w4.heap.size < _; omega) _) (by show w4.heap.size < _; omega) _) (by show w4.heap.size < _; omega) _) (by show w4.heap.size < _; omega) _) (Nat.le_succ _)
           have c60 : ((((w5.setCell ⟨w4.heap.size, 0, none⟩ (.string house)).setCell ⟨w4.heap.size, 1, none⟩ (.slice a5 (cleanL X).length q5)).setCell ⟨w4.heap.size, 2, none⟩ (.bool f)).setCell ⟨w4.heap.size, 3, none⟩ (.string (escS (bs y)))).cell? ⟨w4.heap.size, 0, none⟩ = some (.string house) := (by go_simp)
           have c61 : ((((w5.setCell ⟨w4.heap.size, 0, none⟩ (.string house)).setCell ⟨w4.heap.size, 1, none⟩ (.slice a5 (cleanL X).length q5)).setCell ⟨w4.heap.size, 2, none⟩ (.bool f)).setCell ⟨w4.heap.size, 3, none⟩ (.string (escS (bs y)))).cell? ⟨w4.heap.size, 1, none⟩ = some (.slice a5 (cleanL X).length q5) := (by go_simp)
           have c62 : ((((w5.setCell ⟨w4.heap.size, 0, none⟩ (.string house)).setCell ⟨w4.heap.size, 1, none⟩ (.slice a5 (cleanL X).length q5)).setCell ⟨w4.heap.size, 2, none⟩ (.bool f)).setCell ⟨w4.heap.size, 3, none⟩ (.string (escS (bs y)))).cell? ⟨w4.heap.size, 2, none⟩ = some (.bool f) := (by go_simp)
           have c63 : ((((w5.setCell ⟨w4.heap.size, 0, none⟩ (.string house)).setCell ⟨w4.heap.size, 1, none⟩ (.slice a5 (cleanL X).length q5)).setCell ⟨w4.heap.size, 2, none⟩ (.bool f)).setCell ⟨w4.heap.size, 3, none⟩ (.string (escS (bs y)))).cell? ⟨w4.heap.size, 3, none⟩ = some (.string (escS (bs y))) := (by go_simp)
           have hp6 : w4.heap.size < ((((w5.setCell ⟨w4.heap.size, 0, none⟩ (.string house)).setCell ⟨w4.heap.size, 1, none⟩ (.slice a5 (cleanL X).length q5)).setCell ⟨w4.heap.size, 2, none⟩ (.bool f)).setCell ⟨w4.heap.size, 3, none⟩ (.string (escS (bs y)))).heap.size := by have h5 := (World.ownsRow.lt hO6); have h6 := hB6.size; have h7 := hzb5; simp; omega
           generalize ((((w5.setCell ⟨w4.heap.size, 0, none⟩ (.string house)).setCell ⟨w4.heap.size, 1, none⟩ (.slice a5 (cleanL X).length q5)).setCell ⟨w4.heap.size, 2, none⟩ (.bool f)).setCell ⟨w4.heap.size, 3, none⟩ (.string (escS (bs y)))) = w6 at hp6 hB6 hO6 c60 c61 c62 c63 ⊢))
      all_goals (
        have HO6 : Hid _ := hO6
        have HS6 : Hid (IsStrs w6 a5 q5 (cleanL X)) := hO6.strsOf
        have HB6 : Hid _ := hB6
        have HF : Hid (wayF house frm way = if escB (bs y) then if okB ⟨house, cleanL X, f, escS (bs y)⟩ then some ⟨house, cleanL X, f, escS (bs y)⟩ else none else none) := by
          show _ = _
          rw [HW.out, HN.out]
          dsimp only
          rw [HX.out]
        obtain ⟨_, ⟨d0, d1, d2, d3⟩, dz⟩ := two_cells hB6
        clear hO6 hB6 c0' cd hz4 HSXd HSXa
        cases hq : escB (bs y) with
        | false =>
          have HNo : Hid (wayF house frm way = none) := by show _ = _; rw [HF.out, hq]; rfl
          clear hq
          go_wp2
          refine bodyPost_ret (v := .tuple #[.agg #[.string ⟨#[]⟩, .slice none 0 0, .bool false, .string ⟨#[]⟩], .bool false]) (by simp [results, Tryz.results143, go_sem, d0, d1, d2, d3]) rfl ?_
          refine ⟨zeroAd, false, none, 0, rfl, Or.inr ⟨rfl, HNo.out, rfl⟩, Owns.nil _ _, ?_⟩
          have hbw := two_below HB6.out
          iterate 4 refine Below.setCell ?_ (by dsimp only; omega) _
          exact hbw
        | true =>
          have HQ : Hid _ := hq
          clear hq
          go_wp2_with fail
          refine (specOk_any ⟨house, cleanL X, f, escS (bs y)⟩ a5 q5 w6 HS6.out (by show house.size + sumS (cleanL X) + (cleanL X).length + (escS (bs y)).size ≤ _; omega)).mono ?_
          rintro e w7 ⟨rfl, hb7⟩
          have HB7 : Hid _ := two_next HB6.out hb7
          have HO7 : Hid (Owns w7 w4.heap.size (.slice a5 (cleanL X).length q5) (cleanL X)) := Owns.below HO6.out hb7
          have c70 := cell_on hb7 c60 hp6
          have c71 := cell_on hb7 c61 hp6
          have c72 := cell_on hb7 c62 hp6
          have c73 := cell_on hb7 c63 hp6
          have hb7' := HB7.out
          clear d0 d1 d2 d3 dz c60 c61 c62 c63 hb7
          obtain ⟨_, ⟨d0, d1, d2, d3⟩, dz⟩ := two_cells hb7'
          clear hb7'
          cases hk2 : okB ⟨house, cleanL X, f, escS (bs y)⟩ with
          | false =>
            have HNo : Hid (wayF house frm way = none) := by show _ = _; rw [HF.out, HQ.out, hk2]; rfl
            clear hk2
            go_wp2
            refine bodyPost_ret (v := .tuple #[.agg #[.string ⟨#[]⟩, .slice none 0 0, .bool false, .string ⟨#[]⟩], .bool false]) (by simp [results, Tryz.results143, go_sem, d0, d1, d2, d3]) rfl ?_
            refine ⟨zeroAd, false, none, 0, rfl, Or.inr ⟨rfl, HNo.out, rfl⟩, Owns.nil _ _, ?_⟩
            have hbw := two_below HB7.out
            iterate 4 refine Below.setCell ?_ (by dsimp only; omega) _
            exact hbw
          | true =>
            have HYes : Hid (wayF house frm way = some ⟨house, cleanL X, f, escS (bs y)⟩) := by show _ = _; rw [HF.out, HQ.out, hk2]; rfl
            clear hk2
            go_wp2
            refine bodyPost_ret (v := .tuple #[.agg #[.string house, .slice a5 (cleanL X).length q5, .bool f, .string (escS (bs y))], .bool true]) (by simp [results, Tryz.results143, go_sem, d0, d1, d2, d3]) rfl ?_
            refine ⟨⟨house, cleanL X, f, escS (bs y)⟩, true, a5, q5, rfl, Or.inl ⟨rfl, HYes.out⟩, ?_, ?_⟩
            · refine Owns.mono (?_ : Owns _ w4.heap.size _ _) (by omega)
              have hO := HO7.out
              iterate 4 refine ownsRow_setCell_below ?_ (by dsimp only; omega) _
              exact hO
            · have hbw := two_below HB7.out
              iterate 4 refine Below.setCell ?_ (by dsimp only; omega) _
              exact hbw)
end Go.Proofs.YtboncolbijicfaaGreatDoor.Rd1
/- The model's reading of an address: the whole. -/
namespace Go.Proofs.YtboncolbijicfaaGreatDoor.Rd1
open Go.RowKit Go.Proofs.YtboncolbijicfaaGreatDoor.EscM Go.Proofs.YtboncolbijicfaaGreatDoor.AddrM Go.Proofs.YtboncolbijicfaaGreatDoor.ReadM Go.Proofs.YtboncolbijicfaaGreatDoor.St Go.Proofs.YtboncolbijicfaaGreatDoor.EscL Go.Proofs.YtboncolbijicfaaGreatDoor.PathM Go.Proofs.YtboncolbijicfaaGreatDoor.Ad1

def goesOn (b : UInt8) : Bool := !(((b.toNat : Int) == 47) || ((b.toNat : Int) == 63))
def wholeF (l : List UInt8) : Option Ad := wayF (bs (smallL (l.takeWhile goesOn))) [] (bs (l.dropWhile goesOn))

theorem while_at : ∀ (l : List UInt8) (k : Nat) (h : k < l.length), (∀ i (hi : i < k), goesOn (l[i]'(by omega)) = true) → goesOn l[k] = false → l.takeWhile goesOn = l.take k ∧ l.dropWhile goesOn = l.drop k := by
  intro l
  induction l with
  | nil => intro k h; simp at h
  | cons b r ih =>
    intro k h hall hk
    cases k with
    | zero => simp at hk; simp [hk]
    | succ k =>
      have h0 := hall 0 (by omega)
      simp at h0
      have := ih k (by simpa using h) (fun i hi => by have := hall (i + 1) (by omega); simpa using this) (by simpa using hk)
      simp [h0, this.1, this.2]
theorem while_all : ∀ (l : List UInt8), (∀ i (hi : i < l.length), goesOn (l[i]'hi) = true) → l.takeWhile goesOn = l ∧ l.dropWhile goesOn = [] := by
  intro l
  induction l with
  | nil => intro _; exact ⟨rfl, rfl⟩
  | cons b r ih =>
    intro hall
    have h0 := hall 0 (by simp)
    simp at h0
    have := ih (fun i hi => by have := hall (i + 1) (by simpa using hi); simpa using this)
    simp [h0, this.1, this.2]

theorem bs_list (l : List UInt8) : (bs l).data.toList = l := by unfold bs; simp
theorem one_cells {w wr : World} {y0 y1 y2 y3 : Value} {t' : TypeId} (hb : Below (w.heap.size + 1) (w.alloc (.cells #[y0, y1, y2, y3] t')) wr) :
    (wr.cell? ⟨w.heap.size, 0, none⟩ = some y0 ∧ wr.cell? ⟨w.heap.size, 1, none⟩ = some y1 ∧ wr.cell? ⟨w.heap.size, 2, none⟩ = some y2 ∧ wr.cell? ⟨w.heap.size, 3, none⟩ = some y3) ∧
    (∀ j, wr.frozen? ⟨w.heap.size, j, none⟩ = false) := by
  have h : ∀ j, wr.cell? ⟨w.heap.size, j, none⟩ = (w.alloc (.cells #[y0, y1, y2, y3] t')).cell? ⟨w.heap.size, j, none⟩ := fun j => hb.cell (by show w.heap.size < _; omega)
  refine ⟨⟨?_, ?_, ?_, ?_⟩, fun j => ?_⟩
  · rw [h]; go_simp
  · rw [h]; go_simp
  · rw [h]; go_simp
  · rw [h]; go_simp
  · rw [hb.frozen (show w.heap.size < w.heap.size + 1 by omega)]; go_simp
theorem below_one {w w1 : World} {Z : Obj} (h : Below (w.alloc Z).heap.size (w.alloc Z) w1) : Below (w.heap.size + 1) (w.alloc Z) w1 := h.mono (by simp)
theorem strs_nil (w : World) : IsStrs w none 0 [] := (Owns.nil w 0).strsOf
theorem small_len (l : List UInt8) : (smallL l).length = l.length := by simp [smallL]

end Go.Proofs.YtboncolbijicfaaGreatDoor.Rd1
/- The model's reading of an address: the whole, walked. -/
namespace Go.Proofs.YtboncolbijicfaaGreatDoor.Rd1
open Go.RowKit Go.Proofs.YtboncolbijicfaaGreatDoor.EscM Go.Proofs.YtboncolbijicfaaGreatDoor.AddrM Go.Proofs.YtboncolbijicfaaGreatDoor.ReadM Go.Proofs.YtboncolbijicfaaGreatDoor.St Go.Proofs.YtboncolbijicfaaGreatDoor.EscL Go.Proofs.YtboncolbijicfaaGreatDoor.PathM Go.Proofs.YtboncolbijicfaaGreatDoor.Ad1

theorem small_size {s : ByteArray} (h : s.size ≤ 60) : (bs (smallL s.data.toList)).size ≤ 1000 := by
  rw [bs_size, small_len]
  have : s.data.toList.length = s.size := by simp
  omega
set_option maxRecDepth 100000 in
set_option maxHeartbeats 4000000 in
theorem specWhole_any (rest : ByteArray) (w : World) (hr : rest.size ≤ 60) :
    Calls Tryz.prog 115 #[.string rest] w fun e w' => ∃ (A : Ad) (ok : Bool) (a1 : Option Addr) (c1 : Nat), e = .returned (.tuple #[.agg #[.string A.house, .slice a1 A.parts.length c1, .bool A.asks, .string A.ask], .bool ok]) ∧
      ((ok = true ∧ wholeF rest.data.toList = some A) ∨ (ok = false ∧ wholeF rest.data.toList = none ∧ A = zeroAd)) ∧ Owns w' w.heap.size (.slice a1 A.parts.length c1) A.parts ∧ Below w.heap.size w w' := by
  go_enter Tryz.func115, Tryz.ntmps115
  go_wp2
  go_loop [4, 5, 6] (fun h y i => ∃ k : Nat, k ≤ rest.size ∧ i = .int .i64 (k : Int) ∧ h = .string rest ∧ y = .string ⟨#[]⟩ ∧ Hid (∀ i (hi : i < k) (hi2 : i < rest.data.toList.length), goesOn (rest.data.toList[i]'hi2) = true)) (fun _ _ i => rest.size - (intOf i).toNat)
  case atStart => exact ⟨0, Nat.zero_le _, rfl, rfl, rfl, fun i hi => absurd hi (by omega)⟩
  case round =>
    obtain ⟨k, hk, rfl, rfl, rfl, HN⟩ := hrel
    by_cases hlt : k < rest.size
    · have hlt' : k < rest.data.toList.length := by simpa using hlt
      cases he : goesOn (rest[k]'hlt) with
      | false =>
        have HC : Hid (wholeF rest.data.toList = wayF (bs (smallL (List.take k rest.data.toList))) [] (rest.extract k rest.size)) := by
          show _ = _
          have := while_at _ k hlt' (fun i hi => HN.out i hi (by omega)) he
          unfold wholeF
          rw [this.1, this.2, ext_drop]
        have HZs : Hid ((bs (smallL (List.take k rest.data.toList))).size ≤ 1000) := by
          show _ ≤ _
          rw [bs_size, small_len, List.length_take]
          have : rest.data.toList.length = rest.size := by simp
          omega
        have HHs : Hid ((rest.extract 0 k).size ≤ 60) := by show _ ≤ _; simp; omega
        have HWs : Hid ((rest.extract k rest.size).size ≤ 60) := by show _ ≤ _; simp; omega
        have hb2 : (k : Int) ≤ (rest.size : Int) := by omega
        cases h47 : (((rest[k]'hlt).toNat : Int) == 47) with
        | true =>
          clear he
          go_wp2_with fail
          refine (specSmall_any (rest.extract 0 k) _ (Nat.le_trans HHs.out (by decide))).mono ?_
          rintro e w1 ⟨rfl, hb1⟩
          have HB1 : Hid (Below (w.heap.size + 1) (w.alloc (.cells #[.string ⟨#[]⟩, .slice none 0 0, .bool false, .string ⟨#[]⟩] 73)) w1) := below_one hb1
          clear hb1
          go_wp2_with fail
          refine (specWay_any (bs (smallL (List.take k rest.data.toList))) [] false ⟨#[]⟩ (rest.extract k rest.size) none 0 _ (strs_nil _) HZs.out (by simp) (by simp [sumS]) HWs.out).mono ?_
          rintro e w2 ⟨A, ok, a1, c1, rfl, hans, hO, hb2⟩
          have HANS : Hid _ := hans
          have HO2 : Hid _ := hO
          have hz2 : w.heap.size + 1 ≤ w1.heap.size := by have := HB1.out.size; simp at this; omega
          have HB2 : Hid (Below (w.heap.size + 1) (w.alloc (.cells #[.string ⟨#[]⟩, .slice none 0 0, .bool false, .string ⟨#[]⟩] 73)) w2) := HB1.out.trans (hb2.mono hz2)
          clear hans hO hb2
          have hb2' := HB2.out
          obtain ⟨⟨d0, d1, d2, d3⟩, dz⟩ := one_cells hb2'
          clear hb2'
          go_wp2
          refine bodyPost_ret (v := .tuple #[.agg #[.string A.house, .slice a1 A.parts.length c1, .bool A.asks, .string A.ask], .bool ok]) (by simp [results, Tryz.results115, go_sem, d0, d1, d2, d3]) rfl ?_
          refine ⟨A, ok, a1, c1, rfl, ?_, ?_, ?_⟩
          · rw [HC.out]; exact HANS.out
          · refine Owns.mono (?_ : Owns _ w1.heap.size _ _) (by omega)
            have hO := HO2.out
            iterate 4 refine ownsRow_setCell_below ?_ (by dsimp only; omega) _
            exact hO
          · have hbw : Below w.heap.size w w2 := ((Below.refl _ w).alloc (Nat.le_refl _) _).trans (HB2.out.mono (by omega))
            iterate 4 refine Below.setCell ?_ (by dsimp only; omega) _
            exact hbw
        | false =>
          have h63 : (((rest[k]'hlt).toNat : Int) == 63) = true := by
            unfold goesOn at he; rw [h47] at he; simpa using he
          clear he
          go_wp2_with fail
          refine (specSmall_any (rest.extract 0 k) _ (Nat.le_trans HHs.out (by decide))).mono ?_
          rintro e w1 ⟨rfl, hb1⟩
          have HB1 : Hid (Below (w.heap.size + 1) (w.alloc (.cells #[.string ⟨#[]⟩, .slice none 0 0, .bool false, .string ⟨#[]⟩] 73)) w1) := below_one hb1
          clear hb1
          go_wp2_with fail
          refine (specWay_any (bs (smallL (List.take k rest.data.toList))) [] false ⟨#[]⟩ (rest.extract k rest.size) none 0 _ (strs_nil _) HZs.out (by simp) (by simp [sumS]) HWs.out).mono ?_
          rintro e w2 ⟨A, ok, a1, c1, rfl, hans, hO, hb2⟩
          have HANS : Hid _ := hans
          have HO2 : Hid _ := hO
          have hz2 : w.heap.size + 1 ≤ w1.heap.size := by have := HB1.out.size; simp at this; omega
          have HB2 : Hid (Below (w.heap.size + 1) (w.alloc (.cells #[.string ⟨#[]⟩, .slice none 0 0, .bool false, .string ⟨#[]⟩] 73)) w2) := HB1.out.trans (hb2.mono hz2)
          clear hans hO hb2
          have hb2' := HB2.out
          obtain ⟨⟨d0, d1, d2, d3⟩, dz⟩ := one_cells hb2'
          clear hb2'
          go_wp2
          refine bodyPost_ret (v := .tuple #[.agg #[.string A.house, .slice a1 A.parts.length c1, .bool A.asks, .string A.ask], .bool ok]) (by simp [results, Tryz.results115, go_sem, d0, d1, d2, d3]) rfl ?_
          refine ⟨A, ok, a1, c1, rfl, ?_, ?_, ?_⟩
          · rw [HC.out]; exact HANS.out
          · refine Owns.mono (?_ : Owns _ w1.heap.size _ _) (by omega)
            have hO := HO2.out
            iterate 4 refine ownsRow_setCell_below ?_ (by dsimp only; omega) _
            exact hO
          · have hbw : Below w.heap.size w w2 := ((Below.refl _ w).alloc (Nat.le_refl _) _).trans (HB2.out.mono (by omega))
            iterate 4 refine Below.setCell ?_ (by dsimp only; omega) _
            exact hbw
      | true =>
        have HN2 : Hid (∀ i (hi : i < k + 1) (hi2 : i < rest.data.toList.length), goesOn (rest.data.toList[i]'hi2) = true) := by
          intro i hi hi2
          by_cases e : i = k
          · subst e; exact he
          · exact HN.out i (by omega) hi2
        have h47 : (((rest[k]'hlt).toNat : Int) == 47) = false := by
          unfold goesOn at he; revert he; cases (((rest[k]'hlt).toNat : Int) == 47) <;> simp
        have h63 : (((rest[k]'hlt).toNat : Int) == 63) = false := by
          unfold goesOn at he; rw [h47] at he; simpa using he
        clear he
        go_wp2
        go_round
        case rel => exact ⟨k + 1, by omega, by go_num, rfl, rfl, HN2.out⟩
        case measure => simp [intOf]; omega
    · have HC : Hid (wholeF rest.data.toList = wayF (bs (smallL rest.data.toList)) [] ⟨#[]⟩) := by
        show _ = _
        have := while_all _ (fun i hi => HN.out i (by simp at hi; omega) hi)
        unfold wholeF
        rw [this.1, this.2]
        rfl
      have HHs : Hid (rest.size ≤ 60) := hr
      have HWs : Hid ((⟨#[]⟩ : ByteArray).size ≤ 60) := by show (0:Nat) ≤ 60; omega
      go_wp2_with fail
      refine (specSmall_any rest _ (Nat.le_trans HHs.out (by decide))).mono ?_
      rintro e w1 ⟨rfl, hb1⟩
      have HB1 : Hid (Below (w.heap.size + 1) (w.alloc (.cells #[.string ⟨#[]⟩, .slice none 0 0, .bool false, .string ⟨#[]⟩] 73)) w1) := below_one hb1
      clear hb1
      go_wp2_with fail
      refine (specWay_any (bs (smallL (rest).data.toList)) [] false ⟨#[]⟩ ⟨#[]⟩ none 0 _ (strs_nil _) (small_size HHs.out) (by simp) (by simp [sumS]) HWs.out).mono ?_
      rintro e w2 ⟨A, ok, a1, c1, rfl, hans, hO, hb2⟩
      have HANS : Hid _ := hans
      have HO2 : Hid _ := hO
      have hz2 : w.heap.size + 1 ≤ w1.heap.size := by have := HB1.out.size; simp at this; omega
      have HB2 : Hid (Below (w.heap.size + 1) (w.alloc (.cells #[.string ⟨#[]⟩, .slice none 0 0, .bool false, .string ⟨#[]⟩] 73)) w2) := HB1.out.trans (hb2.mono hz2)
      clear hans hO hb2
      have hb2' := HB2.out
      obtain ⟨⟨d0, d1, d2, d3⟩, dz⟩ := one_cells hb2'
      clear hb2'
      go_wp2
      refine bodyPost_ret (v := .tuple #[.agg #[.string A.house, .slice a1 A.parts.length c1, .bool A.asks, .string A.ask], .bool ok]) (by simp [results, Tryz.results115, go_sem, d0, d1, d2, d3]) rfl ?_
      refine ⟨A, ok, a1, c1, rfl, ?_, ?_, ?_⟩
      · rw [HC.out]; exact HANS.out
      · refine Owns.mono (?_ : Owns _ w1.heap.size _ _) (by omega)
        have hO := HO2.out
        iterate 4 refine ownsRow_setCell_below ?_ (by dsimp only; omega) _
        exact hO
      · have hbw : Below w.heap.size w w2 := ((Below.refl _ w).alloc (Nat.le_refl _) _).trans (HB2.out.mono (by omega))
        iterate 4 refine Below.setCell ?_ (by dsimp only; omega) _
        exact hbw
end Go.Proofs.YtboncolbijicfaaGreatDoor.Rd1
/- The model's AddrRead. -/
namespace Go.Proofs.YtboncolbijicfaaGreatDoor.Rd1
open Go.RowKit Go.Proofs.YtboncolbijicfaaGreatDoor.EscM Go.Proofs.YtboncolbijicfaaGreatDoor.AddrM Go.Proofs.YtboncolbijicfaaGreatDoor.ReadM Go.Proofs.YtboncolbijicfaaGreatDoor.St Go.Proofs.YtboncolbijicfaaGreatDoor.EscL Go.Proofs.YtboncolbijicfaaGreatDoor.PathM Go.Proofs.YtboncolbijicfaaGreatDoor.Ad1

/-- AddrRead, as a function on lists -/
def readF (l : List UInt8) : Option Ad :=
  if 60 < l.length then none else if (cutL 35 l).1.take 2 = [47, 47] then wholeF ((cutL 35 l).1.drop 2) else none
theorem read_long {l : List UInt8} (h : 60 < l.length) : readF l = none := by unfold readF; rw [if_pos h]
theorem read_not {l : List UInt8} (h : ¬ (cutL 35 l).1.take 2 = [47, 47]) : readF l = none := by unfold readF; rw [if_neg h]; split <;> rfl
theorem read_is {l : List UInt8} (h0 : ¬ 60 < l.length) (h : (cutL 35 l).1.take 2 = [47, 47]) : readF l = wholeF ((cutL 35 l).1.drop 2) := by unfold readF; rw [if_neg h0, if_pos h]

/-- what comes back of a reading -/
def Reads (R : Option Ad) (w : World) (e : Ending) (w' : World) : Prop :=
  ∃ (A : Ad) (ok : Bool) (a1 : Option Addr) (c1 : Nat), e = .returned (.tuple #[.agg #[.string A.house, .slice a1 A.parts.length c1, .bool A.asks, .string A.ask], .bool ok]) ∧
      ((ok = true ∧ R = some A) ∨ (ok = false ∧ R = none ∧ A = zeroAd)) ∧ Owns w' w.heap.size (.slice a1 A.parts.length c1) A.parts ∧ Below w.heap.size w w'

set_option maxRecDepth 100000 in
set_option maxHeartbeats 4000000 in
theorem specRead_any (raw : ByteArray) (w : World) (hr : raw.size ≤ 4194304) :
    Calls Tryz.prog 80 #[.string raw] w fun e w' => Reads (readF raw.data.toList) w e w' := by
  have hl : raw.data.toList.length = raw.size := by simp
  have hcl := (cut_len 35 raw.data.toList).1
  have HR1 : Hid (60 < raw.size → readF raw.data.toList = none) := fun h => read_long (by omega)
  have HR2 : Hid (¬ (cutL 35 raw.data.toList).1.take 2 = [47, 47] → readF raw.data.toList = none) := read_not
  have HR3 : Hid (¬ 60 < raw.size → (cutL 35 raw.data.toList).1.take 2 = [47, 47] → readF raw.data.toList = wholeF ((cutL 35 raw.data.toList).1.drop 2)) := fun h0 h => read_is (by omega) h
  have HCUT := fun W => specCut_any raw 35 W hr (by omega) (by omega)
  have hxs : (bs (cutL 35 raw.data.toList).1).size = (cutL 35 raw.data.toList).1.length := bs_size _
  have HTX : Hid ((bs (cutL 35 raw.data.toList).1).data.toList = (cutL 35 raw.data.toList).1) := bs_list _
  generalize (cutL 35 raw.data.toList).1 = x at *
  generalize bs (cutL 35 raw.data.toList).2.1 = y at *
  generalize (cutL 35 raw.data.toList).2.2 = z at *
  generalize bs x = t at *
  have hts : t.size ≤ raw.size := by omega
  have HCU : Hid _ := HCUT
  have HXS : Hid _ := hxs
  clear hl hcl HCUT hxs
  go_enter Tryz.func80, Tryz.ntmps80
  go_wp2_with fail
  refine (HCU.out _).mono ?_
  rintro e w1 ⟨rfl, nq, hw1⟩
  have HB1 : Hid (Below (w.heap.size + 1) (w.alloc (.cells #[.string ⟨#[]⟩, .slice none 0 0, .bool false, .string ⟨#[]⟩] 73)) w1) := by
    subst hw1
    exact ⟨rfl, rfl, rfl, Nat.le_refl _, fun _ _ => rfl⟩
  clear hw1
  have hb1' := HB1.out
  obtain ⟨⟨d0, d1, d2, d3⟩, dz⟩ := one_cells hb1'
  clear hb1'
  by_cases h60 : 60 < raw.size
  · have HNo : Hid (readF raw.data.toList = none) := HR1.out h60
    go_wp2
    refine bodyPost_ret (v := .tuple #[.agg #[.string ⟨#[]⟩, .slice none 0 0, .bool false, .string ⟨#[]⟩], .bool false]) (by simp [results, Tryz.results80, go_sem, d0, d1, d2, d3]) rfl ?_
    refine ⟨zeroAd, false, none, 0, rfl, Or.inr ⟨rfl, HNo.out, rfl⟩, Owns.nil _ _, ?_⟩
    have hbw : Below w.heap.size w w1 := ((Below.refl _ w).alloc (Nat.le_refl _) _).trans (HB1.out.mono (by omega))
    iterate 4 refine Below.setCell ?_ (by dsimp only; omega) _
    exact hbw
  by_cases h2 : t.size < 2
  · have HNo : Hid (readF raw.data.toList = none) := HR2.out (by intro e; have := congrArg List.length e; have := HXS.out; simp at *; omega)
    go_wp2
    refine bodyPost_ret (v := .tuple #[.agg #[.string ⟨#[]⟩, .slice none 0 0, .bool false, .string ⟨#[]⟩], .bool false]) (by simp [results, Tryz.results80, go_sem, d0, d1, d2, d3]) rfl ?_
    refine ⟨zeroAd, false, none, 0, rfl, Or.inr ⟨rfl, HNo.out, rfl⟩, Owns.nil _ _, ?_⟩
    have hbw : Below w.heap.size w w1 := ((Below.refl _ w).alloc (Nat.le_refl _) _).trans (HB1.out.mono (by omega))
    iterate 4 refine Below.setCell ?_ (by dsimp only; omega) _
    exact hbw
  have HE : Hid ((t.extract 0 2).toList = x.take 2) := by
    show _ = _
    rw [ByteArray.toList_eq, ext_take, bs_list, HTX.out]
  cases hp : ((t.extract 0 2).toList == [47, 47]) with
  | false =>
    have HNo : Hid (readF raw.data.toList = none) := HR2.out (by intro e; rw [HE.out, e] at hp; simp at hp)
    go_wp2
    refine bodyPost_ret (v := .tuple #[.agg #[.string ⟨#[]⟩, .slice none 0 0, .bool false, .string ⟨#[]⟩], .bool false]) (by simp [results, Tryz.results80, go_sem, d0, d1, d2, d3]) rfl ?_
    refine ⟨zeroAd, false, none, 0, rfl, Or.inr ⟨rfl, HNo.out, rfl⟩, Owns.nil _ _, ?_⟩
    have hbw : Below w.heap.size w w1 := ((Below.refl _ w).alloc (Nat.le_refl _) _).trans (HB1.out.mono (by omega))
    iterate 4 refine Below.setCell ?_ (by dsimp only; omega) _
    exact hbw
  | true =>
    have HYes : Hid (readF raw.data.toList = wholeF (t.extract 2 t.size).data.toList) := by
      show _ = _
      have e : x.take 2 = [47, 47] := by rw [HE.out] at hp; simpa using hp
      rw [HR3.out h60 e, ext_drop, bs_list, HTX.out]
    have HS2 : Hid ((t.extract 2 t.size).size ≤ 60) := by show _ ≤ _; simp; omega
    go_wp2_with fail
    refine (specWhole_any _ _ HS2.out).mono ?_
    rintro e w2 ⟨A, ok, a1, c1, rfl, hans, hO, hb2⟩
    have HANS : Hid _ := hans
    have HO2 : Hid _ := hO
    have hz2 : w.heap.size + 1 ≤ w1.heap.size := by have := HB1.out.size; simp at this; omega
    have HB2 : Hid (Below (w.heap.size + 1) (w.alloc (.cells #[.string ⟨#[]⟩, .slice none 0 0, .bool false, .string ⟨#[]⟩] 73)) w2) := HB1.out.trans (hb2.mono hz2)
    clear hans hO hb2 d0 d1 d2 d3 dz
    have hb2' := HB2.out
    obtain ⟨⟨d0, d1, d2, d3⟩, dz⟩ := one_cells hb2'
    clear hb2'
    go_wp2
    refine bodyPost_ret (v := .tuple #[.agg #[.string A.house, .slice a1 A.parts.length c1, .bool A.asks, .string A.ask], .bool ok]) (by simp [results, Tryz.results80, go_sem, d0, d1, d2, d3]) rfl ?_
    refine ⟨A, ok, a1, c1, rfl, ?_, ?_, ?_⟩
    · rw [HYes.out]; exact HANS.out
    · refine Owns.mono (?_ : Owns _ w1.heap.size _ _) (by omega)
      have hO := HO2.out
      iterate 4 refine ownsRow_setCell_below ?_ (by dsimp only; omega) _
      exact hO
    · have hbw : Below w.heap.size w w2 := ((Below.refl _ w).alloc (Nat.le_refl _) _).trans (HB2.out.mono (by omega))
      iterate 4 refine Below.setCell ?_ (by dsimp only; omega) _
      exact hbw
end Go.Proofs.YtboncolbijicfaaGreatDoor.Rd1
