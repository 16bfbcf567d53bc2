/- Pages and worlds, of the program. -/
import Derived.Test.YtcohaalgefcjnaaGreatDoorWd1
import Derived.Deep.WholeRow
namespace Go.Proofs.YtcohaalgefcjnaaGreatDoor.Wd
open Go.RowKit Go.Proofs.YtcohaalgefcjnaaGreatDoor.EscM Go.Proofs.YtcohaalgefcjnaaGreatDoor.AddrM Go.Proofs.YtcohaalgefcjnaaGreatDoor.ReadM Go.Proofs.YtcohaalgefcjnaaGreatDoor.St Go.Proofs.YtcohaalgefcjnaaGreatDoor.EscL Go.Proofs.YtcohaalgefcjnaaGreatDoor.PathM Go.Proofs.YtcohaalgefcjnaaGreatDoor.Ad1 Go.Proofs.YtcohaalgefcjnaaGreatDoor.Rd1 Go.Proofs.YtcohaalgefcjnaaGreatDoor.LibM Go.Proofs.YtcohaalgefcjnaaGreatDoor.Im Go.Proofs.YtcohaalgefcjnaaGreatDoor.RdA Go.Proofs.YtcohaalgefcjnaaGreatDoor.MkA Go.Proofs.YtcohaalgefcjnaaGreatDoor.Mp Go.Proofs.YtcohaalgefcjnaaGreatDoor.WdM Go.Proofs.YtcohaalgefcjnaaGreatDoor.RR Go.Proofs.YtcohaalgefcjnaaGreatDoor.RoPg

/-- a page, as a value -/
def pgV (p : Pg) : Value := .agg #[.string p.addr, .string p.text, .string p.lead, .int .i64 p.fails]
def pgZ : Value := .agg #[.string ⟨#[]⟩, .string ⟨#[]⟩, .string ⟨#[]⟩, .int .i64 0]
def entsL (L : List Pg) : List (ByteArray × Value) := L.map fun p => (p.addr, pgV p)
theorem same_iff {s : ByteArray} {p : Pg} : sameA s p = true ↔ p.addr = s := by
  unfold sameA
  rw [beq_iff_eq, ByteArray.toList_eq, ByteArray.toList_eq]
  constructor
  · intro h
    cases hp : p.addr with | mk x => cases s with | mk y => rw [hp] at h; simp at h; rw [h]
  · intro h; rw [h]
theorem get_ents (L : List Pg) (s : ByteArray) : getM (entsL L) s = (L.find? (sameA s)).map pgV := by
  unfold entsL
  induction L with
  | nil => rfl
  | cons p r ih =>
    rw [List.map_cons, List.find?_cons]
    unfold getM
    by_cases h : s = p.addr
    · rw [if_pos h, same_iff.2 h.symm]; rfl
    · have : sameA s p = false := by cases hq : sameA s p with | false => rfl | true => exact absurd (same_iff.1 hq).symm h
      rw [if_neg h, this]; exact ih
theorem put_ents {L : List Pg} {p : Pg} (h : L.any (sameA p.addr) = false) : putM (entsL L) p.addr (pgV p) = entsL (L ++ [p]) := by
  unfold entsL
  induction L with
  | nil => rfl
  | cons q r ih =>
    rw [List.any_cons, Bool.or_eq_false_iff] at h
    rw [List.map_cons, List.cons_append, List.map_cons]
    unfold putM
    rw [if_neg (fun e => by have := (same_iff (p := q)).2 e.symm; rw [h.1] at this; cases this), ih h.2]
theorem get_some {L : List Pg} {s : ByteArray} (h : L.any (sameA s) = true) : ∃ q, getM (entsL L) s = some (pgV q) := by
  rw [get_ents]
  cases hf : L.find? (sameA s) with
  | some q => exact ⟨q, rfl⟩
  | none =>
    rw [List.find?_eq_none] at hf
    obtain ⟨x, hx, hq⟩ := List.any_eq_true.1 h
    exact absurd hq (hf x hx)
theorem get_none {L : List Pg} {s : ByteArray} (h : L.any (sameA s) = false) : getM (entsL L) s = none := by
  rw [get_ents, find_none _ h]; rfl
theorem zeroPg (w : World) : (zeroValue 32).run Tryz.prog w = .ok pgZ w :=
  (zero_of_info (show (Tryz.prog.info? 32).map (fun i => (i.zero, i.size)) = some (some pgZ, 4) by kernel_rfl)).1 w

set_option maxRecDepth 100000 in
set_option maxHeartbeats 4000000 in
theorem pageOk_any (p : Pg) (w : World) (hM : Mx w) (h1 : p.addr.size ≤ 4194304) (h2 : p.text.size ≤ 4194304) (h3 : p.lead.size ≤ 4194304) (ha : ascii p.addr) (hl : ascii p.lead) :
    Calls Tryz.prog 66 #[.agg #[.string p.addr, .string p.text, .string p.lead, .int .i64 p.fails]] w fun e w' => e = .returned (.bool (pgB p)) ∧ Below w.heap.size w w' := by
  have HP : Hid (pgB p = (normT p.addr && decide (p.text.size ≤ 300) && decide (0 ≤ p.fails ∧ p.fails ≤ 9) && (p.lead.toList.isEmpty || (p.text.toList.isEmpty && normT p.lead)))) := rfl
  have HI1 : Hid _ := fun W hW => isAddress_any p.addr W hW h1 ha
  have HI2 : Hid _ := fun W hW => isAddress_any p.lead W hW h3 hl
  have HM : Hid (Mx w) := hM
  obtain ⟨addr, text, lead, fails⟩ := p
  dsimp only at *
  clear hM ha hl
  generalize pgB ⟨addr, text, lead, fails⟩ = R at *
  generalize normT addr = b1 at *
  generalize normT lead = b2 at *
  have HX0 : Hid (Bs 32 (w.alloc (.cells #[.string addr, .string text, .string lead, .int .i64 fails] 32)) w.heap.size #[.string addr, .string text, .string lead, .int .i64 fails]) := Bs.new _ _ _
  go_enter Tryz.func66, Tryz.ntmps66
  go_wp2_with fail
  refine (HI1.out _ (HM.out.alloc _)).mono ?_
  rintro e w1 ⟨rfl, hb1⟩
  have HX1 : Hid (Bs 32 w1 w.heap.size #[.string addr, .string text, .string lead, .int .i64 fails]) := HX0.out.below hb1
  have HB1 : Hid (Below w.heap.size w w1) := ((Below.refl _ w).alloc (Nat.le_refl _) _).trans (hb1.mono (by simp))
  have x0 := HX1.out.cell 0 rfl
  have x1 := HX1.out.cell 1 rfl
  have x2 := HX1.out.cell 2 rfl
  have x3 := HX1.out.cell 3 rfl
  have HM1 : Hid (Mx w1) := HM.out.below HB1.out
  clear hb1 HX0 HI1
  cases b1 with
  | false =>
    go_wp2
    go_ret
    exact ⟨ret_bool (by rw [HP.out]; rfl), HB1.out⟩
  | true =>
    by_cases g1 : 300 < text.size
    · have e1 : decide (text.size ≤ 300) = false := decide_eq_false (by omega)
      have HP2 : Hid (R = false) := by show _ = _; rw [HP.out, e1]; simp
      clear e1
      go_wp2
      go_ret
      exact ⟨ret_bool HP2.out.symm, HB1.out⟩
    by_cases g2 : fails < 0
    · have e1 : decide (0 ≤ fails ∧ fails ≤ 9) = false := decide_eq_false (by omega)
      have HP2 : Hid (R = false) := by show _ = _; rw [HP.out, e1]; simp
      clear e1
      go_wp2
      go_ret
      exact ⟨ret_bool HP2.out.symm, HB1.out⟩
    by_cases g3 : 9 < fails
    · have e1 : decide (0 ≤ fails ∧ fails ≤ 9) = false := decide_eq_false (by omega)
      have HP2 : Hid (R = false) := by show _ = _; rw [HP.out, e1]; simp
      clear e1
      go_wp2
      go_ret
      exact ⟨ret_bool HP2.out.symm, HB1.out⟩
    have HP2 : Hid (R = (lead.toList.isEmpty || (text.toList.isEmpty && b2))) := by
      show _ = _
      rw [HP.out, decide_eq_true (show text.size ≤ 300 by omega), decide_eq_true (show 0 ≤ fails ∧ fails ≤ 9 by omega)]; simp
    clear HP
    cases hle : lead.toList.isEmpty with
    | true =>
      rw [hle] at HP2
      go_wp2
      go_ret
      exact ⟨ret_bool (by rw [HP2.out]; rfl), HB1.out⟩
    | false =>
      rw [hle] at HP2
      go_wp2_with fail
      refine (HI2.out _ HM1.out).mono ?_
      rintro e w2 ⟨rfl, hb2⟩
      have HX2 : Hid (Bs 32 w2 w.heap.size #[.string addr, .string text, .string lead, .int .i64 fails]) := HX1.out.below hb2
      have HB2 : Hid (Below w.heap.size w w2) := HB1.out.trans (hb2.mono HB1.out.size)
      clear hb2 x0 x1 x2 x3 HX1 HI2
      have x0 := HX2.out.cell 0 rfl
      have x1 := HX2.out.cell 1 rfl
      have x2 := HX2.out.cell 2 rfl
      have x3 := HX2.out.cell 3 rfl
      cases b2 with
      | false =>
        go_wp2
        go_ret
        exact ⟨ret_bool (by rw [HP2.out]; simp), HB2.out⟩
      | true =>
        cases hte : text.toList.isEmpty with
        | true =>
          rw [hte] at HP2
          go_wp2
          go_ret
          exact ⟨ret_bool (by rw [HP2.out]; rfl), HB2.out⟩
        | false =>
          rw [hte] at HP2
          go_wp2
          go_ret
          exact ⟨ret_bool (by rw [HP2.out]; rfl), HB2.out⟩

/-- what comes back of worldPages -/
def WPages (L : List Pg) (w : World) (e : Ending) (w' : World) : Prop :=
  ((wOk L = true ∧ ∃ b, e = .returned (.tuple #[.map (some b), .bool true]) ∧ w.heap.size ≤ b ∧ IsMap w' b (entsL L)) ∨ (wOk L = false ∧ e = .returned (.tuple #[.map none, .bool false]))) ∧ Below w.heap.size w w'
def PgSz (L : List Pg) : Prop := ∀ p ∈ L, p.addr.size ≤ 4194304 ∧ p.text.size ≤ 4194304 ∧ p.lead.size ≤ 4194304
def PgAs (L : List Pg) : Prop := ∀ p ∈ L, ascii p.addr ∧ ascii p.lead

set_option maxRecDepth 100000 in
set_option maxHeartbeats 4000000 in
theorem worldPages_any (a0 : Option Addr) (cap : Nat) (L : List Pg) (w : World) (hM : Mx w) (hI : IsRows FPg w a0 cap L) (hS : PgSz L) (hA : PgAs L) :
    Calls Tryz.prog 33 #[.slice a0 L.length cap] w fun e w' => WPages L w e w' := by
  have hc1 := hI.1
  have hc2 := hI.2.1
  unfold maxLen at hc2
  have HI : Hid (IsRows FPg w a0 cap L) := hI
  have HS : Hid (PgSz L) := hS
  have HA : Hid (PgAs L) := hA
  have HM : Hid (Mx w) := hM
  clear hI hS hA hM
  by_cases hlong : 12 < L.length
  · have HW : Hid (wOk L = false) := wOk_long (by omega)
    go_enter Tryz.func33, Tryz.ntmps33
    go_wp2
    go_ret2
    exact ⟨Or.inr ⟨HW.out, rfl⟩, Below.refl _ _⟩
  have hmm : ∀ (n : Int) (W : World), (Instr.makeMap 67 (some (.int .i64 n))).run Tryz.prog W = .ok (.map (some W.heap.size)) (W.alloc (.map #[] 0)) := fun n W => by
    simp [Instr.makeMap, run_underlying Tryz.underlying67, asInt, Result.andThen, newObj]; rfl
  have HB0 : Hid (Below w.heap.size w (w.alloc (.map #[] 0))) := (Below.refl _ w).alloc (Nat.le_refl _) _
  have HM0 : Hid (IsMap (w.alloc (.map #[] 0)) w.heap.size (entsL (L.take 0))) := IsMap.new w
  go_enter Tryz.func33, Tryz.ntmps33
  go_wp2
  go_loopw [17] (fun i wr => ∃ k : Nat, k ≤ L.length ∧ i = .int .i64 (k : Int) ∧ Hid (okTo L k = true) ∧ Hid (IsMap wr w.heap.size (entsL (L.take k))) ∧ Hid (Below w.heap.size w wr)) (fun i _ => L.length - (intOf i).toNat)
  case atStart => exact ⟨0, Nat.zero_le _, rfl, rfl, HM0, HB0⟩
  case round =>
    obtain ⟨k, hk, rfl, HK, HMP, HB⟩ := hrel
    by_cases hlt : k < L.length
    · obtain ⟨B, off, e1, c0, c1, c2, c3⟩ := pg_at (IsRows.below HI.out HB.out) hlt
      have hsz := HS.out L[k] (List.getElem_mem _)
      have HAS := HA.out L[k] (List.getElem_mem _)
      subst e1
      have hadd : (⟨B, off + k * 4, none⟩ : Addr).add 0 = ⟨B, off + k * 4, none⟩ := by simp [Addr.add]
      have HBn : Hid (Below w.heap.size w (wr.alloc (.cells #[.string L[k].addr, .string L[k].text, .string L[k].lead, .int .i64 L[k].fails] 32))) := HB.out.alloc HB.out.size _
      have HMn : Hid (IsMap (wr.alloc (.cells #[.string L[k].addr, .string L[k].text, .string L[k].lead, .int .i64 L[k].fails] 32)) w.heap.size (entsL (L.take k))) := HMP.out.alloc _
      cases hany : (L.take k).any (sameA L[k].addr) with
      | true =>
        have HW : Hid (wOk L = false) := wOk_twice hlt hany
        obtain ⟨q, hq⟩ := get_some hany
        have HQ : Hid _ := hq
        clear hq hany HS HA
        generalize L[k] = p at *
        go_wp2_with (at_lookup; refine wp_look _ rfl _ _ 67 true rfl 9 32 Tryz.underlying67 Tryz.underlying9 pgZ (zeroPg _) w.heap.size (entsL (L.take k)) rfl HMn.out _ rfl (.tuple #[.agg #[.string q.addr, .string q.text, .string q.lead, .int .i64 q.fails], .bool true]) (by rw [HQ.out]; rfl) ?_)
        go_wp2
        go_ret2
        exact ⟨Or.inr ⟨HW.out, rfl⟩, HBn.out.alloc HBn.out.size _⟩
      | false =>
        have HQ : Hid _ := get_none hany
        have HPK : Hid _ := fun W hW => pageOk_any L[k] W hW hsz.1 hsz.2.1 hsz.2.2 HAS.1 HAS.2
        have HNO : Hid (pgB L[k] = false → wOk L = false) := wOk_bad hlt
        have HON : Hid (pgB L[k] = true → okTo L (k + 1) = true) := fun h => okTo_on hlt HK.out h hany
        have HPU : Hid (putM (entsL (L.take k)) L[k].addr (pgV L[k]) = entsL (L.take (k + 1))) := by
          show _ = _
          rw [put_ents hany, ← List.take_succ_eq_append_getElem hlt]
        have HX0 : Hid (Bs 32 (wr.alloc (.cells #[.string L[k].addr, .string L[k].text, .string L[k].lead, .int .i64 L[k].fails] 32)) wr.heap.size #[.string L[k].addr, .string L[k].text, .string L[k].lead, .int .i64 L[k].fails]) := Bs.new _ _ _
        clear hany HS HA
        generalize L[k] = p at *
        go_wp2_with (at_lookup; refine wp_look _ rfl _ _ 67 true rfl 9 32 Tryz.underlying67 Tryz.underlying9 pgZ (zeroPg _) w.heap.size (entsL (L.take k)) rfl HMn.out _ rfl (.tuple #[.agg #[.string ⟨#[]⟩, .string ⟨#[]⟩, .string ⟨#[]⟩, .int .i64 0], .bool false]) (by rw [HQ.out]; rfl) ?_)
        go_wp2_with fail
        refine (HPK.out _ ((HM.out.below HBn.out).alloc _)).mono ?_
        rintro e w2 ⟨rfl, hb2⟩
        have HB2 : Hid (Below w.heap.size w w2) := (HBn.out.alloc HBn.out.size _).trans (hb2.mono (by have := HBn.out.size; simp at this ⊢; omega))
        have HM2 : Hid (IsMap w2 w.heap.size (entsL (L.take k))) := (HMn.out.alloc _).below hb2
        have HX2 : Hid (Bs 32 w2 wr.heap.size #[.string p.addr, .string p.text, .string p.lead, .int .i64 p.fails]) := (HX0.out.alloc _).below hb2
        clear hb2 HBn HMn HX0
        have x0 := HX2.out.cell 0 rfl
        have x1 := HX2.out.cell 1 rfl
        have x2 := HX2.out.cell 2 rfl
        have x3 := HX2.out.cell 3 rfl
        cases hpk : pgB p with
        | false =>
          have HW : Hid (wOk L = false) := HNO.out hpk
          go_wp2
          go_ret2
          exact ⟨Or.inr ⟨HW.out, rfl⟩, HB2.out⟩
        | true =>
          have HK1 : Hid (okTo L (k + 1) = true) := HON.out hpk
          clear hpk
          go_wp2_with (at_mapUpdate; refine wp_store _ rfl _ _ _ 67 rfl 9 32 Tryz.underlying67 Tryz.underlying9 w.heap.size (entsL (L.take k)) rfl HM2.out p.addr rfl (pgV p) rfl ?_; intro w3 hm3 hg3)
          have HM3 : Hid (IsMap w3 w.heap.size (entsL (L.take (k + 1)))) := by
            show IsMap _ _ _
            rw [← HPU.out]; exact hm3
          have HB3 : Hid (Below w.heap.size w w3) := HB2.out.trans (grown_low _ hg3 HB2.out.size (fun j e => by cases e; exact Nat.le_refl _))
          clear hm3 hg3
          go_wp2
          go_roundw
          case rel => exact ⟨k + 1, by omega, by go_num, HK1, HM3, HB3⟩
          case measure => simp [intOf]; omega
    · have e1 : k = L.length := by omega
      subst e1
      rw [List.take_length] at HMP
      have HW : Hid (wOk L = true) := by show _ = _; unfold wOk; rw [HK.out, decide_eq_true (show L.length ≤ 12 by omega)]; rfl
      go_wp2
      go_ret2
      exact ⟨Or.inl ⟨HW.out, w.heap.size, rfl, Nat.le_refl _, HMP.out⟩, HB.out⟩

set_option maxRecDepth 100000 in
set_option maxHeartbeats 2000000 in
theorem getAt_any (b : Nat) (L : List Pg) (a : ByteArray) (t : Int) (w : World) (h : IsMap w b (entsL L)) :
    Calls Tryz.prog 42 #[.map (some b), .string a, .int .i64 t] w fun e w' => e = .returned (.tuple #[.int .i64 (kindF L a t).1, .string (kindF L a t).2]) ∧ Below w.heap.size w w' := by
  have HMn : Hid (IsMap w b (entsL L)) := h
  have HG : Hid _ := get_ents L a
  have HK : Hid (kindF L a t = match L.find? (sameA a) with
    | none => (0, ⟨#[]⟩)
    | some p => if t < p.fails then (3, ⟨#[]⟩) else if p.lead.toList.isEmpty then (1, p.text) else (2, p.lead)) := rfl
  clear h
  generalize kindF L a t = R at *
  cases hf : L.find? (sameA a) with
  | none =>
    rw [hf] at HK HG
    have HR : Hid (R = (0, ⟨#[]⟩)) := HK.out
    clear HK hf
    go_enter Tryz.func42, Tryz.ntmps42
    go_wp2_with (at_lookup; refine wp_look _ rfl _ _ 67 true rfl 9 32 Tryz.underlying67 Tryz.underlying9 pgZ (zeroPg _) b (entsL L) rfl HMn.out _ rfl (.tuple #[.agg #[.string ⟨#[]⟩, .string ⟨#[]⟩, .string ⟨#[]⟩, .int .i64 0], .bool false]) (by rw [HG.out]; rfl) ?_)
    go_wp2
    go_ret2
    exact ⟨by rw [HR.out]; rfl, (Below.refl _ w).alloc (Nat.le_refl _) _⟩
  | some p =>
    rw [hf] at HK HG
    have HB0 : Hid (Below w.heap.size w (w.alloc (.cells #[.string p.addr, .string p.text, .string p.lead, .int .i64 p.fails] 32))) := (Below.refl _ w).alloc (Nat.le_refl _) _
    clear hf
    by_cases h1 : t < p.fails
    · have HR : Hid (R = (3, ⟨#[]⟩)) := by show _ = _; rw [HK.out]; dsimp only; rw [if_pos h1]
      clear HK
      go_enter Tryz.func42, Tryz.ntmps42
      go_wp2_with (at_lookup; refine wp_look _ rfl _ _ 67 true rfl 9 32 Tryz.underlying67 Tryz.underlying9 pgZ (zeroPg _) b (entsL L) rfl HMn.out _ rfl (.tuple #[.agg #[.string p.addr, .string p.text, .string p.lead, .int .i64 p.fails], .bool true]) (by rw [HG.out]; rfl) ?_)
      go_wp2
      go_ret2
      exact ⟨by rw [HR.out]; rfl, HB0.out⟩
    · cases hl : p.lead.toList.isEmpty with
      | false =>
        have HR : Hid (R = (2, p.lead)) := by show _ = _; rw [HK.out]; dsimp only; rw [if_neg h1, hl]; rfl
        clear HK
        go_enter Tryz.func42, Tryz.ntmps42
        go_wp2_with (at_lookup; refine wp_look _ rfl _ _ 67 true rfl 9 32 Tryz.underlying67 Tryz.underlying9 pgZ (zeroPg _) b (entsL L) rfl HMn.out _ rfl (.tuple #[.agg #[.string p.addr, .string p.text, .string p.lead, .int .i64 p.fails], .bool true]) (by rw [HG.out]; rfl) ?_)
        go_wp2
        go_region_with fail
        all_goals
          go_wp2
          go_ret2
          exact ⟨by rw [HR.out]; rfl, HB0.out.drew⟩
      | true =>
        have HR : Hid (R = (1, p.text)) := by show _ = _; rw [HK.out]; dsimp only; rw [if_neg h1, hl]; rfl
        clear HK
        go_enter Tryz.func42, Tryz.ntmps42
        go_wp2_with (at_lookup; refine wp_look _ rfl _ _ 67 true rfl 9 32 Tryz.underlying67 Tryz.underlying9 pgZ (zeroPg _) b (entsL L) rfl HMn.out _ rfl (.tuple #[.agg #[.string p.addr, .string p.text, .string p.lead, .int .i64 p.fails], .bool true]) (by rw [HG.out]; rfl) ?_)
        go_wp2
        go_region_with fail
        all_goals
          go_wp2
          go_ret2
          exact ⟨by rw [HR.out]; rfl, HB0.out.drew⟩

set_option maxRecDepth 100000 in
set_option maxHeartbeats 2000000 in
theorem implGet_any (a0 : Option Addr) (cap : Nat) (L : List Pg) (a : ByteArray) (t : Int) (w : World) (hM : Mx w) (hI : IsRows FPg w a0 cap L) (hS : PgSz L) (hA : PgAs L) :
    Calls Tryz.prog 16 #[.slice a0 L.length cap, .string a, .int .i64 t] w fun e w' => e = .returned (.tuple #[.int .i64 (getF L a t).1, .string (getF L a t).2]) ∧ Below w.heap.size w w' := by
  have HG : Hid (getF L a t = if wOk L && decide (0 ≤ t) then kindF L a t else (0, ⟨#[]⟩)) := rfl
  have HWP : Hid _ := fun W hW hIW => worldPages_any a0 cap L W hW hIW hS hA
  generalize getF L a t = R at *
  go_enter Tryz.func16, Tryz.ntmps16
  go_wp2_with fail
  refine (HWP.out _ hM hI).mono ?_
  rintro e w1 ⟨⟨hw, b, rfl, hb, hm⟩ | ⟨hw, rfl⟩, hb1⟩
  · by_cases ht : t < 0
    · have HR : Hid (R = (0, ⟨#[]⟩)) := by show _ = _; rw [HG.out, hw, decide_eq_false (by omega)]; rfl
      clear HG HWP hI hS hA hM hw
      go_wp2
      go_ret2
      exact ⟨by rw [HR.out]; rfl, hb1⟩
    · have HR : Hid (R = kindF L a t) := by show _ = _; rw [HG.out, hw, decide_eq_true (by omega)]; rfl
      have HMP : Hid _ := hm
      clear HG HWP hI hS hA hM hw hm
      go_wp2_with fail
      refine (getAt_any b L a t _ HMP.out).mono ?_
      rintro e w2 ⟨rfl, hb2⟩
      rw [← HR.out]
      go_wp2
      go_ret2
      exact ⟨rfl, hb1.trans (hb2.mono hb1.size)⟩
  · have HR : Hid (R = (0, ⟨#[]⟩)) := by show _ = _; rw [HG.out, hw]; rfl
    clear HG HWP hI hS hA hM hw
    go_wp2
    go_ret2
    exact ⟨by rw [HR.out]; rfl, hb1⟩
set_option maxRecDepth 100000 in
set_option maxHeartbeats 2000000 in
theorem implWorldOk_any (a0 : Option Addr) (cap : Nat) (L : List Pg) (w : World) (hM : Mx w) (hI : IsRows FPg w a0 cap L) (hS : PgSz L) (hA : PgAs L) :
    Calls Tryz.prog 10 #[.slice a0 L.length cap] w fun e w' => e = .returned (.bool (wOk L)) ∧ Below w.heap.size w w' := by
  have HWP : Hid _ := fun W hW hIW => worldPages_any a0 cap L W hW hIW hS hA
  go_enter Tryz.func10, Tryz.ntmps10
  go_wp2_with fail
  refine (HWP.out _ hM hI).mono ?_
  rintro e w1 ⟨⟨hw, b, rfl, hb, hm⟩ | ⟨hw, rfl⟩, hb1⟩
  · have HW : Hid (wOk L = true) := hw
    clear HWP hI hS hA hM hw hm
    go_wp2
    go_ret
    exact ⟨ret_bool HW.out.symm, hb1⟩
  · have HW : Hid (wOk L = false) := hw
    clear HWP hI hS hA hM hw
    go_wp2
    go_ret
    exact ⟨ret_bool HW.out.symm, hb1⟩
end Go.Proofs.YtcohaalgefcjnaaGreatDoor.Wd
