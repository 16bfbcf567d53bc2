/- Pages and worlds, of the model. -/
import Derived.Test.YtcohaalgefcjnaaGreatDoorWd2
namespace Go.Proofs.YtcohaalgefcjnaaGreatDoor.Wd
open Go.RowKit Go.Proofs.YtcohaalgefcjnaaGreatDoor.EscM Go.Proofs.YtcohaalgefcjnaaGreatDoor.AddrM Go.Proofs.YtcohaalgefcjnaaGreatDoor.ReadM Go.Proofs.YtcohaalgefcjnaaGreatDoor.St Go.Proofs.YtcohaalgefcjnaaGreatDoor.EscL Go.Proofs.YtcohaalgefcjnaaGreatDoor.PathM Go.Proofs.YtcohaalgefcjnaaGreatDoor.Ad1 Go.Proofs.YtcohaalgefcjnaaGreatDoor.Rd1 Go.Proofs.YtcohaalgefcjnaaGreatDoor.LibM Go.Proofs.YtcohaalgefcjnaaGreatDoor.Im Go.Proofs.YtcohaalgefcjnaaGreatDoor.RdA Go.Proofs.YtcohaalgefcjnaaGreatDoor.MkA Go.Proofs.YtcohaalgefcjnaaGreatDoor.Mp Go.Proofs.YtcohaalgefcjnaaGreatDoor.WdM Go.Proofs.YtcohaalgefcjnaaGreatDoor.RR Go.Proofs.YtcohaalgefcjnaaGreatDoor.RoPg

set_option maxRecDepth 100000 in
set_option maxHeartbeats 2000000 in
theorem specNorm_any (s : ByteArray) (w : World) (hs : s.size ≤ 4194304) :
    Calls Tryz.prog 34 #[.string s] w fun e w' => e = .returned (.bool (normT s)) ∧ Below w.heap.size w w' := by
  have HR : Hid _ := fun W => specRead_any s W hs
  have H1 : Hid (readF s.data.toList = none → normT s = false) := fun h => by rw [normT_eq, normA_none h]; rfl
  have H2 : Hid (∀ A, readF s.data.toList = some A → ((textF A).toList == s.toList) = true → normT s = true) := fun A h h2 => by rw [normT_eq, normA_yes h h2]; rfl
  have H3 : Hid (∀ A, readF s.data.toList = some A → ((textF A).toList == s.toList) = false → normT s = false) := fun A h h2 => by rw [normT_eq, normA_no h h2]; rfl
  have HBK : Hid (∀ A ok, (ok = true ∧ readF s.data.toList = some A) ∨ (ok = false ∧ readF s.data.toList = none ∧ A = zeroAd) → bulkA A ≤ 70) := fun A ok h => OB.reads_bulk h
  generalize readF s.data.toList = R at *
  generalize normT s = N at *
  go_enter Tryz.func34, Tryz.ntmps34
  go_wp2_with fail
  refine (HR.out _).mono ?_
  rintro e w1 ⟨A, ok, a1, c1, rfl, hans, hO, hb1⟩
  have hbk := HBK.out A ok hans
  have HB1 : Hid (Below w.heap.size w w1) := hb1
  have HO1 : Hid (IsStrs w1 a1 c1 A.parts) := hO.strsOf
  have HANS : Hid _ := hans
  have hz1 := hb1.size
  clear hans hO hb1 HR
  cases ok with
  | false =>
    have HN : Hid (N = false) := by
      rcases HANS.out with ⟨h, _⟩ | ⟨_, h, _⟩
      · cases h
      · exact H1.out h
    go_wp2
    go_ret
    exact ⟨ret_bool HN.out.symm, HB1.out.alloc hz1 _⟩
  | true =>
    have HY : Hid (R = some A) := by
      rcases HANS.out with ⟨_, h⟩ | ⟨h, _⟩
      · exact h
      · cases h
    go_wp2_with fail
    refine (specAddrText_any A a1 c1 _ (HO1.out.keep (alloc_keep _ _)) (by omega)).mono ?_
    rintro e w2 ⟨rfl, hb2⟩
    have HB2 : Hid (Below w.heap.size w w2) := (HB1.out.alloc hz1 _).trans (hb2.mono (by simp; omega))
    have K2 : Hid (((textF A).toList == s.toList) = true → N = true) := H2.out A HY.out
    have K3 : Hid (((textF A).toList == s.toList) = false → N = false) := H3.out A HY.out
    clear H2 H3 hb2
    generalize textF A = t at *
    cases hq : (t.toList == s.toList) with
    | true =>
      have HN : Hid (N = true) := K2.out hq
      go_wp2
      go_ret
      exact ⟨ret_bool HN.out.symm, HB2.out⟩
    | false =>
      have HN : Hid (N = false) := K3.out hq
      go_wp2
      go_ret
      exact ⟨ret_bool HN.out.symm, HB2.out⟩

theorem pgB_parts (p : Pg) : pgB p = (normT p.addr && decide (p.text.size ≤ 300) && decide (0 ≤ p.fails ∧ p.fails ≤ 9) && (p.lead.toList.isEmpty || (p.text.toList.isEmpty && normT p.lead))) := rfl

set_option maxRecDepth 100000 in
set_option maxHeartbeats 8000000 in
theorem specWorldOk_any (a0 : Option Addr) (cap : Nat) (L : List Pg) (w : World) (hI : IsRows FPg w a0 cap L) (hS : PgSz L) :
    Calls Tryz.prog 11 #[.slice a0 L.length cap] w fun e w' => e = .returned (.bool (wOk L)) ∧ Below w.heap.size w w' := by
  have hc1 := hI.1
  have hc2 := hI.2.1
  unfold maxLen at hc2
  have HI : Hid (IsRows FPg w a0 cap L) := hI
  have HS : Hid (PgSz L) := hS
  clear hI hS
  go_enter Tryz.func11, Tryz.ntmps11
  go_wp2
  go_loopw [3] (fun i wr => ∃ k : Nat, k ≤ L.length ∧ i = .int .i64 (k : Int) ∧ Hid (okTo L k = true) ∧ Hid (Below w.heap.size w wr)) (fun i _ => L.length - (intOf i).toNat)
  case atStart => exact ⟨0, Nat.zero_le _, rfl, rfl, Below.refl _ _⟩
  case round =>
    obtain ⟨k, hk, rfl, HK, HB⟩ := hrel
    by_cases hlt : k < L.length
    · obtain ⟨B, off, e1, c0, c1, c2, c3⟩ := pg_at (IsRows.below HI.out HB.out) hlt
      obtain ⟨s1, s2, s3⟩ := HS.out L[k] (List.getElem_mem _)
      subst e1
      have HBAD : Hid (pgB L[k] = false → wOk L = false) := wOk_bad hlt
      have HTW : Hid ((L.take k).any (sameA L[k].addr) = true → wOk L = false) := wOk_twice hlt
      have HON : Hid (pgB L[k] = true → (L.take k).any (sameA L[k].addr) = false → okTo L (k + 1) = true) := okTo_on hlt HK.out
      have HP : Hid _ := pgB_parts L[k]
      have HN1 : Hid _ := fun W => specNorm_any L[k].addr W s1
      have HN2 : Hid _ := fun W => specNorm_any L[k].lead W s3
      have HE : ∀ {q : Pg}, q = L[k] → True := fun _ => trivial
      clear HE HS
      generalize L[k] = p at *
      have HR : Hid (∀ wr', Below wr.heap.size wr wr' → wr'.cell? ⟨B, off + k * 4, none⟩ = some (.string p.addr) ∧ wr'.cell? ⟨B, off + k * 4 + 1, none⟩ = some (.string p.text) ∧ wr'.cell? ⟨B, off + k * 4 + 2, none⟩ = some (.string p.lead) ∧ wr'.cell? ⟨B, off + k * 4 + 3, none⟩ = some (.int .i64 p.fails)) := fun wr' h => ⟨(h.cell (cell_block c0)).trans c0, (h.cell (cell_block c1)).trans c1, (h.cell (cell_block c2)).trans c2, (h.cell (cell_block c3)).trans c3⟩
      generalize hb1 : normT p.addr = b1 at *
      generalize hb2 : normT p.lead = b2 at *
      clear hb1 hb2
      go_wp2_with fail
      refine (HN1.out _).mono ?_
      rintro e w1 ⟨rfl, hbn1⟩
      have HBW1 : Hid (Below wr.heap.size wr w1) := hbn1
      have HB1 : Hid (Below w.heap.size w w1) := HB.out.trans (hbn1.mono HB.out.size)
      clear c0 c1 c2 c3 hbn1 HN1
      obtain ⟨c0, c1, c2, c3⟩ := HR.out w1 HBW1.out
      cases b1 with
      | false =>
        have HW : Hid (wOk L = false) := HBAD.out (by rw [HP.out]; rfl)
        go_wp2
        go_ret
        exact ⟨ret_bool HW.out.symm, HB1.out⟩
      | true =>
      by_cases g1 : 300 < p.text.size
      · have HW : Hid (wOk L = false) := HBAD.out (by rw [HP.out, decide_eq_false (show ¬ p.text.size ≤ 300 by omega)]; simp)
        go_wp2
        go_ret
        exact ⟨ret_bool HW.out.symm, HB1.out⟩
      cases g2 : (decide (0 ≤ p.fails) && decide (p.fails ≤ 9)) with
      | false =>
        have HW : Hid (wOk L = false) := HBAD.out (by
          have : decide (0 ≤ p.fails ∧ p.fails ≤ 9) = false := by
            apply decide_eq_false
            intro h
            rw [decide_eq_true h.1, decide_eq_true h.2] at g2
            cases g2
          rw [HP.out, this]; simp)
        have G2 : Hid _ := g2
        clear g2
        go_wp2_with (go_at_call 35; refine (in_any _ _ _ _).mono ?_; rintro e w2 ⟨rfl, e2⟩; subst e2; rw [G2.out])
        go_wp2
        go_ret
        exact ⟨ret_bool HW.out.symm, HB1.out⟩
      | true =>
      have hf : 0 ≤ p.fails ∧ p.fails ≤ 9 := by
        rw [Bool.and_eq_true, decide_eq_true_eq, decide_eq_true_eq] at g2; exact g2
      have HP2 : Hid (pgB p = (p.lead.toList.isEmpty || (p.text.toList.isEmpty && b2))) := by
        show _ = _
        rw [HP.out, decide_eq_true (show p.text.size ≤ 300 by omega), decide_eq_true hf]; simp
      have G2 : Hid _ := g2
      clear g2 HP hf
      cases hle : p.lead.toList.isEmpty with
      | true =>
        have HOKP : Hid (pgB p = true) := by show _ = _; rw [HP2.out, hle]; rfl
        clear HP2
        go_wp2_with (go_at_call 35; refine (in_any _ _ _ _).mono ?_; rintro e w2 ⟨rfl, e2⟩; subst e2; rw [G2.out])
        have HBT : Hid (Below w.heap.size w w2) := HB1.out
        have HRT := HR.out w2 HBW1.out
        obtain ⟨e0, e1, e2, e3⟩ := HRT
        have HE0 : Hid _ := e0
        clear e0 e1 e2 e3
        go_wp2
        go_loopw [4] (fun i2 wr2 => ∃ j n : Nat, j ≤ k ∧ i2 = .int .i64 (j : Int) ∧ wr2 = w2.drewN n ∧ Hid ((L.take j).any (sameA p.addr) = false)) (fun i2 _ => k - (intOf i2).toNat)
        case atStart => exact ⟨0, 0, Nat.zero_le _, rfl, rfl, rfl⟩
        case round =>
          obtain ⟨j, n, hj, rfl, rfl, HJ⟩ := hrel
          by_cases hjk : j < k
          · have hjl : j < L.length := by omega
            obtain ⟨b2, o2, ea, f0, _, _, _⟩ := pg_at (IsRows.below HI.out HBT.out) hjl
            injection ea with ea
            injection ea with ea1 ea2
            subst ea1
            subst ea2
            have g0 : (w2.drewN n).cell? ⟨B, off + j * 4, none⟩ = some (.string L[j].addr) := f0
            have g1 : (w2.drewN n).cell? ⟨B, off + k * 4, none⟩ = some (.string p.addr) := HE0.out
            have hi1 : (j : Int) < (L.length : Int) := by omega
            have hi2 : (k : Int) < (L.length : Int) := by omega
            have hi3 : (j : Int) < (k : Int) := by omega
            cases hsm : (L[j].addr.toList == p.addr.toList) with
            | true =>
              have HW : Hid (wOk L = false) := HTW.out (any_hit _ hjl hjk hsm)
              go_wp2
              go_quiet (fail)
              go_wp2
              go_ret
              exact ⟨ret_bool HW.out.symm, below_drewN (below_drewN HBT.out _) _⟩
            | false =>
              have HJ1 : Hid ((L.take (j + 1)).any (sameA p.addr) = false) := any_step _ hjl HJ.out hsm
              go_wp2
              go_quiet (fail)
              go_wp2
              go_roundw
              case rel => exact ⟨j + 1, n + nq, by omega, by go_num, by simp, HJ1⟩
              case measure => simp [intOf]; omega
          · have ej : j = k := by omega
            subst ej
            have HK1 : Hid (okTo L (j + 1) = true) := HON.out HOKP.out HJ.out
            have HBN2 : Hid (Below w.heap.size w (w2.drewN n)) := below_drewN HBT.out n
            generalize w2.drewN n = wz at *
            go_wp2
            go_roundw
            case rel => exact ⟨j + 1, by omega, by go_num, HK1, HBN2⟩
            case measure => simp [intOf]; omega
      | false =>
        cases hte : p.text.toList.isEmpty with
        | false =>
          have HW : Hid (wOk L = false) := HBAD.out (by rw [HP2.out, hle, hte]; rfl)
          go_wp2_with (go_at_call 35; refine (in_any _ _ _ _).mono ?_; rintro e w2 ⟨rfl, e2⟩; subst e2; rw [G2.out])
          go_wp2
          go_ret
          exact ⟨ret_bool HW.out.symm, HB1.out⟩
        | true =>
          go_wp2_with (go_at_call 35; refine (in_any _ _ _ _).mono ?_; rintro e w2 ⟨rfl, e2⟩; subst e2; rw [G2.out])
          go_wp2_with fail
          refine (HN2.out _).mono ?_
          rintro e w3 ⟨rfl, hbn2⟩
          have HBW3 : Hid (Below wr.heap.size wr w3) := HBW1.out.trans (hbn2.mono HBW1.out.size)
          have HB3 : Hid (Below w.heap.size w w3) := HB1.out.trans (hbn2.mono HB1.out.size)
          clear hbn2 c0 c1 c2 c3
          obtain ⟨c0, c1, c2, c3⟩ := HR.out w3 HBW3.out
          cases b2 with
          | false =>
            have HW : Hid (wOk L = false) := HBAD.out (by rw [HP2.out, hle, hte]; rfl)
            go_wp2
            go_ret
            exact ⟨ret_bool HW.out.symm, HB3.out⟩
          | true =>
            have HOKP : Hid (pgB p = true) := by show _ = _; rw [HP2.out, hle, hte]; rfl
            clear HP2
            have HBT : Hid (Below w.heap.size w w3) := HB3.out
            have HRT := HR.out w3 HBW3.out
            obtain ⟨e0, e1, e2, e3⟩ := HRT
            have HE0 : Hid _ := e0
            clear e0 e1 e2 e3
            go_wp2
            go_loopw [4] (fun i2 wr2 => ∃ j n : Nat, j ≤ k ∧ i2 = .int .i64 (j : Int) ∧ wr2 = w3.drewN n ∧ Hid ((L.take j).any (sameA p.addr) = false)) (fun i2 _ => k - (intOf i2).toNat)
            case atStart => exact ⟨0, 0, Nat.zero_le _, rfl, rfl, rfl⟩
            case round =>
              obtain ⟨j, n, hj, rfl, rfl, HJ⟩ := hrel
              by_cases hjk : j < k
              · have hjl : j < L.length := by omega
                obtain ⟨b2, o2, ea, f0, _, _, _⟩ := pg_at (IsRows.below HI.out HBT.out) hjl
                injection ea with ea
                injection ea with ea1 ea2
                subst ea1
                subst ea2
                have g0 : (w3.drewN n).cell? ⟨B, off + j * 4, none⟩ = some (.string L[j].addr) := f0
                have g1 : (w3.drewN n).cell? ⟨B, off + k * 4, none⟩ = some (.string p.addr) := HE0.out
                have hi1 : (j : Int) < (L.length : Int) := by omega
                have hi2 : (k : Int) < (L.length : Int) := by omega
                have hi3 : (j : Int) < (k : Int) := by omega
                cases hsm : (L[j].addr.toList == p.addr.toList) with
                | true =>
                  have HW : Hid (wOk L = false) := HTW.out (any_hit _ hjl hjk hsm)
                  go_wp2
                  go_quiet (fail)
                  go_wp2
                  go_ret
                  exact ⟨ret_bool HW.out.symm, below_drewN (below_drewN HBT.out _) _⟩
                | false =>
                  have HJ1 : Hid ((L.take (j + 1)).any (sameA p.addr) = false) := any_step _ hjl HJ.out hsm
                  go_wp2
                  go_quiet (fail)
                  go_wp2
                  go_roundw
                  case rel => exact ⟨j + 1, n + nq, by omega, by go_num, by simp, HJ1⟩
                  case measure => simp [intOf]; omega
              · have ej : j = k := by omega
                subst ej
                have HK1 : Hid (okTo L (j + 1) = true) := HON.out HOKP.out HJ.out
                have HBN2 : Hid (Below w.heap.size w (w3.drewN n)) := below_drewN HBT.out n
                generalize w3.drewN n = wz at *
                go_wp2
                go_roundw
                case rel => exact ⟨j + 1, by omega, by go_num, HK1, HBN2⟩
                case measure => simp [intOf]; omega
    · have e1 : k = L.length := by omega
      subst e1
      by_cases h12 : L.length ≤ 12
      · have HW : Hid (wOk L = true) := by show _ = _; unfold wOk; rw [HK.out, decide_eq_true h12]; rfl
        go_wp2
        go_ret
        exact ⟨ret_bool (by rw [HW.out]; simp; omega), HB.out⟩
      · have HW : Hid (wOk L = false) := wOk_long h12
        go_wp2
        go_ret
        exact ⟨ret_bool (by rw [HW.out]; simp; omega), HB.out⟩

/-- the page there, or nothing -/
def atP (L : List Pg) (a : ByteArray) : Pg := match L.find? (sameA a) with | some p => p | none => ⟨⟨#[]⟩, ⟨#[]⟩, ⟨#[]⟩, 0⟩
set_option maxRecDepth 100000 in
set_option maxHeartbeats 4000000 in
theorem specAt_any (a0 : Option Addr) (cap : Nat) (L : List Pg) (a : ByteArray) (w : World) (hI : IsRows FPg w a0 cap L) :
    Calls Tryz.prog 79 #[.slice a0 L.length cap, .string a] w fun e w' => e = .returned (.tuple #[.agg #[.string (atP L a).addr, .string (atP L a).text, .string (atP L a).lead, .int .i64 (atP L a).fails], .bool (L.find? (sameA a)).isSome]) ∧ Below w.heap.size w w' := by
  have hc1 := hI.1
  have hc2 := hI.2.1
  unfold maxLen at hc2
  have HI : Hid (IsRows FPg w a0 cap L) := hI
  have HP : Hid (atP L a = match L.find? (sameA a) with | some p => p | none => ⟨⟨#[]⟩, ⟨#[]⟩, ⟨#[]⟩, 0⟩) := rfl
  have HF0 : Hid (L.any (sameA a) = false → L.find? (sameA a) = none) := find_none _
  have HF1 : Hid (∀ j (hj : j < L.length), (L.take j).any (sameA a) = false → sameA a L[j] = true → L.find? (sameA a) = some L[j]) := fun j hj => find_hit _ hj
  clear hI
  generalize atP L a = R at *
  generalize L.find? (sameA a) = F at *
  go_enter Tryz.func79, Tryz.ntmps79
  go_wp2
  go_loopw [6] (fun i wr => ∃ j : Nat, j ≤ L.length ∧ i = .int .i64 (j : Int) ∧ Hid ((L.take j).any (sameA a) = false) ∧ wr = w.alloc (.cells #[.string ⟨#[]⟩, .string ⟨#[]⟩, .string ⟨#[]⟩, .int .i64 0] 32)) (fun i _ => L.length - (intOf i).toNat)
  case atStart => exact ⟨0, Nat.zero_le _, rfl, rfl, rfl⟩
  case round =>
    obtain ⟨j, hj, rfl, HJ, rfl⟩ := hrel
    by_cases hjl : j < L.length
    · obtain ⟨B, off, ea, c0, c1, c2, c3⟩ := pg_at (IsRows.keep HI.out (alloc_keep w (.cells #[.string ⟨#[]⟩, .string ⟨#[]⟩, .string ⟨#[]⟩, .int .i64 0] 32))) hjl
      subst ea
      have HH := HF1.out j hjl HJ.out
      have HS1 : Hid (sameA a L[j] = false → (L.take (j + 1)).any (sameA a) = false) := any_step _ hjl HJ.out
      have HS2 : Hid (sameA a L[j] = (L[j].addr.toList == a.toList)) := rfl
      generalize L[j] = p at *
      cases hs : (p.addr.toList == a.toList) with
      | true =>
        have HFF : Hid (F = some p) := HH (by rw [HS2.out]; exact hs)
        have HRP : Hid (R = p) := by show _ = _; rw [HP.out, HFF.out]
        go_wp2
        refine bodyPost_ret (v := .tuple #[.agg #[.string p.addr, .string p.text, .string p.lead, .int .i64 p.fails], .bool true]) (by simp [results, Tryz.results79, go_sem]) rfl ?_
        refine ⟨by rw [HRP.out, HFF.out]; rfl, ?_⟩
        exact (Below.refl _ w).alloc (Nat.le_refl _) _
      | false =>
        have HJ1 : Hid ((L.take (j + 1)).any (sameA a) = false) := HS1.out (by rw [HS2.out]; exact hs)
        go_wp2
        go_roundw
        case rel => exact ⟨j + 1, by omega, by go_num, HJ1, by trivial⟩
        case measure => simp [intOf]; omega
    · have ej : j = L.length := by omega
      subst ej
      rw [List.take_length] at HJ
      have HFF : Hid (F = none) := HF0.out HJ.out
      have HRP : Hid (R = ⟨⟨#[]⟩, ⟨#[]⟩, ⟨#[]⟩, 0⟩) := by show _ = _; rw [HP.out, HFF.out]
      go_wp2
      refine bodyPost_ret (v := .tuple #[.agg #[.string ⟨#[]⟩, .string ⟨#[]⟩, .string ⟨#[]⟩, .int .i64 0], .bool false]) (by simp [results, Tryz.results79, go_sem]) rfl ?_
      refine ⟨by rw [HRP.out, HFF.out]; rfl, ?_⟩
      exact (Below.refl _ w).alloc (Nat.le_refl _) _
theorem kind_at (L : List Pg) (a : ByteArray) (t : Int) : kindF L a t = if (L.find? (sameA a)).isSome then (if t < (atP L a).fails then (3, ⟨#[]⟩) else if (atP L a).lead.toList.isEmpty then (1, (atP L a).text) else (2, (atP L a).lead)) else (0, ⟨#[]⟩) := by
  unfold kindF atP
  cases L.find? (sameA a) <;> rfl
set_option maxRecDepth 100000 in
set_option maxHeartbeats 4000000 in
theorem specL11Get_any (a0 : Option Addr) (cap : Nat) (L : List Pg) (a : ByteArray) (t : Int) (w : World) (hI : IsRows FPg w a0 cap L) :
    Calls Tryz.prog 41 #[.slice a0 L.length cap, .string a, .int .i64 t] w fun e w' => e = .returned (.tuple #[.int .i64 (kindF L a t).1, .string (kindF L a t).2]) ∧ Below w.heap.size w w' := by
  have HK : Hid _ := kind_at L a t
  have HA : Hid _ := fun W hW => specAt_any a0 cap L a W hW
  generalize kindF L a t = R at *
  generalize atP L a = p at *
  generalize (L.find? (sameA a)).isSome = b at *
  go_enter Tryz.func41, Tryz.ntmps41
  go_wp2_with fail
  refine (HA.out _ hI).mono ?_
  rintro e w1 ⟨rfl, hb1⟩
  have HB1 : Hid (Below w.heap.size w (w1.alloc (.cells #[.string p.addr, .string p.text, .string p.lead, .int .i64 p.fails] 32))) := hb1.alloc hb1.size _
  clear hb1 HA hI
  cases b with
  | false =>
    have HR : Hid (R = (0, ⟨#[]⟩)) := HK.out
    go_wp2
    go_ret2
    exact ⟨by rw [HR.out]; rfl, HB1.out⟩
  | true =>
    by_cases h1 : t < p.fails
    · have HR : Hid (R = (3, ⟨#[]⟩)) := by show _ = _; rw [HK.out, if_pos rfl, if_pos h1]
      go_wp2
      go_ret2
      exact ⟨by rw [HR.out]; rfl, HB1.out⟩
    · cases hl : p.lead.toList.isEmpty with
      | false =>
        have HR : Hid (R = (2, p.lead)) := by show _ = _; rw [HK.out, if_pos rfl, if_neg h1, hl]; rfl
        go_wp2
        go_region_with fail
        all_goals
          go_wp2
          go_ret2
          exact ⟨by rw [HR.out]; rfl, HB1.out.drew⟩
      | true =>
        have HR : Hid (R = (1, p.text)) := by show _ = _; rw [HK.out, if_pos rfl, if_neg h1, hl]; rfl
        go_wp2
        go_region_with fail
        all_goals
          go_wp2
          go_ret2
          exact ⟨by rw [HR.out]; rfl, HB1.out.drew⟩
set_option maxRecDepth 100000 in
set_option maxHeartbeats 2000000 in
theorem specGet_any (a0 : Option Addr) (cap : Nat) (L : List Pg) (a : ByteArray) (t : Int) (w : World) (hI : IsRows FPg w a0 cap L) (hS : PgSz L) :
    Calls Tryz.prog 15 #[.slice a0 L.length cap, .string a, .int .i64 t] w fun e w' => e = .returned (.tuple #[.int .i64 (getF L a t).1, .string (getF L a t).2]) ∧ Below w.heap.size w w' := by
  have HG : Hid (getF L a t = if wOk L && decide (0 ≤ t) then kindF L a t else (0, ⟨#[]⟩)) := rfl
  have HW : Hid _ := fun W hW => specWorldOk_any a0 cap L W hW hS
  have HI : Hid (IsRows FPg w a0 cap L) := hI
  generalize getF L a t = R at *
  clear hI
  go_enter Tryz.func15, Tryz.ntmps15
  go_wp2_with fail
  refine (HW.out _ HI.out).mono ?_
  rintro e w1 ⟨rfl, hb1⟩
  have HB1 : Hid (Below w.heap.size w w1) := hb1
  clear HW hb1
  cases hw : wOk L with
  | false =>
    have HR : Hid (R = (0, ⟨#[]⟩)) := by show _ = _; rw [HG.out, hw]; rfl
    clear hw
    go_wp2
    go_ret2
    exact ⟨by rw [HR.out]; rfl, HB1.out⟩
  | true =>
    by_cases ht : t < 0
    · have HR : Hid (R = (0, ⟨#[]⟩)) := by show _ = _; rw [HG.out, hw, decide_eq_false (by omega)]; rfl
      clear hw
      go_wp2
      go_ret2
      exact ⟨by rw [HR.out]; rfl, HB1.out⟩
    · have HR : Hid (R = kindF L a t) := by show _ = _; rw [HG.out, hw, decide_eq_true (by omega)]; rfl
      clear hw
      go_wp2_with fail
      refine (specL11Get_any a0 cap L a t _ (HI.out.below HB1.out)).mono ?_
      rintro e w2 ⟨rfl, hb2⟩
      rw [← HR.out]
      go_wp2
      go_ret2
      exact ⟨rfl, HB1.out.trans (hb2.mono HB1.out.size)⟩
end Go.Proofs.YtcohaalgefcjnaaGreatDoor.Wd
