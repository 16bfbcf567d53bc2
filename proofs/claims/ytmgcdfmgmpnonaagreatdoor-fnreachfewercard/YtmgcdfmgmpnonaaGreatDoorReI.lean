/- The program's WorldReach. -/
import Derived.Test.YtmgcdfmgmpnonaaGreatDoorReSt
import Derived.Test.YtmgcdfmgmpnonaaGreatDoorPgA1Pk
import Derived.Test.YtmgcdfmgmpnonaaGreatDoorRead3Pk
namespace Go.Proofs.YtmgcdfmgmpnonaaGreatDoor.ReM
open Go.RowKit Go.Proofs.YtmgcdfmgmpnonaaGreatDoor.Im Go.Proofs.YtmgcdfmgmpnonaaGreatDoor.EscM Go.Proofs.YtmgcdfmgmpnonaaGreatDoor.AddrM Go.Proofs.YtmgcdfmgmpnonaaGreatDoor.ReadM Go.Proofs.YtmgcdfmgmpnonaaGreatDoor.St Go.Proofs.YtmgcdfmgmpnonaaGreatDoor.EscL Go.Proofs.YtmgcdfmgmpnonaaGreatDoor.Ad1 Go.Proofs.YtmgcdfmgmpnonaaGreatDoor.Rd1 Go.Proofs.YtmgcdfmgmpnonaaGreatDoor.RuleM Go.Proofs.YtmgcdfmgmpnonaaGreatDoor.RdA Go.Proofs.YtmgcdfmgmpnonaaGreatDoor.MkA Go.Proofs.YtmgcdfmgmpnonaaGreatDoor.Mp Go.Proofs.YtmgcdfmgmpnonaaGreatDoor.WdM Go.Proofs.YtmgcdfmgmpnonaaGreatDoor.Wd Go.Proofs.YtmgcdfmgmpnonaaGreatDoor.WdN Go.Proofs.YtmgcdfmgmpnonaaGreatDoor.RR Go.Proofs.YtmgcdfmgmpnonaaGreatDoor.LetM Go.Proofs.YtmgcdfmgmpnonaaGreatDoor.Nm Go.Proofs.YtmgcdfmgmpnonaaGreatDoor.GrM Go.Proofs.YtmgcdfmgmpnonaaGreatDoor.RoPg Go.Proofs.YtmgcdfmgmpnonaaGreatDoor.PgM Go.Proofs.YtmgcdfmgmpnonaaGreatDoor.PgA

theorem zeroInt (w : World) : (zeroValue 3).run Tryz.prog w = .ok (.int .i64 0) w :=
  (zero_of_info (show (Tryz.prog.info? 3).map (fun i => (i.zero, i.size)) = some (some (.int .i64 0), 1) by kernel_rfl)).1 w

set_option maxRecDepth 100000 in
set_option maxHeartbeats 6400000 in
theorem implReach_any (a0 : Option Addr) (cap : Nat) (L : List Pg) (name : ByteArray) (a2 : Option Addr) (c2 : Nat) (S : List ByteArray) (w : World) (hM : Im.Mx w) (hI : IsRows FPg w a0 cap L) (hS : PgSz L) (hA : PgAs L) (hR : PgRd L) (hT : PgTx L) (hn : name.size ≤ 4194304) (hSt : IsStrs w a2 c2 S) (hSz : ∀ x ∈ S, x.size ≤ 1000) (hSl : S.length ≤ 1000) :
    Calls Tryz.prog 26 #[.slice a0 L.length cap, .string name, .slice a2 S.length c2] w fun e w' => ∃ v, e = .returned v ∧ Owns w' w.heap.size v (reachW L name S) ∧ Below w.heap.size w w' := by
  obtain ⟨i0, hi, hz0, hz1, hz2⟩ := info_parts Tryz.infoS
  have HST : Hid (IsStrs w a2 c2 S) := hSt
  have HSZ : Hid (∀ x ∈ S, x.size ≤ 1000) := hSz
  have HM : Hid (Im.Mx w) := hM
  have HS : Hid (PgSz L) := hS
  have HR : Hid (PgRd L) := hR
  have HT : Hid (PgTx L) := hT
  have HWP : Hid _ := worldPages_any a0 cap L w hM hI hS hA
  have HNM : Hid (∀ W : World, Calls Tryz.prog 40 #[.string name] W fun e w' => e = .returned (.bool (nameB name)) ∧ w' = W) := fun W => implName_any name W (by unfold maxLen; omega)
  have HNO : Hid ((wOk L && nameB name && decide (S.length ≤ 12)) = false → reachW L name S = []) := reach_no
  clear hI hSt hSz hM hS hA hR hT
  go_enter Tryz.func26, Tryz.ntmps26
  go_wp2_with fail
  refine Calls.mono HWP.out ?_
  rintro e w1 ⟨hp, hb1⟩
  have HB1 : Hid (Below w.heap.size w w1) := hb1
  clear hb1 HWP
  rcases hp.symm with ⟨hw, rfl⟩ | ⟨hw, b1, rfl, hb1, hm1⟩
  · have HN : Hid (reachW L name S = []) := HNO.out (by rw [hw]; rfl)
    clear hw
    go_wp2
    go_ret
    exact ⟨_, rfl, by rw [HN.out]; exact Owns.nil _ _, HB1.out⟩
  have HW : Hid (wOk L = true) := hw
  have HP1 : Hid (IsMap w1 b1 (entsL L)) := hm1
  have HG1 : Hid (w.heap.size ≤ b1) := hb1
  clear hw hm1 hb1
  cases hq : nameB name with
  | false =>
    have HN : Hid (reachW L name S = []) := HNO.out (by rw [hq, Bool.and_false, Bool.false_and])
    rw [hq] at HNM
    clear hq
    go_wp2_with (go_at_call 40; refine (HNM.out _).mono ?_; rintro e w3 ⟨rfl, e1⟩; have e2 := e1.symm; subst e2)
    go_ret
    exact ⟨_, rfl, by rw [HN.out]; exact Owns.nil _ _, HB1.out⟩
  | true =>
  have HQ : Hid (nameB name = true) := hq
  rw [hq] at HNM
  clear hq
  by_cases h12 : 12 < S.length
  · have HN : Hid (reachW L name S = []) := HNO.out (by rw [decide_eq_false (by omega), Bool.and_false])
    have hd : decide ((12 : Int) < (S.length : Int)) = true := decide_eq_true (by omega)
    go_wp2_with (go_at_call 40; refine (HNM.out _).mono ?_; rintro e w3 ⟨rfl, e1⟩; have e2 := e1.symm; subst e2)
    go_ret
    exact ⟨_, rfl, by rw [HN.out]; exact Owns.nil _ _, HB1.out⟩
  have hd : decide ((12 : Int) < (S.length : Int)) = false := decide_eq_false (by omega)
  have hmm : ∀ (W : World), (Instr.makeMap 89 none).run Tryz.prog W = .ok (.map (some W.heap.size)) (W.alloc (.map #[] 0)) := fun W => by
    simp [Instr.makeMap, newObj]; rfl
  have HB2 : Hid (Below w.heap.size w (w1.alloc (.map #[] 0))) := HB1.out.alloc HB1.out.size _
  have HST2 : Hid (IsStrs (w1.alloc (.map #[] 0)) a2 c2 S) := HST.out.below HB2.out
  clear HNO
  go_wp2_with (go_at_call 40; refine (HNM.out _).mono ?_; rintro e w3 ⟨rfl, e1⟩; have e2 := e1.symm; subst e2)
  refine (clone_any a2 c2 S _ HST2.out (by omega)).mono ?_
  rintro e w2 ⟨v, rfl, hO, hb2⟩
  obtain ⟨row, hq, hrw⟩ := IsQ.own hO
  have HQS : Hid (QSt w w2 (w1.heap.size + 1) b1 w1.heap.size L [] (.slice none 0 0) [] row v S) := by
    have hsz : (w1.alloc (.map #[] 0)).heap.size = w1.heap.size + 1 := by simp
    rw [hsz] at hq hb2
    have hlt := HP1.out.lt
    have := HB1.out.size
    refine ⟨(HP1.out.alloc _).below (by rw [hsz]; exact hb2), (IsMap.new w1).below (by rw [hsz]; exact hb2), Owns.nil _ _, hq, fun k hk => by (cases hk), HB2.out.trans (hb2.mono (by omega)), by omega, by omega, by omega, by omega, by omega, ?_⟩
    have := hb2.size
    rw [hsz] at this; exact this
  have HQI : Hid (QI (okR L name) nR (fromW L) (reachW L name S) (uR L S) (uR L S) [] S []) := qi_world L name S HW.out HQ.out (by omega)
  have hul : (uR L S).length ≤ 4000 := uni_bd HW.out (by omega)
  have HUS : Hid (∀ x ∈ uR L S, x.size ≤ 1000) := by
    intro x hx
    rcases List.mem_append.1 hx with hx | hx
    · exact HSZ.out x hx
    · obtain ⟨p, _, hp⟩ := List.mem_flatMap.1 hx
      obtain ⟨_, _, _, _, h60⟩ := from_each hp
      omega
  obtain ⟨G, hGe⟩ : ∃ G, (uR L S).length * 301 + S.length = G := ⟨_, rfl⟩
  have hG : G ≤ 1300000 := by omega
  have HG0 : Hid (((uR L S).length - ([] : List ByteArray).length) * 301 + S.length ≤ G) := by show _ ≤ _; simp; omega
  have HON : Hid (∀ (D q out : List ByteArray) (x : ByteArray), QI (okR L name) nR (fromW L) (reachW L name S) (uR L S) (uR L S) D (x :: q) out → x ∉ D → okR L name x = true → QI (okR L name) nR (fromW L) (reachW L name S) (uR L S) (uR L S) (putL D x) (q ++ fromW L x) (out ++ [x])) := fun D q out x h hx hk => qi_on h hx hk
  clear hGe hO hb2 hq hrw HB2 HST2 HB1 HP1 HG1 HSZ HST
  generalize w1.heap.size = b2 at *
  obtain ⟨R, hR⟩ : ∃ R, reachW L name S = R := ⟨_, rfl⟩
  have HRR : Hid (reachW L name S = R) := hR
  rw [hR] at HQI HON
  clear hR
  generalize uR L S = U at *
  go_wp2
  go_loopg [9, 11] G (fun g o q wr => ∃ (D qs out : List ByteArray) (M : List (ByteArray × Value)) (N : Nat) (row : Option Nat), N + g ≤ 1300000 ∧ Hid ((U.length - D.length) * 301 + qs.length ≤ g) ∧ Hid (QI (okR L name) nR (fromW L) R U U D qs out) ∧ Hid (Cn M D N) ∧ Hid (QSt w wr (b2 + 1) b1 b2 L M o out row q qs) ∧ out.length ≤ N)
  case atStart => exact ⟨[], S, [], [], 0, row, by omega, HG0, HQI, cn_new, HQS, Nat.le_refl _⟩
  case round =>
    clear HQS HQI HG0
    obtain ⟨D, qs, out, M, N, row, hNg, HMS, HQI, HCN, HQS, hol⟩ := hrel
    cases qs with
    | nil =>
      have HE : Hid (R = out) := qi_end HQI.out
      obtain ⟨aq, cq, hv⟩ := HQS.out.que.form
      subst hv
      have HO : Hid (Owns wr w.heap.size u9 out) := Owns.mono HQS.out.own HQS.out.g
      have HB : Hid (Below w.heap.size w wr) := HQS.out.below
      go_wp2
      go_ret
      exact ⟨_, rfl, by rw [HRR.out, HE.out]; exact HO.out, HB.out⟩
    | cons x qs =>
      obtain ⟨b, off, cq, row', hv, hcq, hlq, hx, hq, hrw⟩ := HQS.out.que.pop
      subst hv
      obtain ⟨aq, haq⟩ : ∃ aq, (if cq = 0 then some (⟨b, off, none⟩ : Addr) else some ⟨b, off + 1, none⟩) = aq := ⟨_, rfl⟩
      have hsl : ∀ W : World, (Instr.sliceAt 26 (.slice (some ⟨b, off, none⟩) (qs.length + 1) (cq + 1)) (some (.int .i64 1)) none none).run Tryz.prog W = .ok (.slice aq qs.length cq) W := fun W => by
        rw [← haq]
        have h1 : (1 : Int) ≤ (qs.length : Int) + 1 := by omega
        have h2 : cq = 0 → qs.length = 0 := by omega
        by_cases hc : cq = 0
        · have h3 := h2 hc
          clear h2
          subst hc; go_simp
        · clear h2; go_simp
      rw [haq] at hq
      have HQ1 : Hid (QSt w wr (b2 + 1) b1 b2 L M u9 out row' (.slice aq qs.length cq) qs) := HQS.out.pop hq hrw
      have hxz : x.size ≤ 1000 := HUS.out x (HQI.out.2.2.2 x (List.mem_cons_self ..))
      have hgk : (U.length - D.length) * 301 + qs.length + 1 ≤ gk := by have := HMS.out; rw [List.length_cons] at this; omega
      obtain ⟨n, hgn, hnN, hnew, hold⟩ := cn_get HCN.out x
      have HGN : Hid ((getM M x).getD (.int .i64 0) = .int .i64 (n : Int)) := hgn
      have HNEW : Hid (x ∉ D → n = 0) := hnew
      have HOLD : Hid (x ∈ D → 1 ≤ n) := hold
      have hwr : IntKind.i64.wrap ((n : Int) + 1) = (n : Int) + 1 := IntWalk.i64_in _ (by omega)
      have HCN1 : Hid (Cn (putM M x (.int .i64 ((n : Int) + 1))) (putL D x) (N + 1)) := cn_put (x := x) (n := n + 1) HCN.out (by omega) (by omega)
      clear HQS hq hrw haq hgn hnew hold HCN HMS
      go_wp2_with (first
        | (at_lookup; refine wp_look _ rfl _ _ 89 false rfl 9 3 Tryz.underlying89 Tryz.underlying9 (.int .i64 0) (zeroInt _) b2 M rfl HQ1.out.counts x rfl (.int .i64 (n : Int)) HGN.out ?_)
        | (at_mapUpdate; refine wp_store _ rfl _ _ _ 89 rfl 9 3 Tryz.underlying89 Tryz.underlying9 b2 M rfl HQ1.out.counts x rfl (.int .i64 ((n : Int) + 1)) rfl ?_; intro w3 hm3 hg3))
      have HQ3 : Hid (QSt w w3 (b2 + 1) b1 b2 L (putM M x (.int .i64 ((n : Int) + 1))) u9 out row' (.slice aq qs.length cq) qs) := HQ1.out.store hm3 hg3
      have HG3 : Hid (getM (putM M x (.int .i64 ((n : Int) + 1))) x = some (.int .i64 ((n : Int) + 1))) := get_put_same _ _ _
      clear hm3 hg3 HQ1 HGN hsl
      generalize putM M x (.int .i64 ((n : Int) + 1)) = M1 at *
      go_wp2_with fail
      refine (readAddress_any x _ (HM.out.below HQ3.out.below) (by omega) trivial).mono ?_
      rintro e w4 ⟨A, ok, a1, c1, rfl, hans, hO, hb4⟩
      have HANS : Hid ((ok = true ∧ normA x = some A) ∨ (ok = false ∧ normA x = none ∧ A = zeroAd)) := hans
      have HOA : Hid (Owns w4 w3.heap.size (.slice a1 A.parts.length c1) A.parts) := hO
      have HQ4 : Hid (QSt w w4 (b2 + 1) b1 b2 L M1 u9 out row' (.slice aq qs.length cq) qs) := HQ3.out.on hb4
      have HQ5 : Hid (QSt w (w4.alloc (.cells #[.string A.house, .slice a1 A.parts.length c1, .bool A.asks, .string A.ask] 41)) (b2 + 1) b1 b2 L M1 u9 out row' (.slice aq qs.length cq) qs) := HQ4.out.alloc _
      clear hans hO
      by_cases hD : x ∈ D
      · have HQI2 : Hid (QI (okR L name) nR (fromW L) R U U (putL D x) qs out) := qi_skip HQI.out (Or.inl hD)
        have hd1 : decide ((1 : Int) < (n : Int) + 1) = true := decide_eq_true (by have := HOLD.out hD; omega)
        have HMS2 : Hid ((U.length - (putL D x).length) * 301 + qs.length ≤ gk - 1) := by show _ ≤ _; rw [put_in hD]; omega
        clear hD HANS HOA
        go_wp2_with (at_lookup; refine wp_look _ rfl _ _ 89 false rfl 9 3 Tryz.underlying89 Tryz.underlying9 (.int .i64 0) (zeroInt _) b2 M1 rfl HQ5.out.counts x rfl (.int .i64 ((n : Int) + 1)) (by rw [HG3.out]; rfl) ?_)
        go_wp2
        go_roundg (gk - 1)
        case measure => omega
        case rel => exact ⟨putL D x, qs, out, M1, N + 1, row', by omega, HMS2, HQI2, HCN1, HQ5, by omega⟩
      have hd1 : decide ((1 : Int) < (n : Int) + 1) = false := decide_eq_false (by have := HNEW.out hD; omega)
      have HD : Hid (x ∉ D) := hD
      have HMS2 : Hid ((U.length - (putL D x).length) * 301 + qs.length ≤ gk - 1) := by show _ ≤ _; rw [put_out hD, List.length_append]; omega
      clear hD
      cases ok with
      | false =>
        have hnone : normA x = none := by
          rcases HANS.out with ⟨h, _⟩ | ⟨_, h, _⟩
          · cases h
          · exact h
        have HQI2 : Hid (QI (okR L name) nR (fromW L) R U U (putL D x) qs out) := qi_skip HQI.out (Or.inr (ok_none hnone))
        clear hnone HANS HOA
        go_wp2_with (at_lookup; refine wp_look _ rfl _ _ 89 false rfl 9 3 Tryz.underlying89 Tryz.underlying9 (.int .i64 0) (zeroInt _) b2 M1 rfl HQ5.out.counts x rfl (.int .i64 ((n : Int) + 1)) (by rw [HG3.out]; rfl) ?_)
        go_wp2
        go_roundg (gk - 1)
        case measure => omega
        case rel => exact ⟨putL D x, qs, out, M1, N + 1, row', by omega, HMS2, HQI2, HCN1, HQ5, by omega⟩
      | true =>
        have hsome : normA x = some A := by
          rcases HANS.out with ⟨_, h⟩ | ⟨h, _⟩
          · exact h
          · cases h
        obtain ⟨hrd, htx⟩ := norm_some hsome
        have HOKA : Hid (okR L name x = (!(decide ((kindF L (textF A) 2).1 = 3)) && letsL (saysG (kindF L (doorS A.house) 2) name).2.1 (pathF A).data.toList)) := ok_at hsome HW.out HQ.out
        have HFW : Hid (leadF A (kindF L (textF A) 2) = fromW L x) := by show _ = _; rw [fromW_ok HW.out hsome, htx]
        have HHO : Hid (houseB A.house = true) := (Dr.ok_parts (OB.read_ok hrd)).1
        have hbk : bulkA A ≤ 1000 := read_le hrd
        have HX5 : Hid (Bs 41 (w4.alloc (.cells #[.string A.house, .slice a1 A.parts.length c1, .bool A.asks, .string A.ask] 41)) w4.heap.size #[.string A.house, .slice a1 A.parts.length c1, .bool A.asks, .string A.ask]) := Bs.new _ _ _
        have HS5 : Hid (IsStrs (w4.alloc (.cells #[.string A.house, .slice a1 A.parts.length c1, .bool A.asks, .string A.ask] 41)) a1 c1 A.parts) := (Owns.strsOf HOA.out).keep (alloc_keep _ _)
        have HBA : Hid (∀ a, a1 = some a → w3.heap.size ≤ a.block) := fun a ha => Owns.block HOA.out a.block (by rw [ha]; rfl)
        clear hsome hrd htx HANS HOA
        go_wp2_with (at_lookup; refine wp_look _ rfl _ _ 89 false rfl 9 3 Tryz.underlying89 Tryz.underlying9 (.int .i64 0) (zeroInt _) b2 M1 rfl HQ5.out.counts x rfl (.int .i64 ((n : Int) + 1)) (by rw [HG3.out]; rfl) ?_)
        go_wp2_with fail
        refine (looksAt_any b1 L A a1 c1 name _ (HM.out.below HQ5.out.below) HQ5.out.pages HS5.out HHO.out hbk HR.out).mono ?_
        rintro e w6 ⟨rfl, hb6⟩
        have HQ6 : Hid (QSt w w6 (b2 + 1) b1 b2 L M1 u9 out row' (.slice aq qs.length cq) qs) := HQ5.out.on hb6
        have HX6 : Hid (Bs 41 w6 w4.heap.size #[.string A.house, .slice a1 A.parts.length c1, .bool A.asks, .string A.ask]) := HX5.out.below hb6
        have HS6 : Hid (IsStrs w6 a1 c1 A.parts) := HS5.out.below hb6
        rw [← HOKA.out]
        clear hb6 HX5 HS5 HOKA
        cases hk : okR L name x with
        | false =>
          have HQI2 : Hid (QI (okR L name) nR (fromW L) R U U (putL D x) qs out) := qi_skip HQI.out (Or.inr hk)
          clear hk
          go_wp2
          go_roundg (gk - 1)
          case measure => omega
          case rel => exact ⟨putL D x, qs, out, M1, N + 1, row', by omega, HMS2, HQI2, HCN1, HQ6, by omega⟩
        | true =>
          have HQI2 : Hid (QI (okR L name) nR (fromW L) R U U (putL D x) (qs ++ fromW L x) (out ++ [x])) := HON.out D qs out x HQI.out HD.out hk
          have HMS3 : Hid ((U.length - (putL D x).length) * 301 + (qs ++ fromW L x).length ≤ gk - 1) := by
            have h1 := qi_len HQI2.out
            have h2 := from_len L x
            show _ ≤ _
            rw [put_out HD.out, List.length_append] at h1 ⊢
            rw [List.length_append]
            simp only [List.length_singleton] at h1 ⊢
            omega
          clear hk
          have HU9 : Hid (∀ k, u9.ownBlock = some k → k < w3.heap.size) := owns_lt HQ3.out.own
          have HU8 : Hid (∀ k, u9.ownBlock = some k → k < w4.heap.size) := owns_lt HQ4.out.own
          have hbs : b2 + 1 ≤ w6.heap.size := HQ6.out.size
          go_wp2_with (at_builtin; refine wpList_append_lies _ rfl _ _ 26 rfl (b2 + 1) 9 i0 (.string ⟨#[]⟩) 1 16 Tryz.underlying26 hi hz0 hz1 hz2 rfl (by decide) _ _ _ rfl (World.ownsRow.alloc HQ6.out.own _) ⟨w6.heap.size, 0, none⟩ 1 1 [.string x] rfl rfl (cell_one_new _ _ _) ?c2 (by omega) ?c3 ?c4 ?c5 (w6.heap.size + 1) ?c6 ?_)
          case c2 => intro u hu; simp at hu; subst hu; rfl
          case c3 => unfold maxLen; omega
          case c4 => omega
          case c5 => simp; omega
          case c6 => simp
          intro g cg w7 hown' hgrow hat _
          have hO7 : Owns w7 (b2 + 1) (.slice (some ⟨g, 0, none⟩) (out.length + 1) cg) (out ++ [x]) := Owns.append hown'
          have hgA : w6.grownBy w7 u9.ownBlock := Dr.grown_trans (Dr.grown_alloc w6 _ _) hgrow
          have HQ7 : Hid (QSt w w7 (b2 + 1) b1 b2 L M1 (.slice (some ⟨g, 0, none⟩) (out.length + 1) cg) (out ++ [x]) row' (.slice aq qs.length cq) qs) := by
            refine HQ6.out.came hgA hO7 ?_
            rcases hat with h | h
            · exact Or.inl h.symm
            · exact Or.inr ⟨g, rfl, by omega⟩
          have HS7 : Hid (IsStrs w7 a1 c1 A.parts) := strs_apart HS6.out hgA fun a ha e => by
            have h1 := HBA.out a ha
            have h2 := HU9.out _ e
            omega
          have hne : some w4.heap.size ≠ u9.ownBlock := fun e => by
            have := HU8.out _ e.symm
            omega
          have d0 : w7.cell? ⟨w4.heap.size, 0, none⟩ = some (.string A.house) := hgA.cell (HX6.out.cell 0 rfl) hne
          have d1 : w7.cell? ⟨w4.heap.size, 1, none⟩ = some (.slice a1 A.parts.length c1) := hgA.cell (HX6.out.cell 1 rfl) hne
          have d2 : w7.cell? ⟨w4.heap.size, 2, none⟩ = some (.bool A.asks) := hgA.cell (HX6.out.cell 2 rfl) hne
          have d3 : w7.cell? ⟨w4.heap.size, 3, none⟩ = some (.string A.ask) := hgA.cell (HX6.out.cell 3 rfl) hne
          clear hown' hgrow hgA hat hO7 hne HX6 HS6 HU9 HU8 HBA HQ6 HQ5 HQ4 HQ3
          go_wp2_with fail
          refine (fromAt_any A b1 L a1 c1 _ (HM.out.below HQ7.out.below) HS7.out hbk HQ7.out.pages HS.out HT.out).mono ?_
          rintro e w8 ⟨v8, rfl, hO8, hb8⟩
          rw [HFW.out] at hO8
          obtain ⟨a8, c8, hv8, hS8⟩ := hO8.strs
          subst hv8
          have HS8 : Hid (IsStrs w8 a8 c8 (fromW L x)) := hS8
          have HQ8 : Hid (QSt w w8 (b2 + 1) b1 b2 L M1 (.slice (some ⟨g, 0, none⟩) (out.length + 1) cg) (out ++ [x]) row' (.slice aq qs.length cq) qs) := HQ7.out.on hb8
          have hfl := from_len L x
          clear hO8 hS8 hb8 HQ7 HS7 HFW d0 d1 d2 d3
          generalize fromW L x = F at *
          go_wp2_with (at_builtin; refine wp_append_q rfl _ _ rfl rfl HQ8.out.que rfl HS8.out HQ8.out.size (by omega) ?_; intro v9 w9 row9 hq9 hg9 hn9)
          have HQ9 : Hid (QSt w w9 (b2 + 1) b1 b2 L M1 (.slice (some ⟨g, 0, none⟩) (out.length + 1) cg) (out ++ [x]) row9 v9 (qs ++ F)) := HQ8.out.grow hg9 hq9 hn9
          clear hq9 hg9 hn9
          go_wp2
          go_roundg (gk - 1)
          case measure => omega
          case rel => exact ⟨putL D x, qs ++ F, out ++ [x], M1, N + 1, row9, by omega, HMS3, HQI2, HCN1, HQ9, by simp; omega⟩
end Go.Proofs.YtmgcdfmgmpnonaaGreatDoor.ReM
