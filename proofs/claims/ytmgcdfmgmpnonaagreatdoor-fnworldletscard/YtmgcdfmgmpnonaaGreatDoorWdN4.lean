/- WorldLets: of the program and of the model. -/
import Derived.Test.YtmgcdfmgmpnonaaGreatDoorPgA1Pk
import Derived.Test.YtmgcdfmgmpnonaaGreatDoorJoin1Pk
import Derived.Test.YtmgcdfmgmpnonaaGreatDoorRead3Pk
namespace Go.Proofs.YtmgcdfmgmpnonaaGreatDoor.WdN
open Go.RowKit Go.Proofs.YtmgcdfmgmpnonaaGreatDoor.EscM Go.Proofs.YtmgcdfmgmpnonaaGreatDoor.AddrM Go.Proofs.YtmgcdfmgmpnonaaGreatDoor.ReadM Go.Proofs.YtmgcdfmgmpnonaaGreatDoor.St Go.Proofs.YtmgcdfmgmpnonaaGreatDoor.EscL Go.Proofs.YtmgcdfmgmpnonaaGreatDoor.Ad1 Go.Proofs.YtmgcdfmgmpnonaaGreatDoor.Rd1 Go.Proofs.YtmgcdfmgmpnonaaGreatDoor.RuleM Go.Proofs.YtmgcdfmgmpnonaaGreatDoor.RdA Go.Proofs.YtmgcdfmgmpnonaaGreatDoor.MkA Go.Proofs.YtmgcdfmgmpnonaaGreatDoor.Mp Go.Proofs.YtmgcdfmgmpnonaaGreatDoor.WdM Go.Proofs.YtmgcdfmgmpnonaaGreatDoor.Wd Go.Proofs.YtmgcdfmgmpnonaaGreatDoor.RR Go.Proofs.YtmgcdfmgmpnonaaGreatDoor.LetM Go.Proofs.YtmgcdfmgmpnonaaGreatDoor.Nm Go.Proofs.YtmgcdfmgmpnonaaGreatDoor.GrM Go.Proofs.YtmgcdfmgmpnonaaGreatDoor.Gf Go.Proofs.YtmgcdfmgmpnonaaGreatDoor.Dr Go.Proofs.YtmgcdfmgmpnonaaGreatDoor.RoPg Go.Proofs.YtmgcdfmgmpnonaaGreatDoor.NrM Go.Proofs.YtmgcdfmgmpnonaaGreatDoor.NrT Go.Proofs.YtmgcdfmgmpnonaaGreatDoor.NrW

/-- may a caller look there? -/
def letsW (L : List Pg) (name addr : ByteArray) : Bool :=
  match readF addr.data.toList with
  | none => false
  | some A => wOk L && nameB name && letsL (saysG (kindF L (doorS A.house) 2) name).2.1 (pathF A).data.toList
theorem lets_none {L : List Pg} {name addr : ByteArray} (h : readF addr.data.toList = none) : letsW L name addr = false := by unfold letsW; rw [h]
theorem lets_no {L : List Pg} {name addr : ByteArray} (h : (wOk L && nameB name) = false) : letsW L name addr = false := by
  unfold letsW
  cases readF addr.data.toList with
  | none => rfl
  | some A => show (wOk L && nameB name && _) = false; rw [h]; rfl
theorem lets_some {L : List Pg} {name addr : ByteArray} {A : Ad} (h : readF addr.data.toList = some A) (h1 : wOk L = true) (h2 : nameB name = true) : letsW L name addr = letsL (saysG (kindF L (doorS A.house) 2) name).2.1 (pathF A).data.toList := by
  unfold letsW; rw [h]; show (wOk L && nameB name && _) = _; rw [h1, h2]; rfl

set_option maxRecDepth 100000 in
set_option maxHeartbeats 3200000 in
theorem implWLets_any (a0 : Option Addr) (cap : Nat) (L : List Pg) (name addr : ByteArray) (w : World) (hM : Im.Mx w) (hI : IsRows FPg w a0 cap L) (hS : PgSz L) (hA : PgAs L) (hR : PgRd L) (hn : name.size ≤ maxLen) (hs : addr.size ≤ 4194304) (ha : Im.ascii addr) :
    Calls Tryz.prog 20 #[.slice a0 L.length cap, .string name, .string addr] w fun e w' => e = .returned (.bool (letsW L name addr)) ∧ Below w.heap.size w w' := by
  have HM : Hid (Im.Mx w) := hM
  have HWP : Hid _ := worldPages_any a0 cap L w hM hI hS hA
  have HRA : Hid (∀ W, Im.Mx W → Calls Tryz.prog 21 #[.string addr] W fun e w' => Reads (readF addr.data.toList) W e w') := fun W hW => RdA.implRead_all addr W hW hs ha
  have HNM : Hid (∀ W : World, Calls Tryz.prog 40 #[.string name] W fun e w' => e = .returned (.bool (nameB name)) ∧ w' = W) := fun W => implName_any name W hn
  have HN0 : Hid (readF addr.data.toList = none → letsW L name addr = false) := lets_none
  have HN1 : Hid ((wOk L && nameB name) = false → letsW L name addr = false) := lets_no
  have HLA : Hid (∀ b A a1 c1 W, Im.Mx W → IsMap W b (entsL L) → IsStrs W a1 c1 A.parts → readF addr.data.toList = some A → wOk L = true → nameB name = true → Calls Tryz.prog 55 #[.map (some b), .string name, .agg #[.string A.house, .slice a1 A.parts.length c1, .bool A.asks, .string A.ask]] W fun e w' => e = .returned (.bool (letsW L name addr)) ∧ Below W.heap.size W w') := fun b A a1 c1 W hW hm hst hr h1 h2 => by
    have hok := OB.read_ok hr
    rw [lets_some hr h1 h2]
    exact letsAt_any b L A a1 c1 name W hW hm hst (Dr.ok_parts hok).1 (Nat.le_trans (OB.ok_bulk hok) (by decide)) hR
  clear hM hI hS hA hR hs ha
  generalize readF addr.data.toList = RA at *
  generalize letsW L name addr = V at *
  go_enter Tryz.func20, Tryz.ntmps20
  go_wp2_with fail
  refine Calls.mono HWP.out ?_
  rintro e w1 ⟨hbr, hb1⟩
  have HB1 : Hid (Below w.heap.size w w1) := hb1
  clear hb1 HWP
  rcases hbr with ⟨hw, b, rfl, hbb, hm⟩ | ⟨hw, rfl⟩
  · have HMP : Hid (IsMap w1 b (entsL L)) := hm
    have HW : Hid (wOk L = true) := hw
    clear hm hw hbb
    go_wp2_with fail
    refine (HRA.out _ (HM.out.below HB1.out)).mono ?_
    rintro e w2 ⟨A, ok, a1, c1, rfl, hans, hO, hb2⟩
    have HANS : Hid _ := hans
    have HB2 : Hid (Below w.heap.size w w2) := HB1.out.trans (hb2.mono HB1.out.size)
    have HMP2 : Hid (IsMap w2 b (entsL L)) := HMP.out.below hb2
    have HS2 : Hid (IsStrs w2 a1 c1 A.parts) := hO.strsOf
    have HBA : Hid (Below w.heap.size w (w2.alloc (.cells #[.string A.house, .slice a1 A.parts.length c1, .bool A.asks, .string A.ask] 41))) := HB2.out.alloc HB2.out.size _
    have hsa : w.heap.size ≤ (w2.alloc (.cells #[.string A.house, .slice a1 A.parts.length c1, .bool A.asks, .string A.ask] 41)).heap.size := HBA.out.size
    clear hans hO hb2 HMP HB1
    cases ok with
    | false =>
      have HV : Hid (V = false) := by
        rcases HANS.out with ⟨h, _⟩ | ⟨_, h, _⟩
        · cases h
        · exact HN0.out h
      clear HANS HN0 HN1 HLA HNM
      go_wp2
      go_ret
      exact ⟨ret_bool HV.out.symm, HBA.out⟩
    | true =>
      have HRS : Hid (RA = some A) := by
        rcases HANS.out with ⟨_, h⟩ | ⟨h, _⟩
        · exact h
        · cases h
      clear HANS
      cases hq : nameB name with
      | false =>
        have HV : Hid (V = false) := HN1.out (by rw [hq, Bool.and_false])
        rw [hq] at HNM
        clear hq HN0 HN1 HLA
        go_wp2_with (go_at_call 40; refine (HNM.out _).mono ?_; rintro e w3 ⟨rfl, e1⟩; have e2 := e1.symm; subst e2)
        go_ret
        exact ⟨ret_bool HV.out.symm, HBA.out⟩
      | true =>
        have HQ : Hid (nameB name = true) := hq
        rw [hq] at HNM
        clear hq HN0 HN1
        go_wp2_with (go_at_call 40; refine (HNM.out _).mono ?_; rintro e w3 ⟨rfl, e1⟩; have e2 := e1.symm; subst e2)
        refine (HLA.out b A a1 c1 _ ((HM.out.below HB2.out).alloc _) (HMP2.out.alloc _) (HS2.out.keep (alloc_keep _ _)) HRS.out HW.out HQ.out).mono ?_
        rintro e w4 ⟨rfl, hb4⟩
        have HB4 : Hid (Below w.heap.size w w4) := HBA.out.trans (hb4.mono hsa)
        clear hb4
        go_wp2
        go_ret
        exact ⟨rfl, HB4.out⟩
  · have HV : Hid (V = false) := HN1.out (by rw [hw, Bool.false_and])
    clear hw HN0 HN1 HLA HNM
    go_wp2_with fail
    refine (HRA.out _ (HM.out.below HB1.out)).mono ?_
    rintro e w2 ⟨A, ok, a1, c1, rfl, hans, hO, hb2⟩
    have HB2 : Hid (Below w.heap.size w w2) := HB1.out.trans (hb2.mono HB1.out.size)
    have HBA : Hid (Below w.heap.size w (w2.alloc (.cells #[.string A.house, .slice a1 A.parts.length c1, .bool A.asks, .string A.ask] 41))) := HB2.out.alloc HB2.out.size _
    clear hans hO hb2
    go_wp2
    go_ret
    exact ⟨ret_bool HV.out.symm, HBA.out⟩

set_option maxRecDepth 100000 in
set_option maxHeartbeats 3200000 in
theorem l11Lets_any (g : Gr) (A : Ad) (a1 : Option Addr) (c1 : Nat) (w : World) (hG : GrAt w g) (hS : IsStrs w a1 c1 A.parts) (hB : bulkA A ≤ 4194304) (hp : pathF A = pathS A) (hl : g.ru.length ≤ 4194304) (hz : ∀ r ∈ g.ru, r.path.size ≤ maxLen) :
    Calls Tryz.prog 59 #[.agg #[.slice g.na g.nm.length g.nc, .slice g.ra g.ru.length g.rc, .int .i64 g.wait], .agg #[.string A.house, .slice a1 A.parts.length c1, .bool A.asks, .string A.ask]] w fun e w' => e = .returned (.bool (letsL g.ru (pathF A).data.toList)) ∧ Below w.heap.size w w' := by
  have hps := pathF_60 A
  rw [hp] at hps ⊢
  have HG : Hid (GrAt ((w.alloc (.cells #[.slice g.na g.nm.length g.nc, .slice g.ra g.ru.length g.rc, .int .i64 g.wait] 29)).alloc (.cells #[.string A.house, .slice a1 A.parts.length c1, .bool A.asks, .string A.ask] 41)) g) := (hG.keep (alloc_keep _ _)).keep (alloc_keep _ _)
  have HS : Hid (IsStrs ((w.alloc (.cells #[.slice g.na g.nm.length g.nc, .slice g.ra g.ru.length g.rc, .int .i64 g.wait] 29)).alloc (.cells #[.string A.house, .slice a1 A.parts.length c1, .bool A.asks, .string A.ask] 41)) a1 c1 A.parts) := (hS.keep (alloc_keep _ _)).keep (alloc_keep _ _)
  have HX : Hid (Bx 29 ((w.alloc (.cells #[.slice g.na g.nm.length g.nc, .slice g.ra g.ru.length g.rc, .int .i64 g.wait] 29)).alloc (.cells #[.string A.house, .slice a1 A.parts.length c1, .bool A.asks, .string A.ask] 41)) w.heap.size #[.slice g.na g.nm.length g.nc, .slice g.ra g.ru.length g.rc, .int .i64 g.wait]) := (Bx.new _ _ _).alloc _
  have s1 : (w.alloc (.cells #[.slice g.na g.nm.length g.nc, .slice g.ra g.ru.length g.rc, .int .i64 g.wait] 29)).heap.size = w.heap.size + 1 := by simp
  have HY : Hid (Bx 41 ((w.alloc (.cells #[.slice g.na g.nm.length g.nc, .slice g.ra g.ru.length g.rc, .int .i64 g.wait] 29)).alloc (.cells #[.string A.house, .slice a1 A.parts.length c1, .bool A.asks, .string A.ask] 41)) (w.heap.size + 1) #[.string A.house, .slice a1 A.parts.length c1, .bool A.asks, .string A.ask]) := by
    have := Bx.new 41 (w.alloc (.cells #[.slice g.na g.nm.length g.nc, .slice g.ra g.ru.length g.rc, .int .i64 g.wait] 29)) #[.string A.house, .slice a1 A.parts.length c1, .bool A.asks, .string A.ask]
    rw [s1] at this; exact this
  have HB0 : Hid (Below w.heap.size w ((w.alloc (.cells #[.slice g.na g.nm.length g.nc, .slice g.ra g.ru.length g.rc, .int .i64 g.wait] 29)).alloc (.cells #[.string A.house, .slice a1 A.parts.length c1, .bool A.asks, .string A.ask] 41))) := ((Below.refl _ w).alloc (Nat.le_refl _) _).alloc (by rw [s1]; omega) _
  have HPA : Hid (∀ W, IsStrs W a1 c1 A.parts → Calls Tryz.prog 99 #[.agg #[.string A.house, .slice a1 A.parts.length c1, .bool A.asks, .string A.ask]] W fun e w' => e = .returned (.string (pathS A)) ∧ Below W.heap.size W w') := fun W hW => specPathW_any A a1 c1 W hW hB
  have HRL : Hid (∀ W, GrAt W g → Calls Tryz.prog 98 #[.slice g.ra g.ru.length g.rc, .string (pathS A)] W fun e w' => e = .returned (.bool (letsL g.ru (pathS A).data.toList)) ∧ Below W.heap.size W w') := fun W hW => LeS.specLets_any g.ra g.rc g.ru (pathS A) W hW.2 hl hz (by unfold maxLen; omega)
  clear hG hS hB hp hl hz s1 hps
  generalize hW0 : ((w.alloc (.cells #[.slice g.na g.nm.length g.nc, .slice g.ra g.ru.length g.rc, .int .i64 g.wait] 29)).alloc (.cells #[.string A.house, .slice a1 A.parts.length c1, .bool A.asks, .string A.ask] 41)) = W0 at *
  have HW0 : Hid (((w.alloc (.cells #[.slice g.na g.nm.length g.nc, .slice g.ra g.ru.length g.rc, .int .i64 g.wait] 29)).alloc (.cells #[.string A.house, .slice a1 A.parts.length c1, .bool A.asks, .string A.ask] 41)) = W0) := hW0
  clear hW0
  generalize pathS A = pt at *
  generalize letsL g.ru pt.data.toList = V at *
  go_enter Tryz.func59, Tryz.ntmps59
  go_wp2_with fail
  try rw [HW0.out]
  have x1 : W0.cell? ⟨w.heap.size, 1, none⟩ = some (.slice g.ra g.ru.length g.rc) := HX.out.cell 1 rfl
  have y0 := HY.out.cell 0 rfl
  have y1 := HY.out.cell 1 rfl
  have y2 := HY.out.cell 2 rfl
  have y3 := HY.out.cell 3 rfl
  go_region_held_law (fun w' => w'.cell? ⟨w.heap.size, 1, none⟩ = some (.slice g.ra g.ru.length g.rc) ∧ w'.cell? ⟨w.heap.size + 1, 0, none⟩ = some (.string A.house) ∧ w'.cell? ⟨w.heap.size + 1, 1, none⟩ = some (.slice a1 A.parts.length c1) ∧ w'.cell? ⟨w.heap.size + 1, 2, none⟩ = some (.bool A.asks) ∧ w'.cell? ⟨w.heap.size + 1, 3, none⟩ = some (.string A.ask)) (first | go_keep | exact hS1 | exact hS2)
    ((first
    | (go_at_call 99
       refine (HPA.out W0.drew (HS.out.keep fun _ _ => rfl)).mono ?_
       rintro e w1 ⟨rfl, hb0⟩
       have hb1 : Below W0.heap.size W0 w1 := ((Below.refl _ W0).drew).trans hb0
       have HX1 : Hid (Bx 29 w1 w.heap.size #[.slice g.na g.nm.length g.nc, .slice g.ra g.ru.length g.rc, .int .i64 g.wait]) := HX.out.keep fun k hk => hb1.block k hk
       have HY1 : Hid (Bx 41 w1 (w.heap.size + 1) #[.string A.house, .slice a1 A.parts.length c1, .bool A.asks, .string A.ask]) := HY.out.keep fun k hk => hb1.block k hk
       have HG1 : Hid (GrAt w1 g) := HG.out.below hb1
       have HE1 : Hid (Below w.heap.size w w1) := HB0.out.trans (hb1.mono HB0.out.size)
       have hS1 : w1.cell? ⟨w.heap.size, 1, none⟩ = some (.slice g.ra g.ru.length g.rc) ∧ w1.cell? ⟨w.heap.size + 1, 0, none⟩ = some (.string A.house) ∧ w1.cell? ⟨w.heap.size + 1, 1, none⟩ = some (.slice a1 A.parts.length c1) ∧ w1.cell? ⟨w.heap.size + 1, 2, none⟩ = some (.bool A.asks) ∧ w1.cell? ⟨w.heap.size + 1, 3, none⟩ = some (.string A.ask) := ⟨HX1.out.cell 1 rfl, HY1.out.cell 0 rfl, HY1.out.cell 1 rfl, HY1.out.cell 2 rfl, HY1.out.cell 3 rfl⟩
       clear hb0 hb1)
    | (go_at_call 98
       refine (HRL.out w1 HG1.out).mono ?_
       rintro e w2 ⟨rfl, hb2⟩
       have HX2 : Hid (Bx 29 w2 w.heap.size #[.slice g.na g.nm.length g.nc, .slice g.ra g.ru.length g.rc, .int .i64 g.wait]) := HX1.out.keep fun k hk => hb2.block k hk
       have HY2 : Hid (Bx 41 w2 (w.heap.size + 1) #[.string A.house, .slice a1 A.parts.length c1, .bool A.asks, .string A.ask]) := HY1.out.keep fun k hk => hb2.block k hk
       have HE2 : Hid (Below w.heap.size w w2) := HE1.out.trans (hb2.mono HE1.out.size)
       have hS2 : w2.cell? ⟨w.heap.size, 1, none⟩ = some (.slice g.ra g.ru.length g.rc) ∧ w2.cell? ⟨w.heap.size + 1, 0, none⟩ = some (.string A.house) ∧ w2.cell? ⟨w.heap.size + 1, 1, none⟩ = some (.slice a1 A.parts.length c1) ∧ w2.cell? ⟨w.heap.size + 1, 2, none⟩ = some (.bool A.asks) ∧ w2.cell? ⟨w.heap.size + 1, 3, none⟩ = some (.string A.ask) := ⟨HX2.out.cell 1 rfl, HY2.out.cell 0 rfl, HY2.out.cell 1 rfl, HY2.out.cell 2 rfl, HY2.out.cell 3 rfl⟩
       clear hb2)
    | fail))
  all_goals
    go_wp2
    go_ret
    exact ⟨rfl, HE2.out⟩

set_option maxRecDepth 100000 in
set_option maxHeartbeats 3200000 in
theorem specWLets_any (a0 : Option Addr) (cap : Nat) (L : List Pg) (name addr : ByteArray) (w : World) (hI : IsRows FPg w a0 cap L) (hS : PgSz L) (hR : PgRd L) (hn : name.size ≤ 4194304) (hs : addr.size ≤ 4194304) :
    Calls Tryz.prog 22 #[.slice a0 L.length cap, .string name, .string addr] w fun e w' => e = .returned (.bool (letsW L name addr)) ∧ Below w.heap.size w w' := by
  have HI : Hid (IsRows FPg w a0 cap L) := hI
  have HRA : Hid _ := specRead_any addr w hs
  have HOK : Hid (∀ W, IsRows FPg W a0 cap L → Calls Tryz.prog 23 #[.slice a0 L.length cap] W fun e w' => e = .returned (.bool (wOk L)) ∧ Below W.heap.size W w') := fun W hW => specWorldOk_any a0 cap L W hW hS
  have HNM : Hid (∀ W : World, Calls Tryz.prog 44 #[.string name] W fun e w' => e = .returned (.bool (nameB name)) ∧ w' = W) := fun W => specName_any name W (by unfold maxLen; omega)
  have HN0 : Hid (readF addr.data.toList = none → letsW L name addr = false) := lets_none
  have HN1 : Hid ((wOk L && nameB name) = false → letsW L name addr = false) := lets_no
  have HWN : Hid (∀ A W, IsRows FPg W a0 cap L → readF addr.data.toList = some A → wOk L = true → nameB name = true → Calls Tryz.prog 14 #[.slice a0 L.length cap, .string A.house, .string name] W fun e w' => SaidG W w' (saysG (kindF L (doorS A.house) 2) name) e) := fun A W hW hr h1 h2 => by
    have hh := (Dr.ok_parts (OB.read_ok hr)).1
    have hz : A.house.size ≤ 5 := by unfold houseB at hh; simp at hh; omega
    have h := specWNotice_any a0 cap L A.house name W hW hS hR (by omega) hn
    rw [notice_yes h1 hh h2] at h
    exact h
  have HLA : Hid (∀ g A a1 c1 W, GrAt W g → IsStrs W a1 c1 A.parts → readF addr.data.toList = some A → wOk L = true → nameB name = true → grp g = saysG (kindF L (doorS A.house) 2) name → Calls Tryz.prog 59 #[.agg #[.slice g.na g.nm.length g.nc, .slice g.ra g.ru.length g.rc, .int .i64 g.wait], .agg #[.string A.house, .slice a1 A.parts.length c1, .bool A.asks, .string A.ask]] W fun e w' => e = .returned (.bool (letsW L name addr)) ∧ Below W.heap.size W w') := fun g A a1 c1 W hG hst hr h1 h2 hg => by
    have hok := OB.read_ok hr
    have hgr : g.ru = (saysG (kindF L (doorS A.house) 2) name).2.1 := by rw [← hg]; rfl
    have hbd := says_bd (kindF L (doorS A.house) 2) name
    rw [← hgr] at hbd
    rw [lets_some hr h1 h2, ← hgr]
    exact l11Lets_any g A a1 c1 W hG hst (Nat.le_trans (OB.ok_bulk hok) (by decide)) (path_ok hok) (Nat.le_trans hbd.1 (by decide)) (fun r hr => Nat.le_trans (hbd.2 r hr) (by decide))
  clear hI hS hR hs
  generalize readF addr.data.toList = RA at *
  generalize letsW L name addr = V at *
  go_enter Tryz.func22, Tryz.ntmps22
  go_wp2_with fail
  refine Calls.mono HRA.out ?_
  rintro e w1 ⟨A, ok, a1, c1, rfl, hans, hO, hb1⟩
  have HANS : Hid _ := hans
  obtain ⟨W1, hW1⟩ : ∃ W1, w1.alloc (.cells #[.string A.house, .slice a1 A.parts.length c1, .bool A.asks, .string A.ask] 41) = W1 := ⟨_, rfl⟩
  have HW1 : Hid (w1.alloc (.cells #[.string A.house, .slice a1 A.parts.length c1, .bool A.asks, .string A.ask] 41) = W1) := hW1
  obtain ⟨G, hGe⟩ : ∃ G, w1.heap.size = G := ⟨_, rfl⟩
  have HE1 : Hid (Below w.heap.size w W1) := by rw [← hW1]; exact hb1.alloc hb1.size _
  have HX1 : Hid (Bx 41 W1 G #[.string A.house, .slice a1 A.parts.length c1, .bool A.asks, .string A.ask]) := by rw [← hW1, ← hGe]; exact Bx.new _ _ _
  have HI1 : Hid (IsRows FPg W1 a0 cap L) := by rw [← hW1]; exact (HI.out.below hb1).keep (alloc_keep _ _)
  have HS1 : Hid (IsStrs W1 a1 c1 A.parts) := by rw [← hW1]; exact (Owns.strsOf hO).keep (alloc_keep _ _)
  clear hans hO hb1 hW1 HRA HI
  go_wp2_with fail
  rw [HW1.out]
  refine (HOK.out W1 HI1.out).mono ?_
  rintro e w2 ⟨rfl, hb2⟩
  have HE2 : Hid (Below w.heap.size w w2) := HE1.out.trans (hb2.mono HE1.out.size)
  have HX2 : Hid (Bx 41 w2 G #[.string A.house, .slice a1 A.parts.length c1, .bool A.asks, .string A.ask]) := HX1.out.keep fun k hk => hb2.block k hk
  have HI2 : Hid (IsRows FPg w2 a0 cap L) := HI1.out.below hb2
  have HS2 : Hid (IsStrs w2 a1 c1 A.parts) := HS1.out.below hb2
  clear hb2
  cases hw : wOk L with
  | false =>
    have HV : Hid (V = false) := HN1.out (by rw [hw, Bool.false_and])
    clear hw
    go_wp2
    go_ret
    exact ⟨ret_bool HV.out.symm, HE2.out⟩
  | true =>
    have HW : Hid (wOk L = true) := hw
    clear hw
    cases hq : nameB name with
    | false =>
      have HV : Hid (V = false) := HN1.out (by rw [hq, Bool.and_false])
      rw [hq] at HNM
      clear hq
      go_wp2_with (go_at_call 44; refine (HNM.out _).mono ?_; rintro e w3 ⟨rfl, e1⟩; have e2 := e1.symm; subst e2)
      go_ret
      exact ⟨ret_bool HV.out.symm, HE2.out⟩
    | true =>
      have HQ : Hid (nameB name = true) := hq
      rw [hq] at HNM
      clear hq
      cases ok with
      | false =>
        have HV : Hid (V = false) := by
          rcases HANS.out with ⟨h, _⟩ | ⟨_, h, _⟩
          · cases h
          · exact HN0.out h
        clear HANS
        go_wp2_with (go_at_call 44; refine (HNM.out _).mono ?_; rintro e w3 ⟨rfl, e1⟩; have e2 := e1.symm; subst e2)
        go_ret
        exact ⟨ret_bool HV.out.symm, HE2.out⟩
      | true =>
        have HRS : Hid (RA = some A) := by
          rcases HANS.out with ⟨_, h⟩ | ⟨h, _⟩
          · exact h
          · cases h
        clear HANS HN0 HN1
        have y0 := HX2.out.cell 0 rfl
        have y1 := HX2.out.cell 1 rfl
        have y2 := HX2.out.cell 2 rfl
        have y3 := HX2.out.cell 3 rfl
        go_wp2_with (go_at_call 44; refine (HNM.out _).mono ?_; rintro e w3 ⟨rfl, e1⟩; have e2 := e1.symm; subst e2)
        go_region_held_law (fun w' => w'.cell? ⟨G, 0, none⟩ = some (.string A.house) ∧ w'.cell? ⟨G, 1, none⟩ = some (.slice a1 A.parts.length c1) ∧ w'.cell? ⟨G, 2, none⟩ = some (.bool A.asks) ∧ w'.cell? ⟨G, 3, none⟩ = some (.string A.ask)) (first | go_keep | exact hS3 | exact hS4)
          ((first
          | (go_at_call 14
             refine (HWN.out A w2.drew (HI2.out.keep fun _ _ => rfl) HRS.out HW.out HQ.out).mono ?_
             rintro e w3 ⟨g, rfl, hg, hgo, hb0⟩
             have hb3 : Below w2.heap.size w2 w3 := ((Below.refl _ w2).drew).trans hb0
             have HGG : Hid (grp g = saysG (kindF L (doorS A.house) 2) name) := hg
             have HGA3 : Hid (GrAt w3 g) := hgo.at
             have HE3 : Hid (Below w.heap.size w w3) := HE2.out.trans (hb3.mono HE2.out.size)
             have HX3 : Hid (Bx 41 w3 G #[.string A.house, .slice a1 A.parts.length c1, .bool A.asks, .string A.ask]) := HX2.out.keep fun k hk => hb3.block k hk
             have HS3 : Hid (IsStrs w3 a1 c1 A.parts) := HS2.out.below hb3
             have hS3 : w3.cell? ⟨G, 0, none⟩ = some (.string A.house) ∧ w3.cell? ⟨G, 1, none⟩ = some (.slice a1 A.parts.length c1) ∧ w3.cell? ⟨G, 2, none⟩ = some (.bool A.asks) ∧ w3.cell? ⟨G, 3, none⟩ = some (.string A.ask) := ⟨HX3.out.cell 0 rfl, HX3.out.cell 1 rfl, HX3.out.cell 2 rfl, HX3.out.cell 3 rfl⟩
             clear hg hgo hb0 hb3)
          | (go_at_call 59
             refine (HLA.out g A a1 c1 w3 HGA3.out HS3.out HRS.out HW.out HQ.out HGG.out).mono ?_
             rintro e w4 ⟨rfl, hb4⟩
             have HE4 : Hid (Below w.heap.size w w4) := HE3.out.trans (hb4.mono HE3.out.size)
             have HX4 : Hid (Bx 41 w4 G #[.string A.house, .slice a1 A.parts.length c1, .bool A.asks, .string A.ask]) := HX3.out.keep fun k hk => hb4.block k hk
             have hS4 : w4.cell? ⟨G, 0, none⟩ = some (.string A.house) ∧ w4.cell? ⟨G, 1, none⟩ = some (.slice a1 A.parts.length c1) ∧ w4.cell? ⟨G, 2, none⟩ = some (.bool A.asks) ∧ w4.cell? ⟨G, 3, none⟩ = some (.string A.ask) := ⟨HX4.out.cell 0 rfl, HX4.out.cell 1 rfl, HX4.out.cell 2 rfl, HX4.out.cell 3 rfl⟩
             clear hb4)
          | fail))
        all_goals
          go_wp2
          go_ret
          exact ⟨rfl, HE4.out⟩
end Go.Proofs.YtmgcdfmgmpnonaaGreatDoor.WdN
