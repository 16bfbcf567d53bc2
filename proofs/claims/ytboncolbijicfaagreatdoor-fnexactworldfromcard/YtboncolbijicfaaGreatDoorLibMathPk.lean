/- Several texts in one: LibMath, Impl1, Impl2. -/
import Derived.Test.YtboncolbijicfaaGreatDoorRead3Pk
import Derived.Lib.SplitLaws
import Derived.Lib.IndexAny
/- What Go's library answers (strings.Cut, Split, IndexAny), against our own words. -/
namespace Go.Proofs.YtboncolbijicfaaGreatDoor.LibM
open Go.Proofs.YtboncolbijicfaaGreatDoor.EscM Go.Proofs.YtboncolbijicfaaGreatDoor.AddrM Go.Proofs.YtboncolbijicfaaGreatDoor.ReadM Go.Proofs.YtboncolbijicfaaGreatDoor.Rd1

theorem byte_eq (b d : UInt8) : (b.toNat : Int) = (d.toNat : Int) ↔ b = d := by
  constructor
  · intro h; exact UInt8.toNat.inj (by omega)
  · rintro rfl; rfl
theorem idx_one (d : UInt8) : ∀ l : List UInt8, (Lib.index l [d] = -1 ∧ cutL d.toNat l = (l, [], false)) ∨ ∃ i : Nat, i < l.length ∧ Lib.index l [d] = (i : Int) ∧ cutL d.toNat l = (l.take i, l.drop (i + 1), true) := by
  intro l
  induction l with
  | nil => left; exact ⟨rfl, rfl⟩
  | cons b r ih =>
    rw [cut_cons]
    unfold Lib.index
    by_cases h : b = d
    · subst h
      right
      refine ⟨0, by simp, ?_, ?_⟩
      · simp
      · simp
    · have h1 : ¬ (b.toNat : Int) = (d.toNat : Int) := fun e => h ((byte_eq b d).1 e)
      have h2 : ([d] : List UInt8).isPrefixOf (b :: r) = false := by simp [List.isPrefixOf]; exact fun e => h e.symm
      rw [if_neg h1, h2]
      rcases ih with ⟨i1, i2⟩ | ⟨i, i0, i1, i2⟩
      · left
        rw [i1, i2]; exact ⟨rfl, rfl⟩
      · right
        refine ⟨i + 1, by simp; omega, ?_, ?_⟩
        · rw [i1]
          have : ((i : Int) == -1) = false := by simp
          rw [this]; simp
        · rw [i2]; simp
theorem cut_lib (d : UInt8) (l : List UInt8) : Lib.cut l [d] = cutL d.toNat l := by
  unfold Lib.cut
  rcases idx_one d l with ⟨i1, i2⟩ | ⟨i, _, i1, i2⟩
  · rw [i1, i2]; rfl
  · rw [i1, i2, if_pos (by omega)]; simp
theorem split_lib (d : UInt8) : ∀ (n : Nat) (l : List UInt8), l.length ≤ n → Lib.splitK [d] 0 (Lib.count l [d]) l = splitL d.toNat l := by
  intro n
  induction n with
  | zero =>
    intro l hl
    have : l = [] := List.eq_nil_of_length_eq_zero (by omega)
    subst this
    rfl
  | succ n ih =>
    intro l hl
    rw [split_cut]
    rcases idx_one d l with ⟨i1, i2⟩ | ⟨i, i0, i1, i2⟩
    · rw [i2, Lib.count_miss i1]; rfl
    · rw [i2, Lib.count_hit (by simp) i1, Nat.add_comm]
      unfold Lib.splitK
      have : ((i : Int) == -1) = false := by simp
      rw [i1, this]
      simp only [List.length_singleton, Int.toNat_natCast, Nat.add_zero]
      rw [ih (l.drop (i + 1)) (by simp; omega)]
      rfl
theorem splitB_lib (d : UInt8) (s : ByteArray) : Lib.splitB ⟨#[d]⟩ 0 (Lib.countB s ⟨#[d]⟩) s = splitS d.toNat s := by
  have h := Lib.splitB_data ⟨#[d]⟩ 0 (Lib.countB s ⟨#[d]⟩) s
  have e : Lib.countB s ⟨#[d]⟩ = Lib.count s.data.toList [d] := rfl
  have e2 : (⟨#[d]⟩ : ByteArray).data.toList = [d] := rfl
  rw [e, e2, split_lib d _ _ (Nat.le_refl _)] at h
  unfold splitS
  rw [← h, List.map_map, e]
  conv => lhs; rw [← List.map_id (Lib.splitB ⟨#[d]⟩ 0 (Lib.count s.data.toList [d]) s)]
  apply List.map_congr_left
  intro p _
  show p = bs p.data.toList
  exact (bs_data p).symm
theorem any_lib : ∀ l : List UInt8, (Lib.indexAny l [47, 63] = -1 ∧ l.takeWhile goesOn = l ∧ l.dropWhile goesOn = []) ∨ ∃ i : Nat, i < l.length ∧ Lib.indexAny l [47, 63] = (i : Int) ∧ l.takeWhile goesOn = l.take i ∧ l.dropWhile goesOn = l.drop i := by
  intro l
  induction l with
  | nil => left; exact ⟨rfl, rfl, rfl⟩
  | cons b r ih =>
    unfold Lib.indexAny
    by_cases h : ([47, 63] : List UInt8).contains b = true
    · right
      have hg : goesOn b = false := by
        simp at h
        rcases h with rfl | rfl <;> decide
      refine ⟨0, by simp, by rw [if_pos h]; rfl, by simp [hg], by simp [hg]⟩
    · have hg : goesOn b = true := by
        simp at h
        unfold goesOn
        have h1 : ((b.toNat : Int) == 47) = false := by
          simp; intro e; exact h.1 (UInt8.toNat.inj (by show b.toNat = 47; omega))
        have h2 : ((b.toNat : Int) == 63) = false := by
          simp; intro e; exact h.2 (UInt8.toNat.inj (by show b.toNat = 63; omega))
        rw [h1, h2]; rfl
      rw [if_neg h]
      rcases ih with ⟨i1, i2, i3⟩ | ⟨i, i0, i1, i2, i3⟩
      · left
        rw [i1]; exact ⟨rfl, by simp [hg, i2], by simp [hg, i3]⟩
      · right
        refine ⟨i + 1, by simp; omega, ?_, by simp [hg, i2], by simp [hg, i3]⟩
        rw [i1]
        have : ((i : Int) == -1) = false := by simp
        rw [this]; simp
end Go.Proofs.YtboncolbijicfaaGreatDoor.LibM
/- The program's reading of an address: the leaves. -/
namespace Go.Proofs.YtboncolbijicfaaGreatDoor.Im
open Go.RowKit Go.Proofs.YtboncolbijicfaaGreatDoor.EscM Go.Proofs.YtboncolbijicfaaGreatDoor.AddrM Go.Proofs.YtboncolbijicfaaGreatDoor.ReadM Go.Proofs.YtboncolbijicfaaGreatDoor.St Go.Proofs.YtboncolbijicfaaGreatDoor.EscL Go.Proofs.YtboncolbijicfaaGreatDoor.PathM Go.Proofs.YtboncolbijicfaaGreatDoor.Ad1 Go.Proofs.YtboncolbijicfaaGreatDoor.Rd1 Go.Proofs.YtboncolbijicfaaGreatDoor.LibM

/-- internal/bytealg.MaxLen (the program's variable 0) holds some number -/
def Mx (w : World) : Prop := ∃ m : Int, w.cell? ⟨0, 0, none⟩ = some (.int .i64 m)
theorem Mx.keep {w w' : World} (h : Mx w) (hb : ∀ k, k < w.heap.size → w'.heap[k]? = w.heap[k]?) : Mx w' := by
  obtain ⟨m, hm⟩ := h
  exact ⟨m, by rw [World.cell?_of_block (w := w) (hb _ (cell_block hm))]; exact hm⟩
theorem Mx.below {w w' : World} (h : Mx w) (hb : Below w.heap.size w w') : Mx w' := h.keep fun k hk => hb.block k hk
theorem Mx.alloc {w : World} (h : Mx w) (o : Obj) : Mx (w.alloc o) := h.keep (alloc_keep w o)
theorem Mx.drewN {w : World} (h : Mx w) (n : Nat) : Mx (w.drewN n) := h.keep fun _ _ => rfl

theorem cut_any (s : ByteArray) (d : UInt8) (w : World) (h : Mx w) (hs : s.size ≤ 1000000) :
    Calls Tryz.prog 154 #[.string s, .string ⟨#[d]⟩] w fun e w' => e = .returned (.tuple #[.string (bs (cutL d.toNat s.data.toList).1), .string (bs (cutL d.toNat s.data.toList).2.1), .bool (cutL d.toNat s.data.toList).2.2]) ∧ ∃ n, w' = w.drewN n := by
  obtain ⟨m, hm⟩ := h
  refine (Tryz.strings_Cut s ⟨#[d]⟩ m w (by omega) hm).mono ?_
  rintro e w' ⟨rfl, hw⟩
  refine ⟨?_, hw⟩
  have e : Lib.cut s.data.toList (⟨#[d]⟩ : ByteArray).data.toList = cutL d.toNat s.data.toList := cut_lib d _
  rw [e]; rfl
theorem cross_any (s : ByteArray) (w : World) (h : Mx w) (hs : s.size ≤ 1000000) :
    Calls Tryz.prog 123 #[.string s] w fun e w' => e = .returned (.string (bs (cutL 35 s.data.toList).1)) ∧ ∃ n, w' = w.drewN n := by
  go_enter Tryz.func123, Tryz.ntmps123
  go_wp2_with fail
  refine (cut_any s 35 _ h hs).mono ?_
  rintro e w1 ⟨rfl, n, rfl⟩
  go_wp2
  go_ret
  exact ⟨rfl, n, rfl⟩
theorem clone_nil (n c : Nat) (w : World) : Calls Tryz.prog 179 #[.slice none n c] w fun e w' => e = .returned (.slice none 0 0) ∧ w' = w := Tryz.slices_Clone_string_nil n c w
theorem split_any (s : ByteArray) (w : World) (h : Mx w) (hs : s.size ≤ 1000000) :
    Calls Tryz.prog 180 #[.string s, .string ⟨#[47]⟩] w fun e w' => e = .returned (.slice (some ⟨w.heap.size, 0, none⟩) (splitS 47 s).length (splitS 47 s).length) ∧ w' = w.alloc (.cells ((splitS 47 s).map Value.string).toArray 9) := by
  obtain ⟨m, hm⟩ := h
  refine (Tryz.strings_Split s ⟨#[47]⟩ m w (by omega) hm (by decide)).mono ?_
  rintro e w' ⟨rfl, rfl⟩
  have e1 : Lib.splitB ⟨#[47]⟩ 0 (Lib.countB s ⟨#[47]⟩) s = splitS 47 s := splitB_lib 47 s
  have e2 : Lib.countB s ⟨#[47]⟩ + 1 = (splitS 47 s).length := by
    rw [← e1]; exact (Lib.splitB_all ⟨#[47]⟩ (by decide) 0 _ s rfl).symm
  rw [e1, e2]
  exact ⟨rfl, rfl⟩

theorem pre_ext (s : ByteArray) : (s.extract 0 2).toList = s.data.toList.take 2 := by rw [ByteArray.toList_eq, ext_take, bs_list]
theorem ret2 {a b : ByteArray} {x : Bool} (h : a = b) : Ending.returned (.tuple #[.string a, .bool x]) = .returned (.tuple #[.string b, .bool x]) := by rw [h]
theorem prefix_no (s : ByteArray) (w : World) (hs : s.size ≤ 1000000) (hn : ¬ s.data.toList.take 2 = [47, 47]) :
    Calls Tryz.prog 150 #[.string s, .string ⟨#[47, 47]⟩] w fun e w' => e = .returned (.tuple #[.string s, .bool false]) ∧ w' = w := by
  have HN : Hid _ := hn
  clear hn
  by_cases h2 : s.size < 2
  · go_enter Tryz.func150, Tryz.ntmps150
    go_wp2
    go_ret2
    exact ⟨rfl, rfl⟩
  · have he : ((s.extract 0 2).toList == [47, 47]) = false := by
      rw [pre_ext]
      cases hc : (s.data.toList.take 2 == [47, 47]) with
      | false => rfl
      | true => exact absurd (eq_of_beq hc) HN.out
    go_enter Tryz.func150, Tryz.ntmps150
    go_wp2
    go_ret2
    exact ⟨rfl, rfl⟩
theorem prefix_yes (s : ByteArray) (w : World) (hs : s.size ≤ 1000000) (hy : s.data.toList.take 2 = [47, 47]) :
    Calls Tryz.prog 150 #[.string s, .string ⟨#[47, 47]⟩] w fun e w' => e = .returned (.tuple #[.string (bs (s.data.toList.drop 2)), .bool true]) ∧ w' = w := by
  have h2 : ¬ s.size < 2 := by
    have := congrArg List.length hy
    simp at this; omega
  have he : ((s.extract 0 2).toList == [47, 47]) = true := by rw [pre_ext, hy]; rfl
  have HE : Hid (s.extract 2 s.size = bs (s.data.toList.drop 2)) := ext_drop s 2
  clear hy
  go_enter Tryz.func150, Tryz.ntmps150
  go_wp2
  go_ret2
  exact ⟨ret2 HE.out, rfl⟩

set_option maxRecDepth 100000 in
set_option maxHeartbeats 1600000 in
theorem lower_any (s : ByteArray) (w : World) (hs : s.size ≤ 1000000) :
    Calls Tryz.prog 153 #[.string s] w fun e w' => e = .returned (.string (bs (smallL s.data.toList))) ∧ Below w.heap.size w w' := by
  obtain ⟨cap, wm, hrun, hcap, hcell, hfz, hbm⟩ := bytes_of s w
  have HC : Hid _ := hcell
  have HF : Hid _ := hfz
  clear hcell hfz
  go_enter Tryz.func153, Tryz.ntmps153
  go_wp2
  go_loopw [10] (fun i wr => ∃ k : Nat, k ≤ s.size ∧ i = .int .i64 (k : Int) ∧ Hid (∀ j (h : j < s.size), wr.cell? ⟨w.heap.size, j, none⟩ = some (.int .u8 (if j < k then smallZ (s[j]'h).toNat else ((s[j]'h).toNat : Int)))) ∧ Hid (∀ j, j < s.size → wr.frozen? ⟨w.heap.size, j, none⟩ = false) ∧ Below w.heap.size w wr) (fun i _ => s.size - (intOf i).toNat)
  case atStart => exact ⟨0, Nat.zero_le _, rfl, (by intro j h; rw [HC.out j h]; simp), HF, hbm⟩
  case round =>
    obtain ⟨k, hk, rfl, HK, HZ, hbel⟩ := hrel
    clear hrun
    by_cases hlt : k < s.size
    · have ck := HK.out k hlt
      rw [if_neg (by omega)] at ck
      have zk := HZ.out k hlt
      have hble := byte_le (s[k]'hlt)
      have HSM : Hid (smallZ (s[k]'hlt).toNat = if 65 ≤ ((s[k]'hlt).toNat : Int) ∧ ((s[k]'hlt).toNat : Int) ≤ 90 then ((s[k]'hlt).toNat : Int) + 32 else ((s[k]'hlt).toNat : Int)) := rfl
      by_cases h1 : 65 ≤ ((s[k]'hlt).toNat : Int)
      · by_cases h2 : ((s[k]'hlt).toNat : Int) ≤ 90
        · have HN : Hid _ := small_set (B := w.heap.size) (v := ((s[k]'hlt).toNat : Int) + 32) hlt HK.out (by rw [HSM.out, if_pos ⟨h1, h2⟩])
          have HW : Hid (Below w.heap.size w (wr.setCell ⟨w.heap.size, k, none⟩ (.int .u8 (((s[k]'hlt).toNat : Int) + 32)))) := Below.setCell hbel (Nat.le_refl _) _
          go_wp2
          go_roundw
          case rel => exact ⟨k + 1, by omega, by go_num, HN.out, (by intro j h; rw [World.frozen?_setCell]; exact HZ.out j h), HW.out⟩
          case measure => simp [intOf]; omega
        · have HN : Hid _ := small_keep hlt HK.out (by rw [HSM.out, if_neg (by omega)])
          go_wp2
          go_roundw
          case rel => exact ⟨k + 1, by omega, by go_num, HN.out, HZ, hbel⟩
          case measure => simp [intOf]; omega
      · have HN : Hid _ := small_keep hlt HK.out (by rw [HSM.out, if_neg (by omega)])
        go_wp2
        go_roundw
        case rel => exact ⟨k + 1, by omega, by go_num, HN.out, HZ, hbel⟩
        case measure => simp [intOf]; omega
    · have hstr : (convert 119 9 (.slice (some ⟨w.heap.size, 0, none⟩) s.size cap)).run Tryz.prog wr = .ok (.string (bs (smallL s.data.toList))) wr := by
        have hl : (smallL s.data.toList).length = s.size := by simp [smallL]
        have := run_convert_bytes_back (P := Tryz.prog) wr 119 9 5 ⟨w.heap.size, 0, none⟩ cap (smallL s.data.toList) Tryz.underlying119 Tryz.underlying5 Tryz.underlying9 ?_
        · rw [hl] at this; exact this
        · intro j hj
          have hj' : j < s.size := by omega
          rw [add_mk, Nat.zero_add, HK.out j hj', if_pos (by omega)]
          have hb := byte_le (s[j]'hj')
          have hz : 0 ≤ smallZ (s[j]'hj').toNat ∧ smallZ (s[j]'hj').toNat ≤ 255 := by unfold smallZ; split <;> omega
          have e : (smallL s.data.toList)[j] = toB (smallZ (s[j]'hj').toNat) := by simp [smallL]; rfl
          rw [e, toB_toNat _ hz.1 hz.2]
      go_wp2
      go_ret
      exact ⟨rfl, hbel⟩
end Go.Proofs.YtboncolbijicfaaGreatDoor.Im
/- The program's reading of a way, from no parts. -/
namespace Go.Proofs.YtboncolbijicfaaGreatDoor.Im
open Go.RowKit Go.Proofs.YtboncolbijicfaaGreatDoor.EscM Go.Proofs.YtboncolbijicfaaGreatDoor.AddrM Go.Proofs.YtboncolbijicfaaGreatDoor.ReadM Go.Proofs.YtboncolbijicfaaGreatDoor.St Go.Proofs.YtboncolbijicfaaGreatDoor.EscL Go.Proofs.YtboncolbijicfaaGreatDoor.PathM Go.Proofs.YtboncolbijicfaaGreatDoor.Ad1 Go.Proofs.YtboncolbijicfaaGreatDoor.Rd1 Go.Proofs.YtboncolbijicfaaGreatDoor.LibM

set_option maxRecDepth 100000 in
set_option maxHeartbeats 4000000 in
theorem implWay_nil (house way : ByteArray) (w : World) (hM : Mx w) (hh : house.size ≤ 1000) (hw : way.size ≤ 60) :
    Calls Tryz.prog 152 #[.string house, .slice none 0 0, .string way] w fun e w' => Reads (wayF house [] way) w e w' := by
  obtain ⟨i0, hi, hz0, hz1, hz2⟩ := info_parts Tryz.infoS
  have hcl := cut_len 63 way.data.toList
  have hwl : way.data.toList.length = way.size := by simp
  obtain ⟨x, y, f, hcut⟩ : ∃ x y f, cutL 63 way.data.toList = (x, y, f) := ⟨_, _, _, rfl⟩
  have HW : Hid _ := way_cut (house := house) (frm := []) hcut
  rw [bs_data] at HW
  rw [hcut] at hcl
  have hxl : x.length ≤ 60 := by have := hcl.1; simp at this; omega
  have hyl : y.length ≤ 60 := by have := hcl.1; simp at this; omega
  have HCUT := fun W hW => cut_any way 63 W hW (by omega)
  have e63 : ((63 : UInt8).toNat : Int) = 63 := rfl
  rw [e63, hcut] at HCUT
  have HCU : Hid _ := HCUT
  have HM : Hid (Mx w) := hM
  have hby : (bs y).size ≤ maxLen := by rw [bs_size]; unfold maxLen; omega
  clear hcl hcut hwl HCUT hM
  go_enter Tryz.func152, Tryz.ntmps152
  go_wp2_with fail
  refine (HCU.out _ (HM.out.alloc _)).mono ?_
  rintro e w1 ⟨rfl, nq, hw1⟩
  have HB1 : Hid (Below (w.heap.size + 1) (w.alloc (.cells #[.string ⟨#[]⟩, .slice none 0 0, .bool false, .string ⟨#[]⟩] 73)) w1) := by
    subst hw1
    exact ⟨rfl, rfl, rfl, Nat.le_refl _, fun _ _ => rfl⟩
  have HM1 : Hid (Mx w1) := by subst hw1; exact (HM.out.alloc _).drewN _
  clear hw1
  dsimp only
  go_wp2_with fail
  refine (implEsc_any (bs y) _ hby).mono ?_
  rintro e w2 ⟨rfl, hb2⟩
  have hz1' : w.heap.size + 1 ≤ w1.heap.size := by have := HB1.out.size; simp at this; omega
  have HB2 : Hid (Below (w.heap.size + 1) (w.alloc (.cells #[.string ⟨#[]⟩, .slice none 0 0, .bool false, .string ⟨#[]⟩] 73)) w2) := HB1.out.trans (hb2.mono hz1')
  have HM2 : Hid (Mx w2) := HM1.out.below hb2
  clear hb2 HB1 HM1
  have hb2' := HB2.out
  obtain ⟨⟨d0, d1, d2, d3⟩, dz⟩ := one_cells hb2'
  clear hb2'
  cases hq : escB (bs y) with
  | false =>
    have HNo : Hid (wayF house [] way = none) := by
      show _ = _
      rw [HW.out]
      split
      · rfl
      · rw [hq]; rfl
    clear hq
    go_wp2
    refine bodyPost_ret (v := .tuple #[.agg #[.string ⟨#[]⟩, .slice none 0 0, .bool false, .string ⟨#[]⟩], .bool false]) (by simp [results, Tryz.results152, go_sem, d0, d1, d2, d3]) rfl ?_
    refine ⟨zeroAd, false, none, 0, rfl, Or.inr ⟨rfl, HNo.out, rfl⟩, Owns.nil _ _, ?_⟩
    have hbw : Below w.heap.size w w2 := ((Below.refl _ w).alloc (Nat.le_refl _) _).trans (HB2.out.mono (by omega))
    iterate 4 refine Below.setCell ?_ (by dsimp only; omega) _
    exact hbw
  | true =>
    have HQ : Hid _ := hq
    clear hq
    go_wp2_with fail
    refine (clone_nil _ _ _).mono ?_
    rintro e w3 ⟨rfl, rfl⟩
    go_wp2_with fail
    refine (split_any (bs x) _ HM2.out (by rw [bs_size]; omega)).mono ?_
    rintro e w4 ⟨rfl, hw4⟩
    obtain ⟨S, hS⟩ : ∃ S, w3.heap.size = S := ⟨_, rfl⟩
    have hz3 : w.heap.size + 1 ≤ S := by have := HB2.out.size; simp at this; omega
    have hSz : w4.heap.size = S + 1 := by rw [hw4]; simp; exact hS
    have hsl : (splitS 47 (bs x)).length ≤ 61 := by
      unfold splitS
      rw [List.length_map]
      have h1 := split_len 47 (bs x).data.toList
      rw [bs_list] at h1 ⊢; omega
    have hpm : ∀ z ∈ splitS 47 (bs x), z.size ≤ 60 := fun z hz => by have := splitS_mem 47 _ z hz; rw [bs_size] at this; omega
    have hIs : IsStrs w4 (some ⟨S, 0, none⟩) (splitS 47 (bs x)).length (splitS 47 (bs x)) := by
      refine ⟨Nat.le_refl _, by unfold maxLen; omega, (fun e => by cases e), fun _ => ⟨S, 0, rfl, fun i hi => ?_⟩⟩
      have hb : w4.heap[S]? = some (.cells ((splitS 47 (bs x)).map Value.string).toArray 9) := by rw [hw4, ← hS]; show (w3.heap.push _)[w3.heap.size]? = _; simp
      unfold World.cell?
      dsimp only
      rw [hb]; simp [List.getElem?_eq_getElem hi]
    have HB4 : Hid (Below (w.heap.size + 1) (w.alloc (.cells #[.string ⟨#[]⟩, .slice none 0 0, .bool false, .string ⟨#[]⟩] 73)) w4) := by rw [hw4]; exact HB2.out.alloc (by rw [hS]; exact hz3) _
    have HPM : Hid _ := hpm
    have HIS : Hid (IsStrs w4 (some ⟨S, 0, none⟩) (splitS 47 (bs x)).length (splitS 47 (bs x))) := hIs
    clear hpm hIs hw4 d0 d1 d2 d3 dz HB2 HM2
    generalize hP : splitS 47 (bs x) = P at *
    have HP : Hid _ := hP
    clear hP
    have hzs : S + 1 ≤ w4.heap.size := by omega
    clear hSz
    go_wp2
    go_loopw [13, 38] (fun v i wr => ∃ k : Nat, k ≤ P.length ∧ i = .int .i64 (k : Int) ∧ Hid (Owns wr (S + 1) v ((P.take k).map escS)) ∧ Hid (∀ z ∈ P.take k, escB z = true) ∧ Hid (IsStrs wr (some ⟨S, 0, none⟩) P.length P) ∧
        Hid (Below (w.heap.size + 1) (w.alloc (.cells #[.string ⟨#[]⟩, .slice none 0 0, .bool false, .string ⟨#[]⟩] 73)) wr) ∧ S + 1 ≤ wr.heap.size) (fun _ i _ => P.length - (intOf i).toNat)
    case atStart => exact ⟨0, Nat.zero_le _, rfl, (by show Owns _ _ _ _; simpa using Owns.nil w4 (S + 1)), (by intro z hz; simp at hz), HIS, HB4, hzs⟩
    case round =>
      obtain ⟨k, hk, rfl, HO, HE, HI, HB, hzr⟩ := hrel
      have hb := HB.out
      obtain ⟨⟨d0, d1, d2, d3⟩, dz⟩ := one_cells hb
      clear hb
      by_cases hlt : k < P.length
      · obtain ⟨b, o, e, c⟩ := HI.out.at hlt
        injection e with e
        injection e with e1 e2 _
        subst e1; subst e2
        rw [Nat.zero_add] at c
        have hpz := HPM.out _ (List.getElem_mem hlt)
        have hpz' : P[k].size ≤ maxLen := by unfold maxLen; omega
        cases hq : escB P[k] with
        | false =>
          have HNo : Hid (wayF house [] way = none) := by show _ = _; rw [HW.out, normS_no hlt hq]
          have HF : Hid _ := hq
          clear hq
          go_wp2_with fail
          refine (implEsc_any P[k] _ hpz').mono ?_
          rintro e w6 ⟨rfl, hb6⟩
          rw [HF.out]
          have HB6 : Hid (Below (w.heap.size + 1) (w.alloc (.cells #[.string ⟨#[]⟩, .slice none 0 0, .bool false, .string ⟨#[]⟩] 73)) w6) := HB.out.trans (hb6.mono (by omega))
          clear hb6 d0 d1 d2 d3 dz
          have hb6' := HB6.out
          obtain ⟨⟨d0, d1, d2, d3⟩, dz⟩ := one_cells hb6'
          clear hb6'
          go_wp2
          refine bodyPost_ret (v := .tuple #[.agg #[.string ⟨#[]⟩, .slice none 0 0, .bool false, .string ⟨#[]⟩], .bool false]) (by simp [results, Tryz.results152, go_sem, d0, d1, d2, d3]) rfl ?_
          refine ⟨zeroAd, false, none, 0, rfl, Or.inr ⟨rfl, HNo.out, rfl⟩, Owns.nil _ _, ?_⟩
          have hbw : Below w.heap.size w w6 := ((Below.refl _ w).alloc (Nat.le_refl _) _).trans (HB6.out.mono (by omega))
          iterate 4 refine Below.setCell ?_ (by dsimp only; omega) _
          exact hbw
        | true =>
          have HT : Hid ((P.take (k + 1)).map escS = (P.take k).map escS ++ [escS P[k]]) := by
            show _ = _
            rw [List.take_succ_eq_append_getElem hlt, List.map_append]; rfl
          have HE2 : Hid (∀ z ∈ P.take (k + 1), escB z = true) := by
            intro z hz
            rw [List.take_succ_eq_append_getElem hlt] at hz
            rcases List.mem_append.1 hz with hz | hz
            · exact HE.out z hz
            · simp at hz; subst hz; exact hq
          have HF : Hid _ := hq
          clear hq
          have hlen : ((P.take k).map escS).length ≤ k := by simp; omega
          go_wp2_with fail
          refine (implEsc_any P[k] _ hpz').mono ?_
          rintro e w6 ⟨rfl, hb6⟩
          rw [HF.out]
          have HB6 : Hid (Below (w.heap.size + 1) (w.alloc (.cells #[.string ⟨#[]⟩, .slice none 0 0, .bool false, .string ⟨#[]⟩] 73)) w6) := HB.out.trans (hb6.mono (by omega))
          have HO6 : Hid (Owns w6 (S + 1) u13 ((P.take k).map escS)) := Owns.below HO.out hb6
          have HI6 : Hid (IsStrs w6 (some ⟨S, 0, none⟩) P.length P) := HI.out.below hb6
          have hz6 : S + 1 ≤ w6.heap.size := Nat.le_trans hzr hb6.size
          clear hb6 d0 d1 d2 d3 dz c
          generalize escS P[k] = p at *
          obtain ⟨ao, co, hv, hst⟩ := HO6.out.strs
          have hso := hst.1
          have hsm := hst.2.1
          unfold maxLen at hsm
          clear hst
          generalize hX : (P.take k).map escS = X at *
          subst hv
          go_wp2_with (at_builtin; refine wpList_append_own _ rfl _ _ 24 rfl (S + 1) 9 i0 (.string ⟨#[]⟩) 1 16 Tryz.underlying24 hi hz0 hz1 hz2 rfl (by decide) _ _ _ rfl (World.ownsRow.alloc HO6.out _) ⟨w6.heap.size, 0, none⟩ 1 1 [.string p] rfl rfl (cell_one_new _ _ _) ?c2 ?c3 ?c4 ?c5 ?_)
          case c2 => intro u hu; simp at hu; subst hu; rfl
          case c3 => unfold maxLen; omega
          case c4 => omega
          case c5 => simp; omega
          intro v' w7 hown' hgrow _
          have HO' : Hid _ := hown'
          have hbg : Below (S + 1) w6 w7 := Below.grown ((Below.refl _ _).alloc hz6 _) hgrow (by simp; omega) (Owns.block HO6.out)
          have HB7 : Hid (Below (w.heap.size + 1) (w.alloc (.cells #[.string ⟨#[]⟩, .slice none 0 0, .bool false, .string ⟨#[]⟩] 73)) w7) := HB6.out.trans (hbg.mono (by omega))
          have HI7 : Hid (IsStrs w7 (some ⟨S, 0, none⟩) P.length P) := by
            obtain ⟨j1, j2, j3, j4⟩ := HI6.out
            refine ⟨j1, j2, j3, fun hne => ?_⟩
            obtain ⟨bb, off, e, hc⟩ := j4 hne
            refine ⟨bb, off, e, fun i hi => ?_⟩
            injection e with e
            injection e with e1 e2 _
            subst e1
            rw [hbg.cell (by show S < S + 1; omega)]; exact hc i hi
          have hz7 : S + 1 ≤ w7.heap.size := Nat.le_trans hz6 hbg.size
          clear hown' hgrow hbg
          go_wp2
          go_roundw
          case rel => exact ⟨k + 1, by omega, by go_num, by rw [HT.out]; exact Owns.append HO'.out, HE2, HI7, HB7, hz7⟩
          case measure => simp [intOf]; omega
      · have hall : P.take k = P := List.take_of_length_le (by omega)
        rw [hall] at HO HE
        clear hall
        have HN : Hid (wayF house [] way = if okB ⟨house, cleanL (P.map escS), f, escS (bs y)⟩ = true then some ⟨house, cleanL (P.map escS), f, escS (bs y)⟩ else none) := by
          show _ = _
          rw [HW.out, normS_all HE.out, HQ.out]
          simp only [if_true, List.nil_append]
        have hXl : (P.map escS).length ≤ 61 := by simp; omega
        have hXs : sumS (cleanL (P.map escS)) ≤ 61 * 180 := by
          refine Nat.le_trans (sum_clean _) (Nat.le_trans (sum_le (m := 180) (fun z hz => ?_)) (Nat.mul_le_mul_right _ hXl))
          obtain ⟨q, _, rfl⟩ := List.mem_map.1 hz
          exact escS_size q
        have hcl := clean_len (P.map escS)
        have hys := escS_size (bs y)
        have HBK : Hid (bulkA ⟨house, cleanL (P.map escS), f, escS (bs y)⟩ ≤ 4194304) := by
          show house.size + sumS (cleanL (P.map escS)) + (cleanL (P.map escS)).length + (escS (bs y)).size ≤ _
          omega
        generalize hX : P.map escS = X at *
        generalize hA : escS (bs y) = ask at *
        clear hX hA hXs hcl hys d0 d1 d2 d3 dz HE HW HI
        obtain ⟨a5, c5, hv5, hS5⟩ := HO.out.strs
        subst hv5
        go_wp2_with fail
        refine (implPath_any a5 c5 X _ hS5 (by omega)).mono ?_
        rintro e w8 ⟨v8, rfl, hO8, hb8⟩
        obtain ⟨a8, c8, hv8, hS8⟩ := hO8.strs
        subst hv8
        have HB8 : Hid (Below (w.heap.size + 1) (w.alloc (.cells #[.string ⟨#[]⟩, .slice none 0 0, .bool false, .string ⟨#[]⟩] 73)) w8) := HB.out.trans (hb8.mono (by omega))
        have HO8 : Hid (Owns w8 (w.heap.size + 1) (.slice a8 (cleanL X).length c8) (cleanL X)) := Owns.mono hO8 (by omega)
        have hz8 : S + 1 ≤ w8.heap.size := Nat.le_trans hzr hb8.size
        clear hO8 hb8 hS8 hS5
        have HX8 : Hid ((w8.alloc (.cells #[.string house, .slice a8 (cleanL X).length c8, .bool f, .string ask] 73)).heap[w8.heap.size]? = some (.cells #[.string house, .slice a8 (cleanL X).length c8, .bool f, .string ask] 73)) := by
          show (w8.heap.push _)[w8.heap.size]? = _
          simp
        have HB8a : Hid (Below (w.heap.size + 1) (w.alloc (.cells #[.string ⟨#[]⟩, .slice none 0 0, .bool false, .string ⟨#[]⟩] 73)) (w8.alloc (.cells #[.string house, .slice a8 (cleanL X).length c8, .bool f, .string ask] 73))) := HB8.out.alloc (by omega) _
        have HO8a : Hid (Owns (w8.alloc (.cells #[.string house, .slice a8 (cleanL X).length c8, .bool f, .string ask] 73)) (w.heap.size + 1) (.slice a8 (cleanL X).length c8) (cleanL X)) := Owns.keep HO8.out (alloc_keep w8 _)
        obtain ⟨G, hG⟩ : ∃ G, w8.heap.size = G := ⟨_, rfl⟩
        have hGw : w.heap.size + 1 ≤ G := by omega
        rw [hG] at HX8
        go_wp2_with fail
        refine (implOk_any ⟨house, cleanL X, f, ask⟩ a8 c8 _ (Owns.strsOf HO8a.out) HBK.out).mono ?_
        rintro e w9 ⟨rfl, hb9⟩
        have hz9 : (w8.alloc (.cells #[.string house, .slice a8 (cleanL X).length c8, .bool f, .string ask] 73)).heap.size = G + 1 := by simp; exact hG
        have HB9 : Hid (Below (w.heap.size + 1) (w.alloc (.cells #[.string ⟨#[]⟩, .slice none 0 0, .bool false, .string ⟨#[]⟩] 73)) w9) := HB8a.out.trans (hb9.mono (by omega))
        have HO9 : Hid (Owns w9 (w.heap.size + 1) (.slice a8 (cleanL X).length c8) (cleanL X)) := Owns.below HO8a.out hb9
        have hx9 : w9.heap[G]? = some (.cells #[.string house, .slice a8 (cleanL X).length c8, .bool f, .string ask] 73) := by rw [hb9.block G (by omega)]; exact HX8.out
        have k0 : w9.cell? ⟨G, 0, none⟩ = some (.string house) := by simp [World.cell?, hx9]
        have k1 : w9.cell? ⟨G, 1, none⟩ = some (.slice a8 (cleanL X).length c8) := by simp [World.cell?, hx9]
        have k2 : w9.cell? ⟨G, 2, none⟩ = some (.bool f) := by simp [World.cell?, hx9]
        have k3 : w9.cell? ⟨G, 3, none⟩ = some (.string ask) := by simp [World.cell?, hx9]
        clear hb9 hz9 hx9 HX8 HB8a HO8a HO8 HB8 hG
        have hb9' := HB9.out
        obtain ⟨⟨d0, d1, d2, d3⟩, dz⟩ := one_cells hb9'
        clear hb9'
        have hbw : Below w.heap.size w w9 := ((Below.refl _ w).alloc (Nat.le_refl _) _).trans (HB9.out.mono (by omega))
        have HBW : Hid _ := hbw
        clear hbw
        cases hk2 : okB ⟨house, cleanL X, f, ask⟩ with
        | false =>
          have HNo : Hid (wayF house [] way = none) := by show _ = _; rw [HN.out, hk2]; rfl
          clear hk2
          go_wp2
          refine bodyPost_ret (v := .tuple #[.agg #[.string ⟨#[]⟩, .slice none 0 0, .bool false, .string ⟨#[]⟩], .bool false]) (by simp [results, Tryz.results152, go_sem, d0, d1, d2, d3]) rfl ?_
          refine ⟨zeroAd, false, none, 0, rfl, Or.inr ⟨rfl, HNo.out, rfl⟩, Owns.nil _ _, ?_⟩
          have hbw := HBW.out
          iterate 4 refine Below.setCell ?_ (by dsimp only; omega) _
          exact hbw
        | true =>
          have HYes : Hid (wayF house [] way = some ⟨house, cleanL X, f, ask⟩) := by show _ = _; rw [HN.out, hk2]; rfl
          clear hk2
          go_wp2
          refine bodyPost_ret (v := .tuple #[.agg #[.string house, .slice a8 (cleanL X).length c8, .bool f, .string ask], .bool true]) (by simp [results, Tryz.results152, go_sem, d0, d1, d2, d3]) rfl ?_
          refine ⟨⟨house, cleanL X, f, ask⟩, true, a8, c8, rfl, Or.inl ⟨rfl, HYes.out⟩, ?_, ?_⟩
          · refine Owns.mono (?_ : Owns _ (w.heap.size + 1) _ _) (by omega)
            have hO := HO9.out
            iterate 4 refine ownsRow_setCell_below ?_ (by dsimp only; omega) _
            exact hO
          · have hbw := HBW.out
            iterate 4 refine Below.setCell ?_ (by dsimp only; omega) _
            exact hbw
end Go.Proofs.YtboncolbijicfaaGreatDoor.Im
