/- Several texts in one: Read1, Read2, MarkA, Nm1. -/
import Derived.Test.YtiennniclkbjlaaGreatDoorReadMath
import Derived.Test.YtiennniclkbjlaaGreatDoorEscLeafPk
import Derived.Test.YtiennniclkbjlaaGreatDoorStrsPk
import Derived.Test.YtiennniclkbjlaaGreatDoorAddrMath
/- The model's reading of an address: cut, split, small letters. -/
namespace Go.Proofs.YtiennniclkbjlaaGreatDoor.Rd1
open Go.RowKit Go.Proofs.YtiennniclkbjlaaGreatDoor.EscM Go.Proofs.YtiennniclkbjlaaGreatDoor.AddrM Go.Proofs.YtiennniclkbjlaaGreatDoor.ReadM Go.Proofs.YtiennniclkbjlaaGreatDoor.St Go.Proofs.YtiennniclkbjlaaGreatDoor.EscL

theorem bs_data (s : ByteArray) : bs s.data.toList = s := by unfold bs; cases s; simp
theorem ext_take (s : ByteArray) (k : Nat) : s.extract 0 k = bs (s.data.toList.take k) := by
  unfold bs; apply ByteArray.ext; apply Array.toList_inj.1; simp [ByteArray.data_extract]
theorem ext_drop (s : ByteArray) (k : Nat) : s.extract k s.size = bs (s.data.toList.drop k) := by
  unfold bs; apply ByteArray.ext; apply Array.toList_inj.1; simp [ByteArray.data_extract]
  rw [List.take_of_length_le (by simp)]

theorem ret3 {a b c d : ByteArray} {x y : Bool} (h : a = b) (h' : c = d) (h'' : x = y) : Ending.returned (.tuple #[.string a, .string c, .bool x]) = .returned (.tuple #[.string b, .string d, .bool y]) := by rw [h, h', h'']

set_option maxRecDepth 100000 in
set_option maxHeartbeats 1600000 in
theorem specCut_any (s : ByteArray) (c : Int) (w : World) (hs : s.size ≤ 4194304) (_hc0 : 0 ≤ c) (_hc1 : c ≤ 255) :
    Calls Tryz.prog 82 #[.string s, .int .u8 c] w fun e w' => e = .returned (.tuple #[.string (bs (cutL c s.data.toList).1), .string (bs (cutL c s.data.toList).2.1), .bool (cutL c s.data.toList).2.2]) ∧ ∃ n, w' = w.drewN n := by
  go_enter Tryz.func82, Tryz.ntmps82
  go_wp2
  go_loop [7] (fun i => ∃ k : Nat, k ≤ s.size ∧ i = .int .i64 (k : Int) ∧ Hid (∀ i (hi : i < k) (hi2 : i < s.data.toList.length), ((s.data.toList[i]'hi2).toNat : Int) ≠ c)) (fun i => s.size - (intOf i).toNat)
  case atStart => exact ⟨0, Nat.zero_le _, rfl, fun i hi => absurd hi (by omega)⟩
  case round =>
    obtain ⟨k, hk, rfl, HN⟩ := hrel
    by_cases hlt : k < s.size
    · have hlt' : k < s.data.toList.length := by simpa using hlt
      by_cases he : ((s[k]'hlt).toNat : Int) = c
      · have HC : Hid (cutL c s.data.toList = (s.data.toList.take k, s.data.toList.drop (k + 1), true)) := cut_at c _ k hlt' (fun i hi => HN.out i hi (by omega)) he
        have heb : (((s[k]'hlt).toNat : Int) == c) = true := by simpa using he
        have hw1 : IntKind.i64.wrap ((k : Int) + 1) = (k : Int) + 1 := IntWalk.i64_in _ (by omega)
        have hb1 : (k : Int) + 1 ≤ (s.size : Int) := by omega
        have hb0 : (0 : Int) ≤ (k : Int) + 1 := by omega
        have hb2 : (k : Int) ≤ (s.size : Int) := by omega
        clear he
        go_wp2
        go_quiet (fail)
        go_wp2
        go_ret3
        rw [HC.out]
        exact ⟨ret3 (ext_take s k) (ext_drop s (k + 1)) rfl, nq, rfl⟩
      · have HN2 : Hid (∀ i (hi : i < k + 1) (hi2 : i < s.data.toList.length), ((s.data.toList[i]'hi2).toNat : Int) ≠ c) := by
          intro i hi hi2
          by_cases e : i = k
          · subst e; exact he
          · exact HN.out i (by omega) hi2
        have heb : (((s[k]'hlt).toNat : Int) == c) = false := by simpa using he
        clear he
        go_wp2
        go_round
        case rel => exact ⟨k + 1, by omega, by go_num, HN2.out⟩
        case measure => simp [intOf]; omega
    · have HC : Hid (cutL c s.data.toList = (s.data.toList, [], false)) := cut_none c _ (fun i hi => HN.out i (by simp at hi; omega) hi)
      go_wp2
      go_ret3
      rw [HC.out]
      exact ⟨ret3 (bs_data s).symm rfl rfl, 0, rfl⟩

def splitM (r m : Value) : Nat := match r, m with | .string s, .bool true => s.size + 1 | _, _ => 0
theorem bs_size (l : List UInt8) : (bs l).size = l.length := by unfold bs; show l.toArray.size = _; simp

set_option maxRecDepth 100000 in
set_option maxHeartbeats 1600000 in
theorem specSplit_any (s : ByteArray) (c : Int) (w : World) (hs : s.size ≤ 1000000) (hc0 : 0 ≤ c) (hc1 : c ≤ 255) :
    Calls Tryz.prog 131 #[.string s, .int .u8 c] w fun e w' => ∃ v, e = .returned v ∧ Owns w' w.heap.size v (splitS c s) ∧ Below w.heap.size w w' := by
  obtain ⟨i0, hi, hz0, hz1, hz2⟩ := info_parts Tryz.infoS
  go_enter Tryz.func131, Tryz.ntmps131
  go_wp2
  go_loopw [5, 6, 7] (fun v r m wr => ∃ (L : List ByteArray) (l : List UInt8) (b : Bool), r = .string (bs l) ∧ m = .bool b ∧ Hid (splitS c s = L ++ if b then (splitL c l).map bs else []) ∧ Hid (Owns wr w.heap.size v L) ∧ Below w.heap.size w wr ∧ L.length + l.length ≤ s.size + 1 ∧ (b = true → L.length + l.length ≤ s.size)) (fun _ r m _ => splitM r m)
  case atStart => exact ⟨[], s.data.toList, true, by rw [bs_data], rfl, by show _ = _; simp [splitS], Owns.empty _ _ (Nat.le_refl _), (Below.refl _ _).alloc (Nat.le_refl _) _, by simp, by simp⟩
  case round =>
    obtain ⟨L, l, b, rfl, rfl, HE, HO, hbel, hlen, hlen2⟩ := hrel
    cases b with
    | true =>
      have hl2 := hlen2 rfl
      have hcl := cut_len c l
      have hsc := split_cut c l
      have HC : Hid _ := hcl
      have HSC : Hid _ := hsc
      clear hcl hsc hlen hlen2
      go_wp2_with fail
      refine (specCut_any (bs l) c _ (by rw [bs_size]; omega) hc0 hc1).mono ?_
      rintro e w1 ⟨rfl, n, rfl⟩
      rw [show (bs l).data.toList = l from by unfold bs; simp]
      have HO1 : Hid (Owns (wr.drewN n) w.heap.size u5 L) := Owns.keep HO.out fun _ _ => rfl
      have hb1 : Below w.heap.size w (wr.drewN n) := below_drewN hbel n
      generalize wr.drewN n = w1 at *
      generalize (cutL c l).1 = x at *
      generalize (cutL c l).2.1 = y at *
      generalize (cutL c l).2.2 = f at *
      go_wp2_with (at_builtin; refine wpList_append_own _ rfl _ _ 23 rfl w.heap.size 9 i0 (.string ⟨#[]⟩) 1 16 Tryz.underlying23 hi hz0 hz1 hz2 rfl (by decide) _ _ _ rfl (World.ownsRow.alloc HO1.out _) ⟨w1.heap.size, 0, none⟩ 1 1 [.string (bs x)] rfl rfl (cell_one_new _ _ _) ?c2 ?c3 ?c4 ?c5 ?_)
      case c2 => intro u hu; simp at hu; subst hu; rfl
      case c3 => unfold maxLen; omega
      case c4 => omega
      case c5 => have := hb1.size; simp; omega
      intro v' w2 hown' hgrow _
      have HO' : Hid _ := hown'
      have HG : Hid _ := hgrow
      clear hown' hgrow
      go_wp2
      go_roundw
      case rel =>
        refine ⟨L ++ [bs x], y, f, rfl, rfl, ?_, Owns.append HO'.out, ?_, ?_, ?_⟩
        · show _ = _
          rw [HE.out]
          simp only [if_true]
          rw [HSC.out]
          cases f <;> simp
        · exact Below.grown (hb1.alloc hb1.size _) HG.out (by have := hb1.size; simp; omega) (Owns.block HO1.out)
        · have := HC.out.1; simp; omega
        · intro h; have := HC.out.1; have := HC.out.2 h; simp; omega
      case measure =>
        have := HC.out.1
        have h2 := HC.out.2
        cases f with
        | true => have := h2 rfl; simp only [splitM, bs_size]; omega
        | false => simp [splitM]
    | false =>
      have HE2 : Hid (splitS c s = L) := by show _ = _; rw [HE.out]; simp
      go_wp2
      go_ret
      exact ⟨_, rfl, by rw [HE2.out]; exact HO.out, hbel⟩
end Go.Proofs.YtiennniclkbjlaaGreatDoor.Rd1
/- The model's reading of an address: small letters. -/
namespace Go.Proofs.YtiennniclkbjlaaGreatDoor.Rd1
open Go.RowKit Go.Proofs.YtiennniclkbjlaaGreatDoor.EscM Go.Proofs.YtiennniclkbjlaaGreatDoor.AddrM Go.Proofs.YtiennniclkbjlaaGreatDoor.ReadM Go.Proofs.YtiennniclkbjlaaGreatDoor.St Go.Proofs.YtiennniclkbjlaaGreatDoor.EscL

theorem bytes_of (s : ByteArray) (w : World) : ∃ cap wm, (convert 9 22 (.string s)).run Tryz.prog w = .ok (.slice (some ⟨w.heap.size, 0, none⟩) s.size cap) wm ∧ s.size ≤ cap ∧
    (∀ j (h : j < s.size), wm.cell? ⟨w.heap.size, j, none⟩ = some (.int .u8 ((s[j]'h).toNat : Int))) ∧ (∀ j, j < s.size → wm.frozen? ⟨w.heap.size, j, none⟩ = false) ∧ Below w.heap.size w wm := by
  refine ⟨_, _, run_bytes_of_string w 9 22 5 s Tryz.underlying9 Tryz.underlying22 Tryz.underlying5, grownCap_ge w s.size 0 5, ?_, ?_, ?_⟩
  · intro j h
    have e := World.cell?_alloc_mark w.drew (bytesRow s (grownCap w s.size 0 5)) 5 ((bytesRow s (grownCap w s.size 0 5)).size, (bytesRow s (grownCap w s.size 0 5)).size + 1) j
    rw [show (⟨w.heap.size, j, none⟩ : Addr) = ⟨w.drew.heap.size, j, none⟩ from rfl, e]
    unfold bytesRow
    have h' : j < s.data.size := h
    rw [Array.getElem?_append_left (by simpa using h)]
    simp only [Array.getElem?_map, Array.getElem?_eq_getElem h', Option.map_some]
    rfl
  · intro j h
    have hh : (w.drew.alloc (.cells (bytesRow s (grownCap w s.size 0 5)) 5 ((bytesRow s (grownCap w s.size 0 5)).size, (bytesRow s (grownCap w s.size 0 5)).size + 1))).heap[w.heap.size]? = some (.cells (bytesRow s (grownCap w s.size 0 5)) 5 ((bytesRow s (grownCap w s.size 0 5)).size, (bytesRow s (grownCap w s.size 0 5)).size + 1)) := by
      show (w.heap.push _)[w.heap.size]? = _
      simp
    have hsz : s.size ≤ (bytesRow s (grownCap w s.size 0 5)).size := by
      unfold bytesRow
      rw [Array.size_append, Array.size_map]
      exact Nat.le_add_right _ _
    simp only [World.frozen?, hh]
    simp; omega
  · exact ((Below.refl _ w).drew).alloc (Nat.le_refl _) _

theorem small_keep {s : ByteArray} {wr : World} {B k : Nat} (hlt : k < s.size) (h : ∀ j (h : j < s.size), wr.cell? ⟨B, j, none⟩ = some (.int .u8 (if j < k then smallZ (s[j]'h).toNat else ((s[j]'h).toNat : Int)))) (he : smallZ (s[k]'hlt).toNat = ((s[k]'hlt).toNat : Int)) :
    ∀ j (h : j < s.size), wr.cell? ⟨B, j, none⟩ = some (.int .u8 (if j < k + 1 then smallZ (s[j]'h).toNat else ((s[j]'h).toNat : Int))) := by
  intro j hj
  rw [h j hj]
  by_cases e : j = k
  · subst e; rw [if_neg (by omega), if_pos (by omega), he]
  · by_cases e2 : j < k
    · rw [if_pos e2, if_pos (by omega)]
    · rw [if_neg e2, if_neg (by omega)]
theorem small_set {s : ByteArray} {wr : World} {B k : Nat} {v : Int} (hlt : k < s.size) (h : ∀ j (h : j < s.size), wr.cell? ⟨B, j, none⟩ = some (.int .u8 (if j < k then smallZ (s[j]'h).toNat else ((s[j]'h).toNat : Int)))) (he : smallZ (s[k]'hlt).toNat = v) :
    ∀ j (h : j < s.size), (wr.setCell ⟨B, k, none⟩ (.int .u8 v)).cell? ⟨B, j, none⟩ = some (.int .u8 (if j < k + 1 then smallZ (s[j]'h).toNat else ((s[j]'h).toNat : Int))) := by
  intro j hj
  by_cases e : j = k
  · subst e
    rw [World.cell?_setCell_same wr _ _ (h j hj), if_pos (by omega), he]
  · rw [World.cell?_setCell_other _ _ _ _ (by intro e'; injection e' with _ e'' _; exact e e''.symm), h j hj]
    by_cases e2 : j < k
    · rw [if_pos e2, if_pos (by omega)]
    · rw [if_neg e2, if_neg (by omega)]

set_option maxRecDepth 100000 in
set_option maxHeartbeats 1600000 in
theorem specSmall_any (s : ByteArray) (w : World) (hs : s.size ≤ 1000000) :
    Calls Tryz.prog 110 #[.string s] w fun e w' => e = .returned (.string (bs (smallL s.data.toList))) ∧ Below w.heap.size w w' := by
  obtain ⟨cap, wm, hrun, hcap, hcell, hfz, hbm⟩ := bytes_of s w
  have HC : Hid _ := hcell
  have HF : Hid _ := hfz
  clear hcell hfz
  go_enter Tryz.func110, Tryz.ntmps110
  go_wp2
  go_loopw [4] (fun i wr => ∃ k : Nat, k ≤ s.size ∧ i = .int .i64 (k : Int) ∧ Hid (∀ j (h : j < s.size), wr.cell? ⟨w.heap.size, j, none⟩ = some (.int .u8 (if j < k then smallZ (s[j]'h).toNat else ((s[j]'h).toNat : Int)))) ∧ Hid (∀ j, j < s.size → wr.frozen? ⟨w.heap.size, j, none⟩ = false) ∧ Below w.heap.size w wr) (fun i _ => s.size - (intOf i).toNat)
  case atStart => exact ⟨0, Nat.zero_le _, rfl, (by intro j h; rw [HC.out j h]; simp), HF, hbm⟩
  case round =>
    obtain ⟨k, hk, rfl, HK, HZ, hbel⟩ := hrel
    clear hrun
    by_cases hlt : k < s.size
    · have ck := HK.out k hlt
      rw [if_neg (by omega)] at ck
      have zk := HZ.out k hlt
      have hble := byte_le (s[k]'hlt)
      have HSM : Hid (smallZ (s[k]'hlt).toNat = if 65 ≤ ((s[k]'hlt).toNat : Int) ∧ ((s[k]'hlt).toNat : Int) ≤ 90 then ((s[k]'hlt).toNat : Int) + 32 else ((s[k]'hlt).toNat : Int)) := rfl
      by_cases h1 : 65 ≤ ((s[k]'hlt).toNat : Int)
      · by_cases h2 : ((s[k]'hlt).toNat : Int) ≤ 90
        · have HN : Hid _ := small_set (B := w.heap.size) (v := ((s[k]'hlt).toNat : Int) + 32) hlt HK.out (by rw [HSM.out, if_pos ⟨h1, h2⟩])
          have HW : Hid (Below w.heap.size w (wr.setCell ⟨w.heap.size, k, none⟩ (.int .u8 (((s[k]'hlt).toNat : Int) + 32)))) := Below.setCell hbel (Nat.le_refl _) _
          go_wp2
          go_roundw
          case rel => exact ⟨k + 1, by omega, by go_num, HN.out, (by intro j h; rw [World.frozen?_setCell]; exact HZ.out j h), HW.out⟩
          case measure => simp [intOf]; omega
        · have HN : Hid _ := small_keep hlt HK.out (by rw [HSM.out, if_neg (by omega)])
          go_wp2
          go_roundw
          case rel => exact ⟨k + 1, by omega, by go_num, HN.out, HZ, hbel⟩
          case measure => simp [intOf]; omega
      · have HN : Hid _ := small_keep hlt HK.out (by rw [HSM.out, if_neg (by omega)])
        go_wp2
        go_roundw
        case rel => exact ⟨k + 1, by omega, by go_num, HN.out, HZ, hbel⟩
        case measure => simp [intOf]; omega
    · have hstr : (convert 22 9 (.slice (some ⟨w.heap.size, 0, none⟩) s.size cap)).run Tryz.prog wr = .ok (.string (bs (smallL s.data.toList))) wr := by
        have hl : (smallL s.data.toList).length = s.size := by simp [smallL]
        have := run_convert_bytes_back (P := Tryz.prog) wr 22 9 5 ⟨w.heap.size, 0, none⟩ cap (smallL s.data.toList) Tryz.underlying22 Tryz.underlying5 Tryz.underlying9 ?_
        · rw [hl] at this; exact this
        · intro j hj
          have hj' : j < s.size := by omega
          rw [add_mk, Nat.zero_add, HK.out j hj', if_pos (by omega)]
          have hb := byte_le (s[j]'hj')
          have hz : 0 ≤ smallZ (s[j]'hj').toNat ∧ smallZ (s[j]'hj').toNat ≤ 255 := by unfold smallZ; split <;> omega
          have e : (smallL s.data.toList)[j] = toB (smallZ (s[j]'hj').toNat) := by simp [smallL]; rfl
          rw [e, toB_toNat _ hz.1 hz.2]
      go_wp2
      go_ret
      exact ⟨rfl, hbel⟩
end Go.Proofs.YtiennniclkbjlaaGreatDoor.Rd1
/- A struct in its block; marks in an address's parts. -/
namespace Go.Proofs.YtiennniclkbjlaaGreatDoor.MkA
open Go.RowKit Go.Proofs.YtiennniclkbjlaaGreatDoor.St Go.Proofs.YtiennniclkbjlaaGreatDoor.EscL Go.Proofs.YtiennniclkbjlaaGreatDoor.AddrM

/-- a struct lies in a block -/
def Bs (t : TypeId) (w : World) (G : Nat) (C : Array Value) : Prop := w.heap[G]? = some (.cells C t (0, 0))
section
variable {t : TypeId} {w w' : World} {G : Nat} {C : Array Value}
theorem Bs.cell (h : Bs t w G C) (j : Nat) {x : Value} (hx : C[j]? = some x) : w.cell? ⟨G, j, none⟩ = some x := by
  unfold Bs at h
  simp [World.cell?, h, hx]
theorem Bs.free (h : Bs t w G C) (j : Nat) : w.frozen? ⟨G, j, none⟩ = false := by
  unfold Bs at h
  simp [World.frozen?, h]
theorem Bs.lt (h : Bs t w G C) : G < w.heap.size := (Array.getElem?_eq_some_iff.1 h).1
theorem Bs.grown {row : Option Nat} (h : Bs t w G C) (hg : w.grownBy w' row) (hr : row ≠ some G) : Bs t w' G C := by
  unfold Bs
  rw [hg.block G h.lt (fun e => hr e.symm)]; exact h
theorem Bs.keep (h : Bs t w G C) (hb : ∀ k, k < w.heap.size → w'.heap[k]? = w.heap[k]?) : Bs t w' G C := by
  unfold Bs
  rw [hb G h.lt]; exact h
theorem Bs.below (h : Bs t w G C) (hb : Below w.heap.size w w') : Bs t w' G C := h.keep fun k hk => hb.block k hk
theorem Bs.new (t : TypeId) (w : World) (C : Array Value) : Bs t (w.alloc (.cells C t)) w.heap.size C := by
  show (w.heap.push _)[w.heap.size]? = _; simp
theorem Bs.set (h : Bs t w G C) (j : Nat) (y : Value) : Bs t (w.setCell ⟨G, j, none⟩ y) G (C.setIfInBounds j y) := by
  unfold Bs at h ⊢
  simp only [World.setCell, Array.getElem?_modify, if_true, h, Option.map_some]
  rfl
theorem Bs.alloc (h : Bs t w G C) (o : Obj) : Bs t (w.alloc o) G C := h.keep (alloc_keep _ _)
theorem Bs.drewN (h : Bs t w G C) (n : Nat) : Bs t (w.drewN n) G C := h.keep fun _ _ => rfl
end
theorem owns_lt {w : World} {base : Nat} {v : Value} {L : List ByteArray} (h : Owns w base v L) (g : Nat) (hg : v.ownBlock = some g) : g < w.heap.size := (World.ownsRow.lt h g hg).2
theorem owns_ge {w : World} {base : Nat} {v : Value} {L : List ByteArray} (h : Owns w base v L) (g : Nat) (hg : v.ownBlock = some g) : base ≤ g := (World.ownsRow.lt h g hg).1

end Go.Proofs.YtiennniclkbjlaaGreatDoor.MkA
/- Names of callers: of the program and of the model. -/
namespace Go.Proofs.YtiennniclkbjlaaGreatDoor.Nm
open Go.RowKit Go.Proofs.YtiennniclkbjlaaGreatDoor.EscM Go.Proofs.YtiennniclkbjlaaGreatDoor.AddrM Go.Proofs.YtiennniclkbjlaaGreatDoor.St Go.Proofs.YtiennniclkbjlaaGreatDoor.EscL

def nameB (s : ByteArray) : Bool := decide (1 ≤ s.size ∧ s.size ≤ 8) && smallB s
/-- may a text stand among the names of a group? -/
def callB (s : ByteArray) : Bool := (s.toList == [42]) || nameB s

theorem small_take (s : ByteArray) (k : Nat) (h : k < s.size) (hp : (s.data.toList.take k).all (fun b => decide (97 ≤ (b.toNat : Int) ∧ (b.toNat : Int) ≤ 122)) = true) (h1 : 97 ≤ ((s[k]'h).toNat : Int)) (h2 : ((s[k]'h).toNat : Int) ≤ 122) :
    (s.data.toList.take (k + 1)).all (fun b => decide (97 ≤ (b.toNat : Int) ∧ (b.toNat : Int) ≤ 122)) = true := by
  rw [List.take_succ_eq_append_getElem (by simpa using h), List.all_append, hp]
  have : s.data.toList[k]'(by simpa using h) = s[k]'h := rfl
  simp only [List.all_cons, List.all_nil, this, Bool.true_and, Bool.and_true]
  exact decide_eq_true ⟨h1, h2⟩
theorem small_not (s : ByteArray) (k : Nat) (h : k < s.size) (hn : ¬ (97 ≤ ((s[k]'h).toNat : Int) ∧ ((s[k]'h).toNat : Int) ≤ 122)) : smallB s = false := by
  cases hs : smallB s with
  | false => rfl
  | true =>
    have := List.all_eq_true.1 hs (s[k]'h) (by rw [getElem_eq]; exact List.getElem_mem _)
    exact absurd (of_decide_eq_true this) hn
theorem small_all {s : ByteArray} {k : Nat} (hk : s.size ≤ k) (hp : (s.data.toList.take k).all (fun b => decide (97 ≤ (b.toNat : Int) ∧ (b.toNat : Int) ≤ 122)) = true) : smallB s = true := by
  rwa [List.take_of_length_le (by simp; omega)] at hp

set_option maxRecDepth 100000 in
set_option maxHeartbeats 800000 in
theorem in_any (n a b : Int) (w : World) :
    Calls Tryz.prog 57 #[.int .i64 n, .int .i64 a, .int .i64 b] w fun e w' => e = .returned (.bool (decide (a ≤ n) && decide (n ≤ b))) ∧ w' = w := by
  by_cases h1 : a ≤ n
  · go_enter Tryz.func57, Tryz.ntmps57
    go_wp2
    go_ret
    exact ⟨ret_bool (by rw [decide_eq_true h1]; simp), rfl⟩
  · have h1' : decide (a ≤ n) = false := decide_eq_false h1
    go_enter Tryz.func57, Tryz.ntmps57
    go_wp2
    go_ret
    exact ⟨ret_bool rfl, rfl⟩

set_option maxRecDepth 100000 in
set_option maxHeartbeats 800000 in
theorem specName_any (s : ByteArray) (w : World) (hs : s.size ≤ maxLen) :
    Calls Tryz.prog 30 #[.string s] w fun e w' => e = .returned (.bool (nameB s)) ∧ w' = w := by
  unfold maxLen at hs
  go_enter Tryz.func30, Tryz.ntmps30
  go_wp2
  go_loopw [3] (fun i wr => ∃ k : Nat, k ≤ s.size ∧ i = .int .i64 (k : Int) ∧ wr = w ∧ Hid ((s.data.toList.take k).all (fun b => decide (97 ≤ (b.toNat : Int) ∧ (b.toNat : Int) ≤ 122)) = true)) (fun i _ => s.size - (intOf i).toNat)
  case atStart => exact ⟨0, Nat.zero_le _, rfl, rfl, by show _ = _; simp⟩
  case round =>
    obtain ⟨k, hk, rfl, rfl, HP⟩ := hrel
    by_cases hlt : k < s.size
    · by_cases h1 : (97 : Int) ≤ (s[k]'hlt).toNat
      · by_cases h2 : ((s[k]'hlt).toNat : Int) ≤ 122
        · have HN : Hid _ := small_take s k hlt HP.out h1 h2
          go_wp2
          go_roundw
          case rel => exact ⟨k + 1, by omega, by go_num, by trivial, HN.out⟩
          case measure => simp [intOf]; omega
        · have HN : Hid (nameB s = false) := by show _ = _; unfold nameB; rw [small_not s k hlt (by omega)]; simp
          go_wp2
          go_ret
          exact ⟨ret_bool HN.out.symm, rfl⟩
      · have HN : Hid (nameB s = false) := by show _ = _; unfold nameB; rw [small_not s k hlt (by omega)]; simp
        go_wp2
        go_ret
        exact ⟨ret_bool HN.out.symm, rfl⟩
    · have HS : Hid (nameB s = (decide ((1 : Int) ≤ (s.size : Int)) && decide ((s.size : Int) ≤ 8))) := by
        show _ = _
        unfold nameB
        rw [small_all (by omega) HP.out, Bool.and_true, Bool.eq_iff_iff]; simp; omega
      go_wp2_with (go_at_call 57; refine (in_any _ _ _ _).mono ?_; rintro e w1 ⟨rfl, rfl⟩)
      go_ret
      exact ⟨ret_bool HS.out.symm, rfl⟩

set_option maxRecDepth 100000 in
set_option maxHeartbeats 800000 in
theorem implSmall8_any (s : ByteArray) (w : World) (hs : s.size ≤ maxLen) :
    Calls Tryz.prog 61 #[.string s, .int .i64 8] w fun e w' => e = .returned (.bool (nameB s)) ∧ w' = w := by
  unfold maxLen at hs
  by_cases h1 : s.size < 1
  · have HN : Hid (nameB s = false) := by show _ = _; unfold nameB; rw [decide_eq_false (by omega)]; simp
    go_enter Tryz.func61, Tryz.ntmps61
    go_wp2
    go_ret
    exact ⟨ret_bool HN.out.symm, rfl⟩
  by_cases h5 : 8 < s.size
  · have HN : Hid (nameB s = false) := by show _ = _; unfold nameB; rw [decide_eq_false (by omega)]; simp
    go_enter Tryz.func61, Tryz.ntmps61
    go_wp2
    go_ret
    exact ⟨ret_bool HN.out.symm, rfl⟩
  go_enter Tryz.func61, Tryz.ntmps61
  go_wp2
  go_loop [5] (fun i => ∃ k : Nat, k ≤ s.size ∧ i = .int .i64 (k : Int) ∧ Hid ((s.data.toList.take k).all (fun b => decide (97 ≤ (b.toNat : Int) ∧ (b.toNat : Int) ≤ 122)) = true)) (fun i => s.size - (intOf i).toNat)
  case atStart => exact ⟨0, Nat.zero_le _, rfl, by show _ = _; simp⟩
  case round =>
    obtain ⟨k, hk, rfl, HP⟩ := hrel
    by_cases hlt : k < s.size
    · by_cases h1 : (97 : Int) ≤ (s[k]'hlt).toNat
      · by_cases h2 : ((s[k]'hlt).toNat : Int) ≤ 122
        · have HN : Hid _ := small_take s k hlt HP.out h1 h2
          go_wp2
          go_round
          case rel => exact ⟨k + 1, by omega, by go_num, HN.out⟩
          case measure => simp [intOf]; omega
        · have HN : Hid (nameB s = false) := by show _ = _; unfold nameB; rw [small_not s k hlt (by omega)]; simp
          go_wp2
          go_ret
          exact ⟨ret_bool HN.out.symm, rfl⟩
      · have HN : Hid (nameB s = false) := by show _ = _; unfold nameB; rw [small_not s k hlt (by omega)]; simp
        go_wp2
        go_ret
        exact ⟨ret_bool HN.out.symm, rfl⟩
    · have HS : Hid (nameB s = true) := by
        show _ = _
        unfold nameB
        rw [small_all (by omega) HP.out, decide_eq_true (by omega)]; rfl
      go_wp2
      go_ret
      exact ⟨ret_bool HS.out.symm, rfl⟩

theorem implName_any (s : ByteArray) (w : World) (hs : s.size ≤ maxLen) :
    Calls Tryz.prog 33 #[.string s] w fun e w' => e = .returned (.bool (nameB s)) ∧ w' = w := by
  go_enter Tryz.func33, Tryz.ntmps33
  go_wp2_with fail
  refine (implSmall8_any s _ hs).mono ?_
  rintro e w1 ⟨rfl, rfl⟩
  go_wp2
  go_ret
  exact ⟨rfl, rfl⟩

theorem implCall_any (s : ByteArray) (w : World) (hs : s.size ≤ maxLen) :
    Calls Tryz.prog 191 #[.string s] w fun e w' => e = .returned (.bool (callB s)) ∧ w' = w := by
  cases h : (s.toList == [42]) with
  | true =>
    have HN : Hid (callB s = true) := by show _ = _; unfold callB; rw [h]; rfl
    go_enter Tryz.func191, Tryz.ntmps191
    go_wp2
    go_ret
    exact ⟨ret_bool HN.out.symm, rfl⟩
  | false =>
    have HN : Hid (callB s = nameB s) := by show _ = _; unfold callB; rw [h]; rfl
    go_enter Tryz.func191, Tryz.ntmps191
    go_wp2_with (go_at_call 33; refine (implName_any s _ hs).mono ?_; rintro e w1 ⟨rfl, rfl⟩)
    go_ret
    exact ⟨ret_bool HN.out.symm, rfl⟩
end Go.Proofs.YtiennniclkbjlaaGreatDoor.Nm
