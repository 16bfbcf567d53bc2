/- The program's reading of an address: the leaves. -/
import Derived.Test.YtlamhiidpbehnaaDoorLibMath
namespace Go.Proofs.YtlamhiidpbehnaaDoor.Im
open Go.RowKit Go.Proofs.YtlamhiidpbehnaaDoor.EscM Go.Proofs.YtlamhiidpbehnaaDoor.AddrM Go.Proofs.YtlamhiidpbehnaaDoor.ReadM Go.Proofs.YtlamhiidpbehnaaDoor.St Go.Proofs.YtlamhiidpbehnaaDoor.EscL Go.Proofs.YtlamhiidpbehnaaDoor.PathM Go.Proofs.YtlamhiidpbehnaaDoor.Ad1 Go.Proofs.YtlamhiidpbehnaaDoor.Rd1 Go.Proofs.YtlamhiidpbehnaaDoor.LibM

/-- internal/bytealg.MaxLen (the program's variable 0) holds some number -/
def Mx (w : World) : Prop := ∃ m : Int, w.cell? ⟨0, 0, none⟩ = some (.int .i64 m)
theorem Mx.keep {w w' : World} (h : Mx w) (hb : ∀ k, k < w.heap.size → w'.heap[k]? = w.heap[k]?) : Mx w' := by
  obtain ⟨m, hm⟩ := h
  exact ⟨m, by rw [World.cell?_of_block (w := w) (hb _ (cell_block hm))]; exact hm⟩
theorem Mx.below {w w' : World} (h : Mx w) (hb : Below w.heap.size w w') : Mx w' := h.keep fun k hk => hb.block k hk
theorem Mx.alloc {w : World} (h : Mx w) (o : Obj) : Mx (w.alloc o) := h.keep (alloc_keep w o)
theorem Mx.drewN {w : World} (h : Mx w) (n : Nat) : Mx (w.drewN n) := h.keep fun _ _ => rfl

theorem cut_any (s : ByteArray) (d : UInt8) (w : World) (h : Mx w) (hs : s.size ≤ 1000000) :
    Calls Tryd.prog 42 #[.string s, .string ⟨#[d]⟩] w fun e w' => e = .returned (.tuple #[.string (bs (cutL d.toNat s.data.toList).1), .string (bs (cutL d.toNat s.data.toList).2.1), .bool (cutL d.toNat s.data.toList).2.2]) ∧ ∃ n, w' = w.drewN n := by
  obtain ⟨m, hm⟩ := h
  refine (Tryd.strings_Cut s ⟨#[d]⟩ m w (by omega) hm).mono ?_
  rintro e w' ⟨rfl, hw⟩
  refine ⟨?_, hw⟩
  have e : Lib.cut s.data.toList (⟨#[d]⟩ : ByteArray).data.toList = cutL d.toNat s.data.toList := cut_lib d _
  rw [e]; rfl
theorem cross_any (s : ByteArray) (w : World) (h : Mx w) (hs : s.size ≤ 1000000) :
    Calls Tryd.prog 20 #[.string s] w fun e w' => e = .returned (.string (bs (cutL 35 s.data.toList).1)) ∧ ∃ n, w' = w.drewN n := by
  go_enter Tryd.func20, Tryd.ntmps20
  go_wp2_with fail
  refine (cut_any s 35 _ h hs).mono ?_
  rintro e w1 ⟨rfl, n, rfl⟩
  go_wp2
  go_ret
  exact ⟨rfl, n, rfl⟩
theorem clone_nil (n c : Nat) (w : World) : Calls Tryd.prog 23 #[.slice none n c] w fun e w' => e = .returned (.slice none 0 0) ∧ w' = w := Tryd.slices_Clone_string_nil n c w
theorem split_any (s : ByteArray) (w : World) (h : Mx w) (hs : s.size ≤ 1000000) :
    Calls Tryd.prog 48 #[.string s, .string ⟨#[47]⟩] w fun e w' => e = .returned (.slice (some ⟨w.heap.size, 0, none⟩) (splitS 47 s).length (splitS 47 s).length) ∧ w' = w.alloc (.cells ((splitS 47 s).map Value.string).toArray 9) := by
  obtain ⟨m, hm⟩ := h
  refine (Tryd.strings_Split s ⟨#[47]⟩ m w (by omega) hm (by decide)).mono ?_
  rintro e w' ⟨rfl, rfl⟩
  have e1 : Lib.splitB ⟨#[47]⟩ 0 (Lib.countB s ⟨#[47]⟩) s = splitS 47 s := splitB_lib 47 s
  have e2 : Lib.countB s ⟨#[47]⟩ + 1 = (splitS 47 s).length := by
    rw [← e1]; exact (Lib.splitB_all ⟨#[47]⟩ (by decide) 0 _ s rfl).symm
  rw [e1, e2]
  exact ⟨rfl, rfl⟩

theorem pre_ext (s : ByteArray) : (s.extract 0 2).toList = s.data.toList.take 2 := by rw [ByteArray.toList_eq, ext_take, bs_list]
theorem ret2 {a b : ByteArray} {x : Bool} (h : a = b) : Ending.returned (.tuple #[.string a, .bool x]) = .returned (.tuple #[.string b, .bool x]) := by rw [h]
theorem prefix_no (s : ByteArray) (w : World) (hs : s.size ≤ 1000000) (hn : ¬ s.data.toList.take 2 = [47, 47]) :
    Calls Tryd.prog 44 #[.string s, .string ⟨#[47, 47]⟩] w fun e w' => e = .returned (.tuple #[.string s, .bool false]) ∧ w' = w := by
  have HN : Hid _ := hn
  clear hn
  by_cases h2 : s.size < 2
  · go_enter Tryd.func44, Tryd.ntmps44
    go_wp2
    go_ret2
    exact ⟨rfl, rfl⟩
  · have he : ((s.extract 0 2).toList == [47, 47]) = false := by
      rw [pre_ext]
      cases hc : (s.data.toList.take 2 == [47, 47]) with
      | false => rfl
      | true => exact absurd (eq_of_beq hc) HN.out
    go_enter Tryd.func44, Tryd.ntmps44
    go_wp2
    go_ret2
    exact ⟨rfl, rfl⟩
theorem prefix_yes (s : ByteArray) (w : World) (hs : s.size ≤ 1000000) (hy : s.data.toList.take 2 = [47, 47]) :
    Calls Tryd.prog 44 #[.string s, .string ⟨#[47, 47]⟩] w fun e w' => e = .returned (.tuple #[.string (bs (s.data.toList.drop 2)), .bool true]) ∧ w' = w := by
  have h2 : ¬ s.size < 2 := by
    have := congrArg List.length hy
    simp at this; omega
  have he : ((s.extract 0 2).toList == [47, 47]) = true := by rw [pre_ext, hy]; rfl
  have HE : Hid (s.extract 2 s.size = bs (s.data.toList.drop 2)) := ext_drop s 2
  clear hy
  go_enter Tryd.func44, Tryd.ntmps44
  go_wp2
  go_ret2
  exact ⟨ret2 HE.out, rfl⟩

set_option maxRecDepth 100000 in
set_option maxHeartbeats 1600000 in
theorem lower_any (s : ByteArray) (w : World) (hs : s.size ≤ 1000000) :
    Calls Tryd.prog 46 #[.string s] w fun e w' => e = .returned (.string (bs (smallL s.data.toList))) ∧ Below w.heap.size w w' := by
  obtain ⟨cap, wm, hrun, hcap, hcell, hfz, hbm⟩ := bytes_of s w
  have HC : Hid _ := hcell
  have HF : Hid _ := hfz
  clear hcell hfz
  go_enter Tryd.func46, Tryd.ntmps46
  go_wp2
  go_loopw [10] (fun i wr => ∃ k : Nat, k ≤ s.size ∧ i = .int .i64 (k : Int) ∧ Hid (∀ j (h : j < s.size), wr.cell? ⟨w.heap.size, j, none⟩ = some (.int .u8 (if j < k then smallZ (s[j]'h).toNat else ((s[j]'h).toNat : Int)))) ∧ Hid (∀ j, j < s.size → wr.frozen? ⟨w.heap.size, j, none⟩ = false) ∧ Below w.heap.size w wr) (fun i _ => s.size - (intOf i).toNat)
  case atStart => exact ⟨0, Nat.zero_le _, rfl, (by intro j h; rw [HC.out j h]; simp), HF, hbm⟩
  case round =>
    obtain ⟨k, hk, rfl, HK, HZ, hbel⟩ := hrel
    clear hrun
    by_cases hlt : k < s.size
    · have ck := HK.out k hlt
      rw [if_neg (by omega)] at ck
      have zk := HZ.out k hlt
      have hble := byte_le (s[k]'hlt)
      have HSM : Hid (smallZ (s[k]'hlt).toNat = if 65 ≤ ((s[k]'hlt).toNat : Int) ∧ ((s[k]'hlt).toNat : Int) ≤ 90 then ((s[k]'hlt).toNat : Int) + 32 else ((s[k]'hlt).toNat : Int)) := rfl
      by_cases h1 : 65 ≤ ((s[k]'hlt).toNat : Int)
      · by_cases h2 : ((s[k]'hlt).toNat : Int) ≤ 90
        · have HN : Hid _ := small_set (B := w.heap.size) (v := ((s[k]'hlt).toNat : Int) + 32) hlt HK.out (by rw [HSM.out, if_pos ⟨h1, h2⟩])
          have HW : Hid (Below w.heap.size w (wr.setCell ⟨w.heap.size, k, none⟩ (.int .u8 (((s[k]'hlt).toNat : Int) + 32)))) := Below.setCell hbel (Nat.le_refl _) _
          go_wp2
          go_roundw
          case rel => exact ⟨k + 1, by omega, by go_num, HN.out, (by intro j h; rw [World.frozen?_setCell]; exact HZ.out j h), HW.out⟩
          case measure => simp [intOf]; omega
        · have HN : Hid _ := small_keep hlt HK.out (by rw [HSM.out, if_neg (by omega)])
          go_wp2
          go_roundw
          case rel => exact ⟨k + 1, by omega, by go_num, HN.out, HZ, hbel⟩
          case measure => simp [intOf]; omega
      · have HN : Hid _ := small_keep hlt HK.out (by rw [HSM.out, if_neg (by omega)])
        go_wp2
        go_roundw
        case rel => exact ⟨k + 1, by omega, by go_num, HN.out, HZ, hbel⟩
        case measure => simp [intOf]; omega
    · have hstr : (convert 22 9 (.slice (some ⟨w.heap.size, 0, none⟩) s.size cap)).run Tryd.prog wr = .ok (.string (bs (smallL s.data.toList))) wr := by
        have hl : (smallL s.data.toList).length = s.size := by simp [smallL]
        have := run_convert_bytes_back (P := Tryd.prog) wr 22 9 5 ⟨w.heap.size, 0, none⟩ cap (smallL s.data.toList) Tryd.underlying22 Tryd.underlying5 Tryd.underlying9 ?_
        · rw [hl] at this; exact this
        · intro j hj
          have hj' : j < s.size := by omega
          rw [add_mk, Nat.zero_add, HK.out j hj', if_pos (by omega)]
          have hb := byte_le (s[j]'hj')
          have hz : 0 ≤ smallZ (s[j]'hj').toNat ∧ smallZ (s[j]'hj').toNat ≤ 255 := by unfold smallZ; split <;> omega
          have e : (smallL s.data.toList)[j] = toB (smallZ (s[j]'hj').toNat) := by simp [smallL]; rfl
          rw [e, toB_toNat _ hz.1 hz.2]
      go_wp2
      go_ret
      exact ⟨rfl, hbel⟩
end Go.Proofs.YtlamhiidpbehnaaDoor.Im
