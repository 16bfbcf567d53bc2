/- A line of a notice is read: of the program. -/
import Derived.Test.YtacelbhoccckbaaDoorNr2
import Derived.Test.YtacelbhoccckbaaDoorNt2
import Derived.Test.YtacelbhoccckbaaDoorImpl1
import Derived.Test.YtacelbhoccckbaaDoorEscLeafPk
namespace Go.Proofs.YtacelbhoccckbaaDoor.NiP
open Go.RowKit Go.Proofs.YtacelbhoccckbaaDoor.EscM Go.Proofs.YtacelbhoccckbaaDoor.EscL Go.Proofs.YtacelbhoccckbaaDoor.RuleM Go.Proofs.YtacelbhoccckbaaDoor.Ru1 Go.Proofs.YtacelbhoccckbaaDoor.ReadM Go.Proofs.YtacelbhoccckbaaDoor.Rd1 Go.Proofs.YtacelbhoccckbaaDoor.St Go.Proofs.YtacelbhoccckbaaDoor.RR Go.Proofs.YtacelbhoccckbaaDoor.LetM Go.Proofs.YtacelbhoccckbaaDoor.Nm Go.Proofs.YtacelbhoccckbaaDoor.GrM Go.Proofs.YtacelbhoccckbaaDoor.Dr Go.Proofs.YtacelbhoccckbaaDoor.NrM Go.Proofs.YtacelbhoccckbaaDoor.NrW Go.Proofs.YtacelbhoccckbaaDoor.NrS Go.Proofs.YtacelbhoccckbaaDoor.Im Go.Proofs.YtacelbhoccckbaaDoor.DecM

set_option maxRecDepth 100000 in
set_option maxHeartbeats 1600000 in
theorem readWait_any (s : ByteArray) (w : World) (_hs : s.size ≤ 4194304) :
    Calls Tryd.prog 47 #[.string s] w fun e w' => e = .returned (.int .i64 (numF s.data.toList : Int)) ∧ Below w.heap.size w w' := by
  have hdl : s.data.toList.length = s.size := by simp
  have hit0 : (w.iter s 0).heap[w.heap.size]? = some (.stringIter s 0) := World.iter_heap _ _ _
  have hbw0 : Below w.heap.size w (w.iter s 0) := (Below.refl _ w).alloc (Nat.le_refl _) _
  go_enter Tryd.func47, Tryd.ntmps47
  generalize hK : w.heap.size = K at *
  go_wp2
  go_loopg [3] s.size (fun g n wr => ∃ i m : Nat, i + g = s.size ∧ n = .int .i64 (m : Int) ∧ m ≤ 20 ∧ Hid (numF s.data.toList = (numGo m (s.data.toList.drop i)).getD 0) ∧ Hid (wr.heap[K]? = some (.stringIter s i)) ∧ Hid (Below K w wr))
  case atStart => exact ⟨0, 0, by omega, rfl, by omega, rfl, hit0, hbw0⟩
  case round =>
    obtain ⟨i, m, hig, rfl, hm, HN, HI, HB⟩ := hrel
    cases gk with
    | zero =>
      obtain rfl : i = s.size := by omega
      have hnx := fun ty => Lib.run_next_end_at (P := Tryd.prog) wr K s s.size ty HI.out (by omega)
      have HE : Hid (numF s.data.toList = m) := by
        show _ = _
        rw [HN.out, List.drop_of_length_le (by omega)]; rfl
      go_wp2
      go_ret
      exact ⟨ret_int (by rw [HE.out]), HB.out⟩
    | succ g =>
      have hi : i < s.size := by omega
      have hl2 : i < s.data.toList.length := by omega
      have HT : Hid _ := num_take hl2 HN.out
      rw [NrS.data_at s i hi hl2] at HT
      by_cases hx : (s[i]'hi).toNat < 128
      · have hnx := fun ty => Lib.run_next_ascii_at (P := Tryd.prog) wr K s i ty HI.out hi hx
        have HI2 : Hid ((wr.iterAt K s (i + 1)).heap[K]? = some (.stringIter s (i + 1))) := Lib.iterAt_heap _ _ _ _ _ HI.out
        have HB2 : Hid (Below K w (wr.iterAt K s (i + 1))) := Lib.below_iterAt HB.out (Nat.le_refl _) _ _
        generalize hX : (s[i]'hi) = x at *
        clear hX
        generalize wr.iterAt K s (i + 1) = wn at *
        by_cases h1 : (x.toNat : Int) < 48
        · have HZ : Hid (numF s.data.toList = 0) := HT.out.2 (by omega)
          clear HT
          go_wp2
          go_ret
          exact ⟨ret_int (by rw [HZ.out]; rfl), HB2.out⟩
        by_cases h2 : (57 : Int) < (x.toNat : Int)
        · have HZ : Hid (numF s.data.toList = 0) := HT.out.2 (by omega)
          clear HT
          go_wp2
          go_ret
          exact ⟨ret_int (by rw [HZ.out]; rfl), HB2.out⟩
        have HX : Hid (numF s.data.toList = (numGo (min (m * 10 + (x.toNat - 48)) 20) (s.data.toList.drop (i + 1))).getD 0) := HT.out.1 (by omega)
        clear HT
        obtain ⟨d, hd, hd9⟩ : ∃ d : Nat, x.toNat = 48 + d ∧ d ≤ 9 := ⟨x.toNat - 48, by omega, by omega⟩
        have e0 : (x.toNat : Int) - 48 = (d : Int) := by omega
        have e1 : IntKind.i32.wrap ((x.toNat : Int) - 48) = (d : Int) := by
          rw [e0]
          have : d = 0 ∨ d = 1 ∨ d = 2 ∨ d = 3 ∨ d = 4 ∨ d = 5 ∨ d = 6 ∨ d = 7 ∨ d = 8 ∨ d = 9 := by omega
          clear e0 hd
          rcases this with rfl | rfl | rfl | rfl | rfl | rfl | rfl | rfl | rfl | rfl <;> decide
        have e2 : IntKind.i64.wrap ((m : Int) * 10) = (m : Int) * 10 := IntWalk.i64_in _ (by omega)
        have e3 : IntKind.i64.wrap ((m : Int) * 10 + (d : Int)) = (m : Int) * 10 + (d : Int) := IntWalk.i64_in _ (by omega)
        have e4 : IntKind.i64.wrap (d : Int) = (d : Int) := IntWalk.i64_in _ (by omega)
        have HX2 : Hid (numF s.data.toList = (numGo (min (m * 10 + d) 20) (s.data.toList.drop (i + 1))).getD 0) := by show _ = _; rw [HX.out, hd]; congr 4; omega
        go_wp2
        go_roundg g
        case measure => omega
        case rel => exact ⟨i + 1, min (m * 10 + d) 20, by omega, by go_num, Nat.min_le_right _ _, HX2, HI2, HB2⟩
      · have hx2 : 128 ≤ (s[i]'hi).toNat := by omega
        have HZ : Hid (numF s.data.toList = 0) := HT.out.2 (by omega)
        obtain ⟨hd1, hd2⟩ := decode_high s i hi hx2
        have hnx := fun ty => Lib.run_next_any_at (P := Tryd.prog) wr K s i ty HI.out hi
        generalize hD1 : (Utf8.decode s i).1 = r at *
        generalize hD2 : (Utf8.decode s i).2 = n at *
        have HB2 : Hid (Below K w (wr.iterAt K s (i + n))) := Lib.below_iterAt HB.out (Nat.le_refl _) _ _
        generalize wr.iterAt K s (i + n) = wn at *
        have hr1 : (57 : Int) < (r : Int) := by omega
        clear hx hx2 hD1 hD2 HT
        go_wp2
        go_ret
        exact ⟨ret_int (by rw [HZ.out]; rfl), HB2.out⟩
end Go.Proofs.YtacelbhoccckbaaDoor.NiP
