/- Several texts in one: Addr5, Addr6. -/
import Derived.Test.YtboncolbijicfaaGreatDoorAddr1Pk
import Derived.Test.YtboncolbijicfaaGreatDoorExS
/- AddrText and AddrPath, of the program and of the model; the exact laws' helpers on addresses. -/
namespace Go.Proofs.YtboncolbijicfaaGreatDoor.Ad1
open Go.RowKit Go.Proofs.YtboncolbijicfaaGreatDoor.EscM Go.Proofs.YtboncolbijicfaaGreatDoor.AddrM Go.Proofs.YtboncolbijicfaaGreatDoor.St Go.Proofs.YtboncolbijicfaaGreatDoor.EscL

def textF (A : Ad) : ByteArray := if okB A then textS A else ⟨#[]⟩
def pathF (A : Ad) : ByteArray := if okB A then pathS A else ⟨#[]⟩

theorem implAddrText_any (A : Ad) (a0 : Option Addr) (cap : Nat) (w : World) (hS : IsStrs w a0 cap A.parts) (hB : bulkA A ≤ 4194304) :
    Calls Tryz.prog 86 #[.agg #[.string A.house, .slice a0 A.parts.length cap, .bool A.asks, .string A.ask]] w fun e w' => e = .returned (.string (textF A)) ∧ Below w.heap.size w w' := by
  have HS : Hid (IsStrs w a0 cap A.parts) := hS
  clear hS
  cases hk : okB A with
  | false =>
    have HN : Hid (textF A = ⟨#[]⟩) := by show _ = _; unfold textF; rw [hk]; rfl
    go_enter Tryz.func86, Tryz.ntmps86
    go_wp2_with fail
    refine (implOk_any A a0 cap _ (HS.out.keep (alloc_keep _ _)) hB).mono ?_
    rintro e w1 ⟨rfl, hb1⟩
    go_wp2
    go_ret
    exact ⟨ret_str HN.out.symm, ((Below.refl _ _).alloc (Nat.le_refl _) _).trans (hb1.mono (by simp))⟩
  | true =>
    have HN : Hid (textF A = textS A) := by show _ = _; unfold textF; rw [hk]; rfl
    go_enter Tryz.func86, Tryz.ntmps86
    go_wp2_with fail
    refine (implOk_any A a0 cap _ (HS.out.keep (alloc_keep _ _)) hB).mono ?_
    rintro e w1 ⟨rfl, hb1⟩
    have hb2 : Below (w.heap.size + 1) (w.alloc (.cells #[.string A.house, .slice a0 A.parts.length cap, .bool A.asks, .string A.ask] 73)) w1 := by simpa using hb1
    obtain ⟨c0, c1, c2, c3⟩ := box_cells hb2
    clear hb1
    go_wp2_with fail
    refine (implText_any A a0 cap _ (box_strs HS.out hb2) hB).mono ?_
    rintro e w2 ⟨rfl, hb3⟩
    go_wp2
    go_ret
    exact ⟨ret_str HN.out.symm, box_below (box_next hb2 hb3)⟩

theorem specAddrText_any (A : Ad) (a0 : Option Addr) (cap : Nat) (w : World) (hS : IsStrs w a0 cap A.parts) (hB : bulkA A ≤ 4194304) :
    Calls Tryz.prog 81 #[.agg #[.string A.house, .slice a0 A.parts.length cap, .bool A.asks, .string A.ask]] w fun e w' => e = .returned (.string (textF A)) ∧ Below w.heap.size w w' := by
  have HS : Hid (IsStrs w a0 cap A.parts) := hS
  clear hS
  cases hk : okB A with
  | false =>
    have HN : Hid (textF A = ⟨#[]⟩) := by show _ = _; unfold textF; rw [hk]; rfl
    go_enter Tryz.func81, Tryz.ntmps81
    go_wp2_with fail
    refine (specOk_any A a0 cap _ (HS.out.keep (alloc_keep _ _)) hB).mono ?_
    rintro e w1 ⟨rfl, hb1⟩
    go_wp2
    go_ret
    exact ⟨ret_str HN.out.symm, ((Below.refl _ _).alloc (Nat.le_refl _) _).trans (hb1.mono (by simp))⟩
  | true =>
    have HN : Hid (textF A = textS A) := by show _ = _; unfold textF; rw [hk]; rfl
    go_enter Tryz.func81, Tryz.ntmps81
    go_wp2_with fail
    refine (specOk_any A a0 cap _ (HS.out.keep (alloc_keep _ _)) hB).mono ?_
    rintro e w1 ⟨rfl, hb1⟩
    have hb2 : Below (w.heap.size + 1) (w.alloc (.cells #[.string A.house, .slice a0 A.parts.length cap, .bool A.asks, .string A.ask] 73)) w1 := by simpa using hb1
    obtain ⟨c0, c1, c2, c3⟩ := box_cells hb2
    clear hb1
    go_wp2_with fail
    refine (specText_any A a0 cap _ (box_strs HS.out hb2) hB).mono ?_
    rintro e w2 ⟨rfl, hb3⟩
    go_wp2
    go_ret
    exact ⟨ret_str HN.out.symm, box_below (box_next hb2 hb3)⟩

theorem implAddrPath_any (A : Ad) (a0 : Option Addr) (cap : Nat) (w : World) (hS : IsStrs w a0 cap A.parts) (hB : bulkA A ≤ 4194304) :
    Calls Tryz.prog 130 #[.agg #[.string A.house, .slice a0 A.parts.length cap, .bool A.asks, .string A.ask]] w fun e w' => e = .returned (.string (pathF A)) ∧ Below w.heap.size w w' := by
  have HS : Hid (IsStrs w a0 cap A.parts) := hS
  clear hS
  cases hk : okB A with
  | false =>
    have HN : Hid (pathF A = ⟨#[]⟩) := by show _ = _; unfold pathF; rw [hk]; rfl
    go_enter Tryz.func130, Tryz.ntmps130
    go_wp2_with fail
    refine (implOk_any A a0 cap _ (HS.out.keep (alloc_keep _ _)) hB).mono ?_
    rintro e w1 ⟨rfl, hb1⟩
    go_wp2
    go_ret
    exact ⟨ret_str HN.out.symm, ((Below.refl _ _).alloc (Nat.le_refl _) _).trans (hb1.mono (by simp))⟩
  | true =>
    have HN : Hid (pathF A = pathS A) := by show _ = _; unfold pathF; rw [hk]; rfl
    go_enter Tryz.func130, Tryz.ntmps130
    go_wp2_with fail
    refine (implOk_any A a0 cap _ (HS.out.keep (alloc_keep _ _)) hB).mono ?_
    rintro e w1 ⟨rfl, hb1⟩
    have hb2 : Below (w.heap.size + 1) (w.alloc (.cells #[.string A.house, .slice a0 A.parts.length cap, .bool A.asks, .string A.ask] 73)) w1 := by simpa using hb1
    obtain ⟨c0, c1, c2, c3⟩ := box_cells hb2
    clear hb1
    go_wp2_with fail
    refine (implPathW_any A a0 cap _ (box_strs HS.out hb2) hB).mono ?_
    rintro e w2 ⟨rfl, hb3⟩
    go_wp2
    go_ret
    exact ⟨ret_str HN.out.symm, box_below (box_next hb2 hb3)⟩


theorem fz_of_below {B : Nat} {w w1 : World} (hb : Below B w w1) {p : Addr} (hp : p.block < B) (h : w.frozen? p = false) : w1.frozen? p = false := (hb.frozen hp).trans h

end Go.Proofs.YtboncolbijicfaaGreatDoor.Ad1
/- The exact laws' helpers on addresses, further: how great, the same. -/
namespace Go.Proofs.YtboncolbijicfaaGreatDoor.Ad1
open Go.RowKit Go.Proofs.YtboncolbijicfaaGreatDoor.EscM Go.Proofs.YtboncolbijicfaaGreatDoor.AddrM Go.Proofs.YtboncolbijicfaaGreatDoor.St Go.Proofs.YtboncolbijicfaaGreatDoor.EscL

theorem sum_same : ∀ L : List ByteArray, sumSz L = sumS L := by
  intro L
  induction L with
  | nil => rfl
  | cons x r ih => simp only [sumSz, sumS, ih]


end Go.Proofs.YtboncolbijicfaaGreatDoor.Ad1
