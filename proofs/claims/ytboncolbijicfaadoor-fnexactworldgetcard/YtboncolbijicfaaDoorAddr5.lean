/- AddrText and AddrPath, of the program and of the model; the exact laws' helpers on addresses. -/
import Derived.Test.YtboncolbijicfaaDoorAddr1Pk
import Derived.Test.YtboncolbijicfaaDoorExS
namespace Go.Proofs.YtboncolbijicfaaDoor.Ad1
open Go.RowKit Go.Proofs.YtboncolbijicfaaDoor.EscM Go.Proofs.YtboncolbijicfaaDoor.AddrM Go.Proofs.YtboncolbijicfaaDoor.St Go.Proofs.YtboncolbijicfaaDoor.EscL

def textF (A : Ad) : ByteArray := if okB A then textS A else ⟨#[]⟩
def pathF (A : Ad) : ByteArray := if okB A then pathS A else ⟨#[]⟩

theorem implAddrText_any (A : Ad) (a0 : Option Addr) (cap : Nat) (w : World) (hS : IsStrs w a0 cap A.parts) (hB : bulkA A ≤ 4194304) :
    Calls Tryd.prog 98 #[.agg #[.string A.house, .slice a0 A.parts.length cap, .bool A.asks, .string A.ask]] w fun e w' => e = .returned (.string (textF A)) ∧ Below w.heap.size w w' := by
  have HS : Hid (IsStrs w a0 cap A.parts) := hS
  clear hS
  cases hk : okB A with
  | false =>
    have HN : Hid (textF A = ⟨#[]⟩) := by show _ = _; unfold textF; rw [hk]; rfl
    go_enter Tryd.func98, Tryd.ntmps98
    go_wp2_with fail
    refine (implOk_any A a0 cap _ (HS.out.keep (alloc_keep _ _)) hB).mono ?_
    rintro e w1 ⟨rfl, hb1⟩
    go_wp2
    go_ret
    exact ⟨ret_str HN.out.symm, ((Below.refl _ _).alloc (Nat.le_refl _) _).trans (hb1.mono (by simp))⟩
  | true =>
    have HN : Hid (textF A = textS A) := by show _ = _; unfold textF; rw [hk]; rfl
    go_enter Tryd.func98, Tryd.ntmps98
    go_wp2_with fail
    refine (implOk_any A a0 cap _ (HS.out.keep (alloc_keep _ _)) hB).mono ?_
    rintro e w1 ⟨rfl, hb1⟩
    have hb2 : Below (w.heap.size + 1) (w.alloc (.cells #[.string A.house, .slice a0 A.parts.length cap, .bool A.asks, .string A.ask] 34)) w1 := by simpa using hb1
    obtain ⟨c0, c1, c2, c3⟩ := box_cells hb2
    clear hb1
    go_wp2_with fail
    refine (implText_any A a0 cap _ (box_strs HS.out hb2) hB).mono ?_
    rintro e w2 ⟨rfl, hb3⟩
    go_wp2
    go_ret
    exact ⟨ret_str HN.out.symm, box_below (box_next hb2 hb3)⟩

theorem specAddrText_any (A : Ad) (a0 : Option Addr) (cap : Nat) (w : World) (hS : IsStrs w a0 cap A.parts) (hB : bulkA A ≤ 4194304) :
    Calls Tryd.prog 48 #[.agg #[.string A.house, .slice a0 A.parts.length cap, .bool A.asks, .string A.ask]] w fun e w' => e = .returned (.string (textF A)) ∧ Below w.heap.size w w' := by
  have HS : Hid (IsStrs w a0 cap A.parts) := hS
  clear hS
  cases hk : okB A with
  | false =>
    have HN : Hid (textF A = ⟨#[]⟩) := by show _ = _; unfold textF; rw [hk]; rfl
    go_enter Tryd.func48, Tryd.ntmps48
    go_wp2_with fail
    refine (specOk_any A a0 cap _ (HS.out.keep (alloc_keep _ _)) hB).mono ?_
    rintro e w1 ⟨rfl, hb1⟩
    go_wp2
    go_ret
    exact ⟨ret_str HN.out.symm, ((Below.refl _ _).alloc (Nat.le_refl _) _).trans (hb1.mono (by simp))⟩
  | true =>
    have HN : Hid (textF A = textS A) := by show _ = _; unfold textF; rw [hk]; rfl
    go_enter Tryd.func48, Tryd.ntmps48
    go_wp2_with fail
    refine (specOk_any A a0 cap _ (HS.out.keep (alloc_keep _ _)) hB).mono ?_
    rintro e w1 ⟨rfl, hb1⟩
    have hb2 : Below (w.heap.size + 1) (w.alloc (.cells #[.string A.house, .slice a0 A.parts.length cap, .bool A.asks, .string A.ask] 34)) w1 := by simpa using hb1
    obtain ⟨c0, c1, c2, c3⟩ := box_cells hb2
    clear hb1
    go_wp2_with fail
    refine (specText_any A a0 cap _ (box_strs HS.out hb2) hB).mono ?_
    rintro e w2 ⟨rfl, hb3⟩
    go_wp2
    go_ret
    exact ⟨ret_str HN.out.symm, box_below (box_next hb2 hb3)⟩


theorem fz_of_below {B : Nat} {w w1 : World} (hb : Below B w w1) {p : Addr} (hp : p.block < B) (h : w.frozen? p = false) : w1.frozen? p = false := (hb.frozen hp).trans h

set_option maxRecDepth 100000 in
set_option maxHeartbeats 1600000 in
theorem toAddr_any (A : Ad) (a0 : Option Addr) (cap : Nat) (w : World) (hS : IsStrs w a0 cap A.parts) (hB : bulkA A ≤ 4194304) :
    Calls Tryd.prog 21 #[.agg #[.string A.house, .slice a0 A.parts.length cap, .bool A.asks, .string A.ask]] w fun e w' => ∃ g, e = .returned (.agg #[.string A.house, .slice (some ⟨g, 0, none⟩) A.parts.length A.parts.length, .bool A.asks, .string A.ask]) ∧ Owns w' w.heap.size (.slice (some ⟨g, 0, none⟩) A.parts.length A.parts.length) A.parts ∧ Below w.heap.size w w' := by
  have HS : Hid (IsStrs w a0 cap A.parts) := hS
  have hl : A.parts.length ≤ 4194304 := by unfold bulkA at hB; omega
  clear hS
  obtain ⟨house, parts, asks, ask⟩ := A
  dsimp only at *
  go_enter Tryd.func21, Tryd.ntmps21
  go_wp2_with fail
  refine (toS_any a0 cap parts _ (HS.out.keep fun k hk => by rw [alloc_keep _ _ k (by simp; omega), alloc_keep _ _ k (by simp; omega), alloc_keep _ _ k hk]) hl).mono ?_
  rintro e w1 ⟨rfl, hO, hb1⟩
  simp only [World.size_alloc] at hO hb1 ⊢
  have hz : w.heap.size + 1 + 1 + 1 < w1.heap.size := by
    have := World.ownsRow.lt hO (w.heap.size + 1 + 1 + 1) rfl
    omega
  have HO : Hid _ := hO
  clear hO
  have f2 : w1.cell? ⟨w.heap.size, 2, none⟩ = some (.bool asks) := by rw [hb1.cell (show w.heap.size < w.heap.size + 1 + 1 + 1 by omega)]; go_simp
  have f3 : w1.cell? ⟨w.heap.size, 3, none⟩ = some (.string ask) := by rw [hb1.cell (show w.heap.size < w.heap.size + 1 + 1 + 1 by omega)]; go_simp
  have r0 : w1.cell? ⟨w.heap.size + 1, 0, none⟩ = some (.string ⟨#[]⟩) := by rw [hb1.cell (show w.heap.size + 1 < w.heap.size + 1 + 1 + 1 by omega)]; go_simp
  have r1 : w1.cell? ⟨w.heap.size + 1, 1, none⟩ = some (.slice none 0 0) := by rw [hb1.cell (show w.heap.size + 1 < w.heap.size + 1 + 1 + 1 by omega)]; go_simp
  have r2 : w1.cell? ⟨w.heap.size + 1, 2, none⟩ = some (.bool false) := by rw [hb1.cell (show w.heap.size + 1 < w.heap.size + 1 + 1 + 1 by omega)]; go_simp
  have r3 : w1.cell? ⟨w.heap.size + 1, 3, none⟩ = some (.string ⟨#[]⟩) := by rw [hb1.cell (show w.heap.size + 1 < w.heap.size + 1 + 1 + 1 by omega)]; go_simp
  have o0 : w1.cell? ⟨w.heap.size + 1 + 1, 0, none⟩ = some (.string house) := by rw [hb1.cell (show w.heap.size + 1 + 1 < w.heap.size + 1 + 1 + 1 by omega)]; go_simp
  have o1 : w1.cell? ⟨w.heap.size + 1 + 1, 1, none⟩ = some (.slice none 0 0) := by rw [hb1.cell (show w.heap.size + 1 + 1 < w.heap.size + 1 + 1 + 1 by omega)]; go_simp
  have o2 : w1.cell? ⟨w.heap.size + 1 + 1, 2, none⟩ = some (.bool false) := by rw [hb1.cell (show w.heap.size + 1 + 1 < w.heap.size + 1 + 1 + 1 by omega)]; go_simp
  have o3 : w1.cell? ⟨w.heap.size + 1 + 1, 3, none⟩ = some (.string ⟨#[]⟩) := by rw [hb1.cell (show w.heap.size + 1 + 1 < w.heap.size + 1 + 1 + 1 by omega)]; go_simp
  have zr : ∀ j, w1.frozen? ⟨w.heap.size + 1, j, none⟩ = false := fun j => by rw [hb1.frozen (show w.heap.size + 1 < w.heap.size + 1 + 1 + 1 by omega)]; go_simp
  have zo : ∀ j, w1.frozen? ⟨w.heap.size + 1 + 1, j, none⟩ = false := fun j => by rw [hb1.frozen (show w.heap.size + 1 + 1 < w.heap.size + 1 + 1 + 1 by omega)]; go_simp
  go_wp2
  refine bodyPost_ret (v := .agg #[.string house, .slice (some ⟨w.heap.size + 1 + 1 + 1, 0, none⟩) parts.length parts.length, .bool asks, .string ask]) (by simp [results, Tryd.results21, go_sem, r0, r1, r2, r3]) rfl ⟨w.heap.size + 1 + 1 + 1, rfl, ?_, ?_⟩
  · refine Owns.mono (base := w.heap.size + 1 + 1 + 1) ?_ (by omega)
    unfold Owns
    iterate 7 refine ownsRow_setCell_below ?_ (by dsimp only; omega) _
    exact HO.out
  · have hb0 : Below w.heap.size w w1 := ((((Below.refl _ w).alloc (Nat.le_refl _) _).alloc (by simp) _).alloc (by simp; omega) _).trans (hb1.mono (by omega))
    iterate 7 refine Below.setCell ?_ (by dsimp only; omega) _
    exact hb0
end Go.Proofs.YtboncolbijicfaaDoor.Ad1
