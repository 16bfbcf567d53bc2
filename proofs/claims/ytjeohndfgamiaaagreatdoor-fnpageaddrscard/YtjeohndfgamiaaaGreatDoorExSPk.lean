/- Several texts in one: ExS, Addr5, Addr6. -/
import Derived.Test.YtjeohndfgamiaaaGreatDoorCmp
import Derived.Test.YtjeohndfgamiaaaGreatDoorEscMathPk
import Derived.Test.YtjeohndfgamiaaaGreatDoorAddr4
/- The exact laws' helpers on lists of strings: how great, copied, the same, marked, held. -/
namespace Go.Proofs.YtjeohndfgamiaaaGreatDoor.St
open Go.RowKit

def sumSz : List ByteArray → Nat
  | [] => 0
  | x :: r => x.size + sumSz r
theorem sumSz_snoc : ∀ (L : List ByteArray) (x : ByteArray), sumSz (L ++ [x]) = sumSz L + x.size := by
  intro L
  induction L with
  | nil => intro x; simp [sumSz]
  | cons y L ih => intro x; simp only [List.cons_append, sumSz, ih]; omega
theorem sumSz_take (L : List ByteArray) (k : Nat) (h : k < L.length) : sumSz (L.take (k + 1)) = sumSz (L.take k) + L[k].size := by
  rw [List.take_succ_eq_append_getElem h, sumSz_snoc]


theorem set_take (L : List ByteArray) (k : Nat) (hk : k < L.length) (e : ByteArray) : (L.take k ++ List.replicate (L.length - k) e).set k L[k] = L.take (k + 1) ++ List.replicate (L.length - (k + 1)) e := by
  have hl : (L.take k).length = k := by simp; omega
  rw [List.set_append_right _ _ (by omega), hl, Nat.sub_self]
  rw [show L.length - k = (L.length - (k + 1)) + 1 by omega, List.replicate_succ, List.set_cons_zero, List.take_succ_eq_append_getElem hk, List.append_assoc]
  rfl



theorem grown_refl (w : World) (row : Option Nat) : w.grownBy w row := ⟨rfl, rfl, rfl, Nat.le_refl _, fun _ _ _ => rfl⟩
theorem grown_trans {a b c : World} {row : Option Nat} (h : a.grownBy b row) (k : b.grownBy c row) : a.grownBy c row :=
  ⟨k.os.trans h.os, k.tape.trans h.tape, k.output.trans h.output, Nat.le_trans h.size k.size, fun i hi hr => (k.block i (Nat.lt_of_lt_of_le hi h.size) hr).trans (h.block i hi hr)⟩
theorem grown_of_below {a b : World} (row : Option Nat) (h : Below a.heap.size a b) : a.grownBy b row := ⟨h.os, h.tape, h.output, h.size, fun k hk _ => h.block k hk⟩


end Go.Proofs.YtjeohndfgamiaaaGreatDoor.St
/- AddrText and AddrPath, of the program and of the model; the exact laws' helpers on addresses. -/
namespace Go.Proofs.YtjeohndfgamiaaaGreatDoor.Ad1
open Go.RowKit Go.Proofs.YtjeohndfgamiaaaGreatDoor.EscM Go.Proofs.YtjeohndfgamiaaaGreatDoor.AddrM Go.Proofs.YtjeohndfgamiaaaGreatDoor.St Go.Proofs.YtjeohndfgamiaaaGreatDoor.EscL

def textF (A : Ad) : ByteArray := if okB A then textS A else ⟨#[]⟩
def pathF (A : Ad) : ByteArray := if okB A then pathS A else ⟨#[]⟩

theorem implAddrText_any (A : Ad) (a0 : Option Addr) (cap : Nat) (w : World) (hS : IsStrs w a0 cap A.parts) (hB : bulkA A ≤ 4194304) :
    Calls Tryz.prog 11 #[.agg #[.string A.house, .slice a0 A.parts.length cap, .bool A.asks, .string A.ask]] w fun e w' => e = .returned (.string (textF A)) ∧ Below w.heap.size w w' := by
  have HS : Hid (IsStrs w a0 cap A.parts) := hS
  clear hS
  cases hk : okB A with
  | false =>
    have HN : Hid (textF A = ⟨#[]⟩) := by show _ = _; unfold textF; rw [hk]; rfl
    go_enter Tryz.func11, Tryz.ntmps11
    go_wp2_with fail
    refine (implOk_any A a0 cap _ (HS.out.keep (alloc_keep _ _)) hB).mono ?_
    rintro e w1 ⟨rfl, hb1⟩
    go_wp2
    go_ret
    exact ⟨ret_str HN.out.symm, ((Below.refl _ _).alloc (Nat.le_refl _) _).trans (hb1.mono (by simp))⟩
  | true =>
    have HN : Hid (textF A = textS A) := by show _ = _; unfold textF; rw [hk]; rfl
    go_enter Tryz.func11, Tryz.ntmps11
    go_wp2_with fail
    refine (implOk_any A a0 cap _ (HS.out.keep (alloc_keep _ _)) hB).mono ?_
    rintro e w1 ⟨rfl, hb1⟩
    have hb2 : Below (w.heap.size + 1) (w.alloc (.cells #[.string A.house, .slice a0 A.parts.length cap, .bool A.asks, .string A.ask] 25)) w1 := by simpa using hb1
    obtain ⟨c0, c1, c2, c3⟩ := box_cells hb2
    clear hb1
    go_wp2_with fail
    refine (implText_any A a0 cap _ (box_strs HS.out hb2) hB).mono ?_
    rintro e w2 ⟨rfl, hb3⟩
    go_wp2
    go_ret
    exact ⟨ret_str HN.out.symm, box_below (box_next hb2 hb3)⟩

theorem specAddrText_any (A : Ad) (a0 : Option Addr) (cap : Nat) (w : World) (hS : IsStrs w a0 cap A.parts) (hB : bulkA A ≤ 4194304) :
    Calls Tryz.prog 29 #[.agg #[.string A.house, .slice a0 A.parts.length cap, .bool A.asks, .string A.ask]] w fun e w' => e = .returned (.string (textF A)) ∧ Below w.heap.size w w' := by
  have HS : Hid (IsStrs w a0 cap A.parts) := hS
  clear hS
  cases hk : okB A with
  | false =>
    have HN : Hid (textF A = ⟨#[]⟩) := by show _ = _; unfold textF; rw [hk]; rfl
    go_enter Tryz.func29, Tryz.ntmps29
    go_wp2_with fail
    refine (specOk_any A a0 cap _ (HS.out.keep (alloc_keep _ _)) hB).mono ?_
    rintro e w1 ⟨rfl, hb1⟩
    go_wp2
    go_ret
    exact ⟨ret_str HN.out.symm, ((Below.refl _ _).alloc (Nat.le_refl _) _).trans (hb1.mono (by simp))⟩
  | true =>
    have HN : Hid (textF A = textS A) := by show _ = _; unfold textF; rw [hk]; rfl
    go_enter Tryz.func29, Tryz.ntmps29
    go_wp2_with fail
    refine (specOk_any A a0 cap _ (HS.out.keep (alloc_keep _ _)) hB).mono ?_
    rintro e w1 ⟨rfl, hb1⟩
    have hb2 : Below (w.heap.size + 1) (w.alloc (.cells #[.string A.house, .slice a0 A.parts.length cap, .bool A.asks, .string A.ask] 25)) w1 := by simpa using hb1
    obtain ⟨c0, c1, c2, c3⟩ := box_cells hb2
    clear hb1
    go_wp2_with fail
    refine (specText_any A a0 cap _ (box_strs HS.out hb2) hB).mono ?_
    rintro e w2 ⟨rfl, hb3⟩
    go_wp2
    go_ret
    exact ⟨ret_str HN.out.symm, box_below (box_next hb2 hb3)⟩


theorem fz_of_below {B : Nat} {w w1 : World} (hb : Below B w w1) {p : Addr} (hp : p.block < B) (h : w.frozen? p = false) : w1.frozen? p = false := (hb.frozen hp).trans h

end Go.Proofs.YtjeohndfgamiaaaGreatDoor.Ad1
/- The exact laws' helpers on addresses, further: how great, the same. -/
namespace Go.Proofs.YtjeohndfgamiaaaGreatDoor.Ad1
open Go.RowKit Go.Proofs.YtjeohndfgamiaaaGreatDoor.EscM Go.Proofs.YtjeohndfgamiaaaGreatDoor.AddrM Go.Proofs.YtjeohndfgamiaaaGreatDoor.St Go.Proofs.YtjeohndfgamiaaaGreatDoor.EscL

theorem sum_same : ∀ L : List ByteArray, sumSz L = sumS L := by
  intro L
  induction L with
  | nil => rfl
  | cons x r ih => simp only [sumSz, sumS, ih]


end Go.Proofs.YtjeohndfgamiaaaGreatDoor.Ad1
