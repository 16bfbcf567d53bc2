/- Pages in a slice: how they lie in cells. -/
import Derived.Test.YtboncolbijicfaaGreatDoorRows2
namespace Go.Proofs.YtboncolbijicfaaGreatDoor.RoPg
open Go.RowKit Go.Proofs.YtboncolbijicfaaGreatDoor.St Go.Proofs.YtboncolbijicfaaGreatDoor.RR

structure Pg where
  addr : ByteArray
  text : ByteArray
  lead : ByteArray
  fails : Int
def FPg : Frm Pg where
  enc p := [.string p.addr, .string p.text, .string p.lead, .int .i64 p.fails]
  k := 4
  pos := by decide
  len _ := rfl
  one _ u hu := by
    simp only [List.mem_cons, List.not_mem_nil, or_false] at hu
    rcases hu with rfl | rfl | rfl | rfl <;> rfl
theorem pg_at {w : World} {a0 : Option Addr} {cap : Nat} {L : List Pg} (h : IsRows FPg w a0 cap L) {i : Nat} (hi : i < L.length) : ∃ b off, a0 = some ⟨b, off, none⟩ ∧ w.cell? ⟨b, off + i * 4, none⟩ = some (.string L[i].addr) ∧ w.cell? ⟨b, off + i * 4 + 1, none⟩ = some (.string L[i].text) ∧ w.cell? ⟨b, off + i * 4 + 2, none⟩ = some (.string L[i].lead) ∧ w.cell? ⟨b, off + i * 4 + 3, none⟩ = some (.int .i64 L[i].fails) := by
  obtain ⟨b, off, e, hc⟩ := h.at hi
  exact ⟨b, off, e, hc 0 _ rfl, hc 1 _ rfl, hc 2 _ rfl, hc 3 _ rfl⟩
/-- no text of it is too long for a machine -/
def PgIn (p : Pg) : Prop := p.addr.size ≤ maxLen ∧ p.text.size ≤ maxLen ∧ p.lead.size ≤ maxLen ∧ (Lit.int .i64 p.fails).wf = true
end Go.Proofs.YtboncolbijicfaaGreatDoor.RoPg
