/-
  DERIVED. GIVEN WITH THE SEED: THE CARDS: each row of YtlamhiidpbehnaaDoorRows.lean that lists a variable, with what it lists TIED to the program's text (the seventh form; the later family's looks); each row that meets fmt, with fmt's text TOLD by the authors' own Lean function (tested against real Go, not proved from fmt's source: count such statements apart). THE CARD IS WHAT COUNTS. Prove the row's statement (the work); the ties are given (YtlamhiidpbehnaaDoorTie.lean); close each card by the builder's one call (the guide's Derived/Test/ToyasCard.lean, 'card_holds'). Laid BY PROGRAM, IN A SANDBOX (cutbox-door.mjs). By AI agents, Wed Nov 11 2026. No macro, syntax, notation, axiom, sorry.
-/
import Derived.Test.YtlamhiidpbehnaaDoorRows
import GoSem.ClaimSeven
namespace Go.Proofs.YtlamhiidpbehnaaDoor
namespace Rows

/-- THE TIED CARD OF 'laws.FnJoinWhole'. -/
def fnJoinWholeCard : Claim7 := { stood := { row := fnJoinWholeRow, standIns := [], harness := (true, "5666724e5c1113ba7179409fbde9be335d7522563a7ae213f2f4a523ee4a0e2e"), looks := false }, kinds := [], alts := [], laidByText := true, laidKinds := [.data, .pinned], laidTests := true, laidLooks := .later }
def FnJoinWholeCardSaid : Prop := Claim7.holds Tryd.pinned (.plain (OpenSpec.ofChange fnJoinWholeSpec)) fnJoinWholeCard

/-- THE TIED CARD OF 'laws.FnJoinUp'. -/
def fnJoinUpCard : Claim7 := { stood := { row := fnJoinUpRow, standIns := [], harness := (true, "5666724e5c1113ba7179409fbde9be335d7522563a7ae213f2f4a523ee4a0e2e"), looks := false }, kinds := [], alts := [], laidByText := true, laidKinds := [.data, .pinned], laidTests := true, laidLooks := .later }
def FnJoinUpCardSaid : Prop := Claim7.holds Tryd.pinned (.plain (OpenSpec.ofChange fnJoinUpSpec)) fnJoinUpCard

/-- THE SECOND FORM's CARD OF 'laws.FnJoinWhole'. -/
def fnJoinWholeUptoCard : Claim7 := { stood := { row := fnJoinWholeUptoRow, standIns := [], harness := (true, "5666724e5c1113ba7179409fbde9be335d7522563a7ae213f2f4a523ee4a0e2e"), looks := false }, kinds := [], alts := [], laidByText := true, laidKinds := [.data, .pinned], laidTests := true, laidLooks := .later }
def FnJoinWholeUptoCardSaid : Prop := Claim7.holds Tryd.pinned (.plain (OpenSpec.upto fnJoinWholeSpec)) fnJoinWholeUptoCard

/-- THE SECOND FORM's CARD OF 'laws.FnJoinUp'. -/
def fnJoinUpUptoCard : Claim7 := { stood := { row := fnJoinUpUptoRow, standIns := [], harness := (true, "5666724e5c1113ba7179409fbde9be335d7522563a7ae213f2f4a523ee4a0e2e"), looks := false }, kinds := [], alts := [], laidByText := true, laidKinds := [.data, .pinned], laidTests := true, laidLooks := .later }
def FnJoinUpUptoCardSaid : Prop := Claim7.holds Tryd.pinned (.plain (OpenSpec.upto fnJoinUpSpec)) fnJoinUpUptoCard
end Rows
end Go.Proofs.YtlamhiidpbehnaaDoor
