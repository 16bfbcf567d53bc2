/-
  DERIVED. GIVEN WITH THE SEED: THE CARDS: each row of YtjgaddchkoonpaaGreatDoorRows.lean that lists a variable, with what it lists TIED to the program's text (the seventh form; the later family's looks); each row that meets fmt, with fmt's text TOLD by the authors' own Lean function (tested against real Go, not proved from fmt's source: count such statements apart). THE CARD IS WHAT COUNTS. Prove the row's statement (the work); the ties are given (YtjgaddchkoonpaaGreatDoorTie.lean); close each card by the builder's one call (the guide's Derived/Test/ToyasCard.lean, 'card_holds'). Laid BY PROGRAM, IN A SANDBOX (cutbox-door.mjs). By AI agents, Wed Nov 11 2026. No macro, syntax, notation, axiom, sorry.
-/
import Derived.Test.YtjgaddchkoonpaaGreatDoorRows
import GoSem.ClaimSeven
namespace Go.Proofs.YtjgaddchkoonpaaGreatDoor
namespace Rows

/-- THE TIED CARD OF 'laws.FnPageAddrsAll'. -/
def fnPageAddrsAllCard : Claim7 := { stood := { row := fnPageAddrsAllRow, standIns := [], harness := (true, "09266af5e5da2422c02ec9153c97060e21e8347de8b7fc546f30d8116313218b"), looks := false }, kinds := [], alts := [], laidByText := true, laidKinds := [.data, .pinned], laidTests := true, laidLooks := .later }
def FnPageAddrsAllCardSaid : Prop := Claim7.holds Tryz.pinned (.plain (OpenSpec.ofChange fnPageAddrsAllSpec)) fnPageAddrsAllCard

/-- THE SECOND FORM's CARD OF 'laws.FnPageAddrsAll'. -/
def fnPageAddrsAllUptoCard : Claim7 := { stood := { row := fnPageAddrsAllUptoRow, standIns := [], harness := (true, "09266af5e5da2422c02ec9153c97060e21e8347de8b7fc546f30d8116313218b"), looks := false }, kinds := [], alts := [], laidByText := true, laidKinds := [.data, .pinned], laidTests := true, laidLooks := .later }
def FnPageAddrsAllUptoCardSaid : Prop := Claim7.holds Tryz.pinned (.plain (OpenSpec.upto fnPageAddrsAllSpec)) fnPageAddrsAllUptoCard
end Rows
end Go.Proofs.YtjgaddchkoonpaaGreatDoor
