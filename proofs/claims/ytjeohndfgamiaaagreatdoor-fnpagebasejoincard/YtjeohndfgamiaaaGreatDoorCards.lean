/-
  DERIVED. GIVEN WITH THE SEED: THE CARDS: each row of YtjeohndfgamiaaaGreatDoorRows.lean that lists a variable, with what it lists TIED to the program's text (the seventh form; the later family's looks); each row that meets fmt, with fmt's text TOLD by the authors' own Lean function (tested against real Go, not proved from fmt's source: count such statements apart). THE CARD IS WHAT COUNTS. Prove the row's statement (the work); the ties are given (YtjeohndfgamiaaaGreatDoorTie.lean); close each card by the builder's one call (the guide's Derived/Test/ToyasCard.lean, 'card_holds'). Laid BY PROGRAM, IN A SANDBOX (cutbox-door.mjs). By AI agents, Wed Nov 11 2026. No macro, syntax, notation, axiom, sorry.
-/
import Derived.Test.YtjeohndfgamiaaaGreatDoorRows
import GoSem.ClaimSeven
namespace Go.Proofs.YtjeohndfgamiaaaGreatDoor
namespace Rows

/-- THE TIED CARD OF 'laws.FnPageAddrs'. -/
def fnPageAddrsCard : Claim7 := { stood := { row := fnPageAddrsRow, standIns := [], harness := (true, "ebff9806a581e4b59fab91a233634f061549b4243db1ee69913d0183f1f62728"), looks := false }, kinds := [], alts := [], laidByText := true, laidKinds := [.data, .pinned], laidTests := true, laidLooks := .later }
def FnPageAddrsCardSaid : Prop := Claim7.holds Tryz.pinned (.plain (OpenSpec.ofChange fnPageAddrsSpec)) fnPageAddrsCard

/-- THE TIED CARD OF 'laws.FnPageAddrsAll'. -/
def fnPageAddrsAllCard : Claim7 := { stood := { row := fnPageAddrsAllRow, standIns := [], harness := (true, "ebff9806a581e4b59fab91a233634f061549b4243db1ee69913d0183f1f62728"), looks := false }, kinds := [], alts := [], laidByText := true, laidKinds := [.data, .pinned], laidTests := true, laidLooks := .later }
def FnPageAddrsAllCardSaid : Prop := Claim7.holds Tryz.pinned (.plain (OpenSpec.ofChange fnPageAddrsAllSpec)) fnPageAddrsAllCard

/-- THE TIED CARD OF 'laws.FnPageBaseJoin'. -/
def fnPageBaseJoinCard : Claim7 := { stood := { row := fnPageBaseJoinRow, standIns := [], harness := (true, "ebff9806a581e4b59fab91a233634f061549b4243db1ee69913d0183f1f62728"), looks := false }, kinds := [], alts := [], laidByText := true, laidKinds := [.data, .pinned], laidTests := true, laidLooks := .later }
def FnPageBaseJoinCardSaid : Prop := Claim7.holds Tryz.pinned (.plain (OpenSpec.ofChange fnPageBaseJoinSpec)) fnPageBaseJoinCard

/-- THE SECOND FORM's CARD OF 'laws.FnPageAddrs'. -/
def fnPageAddrsUptoCard : Claim7 := { stood := { row := fnPageAddrsUptoRow, standIns := [], harness := (true, "ebff9806a581e4b59fab91a233634f061549b4243db1ee69913d0183f1f62728"), looks := false }, kinds := [], alts := [], laidByText := true, laidKinds := [.data, .pinned], laidTests := true, laidLooks := .later }
def FnPageAddrsUptoCardSaid : Prop := Claim7.holds Tryz.pinned (.plain (OpenSpec.upto fnPageAddrsSpec)) fnPageAddrsUptoCard

/-- THE SECOND FORM's CARD OF 'laws.FnPageAddrsAll'. -/
def fnPageAddrsAllUptoCard : Claim7 := { stood := { row := fnPageAddrsAllUptoRow, standIns := [], harness := (true, "ebff9806a581e4b59fab91a233634f061549b4243db1ee69913d0183f1f62728"), looks := false }, kinds := [], alts := [], laidByText := true, laidKinds := [.data, .pinned], laidTests := true, laidLooks := .later }
def FnPageAddrsAllUptoCardSaid : Prop := Claim7.holds Tryz.pinned (.plain (OpenSpec.upto fnPageAddrsAllSpec)) fnPageAddrsAllUptoCard

/-- THE SECOND FORM's CARD OF 'laws.FnPageBaseJoin'. -/
def fnPageBaseJoinUptoCard : Claim7 := { stood := { row := fnPageBaseJoinUptoRow, standIns := [], harness := (true, "ebff9806a581e4b59fab91a233634f061549b4243db1ee69913d0183f1f62728"), looks := false }, kinds := [], alts := [], laidByText := true, laidKinds := [.data, .pinned], laidTests := true, laidLooks := .later }
def FnPageBaseJoinUptoCardSaid : Prop := Claim7.holds Tryz.pinned (.plain (OpenSpec.upto fnPageBaseJoinSpec)) fnPageBaseJoinUptoCard
end Rows
end Go.Proofs.YtjeohndfgamiaaaGreatDoor
