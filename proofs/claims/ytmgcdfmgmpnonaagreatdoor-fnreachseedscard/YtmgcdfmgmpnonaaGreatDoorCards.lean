/-
  DERIVED. GIVEN WITH THE SEED: THE CARDS: each row of YtmgcdfmgmpnonaaGreatDoorRows.lean that lists a variable, with what it lists TIED to the program's text (the seventh form; the later family's looks); each row that meets fmt, with fmt's text TOLD by the authors' own Lean function (tested against real Go, not proved from fmt's source: count such statements apart). THE CARD IS WHAT COUNTS. Prove the row's statement (the work); the ties are given (YtmgcdfmgmpnonaaGreatDoorTie.lean); close each card by the builder's one call (the guide's Derived/Test/ToyasCard.lean, 'card_holds'). Laid BY PROGRAM, IN A SANDBOX (cutbox-door.mjs). By AI agents, Wed Nov 11 2026. No macro, syntax, notation, axiom, sorry.
-/
import Derived.Test.YtmgcdfmgmpnonaaGreatDoorRows
import GoSem.ClaimSeven
namespace Go.Proofs.YtmgcdfmgmpnonaaGreatDoor
namespace Rows

/-- THE TIED CARD OF 'laws.FnWorldNotice'. -/
def fnWorldNoticeCard : Claim7 := { stood := { row := fnWorldNoticeRow, standIns := [], harness := (true, "babdec6da328bb66767d528d4cb7531ac52894fca0c72eeffef27d4c37c1c87f"), looks := true }, kinds := [], alts := [], laidByText := true, laidKinds := [.data, .pinned], laidTests := true, laidLooks := .later }
def FnWorldNoticeCardSaid : Prop := Claim7.holds Tryz.pinned (.plain (OpenSpec.ofChange fnWorldNoticeSpec)) fnWorldNoticeCard

/-- THE TIED CARD OF 'laws.FnWorldLets'. -/
def fnWorldLetsCard : Claim7 := { stood := { row := fnWorldLetsRow, standIns := [], harness := (true, "babdec6da328bb66767d528d4cb7531ac52894fca0c72eeffef27d4c37c1c87f"), looks := true }, kinds := [], alts := [], laidByText := true, laidKinds := [.data, .pinned], laidTests := true, laidLooks := .later }
def FnWorldLetsCardSaid : Prop := Claim7.holds Tryz.pinned (.plain (OpenSpec.ofChange fnWorldLetsSpec)) fnWorldLetsCard

/-- THE TIED CARD OF 'laws.FnReachLets'. -/
def fnReachLetsCard : Claim7 := { stood := { row := fnReachLetsRow, standIns := [], harness := (true, "babdec6da328bb66767d528d4cb7531ac52894fca0c72eeffef27d4c37c1c87f"), looks := true }, kinds := [], alts := [], laidByText := true, laidKinds := [.data, .pinned], laidTests := true, laidLooks := .later }
def FnReachLetsCardSaid : Prop := Claim7.holds Tryz.pinned (.plain (OpenSpec.ofChange fnReachLetsSpec)) fnReachLetsCard

/-- THE TIED CARD OF 'laws.FnReachSeeds'. -/
def fnReachSeedsCard : Claim7 := { stood := { row := fnReachSeedsRow, standIns := [], harness := (true, "babdec6da328bb66767d528d4cb7531ac52894fca0c72eeffef27d4c37c1c87f"), looks := true }, kinds := [], alts := [], laidByText := true, laidKinds := [.data, .pinned], laidTests := true, laidLooks := .later }
def FnReachSeedsCardSaid : Prop := Claim7.holds Tryz.pinned (.plain (OpenSpec.ofChange fnReachSeedsSpec)) fnReachSeedsCard

/-- THE TIED CARD OF 'laws.FnReachOn'. -/
def fnReachOnCard : Claim7 := { stood := { row := fnReachOnRow, standIns := [], harness := (true, "babdec6da328bb66767d528d4cb7531ac52894fca0c72eeffef27d4c37c1c87f"), looks := true }, kinds := [], alts := [], laidByText := true, laidKinds := [.data, .pinned], laidTests := true, laidLooks := .later }
def FnReachOnCardSaid : Prop := Claim7.holds Tryz.pinned (.plain (OpenSpec.ofChange fnReachOnSpec)) fnReachOnCard

/-- THE TIED CARD OF 'laws.FnReachLeast'. -/
def fnReachLeastCard : Claim7 := { stood := { row := fnReachLeastRow, standIns := [], harness := (true, "babdec6da328bb66767d528d4cb7531ac52894fca0c72eeffef27d4c37c1c87f"), looks := true }, kinds := [], alts := [], laidByText := true, laidKinds := [.data, .pinned], laidTests := true, laidLooks := .later }
def FnReachLeastCardSaid : Prop := Claim7.holds Tryz.pinned (.plain (OpenSpec.ofChange fnReachLeastSpec)) fnReachLeastCard

/-- THE TIED CARD OF 'laws.FnReachMore'. -/
def fnReachMoreCard : Claim7 := { stood := { row := fnReachMoreRow, standIns := [], harness := (true, "babdec6da328bb66767d528d4cb7531ac52894fca0c72eeffef27d4c37c1c87f"), looks := true }, kinds := [], alts := [], laidByText := true, laidKinds := [.data, .pinned], laidTests := true, laidLooks := .later }
def FnReachMoreCardSaid : Prop := Claim7.holds Tryz.pinned (.plain (OpenSpec.ofChange fnReachMoreSpec)) fnReachMoreCard

/-- THE TIED CARD OF 'laws.FnReachFewer'. -/
def fnReachFewerCard : Claim7 := { stood := { row := fnReachFewerRow, standIns := [], harness := (true, "babdec6da328bb66767d528d4cb7531ac52894fca0c72eeffef27d4c37c1c87f"), looks := true }, kinds := [], alts := [], laidByText := true, laidKinds := [.data, .pinned], laidTests := true, laidLooks := .later }
def FnReachFewerCardSaid : Prop := Claim7.holds Tryz.pinned (.plain (OpenSpec.ofChange fnReachFewerSpec)) fnReachFewerCard

/-- THE SECOND FORM's CARD OF 'laws.FnWorldNotice'. -/
def fnWorldNoticeUptoCard : Claim7 := { stood := { row := fnWorldNoticeUptoRow, standIns := [], harness := (true, "babdec6da328bb66767d528d4cb7531ac52894fca0c72eeffef27d4c37c1c87f"), looks := true }, kinds := [], alts := [], laidByText := true, laidKinds := [.data, .pinned], laidTests := true, laidLooks := .later }
def FnWorldNoticeUptoCardSaid : Prop := Claim7.holds Tryz.pinned (.plain (OpenSpec.upto fnWorldNoticeSpec)) fnWorldNoticeUptoCard

/-- THE SECOND FORM's CARD OF 'laws.FnWorldLets'. -/
def fnWorldLetsUptoCard : Claim7 := { stood := { row := fnWorldLetsUptoRow, standIns := [], harness := (true, "babdec6da328bb66767d528d4cb7531ac52894fca0c72eeffef27d4c37c1c87f"), looks := true }, kinds := [], alts := [], laidByText := true, laidKinds := [.data, .pinned], laidTests := true, laidLooks := .later }
def FnWorldLetsUptoCardSaid : Prop := Claim7.holds Tryz.pinned (.plain (OpenSpec.upto fnWorldLetsSpec)) fnWorldLetsUptoCard

/-- THE SECOND FORM's CARD OF 'laws.FnReachLets'. -/
def fnReachLetsUptoCard : Claim7 := { stood := { row := fnReachLetsUptoRow, standIns := [], harness := (true, "babdec6da328bb66767d528d4cb7531ac52894fca0c72eeffef27d4c37c1c87f"), looks := true }, kinds := [], alts := [], laidByText := true, laidKinds := [.data, .pinned], laidTests := true, laidLooks := .later }
def FnReachLetsUptoCardSaid : Prop := Claim7.holds Tryz.pinned (.plain (OpenSpec.upto fnReachLetsSpec)) fnReachLetsUptoCard

/-- THE SECOND FORM's CARD OF 'laws.FnReachSeeds'. -/
def fnReachSeedsUptoCard : Claim7 := { stood := { row := fnReachSeedsUptoRow, standIns := [], harness := (true, "babdec6da328bb66767d528d4cb7531ac52894fca0c72eeffef27d4c37c1c87f"), looks := true }, kinds := [], alts := [], laidByText := true, laidKinds := [.data, .pinned], laidTests := true, laidLooks := .later }
def FnReachSeedsUptoCardSaid : Prop := Claim7.holds Tryz.pinned (.plain (OpenSpec.upto fnReachSeedsSpec)) fnReachSeedsUptoCard

/-- THE SECOND FORM's CARD OF 'laws.FnReachOn'. -/
def fnReachOnUptoCard : Claim7 := { stood := { row := fnReachOnUptoRow, standIns := [], harness := (true, "babdec6da328bb66767d528d4cb7531ac52894fca0c72eeffef27d4c37c1c87f"), looks := true }, kinds := [], alts := [], laidByText := true, laidKinds := [.data, .pinned], laidTests := true, laidLooks := .later }
def FnReachOnUptoCardSaid : Prop := Claim7.holds Tryz.pinned (.plain (OpenSpec.upto fnReachOnSpec)) fnReachOnUptoCard

/-- THE SECOND FORM's CARD OF 'laws.FnReachLeast'. -/
def fnReachLeastUptoCard : Claim7 := { stood := { row := fnReachLeastUptoRow, standIns := [], harness := (true, "babdec6da328bb66767d528d4cb7531ac52894fca0c72eeffef27d4c37c1c87f"), looks := true }, kinds := [], alts := [], laidByText := true, laidKinds := [.data, .pinned], laidTests := true, laidLooks := .later }
def FnReachLeastUptoCardSaid : Prop := Claim7.holds Tryz.pinned (.plain (OpenSpec.upto fnReachLeastSpec)) fnReachLeastUptoCard

/-- THE SECOND FORM's CARD OF 'laws.FnReachMore'. -/
def fnReachMoreUptoCard : Claim7 := { stood := { row := fnReachMoreUptoRow, standIns := [], harness := (true, "babdec6da328bb66767d528d4cb7531ac52894fca0c72eeffef27d4c37c1c87f"), looks := true }, kinds := [], alts := [], laidByText := true, laidKinds := [.data, .pinned], laidTests := true, laidLooks := .later }
def FnReachMoreUptoCardSaid : Prop := Claim7.holds Tryz.pinned (.plain (OpenSpec.upto fnReachMoreSpec)) fnReachMoreUptoCard

/-- THE SECOND FORM's CARD OF 'laws.FnReachFewer'. -/
def fnReachFewerUptoCard : Claim7 := { stood := { row := fnReachFewerUptoRow, standIns := [], harness := (true, "babdec6da328bb66767d528d4cb7531ac52894fca0c72eeffef27d4c37c1c87f"), looks := true }, kinds := [], alts := [], laidByText := true, laidKinds := [.data, .pinned], laidTests := true, laidLooks := .later }
def FnReachFewerUptoCardSaid : Prop := Claim7.holds Tryz.pinned (.plain (OpenSpec.upto fnReachFewerSpec)) fnReachFewerUptoCard
end Rows
end Go.Proofs.YtmgcdfmgmpnonaaGreatDoor
