/-
  DERIVED. GIVEN WITH THE SEED: THE CARDS: each row of YtiennniclkbjlaaGreatDoorRows.lean that lists a variable, with what it lists TIED to the program's text (the seventh form; the later family's looks); each row that meets fmt, with fmt's text TOLD by the authors' own Lean function (tested against real Go, not proved from fmt's source: count such statements apart). THE CARD IS WHAT COUNTS. Prove the row's statement (the work); the ties are given (YtiennniclkbjlaaGreatDoorTie.lean); close each card by the builder's one call (the guide's Derived/Test/ToyasCard.lean, 'card_holds'). Laid BY PROGRAM, IN A SANDBOX (cutbox-door.mjs). By AI agents, Wed Nov 11 2026. No macro, syntax, notation, axiom, sorry.
-/
import Derived.Test.YtiennniclkbjlaaGreatDoorRows
import GoSem.ClaimSeven
namespace Go.Proofs.YtiennniclkbjlaaGreatDoor
namespace Rows

/-- THE TIED CARD OF 'laws.FnTripNew'. -/
def fnTripNewCard : Claim7 := { stood := { row := fnTripNewRow, standIns := [], harness := (true, "acf972487d933d373c37e67936a120727604b70ea790e83ae0230ee2bb92ccc9"), looks := true }, kinds := [], alts := [], laidByText := true, laidKinds := [.data, .pinned], laidTests := true, laidLooks := .later }
def FnTripNewCardSaid : Prop := Claim7.holds Tryz.pinned (.plain (OpenSpec.ofChange fnTripNewSpec)) fnTripNewCard

/-- THE TIED CARD OF 'laws.FnGoWaitAll'. -/
def fnGoWaitAllCard : Claim7 := { stood := { row := fnGoWaitAllRow, standIns := [], harness := (true, "acf972487d933d373c37e67936a120727604b70ea790e83ae0230ee2bb92ccc9"), looks := true }, kinds := [], alts := [], laidByText := true, laidKinds := [.data, .sentinel, .sentinel, .pinned], laidTests := true, laidLooks := .later }
def FnGoWaitAllCardSaid : Prop := Claim7.holds Tryz.pinned (.plain (OpenSpec.ofChange fnGoWaitAllSpec)) fnGoWaitAllCard

/-- THE TIED CARD OF 'laws.FnGoEnd'. -/
def fnGoEndCard : Claim7 := { stood := { row := fnGoEndRow, standIns := [], harness := (true, "acf972487d933d373c37e67936a120727604b70ea790e83ae0230ee2bb92ccc9"), looks := true }, kinds := [], alts := [], laidByText := true, laidKinds := [.data, .sentinel, .sentinel, .pinned], laidTests := true, laidLooks := .later }
def FnGoEndCardSaid : Prop := Claim7.holds Tryz.pinned (.plain (OpenSpec.ofChange fnGoEndSpec)) fnGoEndCard

/-- THE TIED CARD OF 'laws.FnGoKinds'. -/
def fnGoKindsCard : Claim7 := { stood := { row := fnGoKindsRow, standIns := [], harness := (true, "acf972487d933d373c37e67936a120727604b70ea790e83ae0230ee2bb92ccc9"), looks := true }, kinds := [], alts := [], laidByText := true, laidKinds := [.data, .sentinel, .sentinel, .pinned], laidTests := true, laidLooks := .later }
def FnGoKindsCardSaid : Prop := Claim7.holds Tryz.pinned (.plain (OpenSpec.ofChange fnGoKindsSpec)) fnGoKindsCard

/-- THE TIED CARD OF 'laws.FnGoSteps'. -/
def fnGoStepsCard : Claim7 := { stood := { row := fnGoStepsRow, standIns := [], harness := (true, "acf972487d933d373c37e67936a120727604b70ea790e83ae0230ee2bb92ccc9"), looks := true }, kinds := [], alts := [], laidByText := true, laidKinds := [.data, .sentinel, .sentinel, .pinned], laidTests := true, laidLooks := .later }
def FnGoStepsCardSaid : Prop := Claim7.holds Tryz.pinned (.plain (OpenSpec.ofChange fnGoStepsSpec)) fnGoStepsCard

/-- THE TIED CARD OF 'laws.FnGoNone'. -/
def fnGoNoneCard : Claim7 := { stood := { row := fnGoNoneRow, standIns := [], harness := (true, "acf972487d933d373c37e67936a120727604b70ea790e83ae0230ee2bb92ccc9"), looks := true }, kinds := [], alts := [], laidByText := true, laidKinds := [.data, .sentinel, .sentinel, .pinned], laidTests := true, laidLooks := .later }
def FnGoNoneCardSaid : Prop := Claim7.holds Tryz.pinned (.plain (OpenSpec.ofChange fnGoNoneSpec)) fnGoNoneCard

/-- THE SECOND FORM's CARD OF 'laws.FnTripNew'. -/
def fnTripNewUptoCard : Claim7 := { stood := { row := fnTripNewUptoRow, standIns := [], harness := (true, "acf972487d933d373c37e67936a120727604b70ea790e83ae0230ee2bb92ccc9"), looks := true }, kinds := [], alts := [], laidByText := true, laidKinds := [.data, .pinned], laidTests := true, laidLooks := .later }
def FnTripNewUptoCardSaid : Prop := Claim7.holds Tryz.pinned (.plain (OpenSpec.upto fnTripNewSpec)) fnTripNewUptoCard

/-- THE SECOND FORM's CARD OF 'laws.FnGoWaitAll'. -/
def fnGoWaitAllUptoCard : Claim7 := { stood := { row := fnGoWaitAllUptoRow, standIns := [], harness := (true, "acf972487d933d373c37e67936a120727604b70ea790e83ae0230ee2bb92ccc9"), looks := true }, kinds := [], alts := [], laidByText := true, laidKinds := [.data, .sentinel, .sentinel, .pinned], laidTests := true, laidLooks := .later }
def FnGoWaitAllUptoCardSaid : Prop := Claim7.holds Tryz.pinned (.plain (OpenSpec.upto fnGoWaitAllSpec)) fnGoWaitAllUptoCard

/-- THE SECOND FORM's CARD OF 'laws.FnGoEnd'. -/
def fnGoEndUptoCard : Claim7 := { stood := { row := fnGoEndUptoRow, standIns := [], harness := (true, "acf972487d933d373c37e67936a120727604b70ea790e83ae0230ee2bb92ccc9"), looks := true }, kinds := [], alts := [], laidByText := true, laidKinds := [.data, .sentinel, .sentinel, .pinned], laidTests := true, laidLooks := .later }
def FnGoEndUptoCardSaid : Prop := Claim7.holds Tryz.pinned (.plain (OpenSpec.upto fnGoEndSpec)) fnGoEndUptoCard

/-- THE SECOND FORM's CARD OF 'laws.FnGoKinds'. -/
def fnGoKindsUptoCard : Claim7 := { stood := { row := fnGoKindsUptoRow, standIns := [], harness := (true, "acf972487d933d373c37e67936a120727604b70ea790e83ae0230ee2bb92ccc9"), looks := true }, kinds := [], alts := [], laidByText := true, laidKinds := [.data, .sentinel, .sentinel, .pinned], laidTests := true, laidLooks := .later }
def FnGoKindsUptoCardSaid : Prop := Claim7.holds Tryz.pinned (.plain (OpenSpec.upto fnGoKindsSpec)) fnGoKindsUptoCard

/-- THE SECOND FORM's CARD OF 'laws.FnGoSteps'. -/
def fnGoStepsUptoCard : Claim7 := { stood := { row := fnGoStepsUptoRow, standIns := [], harness := (true, "acf972487d933d373c37e67936a120727604b70ea790e83ae0230ee2bb92ccc9"), looks := true }, kinds := [], alts := [], laidByText := true, laidKinds := [.data, .sentinel, .sentinel, .pinned], laidTests := true, laidLooks := .later }
def FnGoStepsUptoCardSaid : Prop := Claim7.holds Tryz.pinned (.plain (OpenSpec.upto fnGoStepsSpec)) fnGoStepsUptoCard

/-- THE SECOND FORM's CARD OF 'laws.FnGoNone'. -/
def fnGoNoneUptoCard : Claim7 := { stood := { row := fnGoNoneUptoRow, standIns := [], harness := (true, "acf972487d933d373c37e67936a120727604b70ea790e83ae0230ee2bb92ccc9"), looks := true }, kinds := [], alts := [], laidByText := true, laidKinds := [.data, .sentinel, .sentinel, .pinned], laidTests := true, laidLooks := .later }
def FnGoNoneUptoCardSaid : Prop := Claim7.holds Tryz.pinned (.plain (OpenSpec.upto fnGoNoneSpec)) fnGoNoneUptoCard
end Rows
end Go.Proofs.YtiennniclkbjlaaGreatDoor
