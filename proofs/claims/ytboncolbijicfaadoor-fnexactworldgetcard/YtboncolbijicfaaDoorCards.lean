/-
  DERIVED. GIVEN WITH THE SEED: THE CARDS: each row of YtboncolbijicfaaDoorRows.lean that lists a variable, with what it lists TIED to the program's text (the seventh form; the later family's looks); each row that meets fmt, with fmt's text TOLD by the authors' own Lean function (tested against real Go, not proved from fmt's source: count such statements apart). THE CARD IS WHAT COUNTS. Prove the row's statement (the work); the ties are given (YtboncolbijicfaaDoorTie.lean); close each card by the builder's one call (the guide's Derived/Test/ToyasCard.lean, 'card_holds'). Laid BY PROGRAM, IN A SANDBOX (cutbox-door.mjs). By AI agents, Wed Nov 11 2026. No macro, syntax, notation, axiom, sorry.
-/
import Derived.Test.YtboncolbijicfaaDoorRows
import GoSem.ClaimSeven
namespace Go.Proofs.YtboncolbijicfaaDoor
namespace Rows

/-- THE TIED CARD OF 'laws.FnExactWorldOk'. -/
def fnExactWorldOkCard : Claim7 := { stood := { row := fnExactWorldOkRow, standIns := [], harness := (true, "f8e4a3d096665e12f6a8317c665eff04c9d20d40dd6451b34d92072cacac4da0"), looks := false }, kinds := [], alts := [], laidByText := true, laidKinds := [.data, .pinned], laidTests := true, laidLooks := .later }
def FnExactWorldOkCardSaid : Prop := Claim7.holds Tryd.pinned (.plain (OpenSpec.ofChange fnExactWorldOkSpec)) fnExactWorldOkCard

/-- THE TIED CARD OF 'laws.FnExactWorldGet'. -/
def fnExactWorldGetCard : Claim7 := { stood := { row := fnExactWorldGetRow, standIns := [], harness := (true, "f8e4a3d096665e12f6a8317c665eff04c9d20d40dd6451b34d92072cacac4da0"), looks := false }, kinds := [], alts := [], laidByText := true, laidKinds := [.data, .pinned], laidTests := true, laidLooks := .later }
def FnExactWorldGetCardSaid : Prop := Claim7.holds Tryd.pinned (.plain (OpenSpec.ofChange fnExactWorldGetSpec)) fnExactWorldGetCard

/-- THE TIED CARD OF 'laws.FnExactAddrRead'. -/
def fnExactAddrReadCard : Claim7 := { stood := { row := fnExactAddrReadRow, standIns := [], harness := (true, "f8e4a3d096665e12f6a8317c665eff04c9d20d40dd6451b34d92072cacac4da0"), looks := false }, kinds := [], alts := [], laidByText := true, laidKinds := [.data, .pinned], laidTests := true, laidLooks := .later }
def FnExactAddrReadCardSaid : Prop := Claim7.holds Tryd.pinned (.plain (OpenSpec.ofChange fnExactAddrReadSpec)) fnExactAddrReadCard

/-- THE TIED CARD OF 'laws.FnExactAddrJoin'. -/
def fnExactAddrJoinCard : Claim7 := { stood := { row := fnExactAddrJoinRow, standIns := [], harness := (true, "f8e4a3d096665e12f6a8317c665eff04c9d20d40dd6451b34d92072cacac4da0"), looks := false }, kinds := [], alts := [], laidByText := true, laidKinds := [.data, .pinned], laidTests := true, laidLooks := .later }
def FnExactAddrJoinCardSaid : Prop := Claim7.holds Tryd.pinned (.plain (OpenSpec.ofChange fnExactAddrJoinSpec)) fnExactAddrJoinCard

/-- THE SECOND FORM's CARD OF 'laws.FnExactWorldOk'. -/
def fnExactWorldOkUptoCard : Claim7 := { stood := { row := fnExactWorldOkUptoRow, standIns := [], harness := (true, "f8e4a3d096665e12f6a8317c665eff04c9d20d40dd6451b34d92072cacac4da0"), looks := false }, kinds := [], alts := [], laidByText := true, laidKinds := [.data, .pinned], laidTests := true, laidLooks := .later }
def FnExactWorldOkUptoCardSaid : Prop := Claim7.holds Tryd.pinned (.plain (OpenSpec.upto fnExactWorldOkSpec)) fnExactWorldOkUptoCard

/-- THE SECOND FORM's CARD OF 'laws.FnExactWorldGet'. -/
def fnExactWorldGetUptoCard : Claim7 := { stood := { row := fnExactWorldGetUptoRow, standIns := [], harness := (true, "f8e4a3d096665e12f6a8317c665eff04c9d20d40dd6451b34d92072cacac4da0"), looks := false }, kinds := [], alts := [], laidByText := true, laidKinds := [.data, .pinned], laidTests := true, laidLooks := .later }
def FnExactWorldGetUptoCardSaid : Prop := Claim7.holds Tryd.pinned (.plain (OpenSpec.upto fnExactWorldGetSpec)) fnExactWorldGetUptoCard

/-- THE SECOND FORM's CARD OF 'laws.FnExactAddrRead'. -/
def fnExactAddrReadUptoCard : Claim7 := { stood := { row := fnExactAddrReadUptoRow, standIns := [], harness := (true, "f8e4a3d096665e12f6a8317c665eff04c9d20d40dd6451b34d92072cacac4da0"), looks := false }, kinds := [], alts := [], laidByText := true, laidKinds := [.data, .pinned], laidTests := true, laidLooks := .later }
def FnExactAddrReadUptoCardSaid : Prop := Claim7.holds Tryd.pinned (.plain (OpenSpec.upto fnExactAddrReadSpec)) fnExactAddrReadUptoCard

/-- THE SECOND FORM's CARD OF 'laws.FnExactAddrJoin'. -/
def fnExactAddrJoinUptoCard : Claim7 := { stood := { row := fnExactAddrJoinUptoRow, standIns := [], harness := (true, "f8e4a3d096665e12f6a8317c665eff04c9d20d40dd6451b34d92072cacac4da0"), looks := false }, kinds := [], alts := [], laidByText := true, laidKinds := [.data, .pinned], laidTests := true, laidLooks := .later }
def FnExactAddrJoinUptoCardSaid : Prop := Claim7.holds Tryd.pinned (.plain (OpenSpec.upto fnExactAddrJoinSpec)) fnExactAddrJoinUptoCard
end Rows
end Go.Proofs.YtboncolbijicfaaDoor
