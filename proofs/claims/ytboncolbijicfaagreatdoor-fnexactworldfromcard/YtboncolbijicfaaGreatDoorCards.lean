/-
  DERIVED. GIVEN WITH THE SEED: THE CARDS: each row of YtboncolbijicfaaGreatDoorRows.lean that lists a variable, with what it lists TIED to the program's text (the seventh form; the later family's looks); each row that meets fmt, with fmt's text TOLD by the authors' own Lean function (tested against real Go, not proved from fmt's source: count such statements apart). THE CARD IS WHAT COUNTS. Prove the row's statement (the work); the ties are given (YtboncolbijicfaaGreatDoorTie.lean); close each card by the builder's one call (the guide's Derived/Test/ToyasCard.lean, 'card_holds'). Laid BY PROGRAM, IN A SANDBOX (cutbox-door.mjs). By AI agents, Wed Nov 11 2026. No macro, syntax, notation, axiom, sorry.
-/
import Derived.Test.YtboncolbijicfaaGreatDoorRows
import GoSem.ClaimSeven
namespace Go.Proofs.YtboncolbijicfaaGreatDoor
namespace Rows

/-- THE TIED CARD OF 'laws.FnExactWorldFrom'. -/
def fnExactWorldFromCard : Claim7 := { stood := { row := fnExactWorldFromRow, standIns := [], harness := (true, "2113e16cb845b3fed94a08aef9745b5fdffa82a6fedfc6dc88a1efd89c3a3edb"), looks := false }, kinds := [], alts := [], laidByText := true, laidKinds := [.data, .pinned], laidTests := true, laidLooks := .later }
def FnExactWorldFromCardSaid : Prop := Claim7.holds Tryz.pinned (.plain (OpenSpec.ofChange fnExactWorldFromSpec)) fnExactWorldFromCard

/-- THE TIED CARD OF 'laws.FnExactTripNew'. -/
def fnExactTripNewCard : Claim7 := { stood := { row := fnExactTripNewRow, standIns := [], harness := (true, "2113e16cb845b3fed94a08aef9745b5fdffa82a6fedfc6dc88a1efd89c3a3edb"), looks := false }, kinds := [], alts := [], laidByText := true, laidKinds := [.data, .pinned], laidTests := true, laidLooks := .later }
def FnExactTripNewCardSaid : Prop := Claim7.holds Tryz.pinned (.plain (OpenSpec.ofChange fnExactTripNewSpec)) fnExactTripNewCard

/-- THE TIED CARD OF 'laws.FnExactTripOk'. -/
def fnExactTripOkCard : Claim7 := { stood := { row := fnExactTripOkRow, standIns := [], harness := (true, "2113e16cb845b3fed94a08aef9745b5fdffa82a6fedfc6dc88a1efd89c3a3edb"), looks := false }, kinds := [], alts := [], laidByText := true, laidKinds := [.data, .pinned], laidTests := true, laidLooks := .later }
def FnExactTripOkCardSaid : Prop := Claim7.holds Tryz.pinned (.plain (OpenSpec.ofChange fnExactTripOkSpec)) fnExactTripOkCard

/-- THE TIED CARD OF 'laws.FnExactTripNext'. -/
def fnExactTripNextCard : Claim7 := { stood := { row := fnExactTripNextRow, standIns := [], harness := (true, "2113e16cb845b3fed94a08aef9745b5fdffa82a6fedfc6dc88a1efd89c3a3edb"), looks := false }, kinds := [], alts := [], laidByText := true, laidKinds := [.data, .pinned], laidTests := true, laidLooks := .later }
def FnExactTripNextCardSaid : Prop := Claim7.holds Tryz.pinned (.plain (OpenSpec.ofChange fnExactTripNextSpec)) fnExactTripNextCard

/-- THE TIED CARD OF 'laws.FnExactTripDone'. -/
def fnExactTripDoneCard : Claim7 := { stood := { row := fnExactTripDoneRow, standIns := [], harness := (true, "2113e16cb845b3fed94a08aef9745b5fdffa82a6fedfc6dc88a1efd89c3a3edb"), looks := false }, kinds := [], alts := [], laidByText := true, laidKinds := [.data, .pinned], laidTests := true, laidLooks := .later }
def FnExactTripDoneCardSaid : Prop := Claim7.holds Tryz.pinned (.plain (OpenSpec.ofChange fnExactTripDoneSpec)) fnExactTripDoneCard

/-- THE TIED CARD OF 'laws.FnExactTripLooked'. -/
def fnExactTripLookedCard : Claim7 := { stood := { row := fnExactTripLookedRow, standIns := [], harness := (true, "2113e16cb845b3fed94a08aef9745b5fdffa82a6fedfc6dc88a1efd89c3a3edb"), looks := false }, kinds := [], alts := [], laidByText := true, laidKinds := [.data, .pinned], laidTests := true, laidLooks := .later }
def FnExactTripLookedCardSaid : Prop := Claim7.holds Tryz.pinned (.plain (OpenSpec.ofChange fnExactTripLookedSpec)) fnExactTripLookedCard

/-- THE TIED CARD OF 'laws.FnExactTripCalls'. -/
def fnExactTripCallsCard : Claim7 := { stood := { row := fnExactTripCallsRow, standIns := [], harness := (true, "2113e16cb845b3fed94a08aef9745b5fdffa82a6fedfc6dc88a1efd89c3a3edb"), looks := false }, kinds := [], alts := [], laidByText := true, laidKinds := [.data, .pinned], laidTests := true, laidLooks := .later }
def FnExactTripCallsCardSaid : Prop := Claim7.holds Tryz.pinned (.plain (OpenSpec.ofChange fnExactTripCallsSpec)) fnExactTripCallsCard

/-- THE SECOND FORM's CARD OF 'laws.FnExactWorldFrom'. -/
def fnExactWorldFromUptoCard : Claim7 := { stood := { row := fnExactWorldFromUptoRow, standIns := [], harness := (true, "2113e16cb845b3fed94a08aef9745b5fdffa82a6fedfc6dc88a1efd89c3a3edb"), looks := false }, kinds := [], alts := [], laidByText := true, laidKinds := [.data, .pinned], laidTests := true, laidLooks := .later }
def FnExactWorldFromUptoCardSaid : Prop := Claim7.holds Tryz.pinned (.plain (OpenSpec.upto fnExactWorldFromSpec)) fnExactWorldFromUptoCard

/-- THE SECOND FORM's CARD OF 'laws.FnExactTripNew'. -/
def fnExactTripNewUptoCard : Claim7 := { stood := { row := fnExactTripNewUptoRow, standIns := [], harness := (true, "2113e16cb845b3fed94a08aef9745b5fdffa82a6fedfc6dc88a1efd89c3a3edb"), looks := false }, kinds := [], alts := [], laidByText := true, laidKinds := [.data, .pinned], laidTests := true, laidLooks := .later }
def FnExactTripNewUptoCardSaid : Prop := Claim7.holds Tryz.pinned (.plain (OpenSpec.upto fnExactTripNewSpec)) fnExactTripNewUptoCard

/-- THE SECOND FORM's CARD OF 'laws.FnExactTripOk'. -/
def fnExactTripOkUptoCard : Claim7 := { stood := { row := fnExactTripOkUptoRow, standIns := [], harness := (true, "2113e16cb845b3fed94a08aef9745b5fdffa82a6fedfc6dc88a1efd89c3a3edb"), looks := false }, kinds := [], alts := [], laidByText := true, laidKinds := [.data, .pinned], laidTests := true, laidLooks := .later }
def FnExactTripOkUptoCardSaid : Prop := Claim7.holds Tryz.pinned (.plain (OpenSpec.upto fnExactTripOkSpec)) fnExactTripOkUptoCard

/-- THE SECOND FORM's CARD OF 'laws.FnExactTripNext'. -/
def fnExactTripNextUptoCard : Claim7 := { stood := { row := fnExactTripNextUptoRow, standIns := [], harness := (true, "2113e16cb845b3fed94a08aef9745b5fdffa82a6fedfc6dc88a1efd89c3a3edb"), looks := false }, kinds := [], alts := [], laidByText := true, laidKinds := [.data, .pinned], laidTests := true, laidLooks := .later }
def FnExactTripNextUptoCardSaid : Prop := Claim7.holds Tryz.pinned (.plain (OpenSpec.upto fnExactTripNextSpec)) fnExactTripNextUptoCard

/-- THE SECOND FORM's CARD OF 'laws.FnExactTripDone'. -/
def fnExactTripDoneUptoCard : Claim7 := { stood := { row := fnExactTripDoneUptoRow, standIns := [], harness := (true, "2113e16cb845b3fed94a08aef9745b5fdffa82a6fedfc6dc88a1efd89c3a3edb"), looks := false }, kinds := [], alts := [], laidByText := true, laidKinds := [.data, .pinned], laidTests := true, laidLooks := .later }
def FnExactTripDoneUptoCardSaid : Prop := Claim7.holds Tryz.pinned (.plain (OpenSpec.upto fnExactTripDoneSpec)) fnExactTripDoneUptoCard

/-- THE SECOND FORM's CARD OF 'laws.FnExactTripLooked'. -/
def fnExactTripLookedUptoCard : Claim7 := { stood := { row := fnExactTripLookedUptoRow, standIns := [], harness := (true, "2113e16cb845b3fed94a08aef9745b5fdffa82a6fedfc6dc88a1efd89c3a3edb"), looks := false }, kinds := [], alts := [], laidByText := true, laidKinds := [.data, .pinned], laidTests := true, laidLooks := .later }
def FnExactTripLookedUptoCardSaid : Prop := Claim7.holds Tryz.pinned (.plain (OpenSpec.upto fnExactTripLookedSpec)) fnExactTripLookedUptoCard

/-- THE SECOND FORM's CARD OF 'laws.FnExactTripCalls'. -/
def fnExactTripCallsUptoCard : Claim7 := { stood := { row := fnExactTripCallsUptoRow, standIns := [], harness := (true, "2113e16cb845b3fed94a08aef9745b5fdffa82a6fedfc6dc88a1efd89c3a3edb"), looks := false }, kinds := [], alts := [], laidByText := true, laidKinds := [.data, .pinned], laidTests := true, laidLooks := .later }
def FnExactTripCallsUptoCardSaid : Prop := Claim7.holds Tryz.pinned (.plain (OpenSpec.upto fnExactTripCallsSpec)) fnExactTripCallsUptoCard
end Rows
end Go.Proofs.YtboncolbijicfaaGreatDoor
