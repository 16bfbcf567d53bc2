/-
  DERIVED. GIVEN WITH THE SEED: THE CARDS: each row of YtemobclefdodjaaDoorRows.lean that lists a variable, with what it lists TIED to the program's text (the seventh form; the later family's looks); each row that meets fmt, with fmt's text TOLD by the authors' own Lean function (tested against real Go, not proved from fmt's source: count such statements apart). THE CARD IS WHAT COUNTS. Prove the row's statement (the work); the ties are given (YtemobclefdodjaaDoorTie.lean); close each card by the builder's one call (the guide's Derived/Test/ToyasCard.lean, 'card_holds'). Laid BY PROGRAM, IN A SANDBOX (cutbox-door.mjs). By AI agents, Wed Nov 11 2026. No macro, syntax, notation, axiom, sorry.
-/
import Derived.Test.YtemobclefdodjaaDoorRows
import GoSem.ClaimSeven
namespace Go.Proofs.YtemobclefdodjaaDoor
namespace Rows

/-- THE TIED CARD OF 'laws.FnRuleHas'. -/
def fnRuleHasCard : Claim7 := { stood := { row := fnRuleHasRow, standIns := [], harness := (true, "924b7351098e2cda3bb2218534582ece3d3b88512f7d38698552b4e82de0e134"), looks := false }, kinds := [], alts := [], laidByText := true, laidKinds := [.data, .pinned], laidTests := true, laidLooks := .later }
def FnRuleHasCardSaid : Prop := Claim7.holds Tryd.pinned (.plain (OpenSpec.ofChange fnRuleHasSpec)) fnRuleHasCard

/-- THE TIED CARD OF 'laws.FnRuleMore'. -/
def fnRuleMoreCard : Claim7 := { stood := { row := fnRuleMoreRow, standIns := [], harness := (true, "924b7351098e2cda3bb2218534582ece3d3b88512f7d38698552b4e82de0e134"), looks := false }, kinds := [], alts := [], laidByText := true, laidKinds := [.data, .pinned], laidTests := true, laidLooks := .later }
def FnRuleMoreCardSaid : Prop := Claim7.holds Tryd.pinned (.plain (OpenSpec.ofChange fnRuleMoreSpec)) fnRuleMoreCard

/-- THE TIED CARD OF 'laws.FnRuleStar'. -/
def fnRuleStarCard : Claim7 := { stood := { row := fnRuleStarRow, standIns := [], harness := (true, "924b7351098e2cda3bb2218534582ece3d3b88512f7d38698552b4e82de0e134"), looks := false }, kinds := [], alts := [], laidByText := true, laidKinds := [.data, .pinned], laidTests := true, laidLooks := .later }
def FnRuleStarCardSaid : Prop := Claim7.holds Tryd.pinned (.plain (OpenSpec.ofChange fnRuleStarSpec)) fnRuleStarCard

/-- THE TIED CARD OF 'laws.FnRuleEnd'. -/
def fnRuleEndCard : Claim7 := { stood := { row := fnRuleEndRow, standIns := [], harness := (true, "924b7351098e2cda3bb2218534582ece3d3b88512f7d38698552b4e82de0e134"), looks := false }, kinds := [], alts := [], laidByText := true, laidKinds := [.data, .pinned], laidTests := true, laidLooks := .later }
def FnRuleEndCardSaid : Prop := Claim7.holds Tryd.pinned (.plain (OpenSpec.ofChange fnRuleEndSpec)) fnRuleEndCard

/-- THE TIED CARD OF 'laws.FnRuleSelf'. -/
def fnRuleSelfCard : Claim7 := { stood := { row := fnRuleSelfRow, standIns := [], harness := (true, "924b7351098e2cda3bb2218534582ece3d3b88512f7d38698552b4e82de0e134"), looks := false }, kinds := [], alts := [], laidByText := true, laidKinds := [.data, .pinned], laidTests := true, laidLooks := .later }
def FnRuleSelfCardSaid : Prop := Claim7.holds Tryd.pinned (.plain (OpenSpec.ofChange fnRuleSelfSpec)) fnRuleSelfCard

/-- THE TIED CARD OF 'laws.FnLetsLongest'. -/
def fnLetsLongestCard : Claim7 := { stood := { row := fnLetsLongestRow, standIns := [], harness := (true, "924b7351098e2cda3bb2218534582ece3d3b88512f7d38698552b4e82de0e134"), looks := false }, kinds := [], alts := [], laidByText := true, laidKinds := [.data, .pinned], laidTests := true, laidLooks := .later }
def FnLetsLongestCardSaid : Prop := Claim7.holds Tryd.pinned (.plain (OpenSpec.ofChange fnLetsLongestSpec)) fnLetsLongestCard

/-- THE TIED CARD OF 'laws.FnLetsOrder'. -/
def fnLetsOrderCard : Claim7 := { stood := { row := fnLetsOrderRow, standIns := [], harness := (true, "924b7351098e2cda3bb2218534582ece3d3b88512f7d38698552b4e82de0e134"), looks := false }, kinds := [], alts := [], laidByText := true, laidKinds := [.data, .pinned], laidTests := true, laidLooks := .later }
def FnLetsOrderCardSaid : Prop := Claim7.holds Tryd.pinned (.plain (OpenSpec.ofChange fnLetsOrderSpec)) fnLetsOrderCard

/-- THE TIED CARD OF 'laws.FnLetsMore'. -/
def fnLetsMoreCard : Claim7 := { stood := { row := fnLetsMoreRow, standIns := [], harness := (true, "924b7351098e2cda3bb2218534582ece3d3b88512f7d38698552b4e82de0e134"), looks := false }, kinds := [], alts := [], laidByText := true, laidKinds := [.data, .pinned], laidTests := true, laidLooks := .later }
def FnLetsMoreCardSaid : Prop := Claim7.holds Tryd.pinned (.plain (OpenSpec.ofChange fnLetsMoreSpec)) fnLetsMoreCard

/-- THE TIED CARD OF 'laws.FnRuleNone'. -/
def fnRuleNoneCard : Claim7 := { stood := { row := fnRuleNoneRow, standIns := [], harness := (true, "924b7351098e2cda3bb2218534582ece3d3b88512f7d38698552b4e82de0e134"), looks := false }, kinds := [], alts := [], laidByText := true, laidKinds := [.data, .pinned], laidTests := true, laidLooks := .later }
def FnRuleNoneCardSaid : Prop := Claim7.holds Tryd.pinned (.plain (OpenSpec.ofChange fnRuleNoneSpec)) fnRuleNoneCard

/-- THE SECOND FORM's CARD OF 'laws.FnRuleHas'. -/
def fnRuleHasUptoCard : Claim7 := { stood := { row := fnRuleHasUptoRow, standIns := [], harness := (true, "924b7351098e2cda3bb2218534582ece3d3b88512f7d38698552b4e82de0e134"), looks := false }, kinds := [], alts := [], laidByText := true, laidKinds := [.data, .pinned], laidTests := true, laidLooks := .later }
def FnRuleHasUptoCardSaid : Prop := Claim7.holds Tryd.pinned (.plain (OpenSpec.upto fnRuleHasSpec)) fnRuleHasUptoCard

/-- THE SECOND FORM's CARD OF 'laws.FnRuleMore'. -/
def fnRuleMoreUptoCard : Claim7 := { stood := { row := fnRuleMoreUptoRow, standIns := [], harness := (true, "924b7351098e2cda3bb2218534582ece3d3b88512f7d38698552b4e82de0e134"), looks := false }, kinds := [], alts := [], laidByText := true, laidKinds := [.data, .pinned], laidTests := true, laidLooks := .later }
def FnRuleMoreUptoCardSaid : Prop := Claim7.holds Tryd.pinned (.plain (OpenSpec.upto fnRuleMoreSpec)) fnRuleMoreUptoCard

/-- THE SECOND FORM's CARD OF 'laws.FnRuleStar'. -/
def fnRuleStarUptoCard : Claim7 := { stood := { row := fnRuleStarUptoRow, standIns := [], harness := (true, "924b7351098e2cda3bb2218534582ece3d3b88512f7d38698552b4e82de0e134"), looks := false }, kinds := [], alts := [], laidByText := true, laidKinds := [.data, .pinned], laidTests := true, laidLooks := .later }
def FnRuleStarUptoCardSaid : Prop := Claim7.holds Tryd.pinned (.plain (OpenSpec.upto fnRuleStarSpec)) fnRuleStarUptoCard

/-- THE SECOND FORM's CARD OF 'laws.FnRuleEnd'. -/
def fnRuleEndUptoCard : Claim7 := { stood := { row := fnRuleEndUptoRow, standIns := [], harness := (true, "924b7351098e2cda3bb2218534582ece3d3b88512f7d38698552b4e82de0e134"), looks := false }, kinds := [], alts := [], laidByText := true, laidKinds := [.data, .pinned], laidTests := true, laidLooks := .later }
def FnRuleEndUptoCardSaid : Prop := Claim7.holds Tryd.pinned (.plain (OpenSpec.upto fnRuleEndSpec)) fnRuleEndUptoCard

/-- THE SECOND FORM's CARD OF 'laws.FnRuleSelf'. -/
def fnRuleSelfUptoCard : Claim7 := { stood := { row := fnRuleSelfUptoRow, standIns := [], harness := (true, "924b7351098e2cda3bb2218534582ece3d3b88512f7d38698552b4e82de0e134"), looks := false }, kinds := [], alts := [], laidByText := true, laidKinds := [.data, .pinned], laidTests := true, laidLooks := .later }
def FnRuleSelfUptoCardSaid : Prop := Claim7.holds Tryd.pinned (.plain (OpenSpec.upto fnRuleSelfSpec)) fnRuleSelfUptoCard

/-- THE SECOND FORM's CARD OF 'laws.FnLetsLongest'. -/
def fnLetsLongestUptoCard : Claim7 := { stood := { row := fnLetsLongestUptoRow, standIns := [], harness := (true, "924b7351098e2cda3bb2218534582ece3d3b88512f7d38698552b4e82de0e134"), looks := false }, kinds := [], alts := [], laidByText := true, laidKinds := [.data, .pinned], laidTests := true, laidLooks := .later }
def FnLetsLongestUptoCardSaid : Prop := Claim7.holds Tryd.pinned (.plain (OpenSpec.upto fnLetsLongestSpec)) fnLetsLongestUptoCard

/-- THE SECOND FORM's CARD OF 'laws.FnLetsOrder'. -/
def fnLetsOrderUptoCard : Claim7 := { stood := { row := fnLetsOrderUptoRow, standIns := [], harness := (true, "924b7351098e2cda3bb2218534582ece3d3b88512f7d38698552b4e82de0e134"), looks := false }, kinds := [], alts := [], laidByText := true, laidKinds := [.data, .pinned], laidTests := true, laidLooks := .later }
def FnLetsOrderUptoCardSaid : Prop := Claim7.holds Tryd.pinned (.plain (OpenSpec.upto fnLetsOrderSpec)) fnLetsOrderUptoCard

/-- THE SECOND FORM's CARD OF 'laws.FnLetsMore'. -/
def fnLetsMoreUptoCard : Claim7 := { stood := { row := fnLetsMoreUptoRow, standIns := [], harness := (true, "924b7351098e2cda3bb2218534582ece3d3b88512f7d38698552b4e82de0e134"), looks := false }, kinds := [], alts := [], laidByText := true, laidKinds := [.data, .pinned], laidTests := true, laidLooks := .later }
def FnLetsMoreUptoCardSaid : Prop := Claim7.holds Tryd.pinned (.plain (OpenSpec.upto fnLetsMoreSpec)) fnLetsMoreUptoCard

/-- THE SECOND FORM's CARD OF 'laws.FnRuleNone'. -/
def fnRuleNoneUptoCard : Claim7 := { stood := { row := fnRuleNoneUptoRow, standIns := [], harness := (true, "924b7351098e2cda3bb2218534582ece3d3b88512f7d38698552b4e82de0e134"), looks := false }, kinds := [], alts := [], laidByText := true, laidKinds := [.data, .pinned], laidTests := true, laidLooks := .later }
def FnRuleNoneUptoCardSaid : Prop := Claim7.holds Tryd.pinned (.plain (OpenSpec.upto fnRuleNoneSpec)) fnRuleNoneUptoCard
end Rows
end Go.Proofs.YtemobclefdodjaaDoor
