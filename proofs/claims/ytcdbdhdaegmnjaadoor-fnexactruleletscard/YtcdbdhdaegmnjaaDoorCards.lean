/-
  DERIVED. GIVEN WITH THE SEED: THE CARDS: each row of YtcdbdhdaegmnjaaDoorRows.lean that lists a variable, with what it lists TIED to the program's text (the seventh form; the later family's looks); each row that meets fmt, with fmt's text TOLD by the authors' own Lean function (tested against real Go, not proved from fmt's source: count such statements apart). THE CARD IS WHAT COUNTS. Prove the row's statement (the work); the ties are given (YtcdbdhdaegmnjaaDoorTie.lean); close each card by the builder's one call (the guide's Derived/Test/ToyasCard.lean, 'card_holds'). Laid BY PROGRAM, IN A SANDBOX (cutbox-door.mjs). By AI agents, Wed Nov 11 2026. No macro, syntax, notation, axiom, sorry.
-/
import Derived.Test.YtcdbdhdaegmnjaaDoorRows
import GoSem.ClaimSeven
namespace Go.Proofs.YtcdbdhdaegmnjaaDoor
namespace Rows

/-- THE TIED CARD OF 'laws.FnExactRuleHas'. -/
def fnExactRuleHasCard : Claim7 := { stood := { row := fnExactRuleHasRow, standIns := [], harness := (true, "950f94f9734aa7fb1ff5b57864fff4f8df307ff5dba409e481bd93fb64cb3eae"), looks := false }, kinds := [], alts := [], laidByText := true, laidKinds := [.data, .pinned], laidTests := true, laidLooks := .later }
def FnExactRuleHasCardSaid : Prop := Claim7.holds Tryd.pinned (.plain (OpenSpec.ofChange fnExactRuleHasSpec)) fnExactRuleHasCard

/-- THE TIED CARD OF 'laws.FnExactRuleLets'. -/
def fnExactRuleLetsCard : Claim7 := { stood := { row := fnExactRuleLetsRow, standIns := [], harness := (true, "950f94f9734aa7fb1ff5b57864fff4f8df307ff5dba409e481bd93fb64cb3eae"), looks := false }, kinds := [], alts := [], laidByText := true, laidKinds := [.data, .pinned], laidTests := true, laidLooks := .later }
def FnExactRuleLetsCardSaid : Prop := Claim7.holds Tryd.pinned (.plain (OpenSpec.ofChange fnExactRuleLetsSpec)) fnExactRuleLetsCard

/-- THE SECOND FORM's CARD OF 'laws.FnExactRuleHas'. -/
def fnExactRuleHasUptoCard : Claim7 := { stood := { row := fnExactRuleHasUptoRow, standIns := [], harness := (true, "950f94f9734aa7fb1ff5b57864fff4f8df307ff5dba409e481bd93fb64cb3eae"), looks := false }, kinds := [], alts := [], laidByText := true, laidKinds := [.data, .pinned], laidTests := true, laidLooks := .later }
def FnExactRuleHasUptoCardSaid : Prop := Claim7.holds Tryd.pinned (.plain (OpenSpec.upto fnExactRuleHasSpec)) fnExactRuleHasUptoCard

/-- THE SECOND FORM's CARD OF 'laws.FnExactRuleLets'. -/
def fnExactRuleLetsUptoCard : Claim7 := { stood := { row := fnExactRuleLetsUptoRow, standIns := [], harness := (true, "950f94f9734aa7fb1ff5b57864fff4f8df307ff5dba409e481bd93fb64cb3eae"), looks := false }, kinds := [], alts := [], laidByText := true, laidKinds := [.data, .pinned], laidTests := true, laidLooks := .later }
def FnExactRuleLetsUptoCardSaid : Prop := Claim7.holds Tryd.pinned (.plain (OpenSpec.upto fnExactRuleLetsSpec)) fnExactRuleLetsUptoCard
end Rows
end Go.Proofs.YtcdbdhdaegmnjaaDoor
