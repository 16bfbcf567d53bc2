/-
  DERIVED. GIVEN WITH THE SEED: THE CARDS: each row of YtbfiopcdclcdhaaDoorRows.lean that lists a variable, with what it lists TIED to the program's text (the seventh form; the later family's looks); each row that meets fmt, with fmt's text TOLD by the authors' own Lean function (tested against real Go, not proved from fmt's source: count such statements apart). THE CARD IS WHAT COUNTS. Prove the row's statement (the work); the ties are given (YtbfiopcdclcdhaaDoorTie.lean); close each card by the builder's one call (the guide's Derived/Test/ToyasCard.lean, 'card_holds'). Laid BY PROGRAM, IN A SANDBOX (cutbox-door.mjs). By AI agents, Wed Nov 11 2026. No macro, syntax, notation, axiom, sorry.
-/
import Derived.Test.YtbfiopcdclcdhaaDoorRows
import GoSem.ClaimSeven
namespace Go.Proofs.YtbfiopcdclcdhaaDoor
namespace Rows

/-- THE TIED CARD OF 'laws.FnAddrBack'. -/
def fnAddrBackCard : Claim7 := { stood := { row := fnAddrBackRow, standIns := [], harness := (true, "eccca9e0faf60d31852d21c1b79327df7683a3de69d15c2334d00a303d1b62f8"), looks := false }, kinds := [], alts := [], laidByText := true, laidKinds := [.data, .pinned], laidTests := true, laidLooks := .later }
def FnAddrBackCardSaid : Prop := Claim7.holds Tryd.pinned (.plain (OpenSpec.ofChange fnAddrBackSpec)) fnAddrBackCard

/-- THE TIED CARD OF 'laws.FnAddrStrict'. -/
def fnAddrStrictCard : Claim7 := { stood := { row := fnAddrStrictRow, standIns := [], harness := (true, "eccca9e0faf60d31852d21c1b79327df7683a3de69d15c2334d00a303d1b62f8"), looks := false }, kinds := [], alts := [], laidByText := true, laidKinds := [.data, .pinned], laidTests := true, laidLooks := .later }
def FnAddrStrictCardSaid : Prop := Claim7.holds Tryd.pinned (.plain (OpenSpec.ofChange fnAddrStrictSpec)) fnAddrStrictCard

/-- THE TIED CARD OF 'laws.FnAddrGreat'. -/
def fnAddrGreatCard : Claim7 := { stood := { row := fnAddrGreatRow, standIns := [], harness := (true, "eccca9e0faf60d31852d21c1b79327df7683a3de69d15c2334d00a303d1b62f8"), looks := false }, kinds := [], alts := [], laidByText := true, laidKinds := [.data, .pinned], laidTests := true, laidLooks := .later }
def FnAddrGreatCardSaid : Prop := Claim7.holds Tryd.pinned (.plain (OpenSpec.ofChange fnAddrGreatSpec)) fnAddrGreatCard

/-- THE TIED CARD OF 'laws.FnAddrCross'. -/
def fnAddrCrossCard : Claim7 := { stood := { row := fnAddrCrossRow, standIns := [], harness := (true, "eccca9e0faf60d31852d21c1b79327df7683a3de69d15c2334d00a303d1b62f8"), looks := false }, kinds := [], alts := [], laidByText := true, laidKinds := [.data, .pinned], laidTests := true, laidLooks := .later }
def FnAddrCrossCardSaid : Prop := Claim7.holds Tryd.pinned (.plain (OpenSpec.ofChange fnAddrCrossSpec)) fnAddrCrossCard

/-- THE TIED CARD OF 'laws.FnAddrStroke'. -/
def fnAddrStrokeCard : Claim7 := { stood := { row := fnAddrStrokeRow, standIns := [], harness := (true, "eccca9e0faf60d31852d21c1b79327df7683a3de69d15c2334d00a303d1b62f8"), looks := false }, kinds := [], alts := [], laidByText := true, laidKinds := [.data, .pinned], laidTests := true, laidLooks := .later }
def FnAddrStrokeCardSaid : Prop := Claim7.holds Tryd.pinned (.plain (OpenSpec.ofChange fnAddrStrokeSpec)) fnAddrStrokeCard

/-- THE TIED CARD OF 'laws.FnJoinWhole'. -/
def fnJoinWholeCard : Claim7 := { stood := { row := fnJoinWholeRow, standIns := [], harness := (true, "eccca9e0faf60d31852d21c1b79327df7683a3de69d15c2334d00a303d1b62f8"), looks := false }, kinds := [], alts := [], laidByText := true, laidKinds := [.data, .pinned], laidTests := true, laidLooks := .later }
def FnJoinWholeCardSaid : Prop := Claim7.holds Tryd.pinned (.plain (OpenSpec.ofChange fnJoinWholeSpec)) fnJoinWholeCard

/-- THE TIED CARD OF 'laws.FnJoinSelf'. -/
def fnJoinSelfCard : Claim7 := { stood := { row := fnJoinSelfRow, standIns := [], harness := (true, "eccca9e0faf60d31852d21c1b79327df7683a3de69d15c2334d00a303d1b62f8"), looks := false }, kinds := [], alts := [], laidByText := true, laidKinds := [.data, .pinned], laidTests := true, laidLooks := .later }
def FnJoinSelfCardSaid : Prop := Claim7.holds Tryd.pinned (.plain (OpenSpec.ofChange fnJoinSelfSpec)) fnJoinSelfCard

/-- THE TIED CARD OF 'laws.FnJoinOk'. -/
def fnJoinOkCard : Claim7 := { stood := { row := fnJoinOkRow, standIns := [], harness := (true, "eccca9e0faf60d31852d21c1b79327df7683a3de69d15c2334d00a303d1b62f8"), looks := false }, kinds := [], alts := [], laidByText := true, laidKinds := [.data, .pinned], laidTests := true, laidLooks := .later }
def FnJoinOkCardSaid : Prop := Claim7.holds Tryd.pinned (.plain (OpenSpec.ofChange fnJoinOkSpec)) fnJoinOkCard

/-- THE TIED CARD OF 'laws.FnJoinUp'. -/
def fnJoinUpCard : Claim7 := { stood := { row := fnJoinUpRow, standIns := [], harness := (true, "eccca9e0faf60d31852d21c1b79327df7683a3de69d15c2334d00a303d1b62f8"), looks := false }, kinds := [], alts := [], laidByText := true, laidKinds := [.data, .pinned], laidTests := true, laidLooks := .later }
def FnJoinUpCardSaid : Prop := Claim7.holds Tryd.pinned (.plain (OpenSpec.ofChange fnJoinUpSpec)) fnJoinUpCard

/-- THE TIED CARD OF 'laws.FnJoinAsk'. -/
def fnJoinAskCard : Claim7 := { stood := { row := fnJoinAskRow, standIns := [], harness := (true, "eccca9e0faf60d31852d21c1b79327df7683a3de69d15c2334d00a303d1b62f8"), looks := false }, kinds := [], alts := [], laidByText := true, laidKinds := [.data, .pinned], laidTests := true, laidLooks := .later }
def FnJoinAskCardSaid : Prop := Claim7.holds Tryd.pinned (.plain (OpenSpec.ofChange fnJoinAskSpec)) fnJoinAskCard

/-- THE TIED CARD OF 'laws.FnJoinBeside'. -/
def fnJoinBesideCard : Claim7 := { stood := { row := fnJoinBesideRow, standIns := [], harness := (true, "eccca9e0faf60d31852d21c1b79327df7683a3de69d15c2334d00a303d1b62f8"), looks := false }, kinds := [], alts := [], laidByText := true, laidKinds := [.data, .pinned], laidTests := true, laidLooks := .later }
def FnJoinBesideCardSaid : Prop := Claim7.holds Tryd.pinned (.plain (OpenSpec.ofChange fnJoinBesideSpec)) fnJoinBesideCard

/-- THE TIED CARD OF 'laws.FnExactAddrRead'. -/
def fnExactAddrReadCard : Claim7 := { stood := { row := fnExactAddrReadRow, standIns := [], harness := (true, "eccca9e0faf60d31852d21c1b79327df7683a3de69d15c2334d00a303d1b62f8"), looks := false }, kinds := [], alts := [], laidByText := true, laidKinds := [.data, .pinned], laidTests := true, laidLooks := .later }
def FnExactAddrReadCardSaid : Prop := Claim7.holds Tryd.pinned (.plain (OpenSpec.ofChange fnExactAddrReadSpec)) fnExactAddrReadCard

/-- THE SECOND FORM's CARD OF 'laws.FnAddrBack'. -/
def fnAddrBackUptoCard : Claim7 := { stood := { row := fnAddrBackUptoRow, standIns := [], harness := (true, "eccca9e0faf60d31852d21c1b79327df7683a3de69d15c2334d00a303d1b62f8"), looks := false }, kinds := [], alts := [], laidByText := true, laidKinds := [.data, .pinned], laidTests := true, laidLooks := .later }
def FnAddrBackUptoCardSaid : Prop := Claim7.holds Tryd.pinned (.plain (OpenSpec.upto fnAddrBackSpec)) fnAddrBackUptoCard

/-- THE SECOND FORM's CARD OF 'laws.FnAddrStrict'. -/
def fnAddrStrictUptoCard : Claim7 := { stood := { row := fnAddrStrictUptoRow, standIns := [], harness := (true, "eccca9e0faf60d31852d21c1b79327df7683a3de69d15c2334d00a303d1b62f8"), looks := false }, kinds := [], alts := [], laidByText := true, laidKinds := [.data, .pinned], laidTests := true, laidLooks := .later }
def FnAddrStrictUptoCardSaid : Prop := Claim7.holds Tryd.pinned (.plain (OpenSpec.upto fnAddrStrictSpec)) fnAddrStrictUptoCard

/-- THE SECOND FORM's CARD OF 'laws.FnAddrGreat'. -/
def fnAddrGreatUptoCard : Claim7 := { stood := { row := fnAddrGreatUptoRow, standIns := [], harness := (true, "eccca9e0faf60d31852d21c1b79327df7683a3de69d15c2334d00a303d1b62f8"), looks := false }, kinds := [], alts := [], laidByText := true, laidKinds := [.data, .pinned], laidTests := true, laidLooks := .later }
def FnAddrGreatUptoCardSaid : Prop := Claim7.holds Tryd.pinned (.plain (OpenSpec.upto fnAddrGreatSpec)) fnAddrGreatUptoCard

/-- THE SECOND FORM's CARD OF 'laws.FnAddrCross'. -/
def fnAddrCrossUptoCard : Claim7 := { stood := { row := fnAddrCrossUptoRow, standIns := [], harness := (true, "eccca9e0faf60d31852d21c1b79327df7683a3de69d15c2334d00a303d1b62f8"), looks := false }, kinds := [], alts := [], laidByText := true, laidKinds := [.data, .pinned], laidTests := true, laidLooks := .later }
def FnAddrCrossUptoCardSaid : Prop := Claim7.holds Tryd.pinned (.plain (OpenSpec.upto fnAddrCrossSpec)) fnAddrCrossUptoCard

/-- THE SECOND FORM's CARD OF 'laws.FnAddrStroke'. -/
def fnAddrStrokeUptoCard : Claim7 := { stood := { row := fnAddrStrokeUptoRow, standIns := [], harness := (true, "eccca9e0faf60d31852d21c1b79327df7683a3de69d15c2334d00a303d1b62f8"), looks := false }, kinds := [], alts := [], laidByText := true, laidKinds := [.data, .pinned], laidTests := true, laidLooks := .later }
def FnAddrStrokeUptoCardSaid : Prop := Claim7.holds Tryd.pinned (.plain (OpenSpec.upto fnAddrStrokeSpec)) fnAddrStrokeUptoCard

/-- THE SECOND FORM's CARD OF 'laws.FnJoinWhole'. -/
def fnJoinWholeUptoCard : Claim7 := { stood := { row := fnJoinWholeUptoRow, standIns := [], harness := (true, "eccca9e0faf60d31852d21c1b79327df7683a3de69d15c2334d00a303d1b62f8"), looks := false }, kinds := [], alts := [], laidByText := true, laidKinds := [.data, .pinned], laidTests := true, laidLooks := .later }
def FnJoinWholeUptoCardSaid : Prop := Claim7.holds Tryd.pinned (.plain (OpenSpec.upto fnJoinWholeSpec)) fnJoinWholeUptoCard

/-- THE SECOND FORM's CARD OF 'laws.FnJoinSelf'. -/
def fnJoinSelfUptoCard : Claim7 := { stood := { row := fnJoinSelfUptoRow, standIns := [], harness := (true, "eccca9e0faf60d31852d21c1b79327df7683a3de69d15c2334d00a303d1b62f8"), looks := false }, kinds := [], alts := [], laidByText := true, laidKinds := [.data, .pinned], laidTests := true, laidLooks := .later }
def FnJoinSelfUptoCardSaid : Prop := Claim7.holds Tryd.pinned (.plain (OpenSpec.upto fnJoinSelfSpec)) fnJoinSelfUptoCard

/-- THE SECOND FORM's CARD OF 'laws.FnJoinOk'. -/
def fnJoinOkUptoCard : Claim7 := { stood := { row := fnJoinOkUptoRow, standIns := [], harness := (true, "eccca9e0faf60d31852d21c1b79327df7683a3de69d15c2334d00a303d1b62f8"), looks := false }, kinds := [], alts := [], laidByText := true, laidKinds := [.data, .pinned], laidTests := true, laidLooks := .later }
def FnJoinOkUptoCardSaid : Prop := Claim7.holds Tryd.pinned (.plain (OpenSpec.upto fnJoinOkSpec)) fnJoinOkUptoCard

/-- THE SECOND FORM's CARD OF 'laws.FnJoinUp'. -/
def fnJoinUpUptoCard : Claim7 := { stood := { row := fnJoinUpUptoRow, standIns := [], harness := (true, "eccca9e0faf60d31852d21c1b79327df7683a3de69d15c2334d00a303d1b62f8"), looks := false }, kinds := [], alts := [], laidByText := true, laidKinds := [.data, .pinned], laidTests := true, laidLooks := .later }
def FnJoinUpUptoCardSaid : Prop := Claim7.holds Tryd.pinned (.plain (OpenSpec.upto fnJoinUpSpec)) fnJoinUpUptoCard

/-- THE SECOND FORM's CARD OF 'laws.FnJoinAsk'. -/
def fnJoinAskUptoCard : Claim7 := { stood := { row := fnJoinAskUptoRow, standIns := [], harness := (true, "eccca9e0faf60d31852d21c1b79327df7683a3de69d15c2334d00a303d1b62f8"), looks := false }, kinds := [], alts := [], laidByText := true, laidKinds := [.data, .pinned], laidTests := true, laidLooks := .later }
def FnJoinAskUptoCardSaid : Prop := Claim7.holds Tryd.pinned (.plain (OpenSpec.upto fnJoinAskSpec)) fnJoinAskUptoCard

/-- THE SECOND FORM's CARD OF 'laws.FnJoinBeside'. -/
def fnJoinBesideUptoCard : Claim7 := { stood := { row := fnJoinBesideUptoRow, standIns := [], harness := (true, "eccca9e0faf60d31852d21c1b79327df7683a3de69d15c2334d00a303d1b62f8"), looks := false }, kinds := [], alts := [], laidByText := true, laidKinds := [.data, .pinned], laidTests := true, laidLooks := .later }
def FnJoinBesideUptoCardSaid : Prop := Claim7.holds Tryd.pinned (.plain (OpenSpec.upto fnJoinBesideSpec)) fnJoinBesideUptoCard

/-- THE SECOND FORM's CARD OF 'laws.FnExactAddrRead'. -/
def fnExactAddrReadUptoCard : Claim7 := { stood := { row := fnExactAddrReadUptoRow, standIns := [], harness := (true, "eccca9e0faf60d31852d21c1b79327df7683a3de69d15c2334d00a303d1b62f8"), looks := false }, kinds := [], alts := [], laidByText := true, laidKinds := [.data, .pinned], laidTests := true, laidLooks := .later }
def FnExactAddrReadUptoCardSaid : Prop := Claim7.holds Tryd.pinned (.plain (OpenSpec.upto fnExactAddrReadSpec)) fnExactAddrReadUptoCard
end Rows
end Go.Proofs.YtbfiopcdclcdhaaDoor
