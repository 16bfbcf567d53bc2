/-
  DERIVED. GIVEN WITH THE SEED: THE CARDS: each row of YtacelbhoccckbaaDoorRows.lean that lists a variable, with what it lists TIED to the program's text (the seventh form; the later family's looks); each row that meets fmt, with fmt's text TOLD by the authors' own Lean function (tested against real Go, not proved from fmt's source: count such statements apart). THE CARD IS WHAT COUNTS. Prove the row's statement (the work); the ties are given (YtacelbhoccckbaaDoorTie.lean); close each card by the builder's one call (the guide's Derived/Test/ToyasCard.lean, 'card_holds'). Laid BY PROGRAM, IN A SANDBOX (cutbox-door.mjs). By AI agents, Wed Nov 11 2026. No macro, syntax, notation, axiom, sorry.
-/
import Derived.Test.YtacelbhoccckbaaDoorRows
import GoSem.ClaimSeven
namespace Go.Proofs.YtacelbhoccckbaaDoor
namespace Rows

/-- THE TIED CARD OF 'laws.FnNoticeBack'. -/
def fnNoticeBackCard : Claim7 := { stood := { row := fnNoticeBackRow, standIns := [], harness := (true, "a52f5641dc2bf5f5b4ead7e46287b382c290f4052645cdb30314a3eacf3298d6"), looks := true }, kinds := [], alts := [], laidByText := true, laidKinds := [.data, .pinned], laidTests := true, laidLooks := .later }
def FnNoticeBackCardSaid : Prop := Claim7.holds Tryd.pinned (.plain (OpenSpec.ofChange fnNoticeBackSpec)) fnNoticeBackCard

/-- THE TIED CARD OF 'laws.FnNoticeRead'. -/
def fnNoticeReadCard : Claim7 := { stood := { row := fnNoticeReadRow, standIns := [], harness := (true, "a52f5641dc2bf5f5b4ead7e46287b382c290f4052645cdb30314a3eacf3298d6"), looks := true }, kinds := [], alts := [], laidByText := true, laidKinds := [.data, .pinned], laidTests := true, laidLooks := .later }
def FnNoticeReadCardSaid : Prop := Claim7.holds Tryd.pinned (.plain (OpenSpec.ofChange fnNoticeReadSpec)) fnNoticeReadCard

/-- THE TIED CARD OF 'laws.FnNoticeJunk'. -/
def fnNoticeJunkCard : Claim7 := { stood := { row := fnNoticeJunkRow, standIns := [], harness := (true, "a52f5641dc2bf5f5b4ead7e46287b382c290f4052645cdb30314a3eacf3298d6"), looks := true }, kinds := [], alts := [], laidByText := true, laidKinds := [.data, .pinned], laidTests := true, laidLooks := .later }
def FnNoticeJunkCardSaid : Prop := Claim7.holds Tryd.pinned (.plain (OpenSpec.ofChange fnNoticeJunkSpec)) fnNoticeJunkCard

/-- THE TIED CARD OF 'laws.FnNoticeCut'. -/
def fnNoticeCutCard : Claim7 := { stood := { row := fnNoticeCutRow, standIns := [], harness := (true, "a52f5641dc2bf5f5b4ead7e46287b382c290f4052645cdb30314a3eacf3298d6"), looks := true }, kinds := [], alts := [], laidByText := true, laidKinds := [.data, .pinned], laidTests := true, laidLooks := .later }
def FnNoticeCutCardSaid : Prop := Claim7.holds Tryd.pinned (.plain (OpenSpec.ofChange fnNoticeCutSpec)) fnNoticeCutCard

/-- THE SECOND FORM's CARD OF 'laws.FnNoticeBack'. -/
def fnNoticeBackUptoCard : Claim7 := { stood := { row := fnNoticeBackUptoRow, standIns := [], harness := (true, "a52f5641dc2bf5f5b4ead7e46287b382c290f4052645cdb30314a3eacf3298d6"), looks := true }, kinds := [], alts := [], laidByText := true, laidKinds := [.data, .pinned], laidTests := true, laidLooks := .later }
def FnNoticeBackUptoCardSaid : Prop := Claim7.holds Tryd.pinned (.plain (OpenSpec.upto fnNoticeBackSpec)) fnNoticeBackUptoCard

/-- THE SECOND FORM's CARD OF 'laws.FnNoticeRead'. -/
def fnNoticeReadUptoCard : Claim7 := { stood := { row := fnNoticeReadUptoRow, standIns := [], harness := (true, "a52f5641dc2bf5f5b4ead7e46287b382c290f4052645cdb30314a3eacf3298d6"), looks := true }, kinds := [], alts := [], laidByText := true, laidKinds := [.data, .pinned], laidTests := true, laidLooks := .later }
def FnNoticeReadUptoCardSaid : Prop := Claim7.holds Tryd.pinned (.plain (OpenSpec.upto fnNoticeReadSpec)) fnNoticeReadUptoCard

/-- THE SECOND FORM's CARD OF 'laws.FnNoticeJunk'. -/
def fnNoticeJunkUptoCard : Claim7 := { stood := { row := fnNoticeJunkUptoRow, standIns := [], harness := (true, "a52f5641dc2bf5f5b4ead7e46287b382c290f4052645cdb30314a3eacf3298d6"), looks := true }, kinds := [], alts := [], laidByText := true, laidKinds := [.data, .pinned], laidTests := true, laidLooks := .later }
def FnNoticeJunkUptoCardSaid : Prop := Claim7.holds Tryd.pinned (.plain (OpenSpec.upto fnNoticeJunkSpec)) fnNoticeJunkUptoCard

/-- THE SECOND FORM's CARD OF 'laws.FnNoticeCut'. -/
def fnNoticeCutUptoCard : Claim7 := { stood := { row := fnNoticeCutUptoRow, standIns := [], harness := (true, "a52f5641dc2bf5f5b4ead7e46287b382c290f4052645cdb30314a3eacf3298d6"), looks := true }, kinds := [], alts := [], laidByText := true, laidKinds := [.data, .pinned], laidTests := true, laidLooks := .later }
def FnNoticeCutUptoCardSaid : Prop := Claim7.holds Tryd.pinned (.plain (OpenSpec.upto fnNoticeCutSpec)) fnNoticeCutUptoCard
end Rows
end Go.Proofs.YtacelbhoccckbaaDoor
