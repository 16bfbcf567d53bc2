/-
  NARROWER THAN 'FOR EVERY INPUT', by the rows' own cells (each row's printed sentence says how): FnExactWorldFrom: laid · FnExactTripNew: laid · FnExactTripOk: laid · FnExactTripNext: laid · FnExactTripDone: laid · FnExactTripLooked: laid · FnExactTripCalls: laid.
  DERIVED. THE GIVEN ROWS OF THIS SEAT. 7 by the template 'for every input the law returns true; each argument reads behind the call as it read before'; 0 by the template 'total and deterministic' (their statements: YtboncolbijicfaaGreatDoorTotals.lean).
  GIVEN WITH THE SEED: the statements are not yours to turn. If you find one false, say at which input.
  Laid BY PROGRAM, IN A SANDBOX (cutbox-rows.mjs): the forced cells as the released guide's own fill.sh prints them over the translation 57fab2226858f0a1… (all of the seat's roots in one cut). By AI agents, Wed Nov 11 2026. No macro, syntax, notation, axiom, sorry.
-/
import Derived.Test.YtboncolbijicfaaGreatDoorChecked
import GoSem.PinnedTables
import GoSem.Claim
import GoSem.ClaimJoined
import GoSem.ClaimMapViews
import Derived.JoinedTies
import Derived.KernelRfl
namespace Go.Proofs.YtboncolbijicfaaGreatDoor
/- THE CELL 'sum', in the pinned program and in every row, IS THE sha256 OF THE DUMP (.gsa) THAT YtboncolbijicfaaGreatDoorProg.lean LOADS. Nothing in Lean hashes anything: it is a label: what it is worth is what the hold of that sum in a sandbox is worth. -/
noncomputable def Tryz.pinned : Pinned := { name := "ytboncolbijicfaagreatdoor", sum := "57fab2226858f0a164c5cfe0c26e5ab88956d638f0c979594167d97569bf09a9", checked := Tryz.checked }
namespace Rows
def none {H : Type} : Left H := { results := [], args := [] }

/- WHAT THE LISTED PACKAGE-LEVEL VARIABLES READ AS WHEN THE CALL BEGINS. Each datum BY PROGRAM (the guide's laid-datum.mjs) off the statement by which the dump's own 'gosem.cut.vars' lays the variable. In a bare row this is a premise. The card (YtboncolbijicfaaGreatDoorCards.lean) ties it to the program's text. -/
def laid_unicode_utf8_acceptRanges {H : Type} : DataW H := .agg [.agg [.lit (.int .u8 128), .lit (.int .u8 191)], .agg [.lit (.int .u8 160), .lit (.int .u8 191)], .agg [.lit (.int .u8 128), .lit (.int .u8 159)], .agg [.lit (.int .u8 144), .lit (.int .u8 191)], .agg [.lit (.int .u8 128), .lit (.int .u8 143)], .agg [.lit (.int .u8 0), .lit (.int .u8 0)], .agg [.lit (.int .u8 0), .lit (.int .u8 0)], .agg [.lit (.int .u8 0), .lit (.int .u8 0)], .agg [.lit (.int .u8 0), .lit (.int .u8 0)], .agg [.lit (.int .u8 0), .lit (.int .u8 0)], .agg [.lit (.int .u8 0), .lit (.int .u8 0)], .agg [.lit (.int .u8 0), .lit (.int .u8 0)], .agg [.lit (.int .u8 0), .lit (.int .u8 0)], .agg [.lit (.int .u8 0), .lit (.int .u8 0)], .agg [.lit (.int .u8 0), .lit (.int .u8 0)], .agg [.lit (.int .u8 0), .lit (.int .u8 0)]]
/-- One of Go's own tables, pinned by name: the form's constant. -/
def laid_unicode_utf8_first : DataW Unit := Go.Pinned.utf8First

/-- 'laws.FnExactWorldFrom': WHATEVER THE INPUT: true; the input reads as it did. -/
def fnExactWorldFromSpec : ChangeSpec := { name := "fnExactWorldFrom", fn := fun _ => fun
  | [d1, d2] => { results := [.lit (.bool true)], args := [d1, d2] }
  | _ => none }
def fnExactWorldFromRow : OpenClaim := { program := "ytboncolbijicfaagreatdoor", sum := "57fab2226858f0a164c5cfe0c26e5ab88956d638f0c979594167d97569bf09a9", func := "loop.example/pedlar/laws.FnExactWorldFrom", spec := "fnExactWorldFrom", inPlace := ["internal/bytealg.IndexByteString", "internal/bytealg.IndexString", "internal/bytealg.CountString", "internal/abi.NoEscape", "internal/bytealg.MakeNoZero"], unfollowed := true, recurses := true, named := ["internal/bytealg.MaxLen", "unicode/utf8.first", "unicode/utf8.acceptRanges"], apart := false, laid := [("unicode/utf8.acceptRanges", laid_unicode_utf8_acceptRanges), ("unicode/utf8.first", laid_unicode_utf8_first)] }
def FnExactWorldFromSaid : Prop := fnExactWorldFromRow.holds Tryz.pinned (OpenSpec.ofChange fnExactWorldFromSpec)

/-- ITS FALSE NEIGHBOUR: 'it returns false'. Refute it at one input. -/
def fnExactWorldFromWrong : ChangeSpec := { name := "fnExactWorldFrom", fn := fun _ => fun
  | [d1, d2] => { results := [.lit (.bool false)], args := [d1, d2] }
  | _ => none }
def FnExactWorldFromWrongFalsely : Prop := fnExactWorldFromRow.holds Tryz.pinned (OpenSpec.ofChange fnExactWorldFromWrong)

/-- 'laws.FnExactTripNew': WHATEVER THE INPUT: true; the input reads as it did. -/
def fnExactTripNewSpec : ChangeSpec := { name := "fnExactTripNew", fn := fun _ => fun
  | [d1, d2] => { results := [.lit (.bool true)], args := [d1, d2] }
  | _ => none }
def fnExactTripNewRow : OpenClaim := { program := "ytboncolbijicfaagreatdoor", sum := "57fab2226858f0a164c5cfe0c26e5ab88956d638f0c979594167d97569bf09a9", func := "loop.example/pedlar/laws.FnExactTripNew", spec := "fnExactTripNew", inPlace := ["internal/bytealg.IndexByteString", "internal/bytealg.IndexString", "internal/bytealg.CountString", "internal/abi.NoEscape", "internal/bytealg.MakeNoZero"], unfollowed := true, recurses := true, named := ["internal/bytealg.MaxLen", "unicode/utf8.first", "unicode/utf8.acceptRanges"], apart := false, laid := [("unicode/utf8.acceptRanges", laid_unicode_utf8_acceptRanges), ("unicode/utf8.first", laid_unicode_utf8_first)] }
def FnExactTripNewSaid : Prop := fnExactTripNewRow.holds Tryz.pinned (OpenSpec.ofChange fnExactTripNewSpec)

/-- ITS FALSE NEIGHBOUR: 'it returns false'. Refute it at one input. -/
def fnExactTripNewWrong : ChangeSpec := { name := "fnExactTripNew", fn := fun _ => fun
  | [d1, d2] => { results := [.lit (.bool false)], args := [d1, d2] }
  | _ => none }
def FnExactTripNewWrongFalsely : Prop := fnExactTripNewRow.holds Tryz.pinned (OpenSpec.ofChange fnExactTripNewWrong)

/-- 'laws.FnExactTripOk': WHATEVER THE INPUT: true; the input reads as it did. -/
def fnExactTripOkSpec : ChangeSpec := { name := "fnExactTripOk", fn := fun _ => fun
  | [d] => { results := [.lit (.bool true)], args := [d] }
  | _ => none }
def fnExactTripOkRow : OpenClaim := { program := "ytboncolbijicfaagreatdoor", sum := "57fab2226858f0a164c5cfe0c26e5ab88956d638f0c979594167d97569bf09a9", func := "loop.example/pedlar/laws.FnExactTripOk", spec := "fnExactTripOk", inPlace := ["internal/bytealg.IndexByteString", "internal/bytealg.IndexString", "internal/bytealg.CountString", "internal/abi.NoEscape", "internal/bytealg.MakeNoZero"], unfollowed := true, recurses := true, named := ["internal/bytealg.MaxLen", "unicode/utf8.first", "unicode/utf8.acceptRanges"], apart := false, laid := [("unicode/utf8.acceptRanges", laid_unicode_utf8_acceptRanges), ("unicode/utf8.first", laid_unicode_utf8_first)] }
def FnExactTripOkSaid : Prop := fnExactTripOkRow.holds Tryz.pinned (OpenSpec.ofChange fnExactTripOkSpec)

/-- ITS FALSE NEIGHBOUR: 'it returns false'. Refute it at one input. -/
def fnExactTripOkWrong : ChangeSpec := { name := "fnExactTripOk", fn := fun _ => fun
  | [d] => { results := [.lit (.bool false)], args := [d] }
  | _ => none }
def FnExactTripOkWrongFalsely : Prop := fnExactTripOkRow.holds Tryz.pinned (OpenSpec.ofChange fnExactTripOkWrong)

/-- 'laws.FnExactTripNext': WHATEVER THE INPUT: true; the input reads as it did. -/
def fnExactTripNextSpec : ChangeSpec := { name := "fnExactTripNext", fn := fun _ => fun
  | [d] => { results := [.lit (.bool true)], args := [d] }
  | _ => none }
def fnExactTripNextRow : OpenClaim := { program := "ytboncolbijicfaagreatdoor", sum := "57fab2226858f0a164c5cfe0c26e5ab88956d638f0c979594167d97569bf09a9", func := "loop.example/pedlar/laws.FnExactTripNext", spec := "fnExactTripNext", inPlace := ["internal/bytealg.IndexByteString", "internal/bytealg.IndexString", "internal/bytealg.CountString", "internal/abi.NoEscape", "internal/bytealg.MakeNoZero"], unfollowed := true, recurses := true, named := ["internal/bytealg.MaxLen", "unicode/utf8.first", "unicode/utf8.acceptRanges"], apart := false, laid := [("unicode/utf8.acceptRanges", laid_unicode_utf8_acceptRanges), ("unicode/utf8.first", laid_unicode_utf8_first)] }
def FnExactTripNextSaid : Prop := fnExactTripNextRow.holds Tryz.pinned (OpenSpec.ofChange fnExactTripNextSpec)

/-- ITS FALSE NEIGHBOUR: 'it returns false'. Refute it at one input. -/
def fnExactTripNextWrong : ChangeSpec := { name := "fnExactTripNext", fn := fun _ => fun
  | [d] => { results := [.lit (.bool false)], args := [d] }
  | _ => none }
def FnExactTripNextWrongFalsely : Prop := fnExactTripNextRow.holds Tryz.pinned (OpenSpec.ofChange fnExactTripNextWrong)

/-- 'laws.FnExactTripDone': WHATEVER THE INPUT: true; the input reads as it did. -/
def fnExactTripDoneSpec : ChangeSpec := { name := "fnExactTripDone", fn := fun _ => fun
  | [d] => { results := [.lit (.bool true)], args := [d] }
  | _ => none }
def fnExactTripDoneRow : OpenClaim := { program := "ytboncolbijicfaagreatdoor", sum := "57fab2226858f0a164c5cfe0c26e5ab88956d638f0c979594167d97569bf09a9", func := "loop.example/pedlar/laws.FnExactTripDone", spec := "fnExactTripDone", inPlace := ["internal/bytealg.IndexByteString", "internal/bytealg.IndexString", "internal/bytealg.CountString", "internal/abi.NoEscape", "internal/bytealg.MakeNoZero"], unfollowed := true, recurses := true, named := ["internal/bytealg.MaxLen", "unicode/utf8.first", "unicode/utf8.acceptRanges"], apart := false, laid := [("unicode/utf8.acceptRanges", laid_unicode_utf8_acceptRanges), ("unicode/utf8.first", laid_unicode_utf8_first)] }
def FnExactTripDoneSaid : Prop := fnExactTripDoneRow.holds Tryz.pinned (OpenSpec.ofChange fnExactTripDoneSpec)

/-- ITS FALSE NEIGHBOUR: 'it returns false'. Refute it at one input. -/
def fnExactTripDoneWrong : ChangeSpec := { name := "fnExactTripDone", fn := fun _ => fun
  | [d] => { results := [.lit (.bool false)], args := [d] }
  | _ => none }
def FnExactTripDoneWrongFalsely : Prop := fnExactTripDoneRow.holds Tryz.pinned (OpenSpec.ofChange fnExactTripDoneWrong)

/-- 'laws.FnExactTripLooked': WHATEVER THE INPUT: true; the input reads as it did. -/
def fnExactTripLookedSpec : ChangeSpec := { name := "fnExactTripLooked", fn := fun _ => fun
  | [d] => { results := [.lit (.bool true)], args := [d] }
  | _ => none }
def fnExactTripLookedRow : OpenClaim := { program := "ytboncolbijicfaagreatdoor", sum := "57fab2226858f0a164c5cfe0c26e5ab88956d638f0c979594167d97569bf09a9", func := "loop.example/pedlar/laws.FnExactTripLooked", spec := "fnExactTripLooked", inPlace := ["internal/bytealg.IndexByteString", "internal/bytealg.IndexString", "internal/bytealg.CountString", "internal/abi.NoEscape", "internal/bytealg.MakeNoZero"], unfollowed := true, recurses := true, named := ["internal/bytealg.MaxLen", "unicode/utf8.first", "unicode/utf8.acceptRanges"], apart := false, laid := [("unicode/utf8.acceptRanges", laid_unicode_utf8_acceptRanges), ("unicode/utf8.first", laid_unicode_utf8_first)] }
def FnExactTripLookedSaid : Prop := fnExactTripLookedRow.holds Tryz.pinned (OpenSpec.ofChange fnExactTripLookedSpec)

/-- ITS FALSE NEIGHBOUR: 'it returns false'. Refute it at one input. -/
def fnExactTripLookedWrong : ChangeSpec := { name := "fnExactTripLooked", fn := fun _ => fun
  | [d] => { results := [.lit (.bool false)], args := [d] }
  | _ => none }
def FnExactTripLookedWrongFalsely : Prop := fnExactTripLookedRow.holds Tryz.pinned (OpenSpec.ofChange fnExactTripLookedWrong)

/-- 'laws.FnExactTripCalls': WHATEVER THE INPUT: true; the input reads as it did. -/
def fnExactTripCallsSpec : ChangeSpec := { name := "fnExactTripCalls", fn := fun _ => fun
  | [d1, d2] => { results := [.lit (.bool true)], args := [d1, d2] }
  | _ => none }
def fnExactTripCallsRow : OpenClaim := { program := "ytboncolbijicfaagreatdoor", sum := "57fab2226858f0a164c5cfe0c26e5ab88956d638f0c979594167d97569bf09a9", func := "loop.example/pedlar/laws.FnExactTripCalls", spec := "fnExactTripCalls", inPlace := ["internal/bytealg.IndexByteString", "internal/bytealg.IndexString", "internal/bytealg.CountString", "internal/abi.NoEscape", "internal/bytealg.MakeNoZero"], unfollowed := true, recurses := true, named := ["internal/bytealg.MaxLen", "unicode/utf8.first", "unicode/utf8.acceptRanges"], apart := false, laid := [("unicode/utf8.acceptRanges", laid_unicode_utf8_acceptRanges), ("unicode/utf8.first", laid_unicode_utf8_first)] }
def FnExactTripCallsSaid : Prop := fnExactTripCallsRow.holds Tryz.pinned (OpenSpec.ofChange fnExactTripCallsSpec)

/-- ITS FALSE NEIGHBOUR: 'it returns false'. Refute it at one input. -/
def fnExactTripCallsWrong : ChangeSpec := { name := "fnExactTripCalls", fn := fun _ => fun
  | [d1, d2] => { results := [.lit (.bool false)], args := [d1, d2] }
  | _ => none }
def FnExactTripCallsWrongFalsely : Prop := fnExactTripCallsRow.holds Tryz.pinned (OpenSpec.ofChange fnExactTripCallsWrong)

/- THE SECOND FORM. 'bulk': how many values and letters a reading holds, each counted each time it is reached (what is shared counts as often as it is met; a slice's spare places count too). A statement '..UptoSaid' is the law's where the arguments, and the package variables that the reading takes, are together of bulk at most 1048576: NARROWER than '..Said'. Prove '..Said' where nothing that the law and all that it calls make is longer than what came in: it says more and counts as full. Else prove '..UptoSaid'. A law counts once. -/
mutual
def uptoBulk {H : Type} : DataW H → Nat
  | .lit (.string bytes) => bytes.length + 1
  | .lit _ => 1
  | .nil => 1
  | .ptr d => uptoBulk d + 1
  | .slice elems spare => uptoBulkAll elems + uptoBulkAll spare + 1
  | .agg parts => uptoBulkAll parts + 1
  | .iface _ d => uptoBulk d + 1
  | .map entries => uptoBulkEntries entries + 1
  | .held _ => 1
def uptoBulkAll {H : Type} : List (DataW H) → Nat
  | [] => 0
  | d :: r => uptoBulk d + uptoBulkAll r
def uptoBulkEntries {H : Type} : List (Lit × DataW H) → Nat
  | [] => 0
  | x :: r => uptoBulkEntry x + uptoBulkEntries r
def uptoBulkEntry {H : Type} : Lit × DataW H → Nat
  | (.string bytes, d) => bytes.length + uptoBulk d + 1
  | (_, d) => uptoBulk d + 1
 end
def uptoSmall : (H : Type) → List (DataW H) → Bool := fun _ ds => decide (uptoBulkAll ds ≤ 1048576)
def OpenSpec.upto (s : _root_.Go.ChangeSpec) : _root_.Go.OpenSpec := { _root_.Go.OpenSpec.ofChange s with cond := some uptoSmall }

/-- 'laws.FnExactWorldFrom', WHERE WHAT IT READS IS OF BULK AT MOST 1048576: true; the input reads as it did. -/
def fnExactWorldFromUptoRow : OpenClaim := { program := "ytboncolbijicfaagreatdoor", sum := "57fab2226858f0a164c5cfe0c26e5ab88956d638f0c979594167d97569bf09a9", func := "loop.example/pedlar/laws.FnExactWorldFrom", spec := "fnExactWorldFrom", inPlace := ["internal/bytealg.IndexByteString", "internal/bytealg.IndexString", "internal/bytealg.CountString", "internal/abi.NoEscape", "internal/bytealg.MakeNoZero"], unfollowed := true, recurses := true, named := ["internal/bytealg.MaxLen", "unicode/utf8.first", "unicode/utf8.acceptRanges"], apart := false, laid := [("unicode/utf8.acceptRanges", laid_unicode_utf8_acceptRanges), ("unicode/utf8.first", laid_unicode_utf8_first)], narrowed := true }
def FnExactWorldFromUptoSaid : Prop := fnExactWorldFromUptoRow.holds Tryz.pinned (OpenSpec.upto fnExactWorldFromSpec)

/-- 'laws.FnExactTripNew', WHERE WHAT IT READS IS OF BULK AT MOST 1048576: true; the input reads as it did. -/
def fnExactTripNewUptoRow : OpenClaim := { program := "ytboncolbijicfaagreatdoor", sum := "57fab2226858f0a164c5cfe0c26e5ab88956d638f0c979594167d97569bf09a9", func := "loop.example/pedlar/laws.FnExactTripNew", spec := "fnExactTripNew", inPlace := ["internal/bytealg.IndexByteString", "internal/bytealg.IndexString", "internal/bytealg.CountString", "internal/abi.NoEscape", "internal/bytealg.MakeNoZero"], unfollowed := true, recurses := true, named := ["internal/bytealg.MaxLen", "unicode/utf8.first", "unicode/utf8.acceptRanges"], apart := false, laid := [("unicode/utf8.acceptRanges", laid_unicode_utf8_acceptRanges), ("unicode/utf8.first", laid_unicode_utf8_first)], narrowed := true }
def FnExactTripNewUptoSaid : Prop := fnExactTripNewUptoRow.holds Tryz.pinned (OpenSpec.upto fnExactTripNewSpec)

/-- 'laws.FnExactTripOk', WHERE WHAT IT READS IS OF BULK AT MOST 1048576: true; the input reads as it did. -/
def fnExactTripOkUptoRow : OpenClaim := { program := "ytboncolbijicfaagreatdoor", sum := "57fab2226858f0a164c5cfe0c26e5ab88956d638f0c979594167d97569bf09a9", func := "loop.example/pedlar/laws.FnExactTripOk", spec := "fnExactTripOk", inPlace := ["internal/bytealg.IndexByteString", "internal/bytealg.IndexString", "internal/bytealg.CountString", "internal/abi.NoEscape", "internal/bytealg.MakeNoZero"], unfollowed := true, recurses := true, named := ["internal/bytealg.MaxLen", "unicode/utf8.first", "unicode/utf8.acceptRanges"], apart := false, laid := [("unicode/utf8.acceptRanges", laid_unicode_utf8_acceptRanges), ("unicode/utf8.first", laid_unicode_utf8_first)], narrowed := true }
def FnExactTripOkUptoSaid : Prop := fnExactTripOkUptoRow.holds Tryz.pinned (OpenSpec.upto fnExactTripOkSpec)

/-- 'laws.FnExactTripNext', WHERE WHAT IT READS IS OF BULK AT MOST 1048576: true; the input reads as it did. -/
def fnExactTripNextUptoRow : OpenClaim := { program := "ytboncolbijicfaagreatdoor", sum := "57fab2226858f0a164c5cfe0c26e5ab88956d638f0c979594167d97569bf09a9", func := "loop.example/pedlar/laws.FnExactTripNext", spec := "fnExactTripNext", inPlace := ["internal/bytealg.IndexByteString", "internal/bytealg.IndexString", "internal/bytealg.CountString", "internal/abi.NoEscape", "internal/bytealg.MakeNoZero"], unfollowed := true, recurses := true, named := ["internal/bytealg.MaxLen", "unicode/utf8.first", "unicode/utf8.acceptRanges"], apart := false, laid := [("unicode/utf8.acceptRanges", laid_unicode_utf8_acceptRanges), ("unicode/utf8.first", laid_unicode_utf8_first)], narrowed := true }
def FnExactTripNextUptoSaid : Prop := fnExactTripNextUptoRow.holds Tryz.pinned (OpenSpec.upto fnExactTripNextSpec)

/-- 'laws.FnExactTripDone', WHERE WHAT IT READS IS OF BULK AT MOST 1048576: true; the input reads as it did. -/
def fnExactTripDoneUptoRow : OpenClaim := { program := "ytboncolbijicfaagreatdoor", sum := "57fab2226858f0a164c5cfe0c26e5ab88956d638f0c979594167d97569bf09a9", func := "loop.example/pedlar/laws.FnExactTripDone", spec := "fnExactTripDone", inPlace := ["internal/bytealg.IndexByteString", "internal/bytealg.IndexString", "internal/bytealg.CountString", "internal/abi.NoEscape", "internal/bytealg.MakeNoZero"], unfollowed := true, recurses := true, named := ["internal/bytealg.MaxLen", "unicode/utf8.first", "unicode/utf8.acceptRanges"], apart := false, laid := [("unicode/utf8.acceptRanges", laid_unicode_utf8_acceptRanges), ("unicode/utf8.first", laid_unicode_utf8_first)], narrowed := true }
def FnExactTripDoneUptoSaid : Prop := fnExactTripDoneUptoRow.holds Tryz.pinned (OpenSpec.upto fnExactTripDoneSpec)

/-- 'laws.FnExactTripLooked', WHERE WHAT IT READS IS OF BULK AT MOST 1048576: true; the input reads as it did. -/
def fnExactTripLookedUptoRow : OpenClaim := { program := "ytboncolbijicfaagreatdoor", sum := "57fab2226858f0a164c5cfe0c26e5ab88956d638f0c979594167d97569bf09a9", func := "loop.example/pedlar/laws.FnExactTripLooked", spec := "fnExactTripLooked", inPlace := ["internal/bytealg.IndexByteString", "internal/bytealg.IndexString", "internal/bytealg.CountString", "internal/abi.NoEscape", "internal/bytealg.MakeNoZero"], unfollowed := true, recurses := true, named := ["internal/bytealg.MaxLen", "unicode/utf8.first", "unicode/utf8.acceptRanges"], apart := false, laid := [("unicode/utf8.acceptRanges", laid_unicode_utf8_acceptRanges), ("unicode/utf8.first", laid_unicode_utf8_first)], narrowed := true }
def FnExactTripLookedUptoSaid : Prop := fnExactTripLookedUptoRow.holds Tryz.pinned (OpenSpec.upto fnExactTripLookedSpec)

/-- 'laws.FnExactTripCalls', WHERE WHAT IT READS IS OF BULK AT MOST 1048576: true; the input reads as it did. -/
def fnExactTripCallsUptoRow : OpenClaim := { program := "ytboncolbijicfaagreatdoor", sum := "57fab2226858f0a164c5cfe0c26e5ab88956d638f0c979594167d97569bf09a9", func := "loop.example/pedlar/laws.FnExactTripCalls", spec := "fnExactTripCalls", inPlace := ["internal/bytealg.IndexByteString", "internal/bytealg.IndexString", "internal/bytealg.CountString", "internal/abi.NoEscape", "internal/bytealg.MakeNoZero"], unfollowed := true, recurses := true, named := ["internal/bytealg.MaxLen", "unicode/utf8.first", "unicode/utf8.acceptRanges"], apart := false, laid := [("unicode/utf8.acceptRanges", laid_unicode_utf8_acceptRanges), ("unicode/utf8.first", laid_unicode_utf8_first)], narrowed := true }
def FnExactTripCallsUptoSaid : Prop := fnExactTripCallsUptoRow.holds Tryz.pinned (OpenSpec.upto fnExactTripCallsSpec)

end Rows
end Go.Proofs.YtboncolbijicfaaGreatDoor
