/-
  NARROWER THAN 'FOR EVERY INPUT', by the rows' own cells (each row's printed sentence says how): FnAddrBack: laid · FnAddrStrict: laid · FnAddrGreat: laid · FnAddrCross: laid · FnAddrStroke: laid · FnJoinWhole: laid · FnJoinSelf: laid · FnJoinOk: laid · FnJoinUp: laid · FnJoinAsk: laid · FnJoinBeside: laid · FnExactAddrRead: laid.
  DERIVED. THE GIVEN ROWS OF THIS SEAT. 12 by the template 'for every input the law returns true; each argument reads behind the call as it read before'; 0 by the template 'total and deterministic' (their statements: YtbfiopcdclcdhaaDoorTotals.lean).
  GIVEN WITH THE SEED: the statements are not yours to turn. If you find one false, say at which input.
  Laid BY PROGRAM, IN A SANDBOX (cutbox-rows.mjs): the forced cells as the released guide's own fill.sh prints them over the translation 8d8a56f92841dcc3… (all of the seat's roots in one cut). By AI agents, Wed Nov 11 2026. No macro, syntax, notation, axiom, sorry.
-/
import Derived.Test.YtbfiopcdclcdhaaDoorChecked
import GoSem.PinnedTables
import GoSem.Claim
import GoSem.ClaimJoined
import GoSem.ClaimMapViews
import Derived.JoinedTies
import Derived.KernelRfl
namespace Go.Proofs.YtbfiopcdclcdhaaDoor
/- THE CELL 'sum', in the pinned program and in every row, IS THE sha256 OF THE DUMP (.gsa) THAT YtbfiopcdclcdhaaDoorProg.lean LOADS. Nothing in Lean hashes anything: it is a label: what it is worth is what the hold of that sum in a sandbox is worth. -/
noncomputable def Tryd.pinned : Pinned := { name := "ytbfiopcdclcdhaadoor", sum := "8d8a56f92841dcc3066dd20d5be30261253e34eabcd17a2e3d66d78a8aa9b014", checked := Tryd.checked }
namespace Rows
def none {H : Type} : Left H := { results := [], args := [] }

/- WHAT THE LISTED PACKAGE-LEVEL VARIABLES READ AS WHEN THE CALL BEGINS. Each datum BY PROGRAM (the guide's laid-datum.mjs) off the statement by which the dump's own 'gosem.cut.vars' lays the variable. In a bare row this is a premise. The card (YtbfiopcdclcdhaaDoorCards.lean) ties it to the program's text. -/
def laid_unicode_utf8_acceptRanges {H : Type} : DataW H := .agg [.agg [.lit (.int .u8 128), .lit (.int .u8 191)], .agg [.lit (.int .u8 160), .lit (.int .u8 191)], .agg [.lit (.int .u8 128), .lit (.int .u8 159)], .agg [.lit (.int .u8 144), .lit (.int .u8 191)], .agg [.lit (.int .u8 128), .lit (.int .u8 143)], .agg [.lit (.int .u8 0), .lit (.int .u8 0)], .agg [.lit (.int .u8 0), .lit (.int .u8 0)], .agg [.lit (.int .u8 0), .lit (.int .u8 0)], .agg [.lit (.int .u8 0), .lit (.int .u8 0)], .agg [.lit (.int .u8 0), .lit (.int .u8 0)], .agg [.lit (.int .u8 0), .lit (.int .u8 0)], .agg [.lit (.int .u8 0), .lit (.int .u8 0)], .agg [.lit (.int .u8 0), .lit (.int .u8 0)], .agg [.lit (.int .u8 0), .lit (.int .u8 0)], .agg [.lit (.int .u8 0), .lit (.int .u8 0)], .agg [.lit (.int .u8 0), .lit (.int .u8 0)]]
/-- One of Go's own tables, pinned by name: the form's constant. -/
def laid_unicode_utf8_first : DataW Unit := Go.Pinned.utf8First

/-- 'laws.FnAddrBack': WHATEVER THE INPUT: true; the input reads as it did. -/
def fnAddrBackSpec : ChangeSpec := { name := "fnAddrBack", fn := fun _ => fun
  | [d] => { results := [.lit (.bool true)], args := [d] }
  | _ => none }
def fnAddrBackRow : OpenClaim := { program := "ytbfiopcdclcdhaadoor", sum := "8d8a56f92841dcc3066dd20d5be30261253e34eabcd17a2e3d66d78a8aa9b014", func := "loop.example/pedlar/laws.FnAddrBack", spec := "fnAddrBack", inPlace := ["internal/abi.NoEscape", "internal/bytealg.MakeNoZero", "internal/bytealg.IndexByteString", "internal/bytealg.IndexString", "internal/bytealg.CountString"], named := ["internal/bytealg.MaxLen", "unicode/utf8.first", "unicode/utf8.acceptRanges"], apart := false, laid := [("unicode/utf8.acceptRanges", laid_unicode_utf8_acceptRanges), ("unicode/utf8.first", laid_unicode_utf8_first)] }
def FnAddrBackSaid : Prop := fnAddrBackRow.holds Tryd.pinned (OpenSpec.ofChange fnAddrBackSpec)

/-- ITS FALSE NEIGHBOUR: 'it returns false'. Refute it at one input. -/
def fnAddrBackWrong : ChangeSpec := { name := "fnAddrBack", fn := fun _ => fun
  | [d] => { results := [.lit (.bool false)], args := [d] }
  | _ => none }
def FnAddrBackWrongFalsely : Prop := fnAddrBackRow.holds Tryd.pinned (OpenSpec.ofChange fnAddrBackWrong)

/-- 'laws.FnAddrStrict': WHATEVER THE INPUT: true; the input reads as it did. -/
def fnAddrStrictSpec : ChangeSpec := { name := "fnAddrStrict", fn := fun _ => fun
  | [d] => { results := [.lit (.bool true)], args := [d] }
  | _ => none }
def fnAddrStrictRow : OpenClaim := { program := "ytbfiopcdclcdhaadoor", sum := "8d8a56f92841dcc3066dd20d5be30261253e34eabcd17a2e3d66d78a8aa9b014", func := "loop.example/pedlar/laws.FnAddrStrict", spec := "fnAddrStrict", inPlace := ["internal/bytealg.IndexByteString", "internal/bytealg.IndexString", "internal/bytealg.CountString", "internal/abi.NoEscape", "internal/bytealg.MakeNoZero"], named := ["internal/bytealg.MaxLen", "unicode/utf8.first", "unicode/utf8.acceptRanges"], apart := false, laid := [("unicode/utf8.acceptRanges", laid_unicode_utf8_acceptRanges), ("unicode/utf8.first", laid_unicode_utf8_first)] }
def FnAddrStrictSaid : Prop := fnAddrStrictRow.holds Tryd.pinned (OpenSpec.ofChange fnAddrStrictSpec)

/-- ITS FALSE NEIGHBOUR: 'it returns false'. Refute it at one input. -/
def fnAddrStrictWrong : ChangeSpec := { name := "fnAddrStrict", fn := fun _ => fun
  | [d] => { results := [.lit (.bool false)], args := [d] }
  | _ => none }
def FnAddrStrictWrongFalsely : Prop := fnAddrStrictRow.holds Tryd.pinned (OpenSpec.ofChange fnAddrStrictWrong)

/-- 'laws.FnAddrGreat': WHATEVER THE INPUT: true; the input reads as it did. -/
def fnAddrGreatSpec : ChangeSpec := { name := "fnAddrGreat", fn := fun _ => fun
  | [d] => { results := [.lit (.bool true)], args := [d] }
  | _ => none }
def fnAddrGreatRow : OpenClaim := { program := "ytbfiopcdclcdhaadoor", sum := "8d8a56f92841dcc3066dd20d5be30261253e34eabcd17a2e3d66d78a8aa9b014", func := "loop.example/pedlar/laws.FnAddrGreat", spec := "fnAddrGreat", inPlace := ["internal/bytealg.IndexByteString", "internal/bytealg.IndexString", "internal/bytealg.CountString", "internal/abi.NoEscape", "internal/bytealg.MakeNoZero"], named := ["internal/bytealg.MaxLen", "unicode/utf8.first", "unicode/utf8.acceptRanges"], apart := false, laid := [("unicode/utf8.acceptRanges", laid_unicode_utf8_acceptRanges), ("unicode/utf8.first", laid_unicode_utf8_first)] }
def FnAddrGreatSaid : Prop := fnAddrGreatRow.holds Tryd.pinned (OpenSpec.ofChange fnAddrGreatSpec)

/-- ITS FALSE NEIGHBOUR: 'it returns false'. Refute it at one input. -/
def fnAddrGreatWrong : ChangeSpec := { name := "fnAddrGreat", fn := fun _ => fun
  | [d] => { results := [.lit (.bool false)], args := [d] }
  | _ => none }
def FnAddrGreatWrongFalsely : Prop := fnAddrGreatRow.holds Tryd.pinned (OpenSpec.ofChange fnAddrGreatWrong)

/-- 'laws.FnAddrCross': WHATEVER THE INPUT: true; the input reads as it did. -/
def fnAddrCrossSpec : ChangeSpec := { name := "fnAddrCross", fn := fun _ => fun
  | [d] => { results := [.lit (.bool true)], args := [d] }
  | _ => none }
def fnAddrCrossRow : OpenClaim := { program := "ytbfiopcdclcdhaadoor", sum := "8d8a56f92841dcc3066dd20d5be30261253e34eabcd17a2e3d66d78a8aa9b014", func := "loop.example/pedlar/laws.FnAddrCross", spec := "fnAddrCross", inPlace := ["internal/bytealg.IndexByteString", "internal/bytealg.IndexString", "internal/bytealg.CountString", "internal/abi.NoEscape", "internal/bytealg.MakeNoZero"], named := ["internal/bytealg.MaxLen", "unicode/utf8.first", "unicode/utf8.acceptRanges"], apart := false, laid := [("unicode/utf8.acceptRanges", laid_unicode_utf8_acceptRanges), ("unicode/utf8.first", laid_unicode_utf8_first)] }
def FnAddrCrossSaid : Prop := fnAddrCrossRow.holds Tryd.pinned (OpenSpec.ofChange fnAddrCrossSpec)

/-- ITS FALSE NEIGHBOUR: 'it returns false'. Refute it at one input. -/
def fnAddrCrossWrong : ChangeSpec := { name := "fnAddrCross", fn := fun _ => fun
  | [d] => { results := [.lit (.bool false)], args := [d] }
  | _ => none }
def FnAddrCrossWrongFalsely : Prop := fnAddrCrossRow.holds Tryd.pinned (OpenSpec.ofChange fnAddrCrossWrong)

/-- 'laws.FnAddrStroke': WHATEVER THE INPUT: true; the input reads as it did. -/
def fnAddrStrokeSpec : ChangeSpec := { name := "fnAddrStroke", fn := fun _ => fun
  | [d] => { results := [.lit (.bool true)], args := [d] }
  | _ => none }
def fnAddrStrokeRow : OpenClaim := { program := "ytbfiopcdclcdhaadoor", sum := "8d8a56f92841dcc3066dd20d5be30261253e34eabcd17a2e3d66d78a8aa9b014", func := "loop.example/pedlar/laws.FnAddrStroke", spec := "fnAddrStroke", inPlace := ["internal/bytealg.IndexByteString", "internal/bytealg.IndexString", "internal/bytealg.CountString", "internal/abi.NoEscape", "internal/bytealg.MakeNoZero"], named := ["internal/bytealg.MaxLen", "unicode/utf8.first", "unicode/utf8.acceptRanges"], apart := false, laid := [("unicode/utf8.acceptRanges", laid_unicode_utf8_acceptRanges), ("unicode/utf8.first", laid_unicode_utf8_first)] }
def FnAddrStrokeSaid : Prop := fnAddrStrokeRow.holds Tryd.pinned (OpenSpec.ofChange fnAddrStrokeSpec)

/-- ITS FALSE NEIGHBOUR: 'it returns false'. Refute it at one input. -/
def fnAddrStrokeWrong : ChangeSpec := { name := "fnAddrStroke", fn := fun _ => fun
  | [d] => { results := [.lit (.bool false)], args := [d] }
  | _ => none }
def FnAddrStrokeWrongFalsely : Prop := fnAddrStrokeRow.holds Tryd.pinned (OpenSpec.ofChange fnAddrStrokeWrong)

/-- 'laws.FnJoinWhole': WHATEVER THE INPUT: true; the input reads as it did. -/
def fnJoinWholeSpec : ChangeSpec := { name := "fnJoinWhole", fn := fun _ => fun
  | [d1, d2] => { results := [.lit (.bool true)], args := [d1, d2] }
  | _ => none }
def fnJoinWholeRow : OpenClaim := { program := "ytbfiopcdclcdhaadoor", sum := "8d8a56f92841dcc3066dd20d5be30261253e34eabcd17a2e3d66d78a8aa9b014", func := "loop.example/pedlar/laws.FnJoinWhole", spec := "fnJoinWhole", inPlace := ["internal/abi.NoEscape", "internal/bytealg.MakeNoZero", "internal/bytealg.IndexByteString", "internal/bytealg.IndexString", "internal/bytealg.CountString"], named := ["internal/bytealg.MaxLen", "unicode/utf8.first", "unicode/utf8.acceptRanges"], apart := false, laid := [("unicode/utf8.acceptRanges", laid_unicode_utf8_acceptRanges), ("unicode/utf8.first", laid_unicode_utf8_first)] }
def FnJoinWholeSaid : Prop := fnJoinWholeRow.holds Tryd.pinned (OpenSpec.ofChange fnJoinWholeSpec)

/-- ITS FALSE NEIGHBOUR: 'it returns false'. Refute it at one input. -/
def fnJoinWholeWrong : ChangeSpec := { name := "fnJoinWhole", fn := fun _ => fun
  | [d1, d2] => { results := [.lit (.bool false)], args := [d1, d2] }
  | _ => none }
def FnJoinWholeWrongFalsely : Prop := fnJoinWholeRow.holds Tryd.pinned (OpenSpec.ofChange fnJoinWholeWrong)

/-- 'laws.FnJoinSelf': WHATEVER THE INPUT: true; the input reads as it did. -/
def fnJoinSelfSpec : ChangeSpec := { name := "fnJoinSelf", fn := fun _ => fun
  | [d] => { results := [.lit (.bool true)], args := [d] }
  | _ => none }
def fnJoinSelfRow : OpenClaim := { program := "ytbfiopcdclcdhaadoor", sum := "8d8a56f92841dcc3066dd20d5be30261253e34eabcd17a2e3d66d78a8aa9b014", func := "loop.example/pedlar/laws.FnJoinSelf", spec := "fnJoinSelf", inPlace := ["internal/abi.NoEscape", "internal/bytealg.MakeNoZero", "internal/bytealg.IndexByteString", "internal/bytealg.IndexString", "internal/bytealg.CountString"], named := ["internal/bytealg.MaxLen", "unicode/utf8.first", "unicode/utf8.acceptRanges"], apart := false, laid := [("unicode/utf8.acceptRanges", laid_unicode_utf8_acceptRanges), ("unicode/utf8.first", laid_unicode_utf8_first)] }
def FnJoinSelfSaid : Prop := fnJoinSelfRow.holds Tryd.pinned (OpenSpec.ofChange fnJoinSelfSpec)

/-- ITS FALSE NEIGHBOUR: 'it returns false'. Refute it at one input. -/
def fnJoinSelfWrong : ChangeSpec := { name := "fnJoinSelf", fn := fun _ => fun
  | [d] => { results := [.lit (.bool false)], args := [d] }
  | _ => none }
def FnJoinSelfWrongFalsely : Prop := fnJoinSelfRow.holds Tryd.pinned (OpenSpec.ofChange fnJoinSelfWrong)

/-- 'laws.FnJoinOk': WHATEVER THE INPUT: true; the input reads as it did. -/
def fnJoinOkSpec : ChangeSpec := { name := "fnJoinOk", fn := fun _ => fun
  | [d] => { results := [.lit (.bool true)], args := [d] }
  | _ => none }
def fnJoinOkRow : OpenClaim := { program := "ytbfiopcdclcdhaadoor", sum := "8d8a56f92841dcc3066dd20d5be30261253e34eabcd17a2e3d66d78a8aa9b014", func := "loop.example/pedlar/laws.FnJoinOk", spec := "fnJoinOk", inPlace := ["internal/abi.NoEscape", "internal/bytealg.MakeNoZero", "internal/bytealg.IndexByteString", "internal/bytealg.IndexString", "internal/bytealg.CountString"], named := ["internal/bytealg.MaxLen", "unicode/utf8.first", "unicode/utf8.acceptRanges"], apart := false, laid := [("unicode/utf8.acceptRanges", laid_unicode_utf8_acceptRanges), ("unicode/utf8.first", laid_unicode_utf8_first)] }
def FnJoinOkSaid : Prop := fnJoinOkRow.holds Tryd.pinned (OpenSpec.ofChange fnJoinOkSpec)

/-- ITS FALSE NEIGHBOUR: 'it returns false'. Refute it at one input. -/
def fnJoinOkWrong : ChangeSpec := { name := "fnJoinOk", fn := fun _ => fun
  | [d] => { results := [.lit (.bool false)], args := [d] }
  | _ => none }
def FnJoinOkWrongFalsely : Prop := fnJoinOkRow.holds Tryd.pinned (OpenSpec.ofChange fnJoinOkWrong)

/-- 'laws.FnJoinUp': WHATEVER THE INPUT: true; the input reads as it did. -/
def fnJoinUpSpec : ChangeSpec := { name := "fnJoinUp", fn := fun _ => fun
  | [d] => { results := [.lit (.bool true)], args := [d] }
  | _ => none }
def fnJoinUpRow : OpenClaim := { program := "ytbfiopcdclcdhaadoor", sum := "8d8a56f92841dcc3066dd20d5be30261253e34eabcd17a2e3d66d78a8aa9b014", func := "loop.example/pedlar/laws.FnJoinUp", spec := "fnJoinUp", inPlace := ["internal/abi.NoEscape", "internal/bytealg.MakeNoZero", "internal/bytealg.IndexByteString", "internal/bytealg.IndexString", "internal/bytealg.CountString"], named := ["internal/bytealg.MaxLen", "unicode/utf8.first", "unicode/utf8.acceptRanges"], apart := false, laid := [("unicode/utf8.acceptRanges", laid_unicode_utf8_acceptRanges), ("unicode/utf8.first", laid_unicode_utf8_first)] }
def FnJoinUpSaid : Prop := fnJoinUpRow.holds Tryd.pinned (OpenSpec.ofChange fnJoinUpSpec)

/-- ITS FALSE NEIGHBOUR: 'it returns false'. Refute it at one input. -/
def fnJoinUpWrong : ChangeSpec := { name := "fnJoinUp", fn := fun _ => fun
  | [d] => { results := [.lit (.bool false)], args := [d] }
  | _ => none }
def FnJoinUpWrongFalsely : Prop := fnJoinUpRow.holds Tryd.pinned (OpenSpec.ofChange fnJoinUpWrong)

/-- 'laws.FnJoinAsk': WHATEVER THE INPUT: true; the input reads as it did. -/
def fnJoinAskSpec : ChangeSpec := { name := "fnJoinAsk", fn := fun _ => fun
  | [d] => { results := [.lit (.bool true)], args := [d] }
  | _ => none }
def fnJoinAskRow : OpenClaim := { program := "ytbfiopcdclcdhaadoor", sum := "8d8a56f92841dcc3066dd20d5be30261253e34eabcd17a2e3d66d78a8aa9b014", func := "loop.example/pedlar/laws.FnJoinAsk", spec := "fnJoinAsk", inPlace := ["internal/abi.NoEscape", "internal/bytealg.MakeNoZero", "internal/bytealg.IndexByteString", "internal/bytealg.IndexString", "internal/bytealg.CountString"], named := ["internal/bytealg.MaxLen", "unicode/utf8.first", "unicode/utf8.acceptRanges"], apart := false, laid := [("unicode/utf8.acceptRanges", laid_unicode_utf8_acceptRanges), ("unicode/utf8.first", laid_unicode_utf8_first)] }
def FnJoinAskSaid : Prop := fnJoinAskRow.holds Tryd.pinned (OpenSpec.ofChange fnJoinAskSpec)

/-- ITS FALSE NEIGHBOUR: 'it returns false'. Refute it at one input. -/
def fnJoinAskWrong : ChangeSpec := { name := "fnJoinAsk", fn := fun _ => fun
  | [d] => { results := [.lit (.bool false)], args := [d] }
  | _ => none }
def FnJoinAskWrongFalsely : Prop := fnJoinAskRow.holds Tryd.pinned (OpenSpec.ofChange fnJoinAskWrong)

/-- 'laws.FnJoinBeside': WHATEVER THE INPUT: true; the input reads as it did. -/
def fnJoinBesideSpec : ChangeSpec := { name := "fnJoinBeside", fn := fun _ => fun
  | [d] => { results := [.lit (.bool true)], args := [d] }
  | _ => none }
def fnJoinBesideRow : OpenClaim := { program := "ytbfiopcdclcdhaadoor", sum := "8d8a56f92841dcc3066dd20d5be30261253e34eabcd17a2e3d66d78a8aa9b014", func := "loop.example/pedlar/laws.FnJoinBeside", spec := "fnJoinBeside", inPlace := ["internal/abi.NoEscape", "internal/bytealg.MakeNoZero", "internal/bytealg.IndexByteString", "internal/bytealg.IndexString", "internal/bytealg.CountString"], named := ["internal/bytealg.MaxLen", "unicode/utf8.first", "unicode/utf8.acceptRanges"], apart := false, laid := [("unicode/utf8.acceptRanges", laid_unicode_utf8_acceptRanges), ("unicode/utf8.first", laid_unicode_utf8_first)] }
def FnJoinBesideSaid : Prop := fnJoinBesideRow.holds Tryd.pinned (OpenSpec.ofChange fnJoinBesideSpec)

/-- ITS FALSE NEIGHBOUR: 'it returns false'. Refute it at one input. -/
def fnJoinBesideWrong : ChangeSpec := { name := "fnJoinBeside", fn := fun _ => fun
  | [d] => { results := [.lit (.bool false)], args := [d] }
  | _ => none }
def FnJoinBesideWrongFalsely : Prop := fnJoinBesideRow.holds Tryd.pinned (OpenSpec.ofChange fnJoinBesideWrong)

/-- 'laws.FnExactAddrRead': WHATEVER THE INPUT: true; the input reads as it did. -/
def fnExactAddrReadSpec : ChangeSpec := { name := "fnExactAddrRead", fn := fun _ => fun
  | [d] => { results := [.lit (.bool true)], args := [d] }
  | _ => none }
def fnExactAddrReadRow : OpenClaim := { program := "ytbfiopcdclcdhaadoor", sum := "8d8a56f92841dcc3066dd20d5be30261253e34eabcd17a2e3d66d78a8aa9b014", func := "loop.example/pedlar/laws.FnExactAddrRead", spec := "fnExactAddrRead", inPlace := ["internal/bytealg.IndexByteString", "internal/bytealg.IndexString", "internal/bytealg.CountString", "internal/abi.NoEscape", "internal/bytealg.MakeNoZero"], named := ["internal/bytealg.MaxLen", "unicode/utf8.first", "unicode/utf8.acceptRanges"], apart := false, laid := [("unicode/utf8.acceptRanges", laid_unicode_utf8_acceptRanges), ("unicode/utf8.first", laid_unicode_utf8_first)] }
def FnExactAddrReadSaid : Prop := fnExactAddrReadRow.holds Tryd.pinned (OpenSpec.ofChange fnExactAddrReadSpec)

/-- ITS FALSE NEIGHBOUR: 'it returns false'. Refute it at one input. -/
def fnExactAddrReadWrong : ChangeSpec := { name := "fnExactAddrRead", fn := fun _ => fun
  | [d] => { results := [.lit (.bool false)], args := [d] }
  | _ => none }
def FnExactAddrReadWrongFalsely : Prop := fnExactAddrReadRow.holds Tryd.pinned (OpenSpec.ofChange fnExactAddrReadWrong)

/- THE SECOND FORM. 'bulk': how many values and letters a reading holds, each counted each time it is reached (what is shared counts as often as it is met; a slice's spare places count too). A statement '..UptoSaid' is the law's where the arguments, and the package variables that the reading takes, are together of bulk at most 1048576: NARROWER than '..Said'. Prove '..Said' where nothing that the law and all that it calls make is longer than what came in: it says more and counts as full. Else prove '..UptoSaid'. A law counts once. -/
mutual
def uptoBulk {H : Type} : DataW H → Nat
  | .lit (.string bytes) => bytes.length + 1
  | .lit _ => 1
  | .nil => 1
  | .ptr d => uptoBulk d + 1
  | .slice elems spare => uptoBulkAll elems + uptoBulkAll spare + 1
  | .agg parts => uptoBulkAll parts + 1
  | .iface _ d => uptoBulk d + 1
  | .map entries => uptoBulkEntries entries + 1
  | .held _ => 1
def uptoBulkAll {H : Type} : List (DataW H) → Nat
  | [] => 0
  | d :: r => uptoBulk d + uptoBulkAll r
def uptoBulkEntries {H : Type} : List (Lit × DataW H) → Nat
  | [] => 0
  | x :: r => uptoBulkEntry x + uptoBulkEntries r
def uptoBulkEntry {H : Type} : Lit × DataW H → Nat
  | (.string bytes, d) => bytes.length + uptoBulk d + 1
  | (_, d) => uptoBulk d + 1
 end
def uptoSmall : (H : Type) → List (DataW H) → Bool := fun _ ds => decide (uptoBulkAll ds ≤ 1048576)
def OpenSpec.upto (s : _root_.Go.ChangeSpec) : _root_.Go.OpenSpec := { _root_.Go.OpenSpec.ofChange s with cond := some uptoSmall }

/-- 'laws.FnAddrBack', WHERE WHAT IT READS IS OF BULK AT MOST 1048576: true; the input reads as it did. -/
def fnAddrBackUptoRow : OpenClaim := { program := "ytbfiopcdclcdhaadoor", sum := "8d8a56f92841dcc3066dd20d5be30261253e34eabcd17a2e3d66d78a8aa9b014", func := "loop.example/pedlar/laws.FnAddrBack", spec := "fnAddrBack", inPlace := ["internal/abi.NoEscape", "internal/bytealg.MakeNoZero", "internal/bytealg.IndexByteString", "internal/bytealg.IndexString", "internal/bytealg.CountString"], named := ["internal/bytealg.MaxLen", "unicode/utf8.first", "unicode/utf8.acceptRanges"], apart := false, laid := [("unicode/utf8.acceptRanges", laid_unicode_utf8_acceptRanges), ("unicode/utf8.first", laid_unicode_utf8_first)], narrowed := true }
def FnAddrBackUptoSaid : Prop := fnAddrBackUptoRow.holds Tryd.pinned (OpenSpec.upto fnAddrBackSpec)

/-- 'laws.FnAddrStrict', WHERE WHAT IT READS IS OF BULK AT MOST 1048576: true; the input reads as it did. -/
def fnAddrStrictUptoRow : OpenClaim := { program := "ytbfiopcdclcdhaadoor", sum := "8d8a56f92841dcc3066dd20d5be30261253e34eabcd17a2e3d66d78a8aa9b014", func := "loop.example/pedlar/laws.FnAddrStrict", spec := "fnAddrStrict", inPlace := ["internal/bytealg.IndexByteString", "internal/bytealg.IndexString", "internal/bytealg.CountString", "internal/abi.NoEscape", "internal/bytealg.MakeNoZero"], named := ["internal/bytealg.MaxLen", "unicode/utf8.first", "unicode/utf8.acceptRanges"], apart := false, laid := [("unicode/utf8.acceptRanges", laid_unicode_utf8_acceptRanges), ("unicode/utf8.first", laid_unicode_utf8_first)], narrowed := true }
def FnAddrStrictUptoSaid : Prop := fnAddrStrictUptoRow.holds Tryd.pinned (OpenSpec.upto fnAddrStrictSpec)

/-- 'laws.FnAddrGreat', WHERE WHAT IT READS IS OF BULK AT MOST 1048576: true; the input reads as it did. -/
def fnAddrGreatUptoRow : OpenClaim := { program := "ytbfiopcdclcdhaadoor", sum := "8d8a56f92841dcc3066dd20d5be30261253e34eabcd17a2e3d66d78a8aa9b014", func := "loop.example/pedlar/laws.FnAddrGreat", spec := "fnAddrGreat", inPlace := ["internal/bytealg.IndexByteString", "internal/bytealg.IndexString", "internal/bytealg.CountString", "internal/abi.NoEscape", "internal/bytealg.MakeNoZero"], named := ["internal/bytealg.MaxLen", "unicode/utf8.first", "unicode/utf8.acceptRanges"], apart := false, laid := [("unicode/utf8.acceptRanges", laid_unicode_utf8_acceptRanges), ("unicode/utf8.first", laid_unicode_utf8_first)], narrowed := true }
def FnAddrGreatUptoSaid : Prop := fnAddrGreatUptoRow.holds Tryd.pinned (OpenSpec.upto fnAddrGreatSpec)

/-- 'laws.FnAddrCross', WHERE WHAT IT READS IS OF BULK AT MOST 1048576: true; the input reads as it did. -/
def fnAddrCrossUptoRow : OpenClaim := { program := "ytbfiopcdclcdhaadoor", sum := "8d8a56f92841dcc3066dd20d5be30261253e34eabcd17a2e3d66d78a8aa9b014", func := "loop.example/pedlar/laws.FnAddrCross", spec := "fnAddrCross", inPlace := ["internal/bytealg.IndexByteString", "internal/bytealg.IndexString", "internal/bytealg.CountString", "internal/abi.NoEscape", "internal/bytealg.MakeNoZero"], named := ["internal/bytealg.MaxLen", "unicode/utf8.first", "unicode/utf8.acceptRanges"], apart := false, laid := [("unicode/utf8.acceptRanges", laid_unicode_utf8_acceptRanges), ("unicode/utf8.first", laid_unicode_utf8_first)], narrowed := true }
def FnAddrCrossUptoSaid : Prop := fnAddrCrossUptoRow.holds Tryd.pinned (OpenSpec.upto fnAddrCrossSpec)

/-- 'laws.FnAddrStroke', WHERE WHAT IT READS IS OF BULK AT MOST 1048576: true; the input reads as it did. -/
def fnAddrStrokeUptoRow : OpenClaim := { program := "ytbfiopcdclcdhaadoor", sum := "8d8a56f92841dcc3066dd20d5be30261253e34eabcd17a2e3d66d78a8aa9b014", func := "loop.example/pedlar/laws.FnAddrStroke", spec := "fnAddrStroke", inPlace := ["internal/bytealg.IndexByteString", "internal/bytealg.IndexString", "internal/bytealg.CountString", "internal/abi.NoEscape", "internal/bytealg.MakeNoZero"], named := ["internal/bytealg.MaxLen", "unicode/utf8.first", "unicode/utf8.acceptRanges"], apart := false, laid := [("unicode/utf8.acceptRanges", laid_unicode_utf8_acceptRanges), ("unicode/utf8.first", laid_unicode_utf8_first)], narrowed := true }
def FnAddrStrokeUptoSaid : Prop := fnAddrStrokeUptoRow.holds Tryd.pinned (OpenSpec.upto fnAddrStrokeSpec)

/-- 'laws.FnJoinWhole', WHERE WHAT IT READS IS OF BULK AT MOST 1048576: true; the input reads as it did. -/
def fnJoinWholeUptoRow : OpenClaim := { program := "ytbfiopcdclcdhaadoor", sum := "8d8a56f92841dcc3066dd20d5be30261253e34eabcd17a2e3d66d78a8aa9b014", func := "loop.example/pedlar/laws.FnJoinWhole", spec := "fnJoinWhole", inPlace := ["internal/abi.NoEscape", "internal/bytealg.MakeNoZero", "internal/bytealg.IndexByteString", "internal/bytealg.IndexString", "internal/bytealg.CountString"], named := ["internal/bytealg.MaxLen", "unicode/utf8.first", "unicode/utf8.acceptRanges"], apart := false, laid := [("unicode/utf8.acceptRanges", laid_unicode_utf8_acceptRanges), ("unicode/utf8.first", laid_unicode_utf8_first)], narrowed := true }
def FnJoinWholeUptoSaid : Prop := fnJoinWholeUptoRow.holds Tryd.pinned (OpenSpec.upto fnJoinWholeSpec)

/-- 'laws.FnJoinSelf', WHERE WHAT IT READS IS OF BULK AT MOST 1048576: true; the input reads as it did. -/
def fnJoinSelfUptoRow : OpenClaim := { program := "ytbfiopcdclcdhaadoor", sum := "8d8a56f92841dcc3066dd20d5be30261253e34eabcd17a2e3d66d78a8aa9b014", func := "loop.example/pedlar/laws.FnJoinSelf", spec := "fnJoinSelf", inPlace := ["internal/abi.NoEscape", "internal/bytealg.MakeNoZero", "internal/bytealg.IndexByteString", "internal/bytealg.IndexString", "internal/bytealg.CountString"], named := ["internal/bytealg.MaxLen", "unicode/utf8.first", "unicode/utf8.acceptRanges"], apart := false, laid := [("unicode/utf8.acceptRanges", laid_unicode_utf8_acceptRanges), ("unicode/utf8.first", laid_unicode_utf8_first)], narrowed := true }
def FnJoinSelfUptoSaid : Prop := fnJoinSelfUptoRow.holds Tryd.pinned (OpenSpec.upto fnJoinSelfSpec)

/-- 'laws.FnJoinOk', WHERE WHAT IT READS IS OF BULK AT MOST 1048576: true; the input reads as it did. -/
def fnJoinOkUptoRow : OpenClaim := { program := "ytbfiopcdclcdhaadoor", sum := "8d8a56f92841dcc3066dd20d5be30261253e34eabcd17a2e3d66d78a8aa9b014", func := "loop.example/pedlar/laws.FnJoinOk", spec := "fnJoinOk", inPlace := ["internal/abi.NoEscape", "internal/bytealg.MakeNoZero", "internal/bytealg.IndexByteString", "internal/bytealg.IndexString", "internal/bytealg.CountString"], named := ["internal/bytealg.MaxLen", "unicode/utf8.first", "unicode/utf8.acceptRanges"], apart := false, laid := [("unicode/utf8.acceptRanges", laid_unicode_utf8_acceptRanges), ("unicode/utf8.first", laid_unicode_utf8_first)], narrowed := true }
def FnJoinOkUptoSaid : Prop := fnJoinOkUptoRow.holds Tryd.pinned (OpenSpec.upto fnJoinOkSpec)

/-- 'laws.FnJoinUp', WHERE WHAT IT READS IS OF BULK AT MOST 1048576: true; the input reads as it did. -/
def fnJoinUpUptoRow : OpenClaim := { program := "ytbfiopcdclcdhaadoor", sum := "8d8a56f92841dcc3066dd20d5be30261253e34eabcd17a2e3d66d78a8aa9b014", func := "loop.example/pedlar/laws.FnJoinUp", spec := "fnJoinUp", inPlace := ["internal/abi.NoEscape", "internal/bytealg.MakeNoZero", "internal/bytealg.IndexByteString", "internal/bytealg.IndexString", "internal/bytealg.CountString"], named := ["internal/bytealg.MaxLen", "unicode/utf8.first", "unicode/utf8.acceptRanges"], apart := false, laid := [("unicode/utf8.acceptRanges", laid_unicode_utf8_acceptRanges), ("unicode/utf8.first", laid_unicode_utf8_first)], narrowed := true }
def FnJoinUpUptoSaid : Prop := fnJoinUpUptoRow.holds Tryd.pinned (OpenSpec.upto fnJoinUpSpec)

/-- 'laws.FnJoinAsk', WHERE WHAT IT READS IS OF BULK AT MOST 1048576: true; the input reads as it did. -/
def fnJoinAskUptoRow : OpenClaim := { program := "ytbfiopcdclcdhaadoor", sum := "8d8a56f92841dcc3066dd20d5be30261253e34eabcd17a2e3d66d78a8aa9b014", func := "loop.example/pedlar/laws.FnJoinAsk", spec := "fnJoinAsk", inPlace := ["internal/abi.NoEscape", "internal/bytealg.MakeNoZero", "internal/bytealg.IndexByteString", "internal/bytealg.IndexString", "internal/bytealg.CountString"], named := ["internal/bytealg.MaxLen", "unicode/utf8.first", "unicode/utf8.acceptRanges"], apart := false, laid := [("unicode/utf8.acceptRanges", laid_unicode_utf8_acceptRanges), ("unicode/utf8.first", laid_unicode_utf8_first)], narrowed := true }
def FnJoinAskUptoSaid : Prop := fnJoinAskUptoRow.holds Tryd.pinned (OpenSpec.upto fnJoinAskSpec)

/-- 'laws.FnJoinBeside', WHERE WHAT IT READS IS OF BULK AT MOST 1048576: true; the input reads as it did. -/
def fnJoinBesideUptoRow : OpenClaim := { program := "ytbfiopcdclcdhaadoor", sum := "8d8a56f92841dcc3066dd20d5be30261253e34eabcd17a2e3d66d78a8aa9b014", func := "loop.example/pedlar/laws.FnJoinBeside", spec := "fnJoinBeside", inPlace := ["internal/abi.NoEscape", "internal/bytealg.MakeNoZero", "internal/bytealg.IndexByteString", "internal/bytealg.IndexString", "internal/bytealg.CountString"], named := ["internal/bytealg.MaxLen", "unicode/utf8.first", "unicode/utf8.acceptRanges"], apart := false, laid := [("unicode/utf8.acceptRanges", laid_unicode_utf8_acceptRanges), ("unicode/utf8.first", laid_unicode_utf8_first)], narrowed := true }
def FnJoinBesideUptoSaid : Prop := fnJoinBesideUptoRow.holds Tryd.pinned (OpenSpec.upto fnJoinBesideSpec)

/-- 'laws.FnExactAddrRead', WHERE WHAT IT READS IS OF BULK AT MOST 1048576: true; the input reads as it did. -/
def fnExactAddrReadUptoRow : OpenClaim := { program := "ytbfiopcdclcdhaadoor", sum := "8d8a56f92841dcc3066dd20d5be30261253e34eabcd17a2e3d66d78a8aa9b014", func := "loop.example/pedlar/laws.FnExactAddrRead", spec := "fnExactAddrRead", inPlace := ["internal/bytealg.IndexByteString", "internal/bytealg.IndexString", "internal/bytealg.CountString", "internal/abi.NoEscape", "internal/bytealg.MakeNoZero"], named := ["internal/bytealg.MaxLen", "unicode/utf8.first", "unicode/utf8.acceptRanges"], apart := false, laid := [("unicode/utf8.acceptRanges", laid_unicode_utf8_acceptRanges), ("unicode/utf8.first", laid_unicode_utf8_first)], narrowed := true }
def FnExactAddrReadUptoSaid : Prop := fnExactAddrReadUptoRow.holds Tryd.pinned (OpenSpec.upto fnExactAddrReadSpec)

end Rows
end Go.Proofs.YtbfiopcdclcdhaaDoor
