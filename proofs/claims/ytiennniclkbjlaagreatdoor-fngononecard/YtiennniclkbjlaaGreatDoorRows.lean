/-
  NARROWER THAN 'FOR EVERY INPUT', by the rows' own cells (each row's printed sentence says how): FnTripNew: laid · FnGoWaitAll: ifaces, laid · FnGoEnd: ifaces, laid · FnGoKinds: ifaces, laid · FnGoSteps: ifaces, laid · FnGoNone: ifaces, laid.
  DERIVED. THE GIVEN ROWS OF THIS SEAT. 6 by the template 'for every input the law returns true; each argument reads behind the call as it read before'; 0 by the template 'total and deterministic' (their statements: YtiennniclkbjlaaGreatDoorTotals.lean).
  GIVEN WITH THE SEED: the statements are not yours to turn. If you find one false, say at which input.
  Laid BY PROGRAM, IN A SANDBOX (cutbox-rows.mjs): the forced cells as the released guide's own fill.sh prints them over the translation 13e54a0d7d5ea0f2… (all of the seat's roots in one cut). By AI agents, Wed Nov 11 2026. No macro, syntax, notation, axiom, sorry.
-/
import Derived.Test.YtiennniclkbjlaaGreatDoorChecked
import GoSem.PinnedTables
import GoSem.Claim
import GoSem.ClaimJoined
import GoSem.ClaimMapViews
import Derived.JoinedTies
import Derived.KernelRfl
namespace Go.Proofs.YtiennniclkbjlaaGreatDoor
/- THE CELL 'sum', in the pinned program and in every row, IS THE sha256 OF THE DUMP (.gsa) THAT YtiennniclkbjlaaGreatDoorProg.lean LOADS. Nothing in Lean hashes anything: it is a label: what it is worth is what the hold of that sum in a sandbox is worth. -/
noncomputable def Tryz.pinned : Pinned := { name := "ytiennniclkbjlaagreatdoor", sum := "13e54a0d7d5ea0f200db2959f9515c1e47a3164878f3bb2612818ac04cf6ed5c", checked := Tryz.checked }
namespace Rows
def none {H : Type} : Left H := { results := [], args := [] }

/- WHAT THE LISTED PACKAGE-LEVEL VARIABLES READ AS WHEN THE CALL BEGINS. Each datum BY PROGRAM (the guide's laid-datum.mjs) off the statement by which the dump's own 'gosem.cut.vars' lays the variable. In a bare row this is a premise. The card (YtiennniclkbjlaaGreatDoorCards.lean) ties it to the program's text. -/
def laid_unicode_utf8_acceptRanges {H : Type} : DataW H := .agg [.agg [.lit (.int .u8 128), .lit (.int .u8 191)], .agg [.lit (.int .u8 160), .lit (.int .u8 191)], .agg [.lit (.int .u8 128), .lit (.int .u8 159)], .agg [.lit (.int .u8 144), .lit (.int .u8 191)], .agg [.lit (.int .u8 128), .lit (.int .u8 143)], .agg [.lit (.int .u8 0), .lit (.int .u8 0)], .agg [.lit (.int .u8 0), .lit (.int .u8 0)], .agg [.lit (.int .u8 0), .lit (.int .u8 0)], .agg [.lit (.int .u8 0), .lit (.int .u8 0)], .agg [.lit (.int .u8 0), .lit (.int .u8 0)], .agg [.lit (.int .u8 0), .lit (.int .u8 0)], .agg [.lit (.int .u8 0), .lit (.int .u8 0)], .agg [.lit (.int .u8 0), .lit (.int .u8 0)], .agg [.lit (.int .u8 0), .lit (.int .u8 0)], .agg [.lit (.int .u8 0), .lit (.int .u8 0)], .agg [.lit (.int .u8 0), .lit (.int .u8 0)]]
/-- One of Go's own tables, pinned by name: the form's constant. -/
def laid_unicode_utf8_first : DataW Unit := Go.Pinned.utf8First
def laid_loop_example_pedlar_impl_errNotOk {H : Type} : DataW H := .iface "*errors.errorString" (.ptr (.agg [.lit (.string [116, 104, 101, 32, 119, 111, 114, 108, 100, 44, 32, 111, 114, 32, 116, 104, 101, 32, 116, 114, 105, 112, 44, 32, 111, 114, 32, 116, 104, 101, 32, 110, 117, 109, 98, 101, 114, 32, 111, 102, 32, 99, 97, 108, 108, 115, 32, 105, 115, 32, 110, 111, 116, 32, 111, 107])]))
def laid_loop_example_pedlar_impl_errNoCall {H : Type} : DataW H := .iface "*errors.errorString" (.ptr (.agg [.lit (.string [110, 111, 32, 99, 97, 108, 108, 32, 99, 97, 110, 32, 98, 101, 32, 109, 97, 100, 101])]))

/-- 'laws.FnTripNew': WHATEVER THE INPUT: true; the input reads as it did. -/
def fnTripNewSpec : ChangeSpec := { name := "fnTripNew", fn := fun _ => fun
  | [d] => { results := [.lit (.bool true)], args := [d] }
  | _ => none }
def fnTripNewRow : OpenClaim := { program := "ytiennniclkbjlaagreatdoor", sum := "13e54a0d7d5ea0f200db2959f9515c1e47a3164878f3bb2612818ac04cf6ed5c", func := "loop.example/pedlar/laws.FnTripNew", spec := "fnTripNew", inPlace := ["internal/bytealg.IndexByteString", "internal/bytealg.IndexString", "internal/bytealg.CountString", "internal/abi.NoEscape", "internal/bytealg.MakeNoZero"], unfollowed := true, recurses := true, named := ["internal/bytealg.MaxLen", "unicode/utf8.first", "unicode/utf8.acceptRanges"], apart := false, laid := [("unicode/utf8.acceptRanges", laid_unicode_utf8_acceptRanges), ("unicode/utf8.first", laid_unicode_utf8_first)] }
def FnTripNewSaid : Prop := fnTripNewRow.holds Tryz.pinned (OpenSpec.ofChange fnTripNewSpec)

/-- ITS FALSE NEIGHBOUR: 'it returns false'. Refute it at one input. -/
def fnTripNewWrong : ChangeSpec := { name := "fnTripNew", fn := fun _ => fun
  | [d] => { results := [.lit (.bool false)], args := [d] }
  | _ => none }
def FnTripNewWrongFalsely : Prop := fnTripNewRow.holds Tryz.pinned (OpenSpec.ofChange fnTripNewWrong)

/-- 'laws.FnGoWaitAll': WHATEVER THE INPUT: true; the input reads as it did. -/
def fnGoWaitAllSpec : ChangeSpec := { name := "fnGoWaitAll", vars := ["loop.example/pedlar/impl.errNoCall", "loop.example/pedlar/impl.errNotOk"], fn := fun _ => fun
  | [d, g1, g2] => { results := [.lit (.bool true)], args := [d], vars := [g1, g2] }
  | _ => none }
def fnGoWaitAllRow : OpenClaim := { program := "ytiennniclkbjlaagreatdoor", sum := "13e54a0d7d5ea0f200db2959f9515c1e47a3164878f3bb2612818ac04cf6ed5c", func := "loop.example/pedlar/laws.FnGoWaitAll", spec := "fnGoWaitAll", inPlace := ["internal/bytealg.IndexByteString", "internal/bytealg.IndexString", "internal/bytealg.CountString", "internal/abi.NoEscape", "internal/bytealg.MakeNoZero", "internal/reflectlite.TypeOf"], unfollowed := true, recurses := true, named := ["internal/bytealg.MaxLen", "unicode/utf8.first", "unicode/utf8.acceptRanges", "loop.example/pedlar/impl.errNoCall", "loop.example/pedlar/impl.errNotOk"], ifaces := true, apart := false, laid := [("unicode/utf8.acceptRanges", laid_unicode_utf8_acceptRanges), ("loop.example/pedlar/impl.errNotOk", laid_loop_example_pedlar_impl_errNotOk), ("loop.example/pedlar/impl.errNoCall", laid_loop_example_pedlar_impl_errNoCall), ("unicode/utf8.first", laid_unicode_utf8_first)] }
def FnGoWaitAllSaid : Prop := fnGoWaitAllRow.holds Tryz.pinned (OpenSpec.ofChange fnGoWaitAllSpec)

/-- ITS FALSE NEIGHBOUR: 'it returns false'. Refute it at one input. -/
def fnGoWaitAllWrong : ChangeSpec := { name := "fnGoWaitAll", vars := ["loop.example/pedlar/impl.errNoCall", "loop.example/pedlar/impl.errNotOk"], fn := fun _ => fun
  | [d, g1, g2] => { results := [.lit (.bool false)], args := [d], vars := [g1, g2] }
  | _ => none }
def FnGoWaitAllWrongFalsely : Prop := fnGoWaitAllRow.holds Tryz.pinned (OpenSpec.ofChange fnGoWaitAllWrong)

/-- 'laws.FnGoEnd': WHATEVER THE INPUT: true; the input reads as it did. -/
def fnGoEndSpec : ChangeSpec := { name := "fnGoEnd", vars := ["loop.example/pedlar/impl.errNoCall", "loop.example/pedlar/impl.errNotOk"], fn := fun _ => fun
  | [d, g1, g2] => { results := [.lit (.bool true)], args := [d], vars := [g1, g2] }
  | _ => none }
def fnGoEndRow : OpenClaim := { program := "ytiennniclkbjlaagreatdoor", sum := "13e54a0d7d5ea0f200db2959f9515c1e47a3164878f3bb2612818ac04cf6ed5c", func := "loop.example/pedlar/laws.FnGoEnd", spec := "fnGoEnd", inPlace := ["internal/bytealg.IndexByteString", "internal/bytealg.IndexString", "internal/bytealg.CountString", "internal/abi.NoEscape", "internal/bytealg.MakeNoZero", "internal/reflectlite.TypeOf"], unfollowed := true, recurses := true, named := ["internal/bytealg.MaxLen", "unicode/utf8.first", "unicode/utf8.acceptRanges", "loop.example/pedlar/impl.errNoCall", "loop.example/pedlar/impl.errNotOk"], ifaces := true, apart := false, laid := [("unicode/utf8.acceptRanges", laid_unicode_utf8_acceptRanges), ("loop.example/pedlar/impl.errNotOk", laid_loop_example_pedlar_impl_errNotOk), ("loop.example/pedlar/impl.errNoCall", laid_loop_example_pedlar_impl_errNoCall), ("unicode/utf8.first", laid_unicode_utf8_first)] }
def FnGoEndSaid : Prop := fnGoEndRow.holds Tryz.pinned (OpenSpec.ofChange fnGoEndSpec)

/-- ITS FALSE NEIGHBOUR: 'it returns false'. Refute it at one input. -/
def fnGoEndWrong : ChangeSpec := { name := "fnGoEnd", vars := ["loop.example/pedlar/impl.errNoCall", "loop.example/pedlar/impl.errNotOk"], fn := fun _ => fun
  | [d, g1, g2] => { results := [.lit (.bool false)], args := [d], vars := [g1, g2] }
  | _ => none }
def FnGoEndWrongFalsely : Prop := fnGoEndRow.holds Tryz.pinned (OpenSpec.ofChange fnGoEndWrong)

/-- 'laws.FnGoKinds': WHATEVER THE INPUT: true; the input reads as it did. -/
def fnGoKindsSpec : ChangeSpec := { name := "fnGoKinds", vars := ["loop.example/pedlar/impl.errNoCall", "loop.example/pedlar/impl.errNotOk"], fn := fun _ => fun
  | [d, g1, g2] => { results := [.lit (.bool true)], args := [d], vars := [g1, g2] }
  | _ => none }
def fnGoKindsRow : OpenClaim := { program := "ytiennniclkbjlaagreatdoor", sum := "13e54a0d7d5ea0f200db2959f9515c1e47a3164878f3bb2612818ac04cf6ed5c", func := "loop.example/pedlar/laws.FnGoKinds", spec := "fnGoKinds", inPlace := ["internal/bytealg.IndexByteString", "internal/bytealg.IndexString", "internal/bytealg.CountString", "internal/abi.NoEscape", "internal/bytealg.MakeNoZero", "internal/reflectlite.TypeOf"], unfollowed := true, recurses := true, named := ["internal/bytealg.MaxLen", "unicode/utf8.first", "unicode/utf8.acceptRanges", "loop.example/pedlar/impl.errNoCall", "loop.example/pedlar/impl.errNotOk"], ifaces := true, apart := false, laid := [("unicode/utf8.acceptRanges", laid_unicode_utf8_acceptRanges), ("loop.example/pedlar/impl.errNotOk", laid_loop_example_pedlar_impl_errNotOk), ("loop.example/pedlar/impl.errNoCall", laid_loop_example_pedlar_impl_errNoCall), ("unicode/utf8.first", laid_unicode_utf8_first)] }
def FnGoKindsSaid : Prop := fnGoKindsRow.holds Tryz.pinned (OpenSpec.ofChange fnGoKindsSpec)

/-- ITS FALSE NEIGHBOUR: 'it returns false'. Refute it at one input. -/
def fnGoKindsWrong : ChangeSpec := { name := "fnGoKinds", vars := ["loop.example/pedlar/impl.errNoCall", "loop.example/pedlar/impl.errNotOk"], fn := fun _ => fun
  | [d, g1, g2] => { results := [.lit (.bool false)], args := [d], vars := [g1, g2] }
  | _ => none }
def FnGoKindsWrongFalsely : Prop := fnGoKindsRow.holds Tryz.pinned (OpenSpec.ofChange fnGoKindsWrong)

/-- 'laws.FnGoSteps': WHATEVER THE INPUT: true; the input reads as it did. -/
def fnGoStepsSpec : ChangeSpec := { name := "fnGoSteps", vars := ["loop.example/pedlar/impl.errNoCall", "loop.example/pedlar/impl.errNotOk"], fn := fun _ => fun
  | [d, g1, g2] => { results := [.lit (.bool true)], args := [d], vars := [g1, g2] }
  | _ => none }
def fnGoStepsRow : OpenClaim := { program := "ytiennniclkbjlaagreatdoor", sum := "13e54a0d7d5ea0f200db2959f9515c1e47a3164878f3bb2612818ac04cf6ed5c", func := "loop.example/pedlar/laws.FnGoSteps", spec := "fnGoSteps", inPlace := ["internal/bytealg.IndexByteString", "internal/bytealg.IndexString", "internal/bytealg.CountString", "internal/abi.NoEscape", "internal/bytealg.MakeNoZero", "internal/reflectlite.TypeOf"], unfollowed := true, recurses := true, named := ["internal/bytealg.MaxLen", "unicode/utf8.first", "unicode/utf8.acceptRanges", "loop.example/pedlar/impl.errNoCall", "loop.example/pedlar/impl.errNotOk"], ifaces := true, apart := false, laid := [("unicode/utf8.acceptRanges", laid_unicode_utf8_acceptRanges), ("loop.example/pedlar/impl.errNotOk", laid_loop_example_pedlar_impl_errNotOk), ("loop.example/pedlar/impl.errNoCall", laid_loop_example_pedlar_impl_errNoCall), ("unicode/utf8.first", laid_unicode_utf8_first)] }
def FnGoStepsSaid : Prop := fnGoStepsRow.holds Tryz.pinned (OpenSpec.ofChange fnGoStepsSpec)

/-- ITS FALSE NEIGHBOUR: 'it returns false'. Refute it at one input. -/
def fnGoStepsWrong : ChangeSpec := { name := "fnGoSteps", vars := ["loop.example/pedlar/impl.errNoCall", "loop.example/pedlar/impl.errNotOk"], fn := fun _ => fun
  | [d, g1, g2] => { results := [.lit (.bool false)], args := [d], vars := [g1, g2] }
  | _ => none }
def FnGoStepsWrongFalsely : Prop := fnGoStepsRow.holds Tryz.pinned (OpenSpec.ofChange fnGoStepsWrong)

/-- 'laws.FnGoNone': WHATEVER THE INPUT: true; the input reads as it did. -/
def fnGoNoneSpec : ChangeSpec := { name := "fnGoNone", vars := ["loop.example/pedlar/impl.errNoCall", "loop.example/pedlar/impl.errNotOk"], fn := fun _ => fun
  | [d, g1, g2] => { results := [.lit (.bool true)], args := [d], vars := [g1, g2] }
  | _ => none }
def fnGoNoneRow : OpenClaim := { program := "ytiennniclkbjlaagreatdoor", sum := "13e54a0d7d5ea0f200db2959f9515c1e47a3164878f3bb2612818ac04cf6ed5c", func := "loop.example/pedlar/laws.FnGoNone", spec := "fnGoNone", inPlace := ["internal/bytealg.IndexByteString", "internal/bytealg.IndexString", "internal/bytealg.CountString", "internal/abi.NoEscape", "internal/bytealg.MakeNoZero", "internal/reflectlite.TypeOf"], unfollowed := true, recurses := true, named := ["internal/bytealg.MaxLen", "unicode/utf8.first", "unicode/utf8.acceptRanges", "loop.example/pedlar/impl.errNoCall", "loop.example/pedlar/impl.errNotOk"], ifaces := true, apart := false, laid := [("unicode/utf8.acceptRanges", laid_unicode_utf8_acceptRanges), ("loop.example/pedlar/impl.errNotOk", laid_loop_example_pedlar_impl_errNotOk), ("loop.example/pedlar/impl.errNoCall", laid_loop_example_pedlar_impl_errNoCall), ("unicode/utf8.first", laid_unicode_utf8_first)] }
def FnGoNoneSaid : Prop := fnGoNoneRow.holds Tryz.pinned (OpenSpec.ofChange fnGoNoneSpec)

/-- ITS FALSE NEIGHBOUR: 'it returns false'. Refute it at one input. -/
def fnGoNoneWrong : ChangeSpec := { name := "fnGoNone", vars := ["loop.example/pedlar/impl.errNoCall", "loop.example/pedlar/impl.errNotOk"], fn := fun _ => fun
  | [d, g1, g2] => { results := [.lit (.bool false)], args := [d], vars := [g1, g2] }
  | _ => none }
def FnGoNoneWrongFalsely : Prop := fnGoNoneRow.holds Tryz.pinned (OpenSpec.ofChange fnGoNoneWrong)

/- THE SECOND FORM. 'bulk': how many values and letters a reading holds, each counted each time it is reached (what is shared counts as often as it is met; a slice's spare places count too). A statement '..UptoSaid' is the law's where the arguments, and the package variables that the reading takes, are together of bulk at most 1048576: NARROWER than '..Said'. Prove '..Said' where nothing that the law and all that it calls make is longer than what came in: it says more and counts as full. Else prove '..UptoSaid'. A law counts once. -/
mutual
def uptoBulk {H : Type} : DataW H → Nat
  | .lit (.string bytes) => bytes.length + 1
  | .lit _ => 1
  | .nil => 1
  | .ptr d => uptoBulk d + 1
  | .slice elems spare => uptoBulkAll elems + uptoBulkAll spare + 1
  | .agg parts => uptoBulkAll parts + 1
  | .iface _ d => uptoBulk d + 1
  | .map entries => uptoBulkEntries entries + 1
  | .held _ => 1
def uptoBulkAll {H : Type} : List (DataW H) → Nat
  | [] => 0
  | d :: r => uptoBulk d + uptoBulkAll r
def uptoBulkEntries {H : Type} : List (Lit × DataW H) → Nat
  | [] => 0
  | x :: r => uptoBulkEntry x + uptoBulkEntries r
def uptoBulkEntry {H : Type} : Lit × DataW H → Nat
  | (.string bytes, d) => bytes.length + uptoBulk d + 1
  | (_, d) => uptoBulk d + 1
 end
def uptoSmall : (H : Type) → List (DataW H) → Bool := fun _ ds => decide (uptoBulkAll ds ≤ 1048576)
def OpenSpec.upto (s : _root_.Go.ChangeSpec) : _root_.Go.OpenSpec := { _root_.Go.OpenSpec.ofChange s with cond := some uptoSmall }

/-- 'laws.FnTripNew', WHERE WHAT IT READS IS OF BULK AT MOST 1048576: true; the input reads as it did. -/
def fnTripNewUptoRow : OpenClaim := { program := "ytiennniclkbjlaagreatdoor", sum := "13e54a0d7d5ea0f200db2959f9515c1e47a3164878f3bb2612818ac04cf6ed5c", func := "loop.example/pedlar/laws.FnTripNew", spec := "fnTripNew", inPlace := ["internal/bytealg.IndexByteString", "internal/bytealg.IndexString", "internal/bytealg.CountString", "internal/abi.NoEscape", "internal/bytealg.MakeNoZero"], unfollowed := true, recurses := true, named := ["internal/bytealg.MaxLen", "unicode/utf8.first", "unicode/utf8.acceptRanges"], apart := false, laid := [("unicode/utf8.acceptRanges", laid_unicode_utf8_acceptRanges), ("unicode/utf8.first", laid_unicode_utf8_first)], narrowed := true }
def FnTripNewUptoSaid : Prop := fnTripNewUptoRow.holds Tryz.pinned (OpenSpec.upto fnTripNewSpec)

/-- 'laws.FnGoWaitAll', WHERE WHAT IT READS IS OF BULK AT MOST 1048576: true; the input reads as it did. -/
def fnGoWaitAllUptoRow : OpenClaim := { program := "ytiennniclkbjlaagreatdoor", sum := "13e54a0d7d5ea0f200db2959f9515c1e47a3164878f3bb2612818ac04cf6ed5c", func := "loop.example/pedlar/laws.FnGoWaitAll", spec := "fnGoWaitAll", inPlace := ["internal/bytealg.IndexByteString", "internal/bytealg.IndexString", "internal/bytealg.CountString", "internal/abi.NoEscape", "internal/bytealg.MakeNoZero", "internal/reflectlite.TypeOf"], unfollowed := true, recurses := true, named := ["internal/bytealg.MaxLen", "unicode/utf8.first", "unicode/utf8.acceptRanges", "loop.example/pedlar/impl.errNoCall", "loop.example/pedlar/impl.errNotOk"], ifaces := true, apart := false, laid := [("unicode/utf8.acceptRanges", laid_unicode_utf8_acceptRanges), ("loop.example/pedlar/impl.errNotOk", laid_loop_example_pedlar_impl_errNotOk), ("loop.example/pedlar/impl.errNoCall", laid_loop_example_pedlar_impl_errNoCall), ("unicode/utf8.first", laid_unicode_utf8_first)], narrowed := true }
def FnGoWaitAllUptoSaid : Prop := fnGoWaitAllUptoRow.holds Tryz.pinned (OpenSpec.upto fnGoWaitAllSpec)

/-- 'laws.FnGoEnd', WHERE WHAT IT READS IS OF BULK AT MOST 1048576: true; the input reads as it did. -/
def fnGoEndUptoRow : OpenClaim := { program := "ytiennniclkbjlaagreatdoor", sum := "13e54a0d7d5ea0f200db2959f9515c1e47a3164878f3bb2612818ac04cf6ed5c", func := "loop.example/pedlar/laws.FnGoEnd", spec := "fnGoEnd", inPlace := ["internal/bytealg.IndexByteString", "internal/bytealg.IndexString", "internal/bytealg.CountString", "internal/abi.NoEscape", "internal/bytealg.MakeNoZero", "internal/reflectlite.TypeOf"], unfollowed := true, recurses := true, named := ["internal/bytealg.MaxLen", "unicode/utf8.first", "unicode/utf8.acceptRanges", "loop.example/pedlar/impl.errNoCall", "loop.example/pedlar/impl.errNotOk"], ifaces := true, apart := false, laid := [("unicode/utf8.acceptRanges", laid_unicode_utf8_acceptRanges), ("loop.example/pedlar/impl.errNotOk", laid_loop_example_pedlar_impl_errNotOk), ("loop.example/pedlar/impl.errNoCall", laid_loop_example_pedlar_impl_errNoCall), ("unicode/utf8.first", laid_unicode_utf8_first)], narrowed := true }
def FnGoEndUptoSaid : Prop := fnGoEndUptoRow.holds Tryz.pinned (OpenSpec.upto fnGoEndSpec)

/-- 'laws.FnGoKinds', WHERE WHAT IT READS IS OF BULK AT MOST 1048576: true; the input reads as it did. -/
def fnGoKindsUptoRow : OpenClaim := { program := "ytiennniclkbjlaagreatdoor", sum := "13e54a0d7d5ea0f200db2959f9515c1e47a3164878f3bb2612818ac04cf6ed5c", func := "loop.example/pedlar/laws.FnGoKinds", spec := "fnGoKinds", inPlace := ["internal/bytealg.IndexByteString", "internal/bytealg.IndexString", "internal/bytealg.CountString", "internal/abi.NoEscape", "internal/bytealg.MakeNoZero", "internal/reflectlite.TypeOf"], unfollowed := true, recurses := true, named := ["internal/bytealg.MaxLen", "unicode/utf8.first", "unicode/utf8.acceptRanges", "loop.example/pedlar/impl.errNoCall", "loop.example/pedlar/impl.errNotOk"], ifaces := true, apart := false, laid := [("unicode/utf8.acceptRanges", laid_unicode_utf8_acceptRanges), ("loop.example/pedlar/impl.errNotOk", laid_loop_example_pedlar_impl_errNotOk), ("loop.example/pedlar/impl.errNoCall", laid_loop_example_pedlar_impl_errNoCall), ("unicode/utf8.first", laid_unicode_utf8_first)], narrowed := true }
def FnGoKindsUptoSaid : Prop := fnGoKindsUptoRow.holds Tryz.pinned (OpenSpec.upto fnGoKindsSpec)

/-- 'laws.FnGoSteps', WHERE WHAT IT READS IS OF BULK AT MOST 1048576: true; the input reads as it did. -/
def fnGoStepsUptoRow : OpenClaim := { program := "ytiennniclkbjlaagreatdoor", sum := "13e54a0d7d5ea0f200db2959f9515c1e47a3164878f3bb2612818ac04cf6ed5c", func := "loop.example/pedlar/laws.FnGoSteps", spec := "fnGoSteps", inPlace := ["internal/bytealg.IndexByteString", "internal/bytealg.IndexString", "internal/bytealg.CountString", "internal/abi.NoEscape", "internal/bytealg.MakeNoZero", "internal/reflectlite.TypeOf"], unfollowed := true, recurses := true, named := ["internal/bytealg.MaxLen", "unicode/utf8.first", "unicode/utf8.acceptRanges", "loop.example/pedlar/impl.errNoCall", "loop.example/pedlar/impl.errNotOk"], ifaces := true, apart := false, laid := [("unicode/utf8.acceptRanges", laid_unicode_utf8_acceptRanges), ("loop.example/pedlar/impl.errNotOk", laid_loop_example_pedlar_impl_errNotOk), ("loop.example/pedlar/impl.errNoCall", laid_loop_example_pedlar_impl_errNoCall), ("unicode/utf8.first", laid_unicode_utf8_first)], narrowed := true }
def FnGoStepsUptoSaid : Prop := fnGoStepsUptoRow.holds Tryz.pinned (OpenSpec.upto fnGoStepsSpec)

/-- 'laws.FnGoNone', WHERE WHAT IT READS IS OF BULK AT MOST 1048576: true; the input reads as it did. -/
def fnGoNoneUptoRow : OpenClaim := { program := "ytiennniclkbjlaagreatdoor", sum := "13e54a0d7d5ea0f200db2959f9515c1e47a3164878f3bb2612818ac04cf6ed5c", func := "loop.example/pedlar/laws.FnGoNone", spec := "fnGoNone", inPlace := ["internal/bytealg.IndexByteString", "internal/bytealg.IndexString", "internal/bytealg.CountString", "internal/abi.NoEscape", "internal/bytealg.MakeNoZero", "internal/reflectlite.TypeOf"], unfollowed := true, recurses := true, named := ["internal/bytealg.MaxLen", "unicode/utf8.first", "unicode/utf8.acceptRanges", "loop.example/pedlar/impl.errNoCall", "loop.example/pedlar/impl.errNotOk"], ifaces := true, apart := false, laid := [("unicode/utf8.acceptRanges", laid_unicode_utf8_acceptRanges), ("loop.example/pedlar/impl.errNotOk", laid_loop_example_pedlar_impl_errNotOk), ("loop.example/pedlar/impl.errNoCall", laid_loop_example_pedlar_impl_errNoCall), ("unicode/utf8.first", laid_unicode_utf8_first)], narrowed := true }
def FnGoNoneUptoSaid : Prop := fnGoNoneUptoRow.holds Tryz.pinned (OpenSpec.upto fnGoNoneSpec)

end Rows
end Go.Proofs.YtiennniclkbjlaaGreatDoor
