/-
  NARROWER THAN 'FOR EVERY INPUT', by the rows' own cells (each row's printed sentence says how): FnRuleHas: laid · FnRuleMore: laid · FnRuleStar: laid · FnRuleEnd: laid · FnRuleSelf: laid · FnLetsLongest: laid · FnLetsOrder: laid · FnLetsMore: laid · FnRuleNone: laid.
  DERIVED. THE GIVEN ROWS OF THIS SEAT. 9 by the template 'for every input the law returns true; each argument reads behind the call as it read before'; 0 by the template 'total and deterministic' (their statements: YtemobclefdodjaaDoorTotals.lean).
  GIVEN WITH THE SEED: the statements are not yours to turn. If you find one false, say at which input.
  Laid BY PROGRAM, IN A SANDBOX (cutbox-rows.mjs): the forced cells as the released guide's own fill.sh prints them over the translation ed7ec4d26642a7ad… (all of the seat's roots in one cut). By AI agents, Wed Nov 11 2026. No macro, syntax, notation, axiom, sorry.
-/
import Derived.Test.YtemobclefdodjaaDoorChecked
import GoSem.PinnedTables
import GoSem.Claim
import GoSem.ClaimJoined
import GoSem.ClaimMapViews
import Derived.JoinedTies
import Derived.KernelRfl
namespace Go.Proofs.YtemobclefdodjaaDoor
/- THE CELL 'sum', in the pinned program and in every row, IS THE sha256 OF THE DUMP (.gsa) THAT YtemobclefdodjaaDoorProg.lean LOADS. Nothing in Lean hashes anything: it is a label: what it is worth is what the hold of that sum in a sandbox is worth. -/
noncomputable def Tryd.pinned : Pinned := { name := "ytemobclefdodjaadoor", sum := "ed7ec4d26642a7ade60f5d5f59c22b52451407fc5bf0e941e75c1b0bb3753c30", checked := Tryd.checked }
namespace Rows
def none {H : Type} : Left H := { results := [], args := [] }

/- WHAT THE LISTED PACKAGE-LEVEL VARIABLES READ AS WHEN THE CALL BEGINS. Each datum BY PROGRAM (the guide's laid-datum.mjs) off the statement by which the dump's own 'gosem.cut.vars' lays the variable. In a bare row this is a premise. The card (YtemobclefdodjaaDoorCards.lean) ties it to the program's text. -/
def laid_unicode_utf8_acceptRanges {H : Type} : DataW H := .agg [.agg [.lit (.int .u8 128), .lit (.int .u8 191)], .agg [.lit (.int .u8 160), .lit (.int .u8 191)], .agg [.lit (.int .u8 128), .lit (.int .u8 159)], .agg [.lit (.int .u8 144), .lit (.int .u8 191)], .agg [.lit (.int .u8 128), .lit (.int .u8 143)], .agg [.lit (.int .u8 0), .lit (.int .u8 0)], .agg [.lit (.int .u8 0), .lit (.int .u8 0)], .agg [.lit (.int .u8 0), .lit (.int .u8 0)], .agg [.lit (.int .u8 0), .lit (.int .u8 0)], .agg [.lit (.int .u8 0), .lit (.int .u8 0)], .agg [.lit (.int .u8 0), .lit (.int .u8 0)], .agg [.lit (.int .u8 0), .lit (.int .u8 0)], .agg [.lit (.int .u8 0), .lit (.int .u8 0)], .agg [.lit (.int .u8 0), .lit (.int .u8 0)], .agg [.lit (.int .u8 0), .lit (.int .u8 0)], .agg [.lit (.int .u8 0), .lit (.int .u8 0)]]
/-- One of Go's own tables, pinned by name: the form's constant. -/
def laid_unicode_utf8_first : DataW Unit := Go.Pinned.utf8First

/-- 'laws.FnRuleHas': WHATEVER THE INPUT: true; the input reads as it did. -/
def fnRuleHasSpec : ChangeSpec := { name := "fnRuleHas", fn := fun _ => fun
  | [d] => { results := [.lit (.bool true)], args := [d] }
  | _ => none }
def fnRuleHasRow : OpenClaim := { program := "ytemobclefdodjaadoor", sum := "ed7ec4d26642a7ade60f5d5f59c22b52451407fc5bf0e941e75c1b0bb3753c30", func := "loop.example/pedlar/laws.FnRuleHas", spec := "fnRuleHas", inPlace := ["internal/bytealg.CountString", "internal/bytealg.IndexByteString", "internal/bytealg.IndexString"], recurses := true, named := ["unicode/utf8.first", "unicode/utf8.acceptRanges", "internal/bytealg.MaxLen"], apart := false, laid := [("unicode/utf8.acceptRanges", laid_unicode_utf8_acceptRanges), ("unicode/utf8.first", laid_unicode_utf8_first)] }
def FnRuleHasSaid : Prop := fnRuleHasRow.holds Tryd.pinned (OpenSpec.ofChange fnRuleHasSpec)

/-- ITS FALSE NEIGHBOUR: 'it returns false'. Refute it at one input. -/
def fnRuleHasWrong : ChangeSpec := { name := "fnRuleHas", fn := fun _ => fun
  | [d] => { results := [.lit (.bool false)], args := [d] }
  | _ => none }
def FnRuleHasWrongFalsely : Prop := fnRuleHasRow.holds Tryd.pinned (OpenSpec.ofChange fnRuleHasWrong)

/-- 'laws.FnRuleMore': WHATEVER THE INPUT: true; the input reads as it did. -/
def fnRuleMoreSpec : ChangeSpec := { name := "fnRuleMore", fn := fun _ => fun
  | [d] => { results := [.lit (.bool true)], args := [d] }
  | _ => none }
def fnRuleMoreRow : OpenClaim := { program := "ytemobclefdodjaadoor", sum := "ed7ec4d26642a7ade60f5d5f59c22b52451407fc5bf0e941e75c1b0bb3753c30", func := "loop.example/pedlar/laws.FnRuleMore", spec := "fnRuleMore", inPlace := ["internal/bytealg.CountString", "internal/bytealg.IndexByteString", "internal/bytealg.IndexString"], named := ["unicode/utf8.first", "unicode/utf8.acceptRanges", "internal/bytealg.MaxLen"], apart := false, laid := [("unicode/utf8.acceptRanges", laid_unicode_utf8_acceptRanges), ("unicode/utf8.first", laid_unicode_utf8_first)] }
def FnRuleMoreSaid : Prop := fnRuleMoreRow.holds Tryd.pinned (OpenSpec.ofChange fnRuleMoreSpec)

/-- ITS FALSE NEIGHBOUR: 'it returns false'. Refute it at one input. -/
def fnRuleMoreWrong : ChangeSpec := { name := "fnRuleMore", fn := fun _ => fun
  | [d] => { results := [.lit (.bool false)], args := [d] }
  | _ => none }
def FnRuleMoreWrongFalsely : Prop := fnRuleMoreRow.holds Tryd.pinned (OpenSpec.ofChange fnRuleMoreWrong)

/-- 'laws.FnRuleStar': WHATEVER THE INPUT: true; the input reads as it did. -/
def fnRuleStarSpec : ChangeSpec := { name := "fnRuleStar", fn := fun _ => fun
  | [d] => { results := [.lit (.bool true)], args := [d] }
  | _ => none }
def fnRuleStarRow : OpenClaim := { program := "ytemobclefdodjaadoor", sum := "ed7ec4d26642a7ade60f5d5f59c22b52451407fc5bf0e941e75c1b0bb3753c30", func := "loop.example/pedlar/laws.FnRuleStar", spec := "fnRuleStar", inPlace := ["internal/bytealg.CountString", "internal/bytealg.IndexByteString", "internal/bytealg.IndexString"], named := ["unicode/utf8.first", "unicode/utf8.acceptRanges", "internal/bytealg.MaxLen"], apart := false, laid := [("unicode/utf8.acceptRanges", laid_unicode_utf8_acceptRanges), ("unicode/utf8.first", laid_unicode_utf8_first)] }
def FnRuleStarSaid : Prop := fnRuleStarRow.holds Tryd.pinned (OpenSpec.ofChange fnRuleStarSpec)

/-- ITS FALSE NEIGHBOUR: 'it returns false'. Refute it at one input. -/
def fnRuleStarWrong : ChangeSpec := { name := "fnRuleStar", fn := fun _ => fun
  | [d] => { results := [.lit (.bool false)], args := [d] }
  | _ => none }
def FnRuleStarWrongFalsely : Prop := fnRuleStarRow.holds Tryd.pinned (OpenSpec.ofChange fnRuleStarWrong)

/-- 'laws.FnRuleEnd': WHATEVER THE INPUT: true; the input reads as it did. -/
def fnRuleEndSpec : ChangeSpec := { name := "fnRuleEnd", fn := fun _ => fun
  | [d] => { results := [.lit (.bool true)], args := [d] }
  | _ => none }
def fnRuleEndRow : OpenClaim := { program := "ytemobclefdodjaadoor", sum := "ed7ec4d26642a7ade60f5d5f59c22b52451407fc5bf0e941e75c1b0bb3753c30", func := "loop.example/pedlar/laws.FnRuleEnd", spec := "fnRuleEnd", inPlace := ["internal/bytealg.CountString", "internal/bytealg.IndexByteString", "internal/bytealg.IndexString"], named := ["unicode/utf8.first", "unicode/utf8.acceptRanges", "internal/bytealg.MaxLen"], apart := false, laid := [("unicode/utf8.acceptRanges", laid_unicode_utf8_acceptRanges), ("unicode/utf8.first", laid_unicode_utf8_first)] }
def FnRuleEndSaid : Prop := fnRuleEndRow.holds Tryd.pinned (OpenSpec.ofChange fnRuleEndSpec)

/-- ITS FALSE NEIGHBOUR: 'it returns false'. Refute it at one input. -/
def fnRuleEndWrong : ChangeSpec := { name := "fnRuleEnd", fn := fun _ => fun
  | [d] => { results := [.lit (.bool false)], args := [d] }
  | _ => none }
def FnRuleEndWrongFalsely : Prop := fnRuleEndRow.holds Tryd.pinned (OpenSpec.ofChange fnRuleEndWrong)

/-- 'laws.FnRuleSelf': WHATEVER THE INPUT: true; the input reads as it did. -/
def fnRuleSelfSpec : ChangeSpec := { name := "fnRuleSelf", fn := fun _ => fun
  | [d] => { results := [.lit (.bool true)], args := [d] }
  | _ => none }
def fnRuleSelfRow : OpenClaim := { program := "ytemobclefdodjaadoor", sum := "ed7ec4d26642a7ade60f5d5f59c22b52451407fc5bf0e941e75c1b0bb3753c30", func := "loop.example/pedlar/laws.FnRuleSelf", spec := "fnRuleSelf", inPlace := ["internal/bytealg.CountString", "internal/bytealg.IndexByteString", "internal/bytealg.IndexString"], named := ["unicode/utf8.first", "unicode/utf8.acceptRanges", "internal/bytealg.MaxLen"], apart := false, laid := [("unicode/utf8.acceptRanges", laid_unicode_utf8_acceptRanges), ("unicode/utf8.first", laid_unicode_utf8_first)] }
def FnRuleSelfSaid : Prop := fnRuleSelfRow.holds Tryd.pinned (OpenSpec.ofChange fnRuleSelfSpec)

/-- ITS FALSE NEIGHBOUR: 'it returns false'. Refute it at one input. -/
def fnRuleSelfWrong : ChangeSpec := { name := "fnRuleSelf", fn := fun _ => fun
  | [d] => { results := [.lit (.bool false)], args := [d] }
  | _ => none }
def FnRuleSelfWrongFalsely : Prop := fnRuleSelfRow.holds Tryd.pinned (OpenSpec.ofChange fnRuleSelfWrong)

/-- 'laws.FnLetsLongest': WHATEVER THE INPUT: true; the input reads as it did. -/
def fnLetsLongestSpec : ChangeSpec := { name := "fnLetsLongest", fn := fun _ => fun
  | [d] => { results := [.lit (.bool true)], args := [d] }
  | _ => none }
def fnLetsLongestRow : OpenClaim := { program := "ytemobclefdodjaadoor", sum := "ed7ec4d26642a7ade60f5d5f59c22b52451407fc5bf0e941e75c1b0bb3753c30", func := "loop.example/pedlar/laws.FnLetsLongest", spec := "fnLetsLongest", inPlace := ["internal/bytealg.CountString", "internal/bytealg.IndexByteString", "internal/bytealg.IndexString"], named := ["unicode/utf8.first", "unicode/utf8.acceptRanges", "internal/bytealg.MaxLen"], apart := false, laid := [("unicode/utf8.acceptRanges", laid_unicode_utf8_acceptRanges), ("unicode/utf8.first", laid_unicode_utf8_first)] }
def FnLetsLongestSaid : Prop := fnLetsLongestRow.holds Tryd.pinned (OpenSpec.ofChange fnLetsLongestSpec)

/-- ITS FALSE NEIGHBOUR: 'it returns false'. Refute it at one input. -/
def fnLetsLongestWrong : ChangeSpec := { name := "fnLetsLongest", fn := fun _ => fun
  | [d] => { results := [.lit (.bool false)], args := [d] }
  | _ => none }
def FnLetsLongestWrongFalsely : Prop := fnLetsLongestRow.holds Tryd.pinned (OpenSpec.ofChange fnLetsLongestWrong)

/-- 'laws.FnLetsOrder': WHATEVER THE INPUT: true; the input reads as it did. -/
def fnLetsOrderSpec : ChangeSpec := { name := "fnLetsOrder", fn := fun _ => fun
  | [d] => { results := [.lit (.bool true)], args := [d] }
  | _ => none }
def fnLetsOrderRow : OpenClaim := { program := "ytemobclefdodjaadoor", sum := "ed7ec4d26642a7ade60f5d5f59c22b52451407fc5bf0e941e75c1b0bb3753c30", func := "loop.example/pedlar/laws.FnLetsOrder", spec := "fnLetsOrder", inPlace := ["internal/bytealg.CountString", "internal/bytealg.IndexByteString", "internal/bytealg.IndexString"], named := ["unicode/utf8.first", "unicode/utf8.acceptRanges", "internal/bytealg.MaxLen"], apart := false, laid := [("unicode/utf8.acceptRanges", laid_unicode_utf8_acceptRanges), ("unicode/utf8.first", laid_unicode_utf8_first)] }
def FnLetsOrderSaid : Prop := fnLetsOrderRow.holds Tryd.pinned (OpenSpec.ofChange fnLetsOrderSpec)

/-- ITS FALSE NEIGHBOUR: 'it returns false'. Refute it at one input. -/
def fnLetsOrderWrong : ChangeSpec := { name := "fnLetsOrder", fn := fun _ => fun
  | [d] => { results := [.lit (.bool false)], args := [d] }
  | _ => none }
def FnLetsOrderWrongFalsely : Prop := fnLetsOrderRow.holds Tryd.pinned (OpenSpec.ofChange fnLetsOrderWrong)

/-- 'laws.FnLetsMore': WHATEVER THE INPUT: true; the input reads as it did. -/
def fnLetsMoreSpec : ChangeSpec := { name := "fnLetsMore", fn := fun _ => fun
  | [d1, d2] => { results := [.lit (.bool true)], args := [d1, d2] }
  | _ => none }
def fnLetsMoreRow : OpenClaim := { program := "ytemobclefdodjaadoor", sum := "ed7ec4d26642a7ade60f5d5f59c22b52451407fc5bf0e941e75c1b0bb3753c30", func := "loop.example/pedlar/laws.FnLetsMore", spec := "fnLetsMore", inPlace := ["internal/bytealg.CountString", "internal/bytealg.IndexByteString", "internal/bytealg.IndexString"], named := ["unicode/utf8.first", "unicode/utf8.acceptRanges", "internal/bytealg.MaxLen"], apart := false, laid := [("unicode/utf8.acceptRanges", laid_unicode_utf8_acceptRanges), ("unicode/utf8.first", laid_unicode_utf8_first)] }
def FnLetsMoreSaid : Prop := fnLetsMoreRow.holds Tryd.pinned (OpenSpec.ofChange fnLetsMoreSpec)

/-- ITS FALSE NEIGHBOUR: 'it returns false'. Refute it at one input. -/
def fnLetsMoreWrong : ChangeSpec := { name := "fnLetsMore", fn := fun _ => fun
  | [d1, d2] => { results := [.lit (.bool false)], args := [d1, d2] }
  | _ => none }
def FnLetsMoreWrongFalsely : Prop := fnLetsMoreRow.holds Tryd.pinned (OpenSpec.ofChange fnLetsMoreWrong)

/-- 'laws.FnRuleNone': WHATEVER THE INPUT: true; the input reads as it did. -/
def fnRuleNoneSpec : ChangeSpec := { name := "fnRuleNone", fn := fun _ => fun
  | [d] => { results := [.lit (.bool true)], args := [d] }
  | _ => none }
def fnRuleNoneRow : OpenClaim := { program := "ytemobclefdodjaadoor", sum := "ed7ec4d26642a7ade60f5d5f59c22b52451407fc5bf0e941e75c1b0bb3753c30", func := "loop.example/pedlar/laws.FnRuleNone", spec := "fnRuleNone", inPlace := ["internal/bytealg.CountString", "internal/bytealg.IndexByteString", "internal/bytealg.IndexString"], named := ["unicode/utf8.first", "unicode/utf8.acceptRanges", "internal/bytealg.MaxLen"], apart := false, laid := [("unicode/utf8.acceptRanges", laid_unicode_utf8_acceptRanges), ("unicode/utf8.first", laid_unicode_utf8_first)] }
def FnRuleNoneSaid : Prop := fnRuleNoneRow.holds Tryd.pinned (OpenSpec.ofChange fnRuleNoneSpec)

/-- ITS FALSE NEIGHBOUR: 'it returns false'. Refute it at one input. -/
def fnRuleNoneWrong : ChangeSpec := { name := "fnRuleNone", fn := fun _ => fun
  | [d] => { results := [.lit (.bool false)], args := [d] }
  | _ => none }
def FnRuleNoneWrongFalsely : Prop := fnRuleNoneRow.holds Tryd.pinned (OpenSpec.ofChange fnRuleNoneWrong)

/- THE SECOND FORM. 'bulk': how many values and letters a reading holds, each counted each time it is reached (what is shared counts as often as it is met; a slice's spare places count too). A statement '..UptoSaid' is the law's where the arguments, and the package variables that the reading takes, are together of bulk at most 1048576: NARROWER than '..Said'. Prove '..Said' where nothing that the law and all that it calls make is longer than what came in: it says more and counts as full. Else prove '..UptoSaid'. A law counts once. -/
mutual
def uptoBulk {H : Type} : DataW H → Nat
  | .lit (.string bytes) => bytes.length + 1
  | .lit _ => 1
  | .nil => 1
  | .ptr d => uptoBulk d + 1
  | .slice elems spare => uptoBulkAll elems + uptoBulkAll spare + 1
  | .agg parts => uptoBulkAll parts + 1
  | .iface _ d => uptoBulk d + 1
  | .map entries => uptoBulkEntries entries + 1
  | .held _ => 1
def uptoBulkAll {H : Type} : List (DataW H) → Nat
  | [] => 0
  | d :: r => uptoBulk d + uptoBulkAll r
def uptoBulkEntries {H : Type} : List (Lit × DataW H) → Nat
  | [] => 0
  | x :: r => uptoBulkEntry x + uptoBulkEntries r
def uptoBulkEntry {H : Type} : Lit × DataW H → Nat
  | (.string bytes, d) => bytes.length + uptoBulk d + 1
  | (_, d) => uptoBulk d + 1
 end
def uptoSmall : (H : Type) → List (DataW H) → Bool := fun _ ds => decide (uptoBulkAll ds ≤ 1048576)
def OpenSpec.upto (s : _root_.Go.ChangeSpec) : _root_.Go.OpenSpec := { _root_.Go.OpenSpec.ofChange s with cond := some uptoSmall }

/-- 'laws.FnRuleHas', WHERE WHAT IT READS IS OF BULK AT MOST 1048576: true; the input reads as it did. -/
def fnRuleHasUptoRow : OpenClaim := { program := "ytemobclefdodjaadoor", sum := "ed7ec4d26642a7ade60f5d5f59c22b52451407fc5bf0e941e75c1b0bb3753c30", func := "loop.example/pedlar/laws.FnRuleHas", spec := "fnRuleHas", inPlace := ["internal/bytealg.CountString", "internal/bytealg.IndexByteString", "internal/bytealg.IndexString"], recurses := true, named := ["unicode/utf8.first", "unicode/utf8.acceptRanges", "internal/bytealg.MaxLen"], apart := false, laid := [("unicode/utf8.acceptRanges", laid_unicode_utf8_acceptRanges), ("unicode/utf8.first", laid_unicode_utf8_first)], narrowed := true }
def FnRuleHasUptoSaid : Prop := fnRuleHasUptoRow.holds Tryd.pinned (OpenSpec.upto fnRuleHasSpec)

/-- 'laws.FnRuleMore', WHERE WHAT IT READS IS OF BULK AT MOST 1048576: true; the input reads as it did. -/
def fnRuleMoreUptoRow : OpenClaim := { program := "ytemobclefdodjaadoor", sum := "ed7ec4d26642a7ade60f5d5f59c22b52451407fc5bf0e941e75c1b0bb3753c30", func := "loop.example/pedlar/laws.FnRuleMore", spec := "fnRuleMore", inPlace := ["internal/bytealg.CountString", "internal/bytealg.IndexByteString", "internal/bytealg.IndexString"], named := ["unicode/utf8.first", "unicode/utf8.acceptRanges", "internal/bytealg.MaxLen"], apart := false, laid := [("unicode/utf8.acceptRanges", laid_unicode_utf8_acceptRanges), ("unicode/utf8.first", laid_unicode_utf8_first)], narrowed := true }
def FnRuleMoreUptoSaid : Prop := fnRuleMoreUptoRow.holds Tryd.pinned (OpenSpec.upto fnRuleMoreSpec)

/-- 'laws.FnRuleStar', WHERE WHAT IT READS IS OF BULK AT MOST 1048576: true; the input reads as it did. -/
def fnRuleStarUptoRow : OpenClaim := { program := "ytemobclefdodjaadoor", sum := "ed7ec4d26642a7ade60f5d5f59c22b52451407fc5bf0e941e75c1b0bb3753c30", func := "loop.example/pedlar/laws.FnRuleStar", spec := "fnRuleStar", inPlace := ["internal/bytealg.CountString", "internal/bytealg.IndexByteString", "internal/bytealg.IndexString"], named := ["unicode/utf8.first", "unicode/utf8.acceptRanges", "internal/bytealg.MaxLen"], apart := false, laid := [("unicode/utf8.acceptRanges", laid_unicode_utf8_acceptRanges), ("unicode/utf8.first", laid_unicode_utf8_first)], narrowed := true }
def FnRuleStarUptoSaid : Prop := fnRuleStarUptoRow.holds Tryd.pinned (OpenSpec.upto fnRuleStarSpec)

/-- 'laws.FnRuleEnd', WHERE WHAT IT READS IS OF BULK AT MOST 1048576: true; the input reads as it did. -/
def fnRuleEndUptoRow : OpenClaim := { program := "ytemobclefdodjaadoor", sum := "ed7ec4d26642a7ade60f5d5f59c22b52451407fc5bf0e941e75c1b0bb3753c30", func := "loop.example/pedlar/laws.FnRuleEnd", spec := "fnRuleEnd", inPlace := ["internal/bytealg.CountString", "internal/bytealg.IndexByteString", "internal/bytealg.IndexString"], named := ["unicode/utf8.first", "unicode/utf8.acceptRanges", "internal/bytealg.MaxLen"], apart := false, laid := [("unicode/utf8.acceptRanges", laid_unicode_utf8_acceptRanges), ("unicode/utf8.first", laid_unicode_utf8_first)], narrowed := true }
def FnRuleEndUptoSaid : Prop := fnRuleEndUptoRow.holds Tryd.pinned (OpenSpec.upto fnRuleEndSpec)

/-- 'laws.FnRuleSelf', WHERE WHAT IT READS IS OF BULK AT MOST 1048576: true; the input reads as it did. -/
def fnRuleSelfUptoRow : OpenClaim := { program := "ytemobclefdodjaadoor", sum := "ed7ec4d26642a7ade60f5d5f59c22b52451407fc5bf0e941e75c1b0bb3753c30", func := "loop.example/pedlar/laws.FnRuleSelf", spec := "fnRuleSelf", inPlace := ["internal/bytealg.CountString", "internal/bytealg.IndexByteString", "internal/bytealg.IndexString"], named := ["unicode/utf8.first", "unicode/utf8.acceptRanges", "internal/bytealg.MaxLen"], apart := false, laid := [("unicode/utf8.acceptRanges", laid_unicode_utf8_acceptRanges), ("unicode/utf8.first", laid_unicode_utf8_first)], narrowed := true }
def FnRuleSelfUptoSaid : Prop := fnRuleSelfUptoRow.holds Tryd.pinned (OpenSpec.upto fnRuleSelfSpec)

/-- 'laws.FnLetsLongest', WHERE WHAT IT READS IS OF BULK AT MOST 1048576: true; the input reads as it did. -/
def fnLetsLongestUptoRow : OpenClaim := { program := "ytemobclefdodjaadoor", sum := "ed7ec4d26642a7ade60f5d5f59c22b52451407fc5bf0e941e75c1b0bb3753c30", func := "loop.example/pedlar/laws.FnLetsLongest", spec := "fnLetsLongest", inPlace := ["internal/bytealg.CountString", "internal/bytealg.IndexByteString", "internal/bytealg.IndexString"], named := ["unicode/utf8.first", "unicode/utf8.acceptRanges", "internal/bytealg.MaxLen"], apart := false, laid := [("unicode/utf8.acceptRanges", laid_unicode_utf8_acceptRanges), ("unicode/utf8.first", laid_unicode_utf8_first)], narrowed := true }
def FnLetsLongestUptoSaid : Prop := fnLetsLongestUptoRow.holds Tryd.pinned (OpenSpec.upto fnLetsLongestSpec)

/-- 'laws.FnLetsOrder', WHERE WHAT IT READS IS OF BULK AT MOST 1048576: true; the input reads as it did. -/
def fnLetsOrderUptoRow : OpenClaim := { program := "ytemobclefdodjaadoor", sum := "ed7ec4d26642a7ade60f5d5f59c22b52451407fc5bf0e941e75c1b0bb3753c30", func := "loop.example/pedlar/laws.FnLetsOrder", spec := "fnLetsOrder", inPlace := ["internal/bytealg.CountString", "internal/bytealg.IndexByteString", "internal/bytealg.IndexString"], named := ["unicode/utf8.first", "unicode/utf8.acceptRanges", "internal/bytealg.MaxLen"], apart := false, laid := [("unicode/utf8.acceptRanges", laid_unicode_utf8_acceptRanges), ("unicode/utf8.first", laid_unicode_utf8_first)], narrowed := true }
def FnLetsOrderUptoSaid : Prop := fnLetsOrderUptoRow.holds Tryd.pinned (OpenSpec.upto fnLetsOrderSpec)

/-- 'laws.FnLetsMore', WHERE WHAT IT READS IS OF BULK AT MOST 1048576: true; the input reads as it did. -/
def fnLetsMoreUptoRow : OpenClaim := { program := "ytemobclefdodjaadoor", sum := "ed7ec4d26642a7ade60f5d5f59c22b52451407fc5bf0e941e75c1b0bb3753c30", func := "loop.example/pedlar/laws.FnLetsMore", spec := "fnLetsMore", inPlace := ["internal/bytealg.CountString", "internal/bytealg.IndexByteString", "internal/bytealg.IndexString"], named := ["unicode/utf8.first", "unicode/utf8.acceptRanges", "internal/bytealg.MaxLen"], apart := false, laid := [("unicode/utf8.acceptRanges", laid_unicode_utf8_acceptRanges), ("unicode/utf8.first", laid_unicode_utf8_first)], narrowed := true }
def FnLetsMoreUptoSaid : Prop := fnLetsMoreUptoRow.holds Tryd.pinned (OpenSpec.upto fnLetsMoreSpec)

/-- 'laws.FnRuleNone', WHERE WHAT IT READS IS OF BULK AT MOST 1048576: true; the input reads as it did. -/
def fnRuleNoneUptoRow : OpenClaim := { program := "ytemobclefdodjaadoor", sum := "ed7ec4d26642a7ade60f5d5f59c22b52451407fc5bf0e941e75c1b0bb3753c30", func := "loop.example/pedlar/laws.FnRuleNone", spec := "fnRuleNone", inPlace := ["internal/bytealg.CountString", "internal/bytealg.IndexByteString", "internal/bytealg.IndexString"], named := ["unicode/utf8.first", "unicode/utf8.acceptRanges", "internal/bytealg.MaxLen"], apart := false, laid := [("unicode/utf8.acceptRanges", laid_unicode_utf8_acceptRanges), ("unicode/utf8.first", laid_unicode_utf8_first)], narrowed := true }
def FnRuleNoneUptoSaid : Prop := fnRuleNoneUptoRow.holds Tryd.pinned (OpenSpec.upto fnRuleNoneSpec)

end Rows
end Go.Proofs.YtemobclefdodjaaDoor
