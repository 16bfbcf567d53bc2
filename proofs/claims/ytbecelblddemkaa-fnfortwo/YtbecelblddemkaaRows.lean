/-
  No cell of these rows narrows 'for every input' (looked for: loops, veiled, ifaces, maps, wideKeys, modest, calm, conditions, laid).
  DERIVED. THE GIVEN ROWS OF THIS SEAT. 5 by the template 'for every input the law returns true; each argument reads behind the call as it read before'; 0 by the template 'total and deterministic' (their statements: YtbecelblddemkaaTotals.lean).
  GIVEN WITH THE SEED: the statements are not yours to turn. If you find one false, say at which input.
  Laid BY PROGRAM, IN A SANDBOX (cutbox-rows.mjs): the forced cells as the released guide's own fill.sh prints them over the translation e83c5ba4ab315ffd… (all of the seat's roots in one cut). By AI agents, Wed Nov 11 2026. No macro, syntax, notation, axiom, sorry.
-/
import Derived.Test.YtbecelblddemkaaChecked
import GoSem.Claim
import GoSem.ClaimJoined
import GoSem.ClaimMapViews
import Derived.JoinedTies
import Derived.KernelRfl
namespace Go.Proofs.Ytbecelblddemkaa
/- THE CELL 'sum', in the pinned program and in every row, IS THE sha256 OF THE DUMP (.gsa) THAT YtbecelblddemkaaProg.lean LOADS. Nothing in Lean hashes anything: it is a label: what it is worth is what the hold of that sum in a sandbox is worth. -/
noncomputable def Try.pinned : Pinned := { name := "ytbecelblddemkaa", sum := "e83c5ba4ab315ffd99d07ead441de586bf5321cb5f67a6c7cbacb18d97b467d3", checked := Try.checked }
namespace Rows
def none {H : Type} : Left H := { results := [], args := [] }

/-- 'laws.FnNoticeOk': WHATEVER THE INPUT: true; the input reads as it did. -/
def fnNoticeOkSpec : ChangeSpec := { name := "fnNoticeOk", fn := fun _ => fun
  | [d] => { results := [.lit (.bool true)], args := [d] }
  | _ => none }
def fnNoticeOkRow : OpenClaim := { program := "ytbecelblddemkaa", sum := "e83c5ba4ab315ffd99d07ead441de586bf5321cb5f67a6c7cbacb18d97b467d3", func := "loop.example/pedlar/laws.FnNoticeOk", spec := "fnNoticeOk", apart := false }
def FnNoticeOkSaid : Prop := fnNoticeOkRow.holds Try.pinned (OpenSpec.ofChange fnNoticeOkSpec)

/-- ITS FALSE NEIGHBOUR: 'it returns false'. Refute it at one input. -/
def fnNoticeOkWrong : ChangeSpec := { name := "fnNoticeOk", fn := fun _ => fun
  | [d] => { results := [.lit (.bool false)], args := [d] }
  | _ => none }
def FnNoticeOkWrongFalsely : Prop := fnNoticeOkRow.holds Try.pinned (OpenSpec.ofChange fnNoticeOkWrong)

/-- 'laws.FnForOwn': WHATEVER THE INPUT: true; the input reads as it did. -/
def fnForOwnSpec : ChangeSpec := { name := "fnForOwn", fn := fun _ => fun
  | [d] => { results := [.lit (.bool true)], args := [d] }
  | _ => none }
def fnForOwnRow : OpenClaim := { program := "ytbecelblddemkaa", sum := "e83c5ba4ab315ffd99d07ead441de586bf5321cb5f67a6c7cbacb18d97b467d3", func := "loop.example/pedlar/laws.FnForOwn", spec := "fnForOwn", apart := false }
def FnForOwnSaid : Prop := fnForOwnRow.holds Try.pinned (OpenSpec.ofChange fnForOwnSpec)

/-- ITS FALSE NEIGHBOUR: 'it returns false'. Refute it at one input. -/
def fnForOwnWrong : ChangeSpec := { name := "fnForOwn", fn := fun _ => fun
  | [d] => { results := [.lit (.bool false)], args := [d] }
  | _ => none }
def FnForOwnWrongFalsely : Prop := fnForOwnRow.holds Try.pinned (OpenSpec.ofChange fnForOwnWrong)

/-- 'laws.FnForAll': WHATEVER THE INPUT: true; the input reads as it did. -/
def fnForAllSpec : ChangeSpec := { name := "fnForAll", fn := fun _ => fun
  | [d] => { results := [.lit (.bool true)], args := [d] }
  | _ => none }
def fnForAllRow : OpenClaim := { program := "ytbecelblddemkaa", sum := "e83c5ba4ab315ffd99d07ead441de586bf5321cb5f67a6c7cbacb18d97b467d3", func := "loop.example/pedlar/laws.FnForAll", spec := "fnForAll", apart := false }
def FnForAllSaid : Prop := fnForAllRow.holds Try.pinned (OpenSpec.ofChange fnForAllSpec)

/-- ITS FALSE NEIGHBOUR: 'it returns false'. Refute it at one input. -/
def fnForAllWrong : ChangeSpec := { name := "fnForAll", fn := fun _ => fun
  | [d] => { results := [.lit (.bool false)], args := [d] }
  | _ => none }
def FnForAllWrongFalsely : Prop := fnForAllRow.holds Try.pinned (OpenSpec.ofChange fnForAllWrong)

/-- 'laws.FnForNone': WHATEVER THE INPUT: true; the input reads as it did. -/
def fnForNoneSpec : ChangeSpec := { name := "fnForNone", fn := fun _ => fun
  | [d] => { results := [.lit (.bool true)], args := [d] }
  | _ => none }
def fnForNoneRow : OpenClaim := { program := "ytbecelblddemkaa", sum := "e83c5ba4ab315ffd99d07ead441de586bf5321cb5f67a6c7cbacb18d97b467d3", func := "loop.example/pedlar/laws.FnForNone", spec := "fnForNone", apart := false }
def FnForNoneSaid : Prop := fnForNoneRow.holds Try.pinned (OpenSpec.ofChange fnForNoneSpec)

/-- ITS FALSE NEIGHBOUR: 'it returns false'. Refute it at one input. -/
def fnForNoneWrong : ChangeSpec := { name := "fnForNone", fn := fun _ => fun
  | [d] => { results := [.lit (.bool false)], args := [d] }
  | _ => none }
def FnForNoneWrongFalsely : Prop := fnForNoneRow.holds Try.pinned (OpenSpec.ofChange fnForNoneWrong)

/-- 'laws.FnForTwo': WHATEVER THE INPUT: true; the input reads as it did. -/
def fnForTwoSpec : ChangeSpec := { name := "fnForTwo", fn := fun _ => fun
  | [d] => { results := [.lit (.bool true)], args := [d] }
  | _ => none }
def fnForTwoRow : OpenClaim := { program := "ytbecelblddemkaa", sum := "e83c5ba4ab315ffd99d07ead441de586bf5321cb5f67a6c7cbacb18d97b467d3", func := "loop.example/pedlar/laws.FnForTwo", spec := "fnForTwo", apart := false }
def FnForTwoSaid : Prop := fnForTwoRow.holds Try.pinned (OpenSpec.ofChange fnForTwoSpec)

/-- ITS FALSE NEIGHBOUR: 'it returns false'. Refute it at one input. -/
def fnForTwoWrong : ChangeSpec := { name := "fnForTwo", fn := fun _ => fun
  | [d] => { results := [.lit (.bool false)], args := [d] }
  | _ => none }
def FnForTwoWrongFalsely : Prop := fnForTwoRow.holds Try.pinned (OpenSpec.ofChange fnForTwoWrong)

/- THE SECOND FORM. 'bulk': how many values and letters a reading holds, each counted each time it is reached (what is shared counts as often as it is met; a slice's spare places count too). A statement '..UptoSaid' is the law's where the arguments, and the package variables that the reading takes, are together of bulk at most 1048576: NARROWER than '..Said'. Prove '..Said' where nothing that the law and all that it calls make is longer than what came in: it says more and counts as full. Else prove '..UptoSaid'. A law counts once. -/
mutual
def uptoBulk {H : Type} : DataW H → Nat
  | .lit (.string bytes) => bytes.length + 1
  | .lit _ => 1
  | .nil => 1
  | .ptr d => uptoBulk d + 1
  | .slice elems spare => uptoBulkAll elems + uptoBulkAll spare + 1
  | .agg parts => uptoBulkAll parts + 1
  | .iface _ d => uptoBulk d + 1
  | .map entries => uptoBulkEntries entries + 1
  | .held _ => 1
def uptoBulkAll {H : Type} : List (DataW H) → Nat
  | [] => 0
  | d :: r => uptoBulk d + uptoBulkAll r
def uptoBulkEntries {H : Type} : List (Lit × DataW H) → Nat
  | [] => 0
  | x :: r => uptoBulkEntry x + uptoBulkEntries r
def uptoBulkEntry {H : Type} : Lit × DataW H → Nat
  | (.string bytes, d) => bytes.length + uptoBulk d + 1
  | (_, d) => uptoBulk d + 1
 end
def uptoSmall : (H : Type) → List (DataW H) → Bool := fun _ ds => decide (uptoBulkAll ds ≤ 1048576)
def OpenSpec.upto (s : _root_.Go.ChangeSpec) : _root_.Go.OpenSpec := { _root_.Go.OpenSpec.ofChange s with cond := some uptoSmall }

/-- 'laws.FnNoticeOk', WHERE WHAT IT READS IS OF BULK AT MOST 1048576: true; the input reads as it did. -/
def fnNoticeOkUptoRow : OpenClaim := { program := "ytbecelblddemkaa", sum := "e83c5ba4ab315ffd99d07ead441de586bf5321cb5f67a6c7cbacb18d97b467d3", func := "loop.example/pedlar/laws.FnNoticeOk", spec := "fnNoticeOk", apart := false, narrowed := true }
def FnNoticeOkUptoSaid : Prop := fnNoticeOkUptoRow.holds Try.pinned (OpenSpec.upto fnNoticeOkSpec)

/-- 'laws.FnForOwn', WHERE WHAT IT READS IS OF BULK AT MOST 1048576: true; the input reads as it did. -/
def fnForOwnUptoRow : OpenClaim := { program := "ytbecelblddemkaa", sum := "e83c5ba4ab315ffd99d07ead441de586bf5321cb5f67a6c7cbacb18d97b467d3", func := "loop.example/pedlar/laws.FnForOwn", spec := "fnForOwn", apart := false, narrowed := true }
def FnForOwnUptoSaid : Prop := fnForOwnUptoRow.holds Try.pinned (OpenSpec.upto fnForOwnSpec)

/-- 'laws.FnForAll', WHERE WHAT IT READS IS OF BULK AT MOST 1048576: true; the input reads as it did. -/
def fnForAllUptoRow : OpenClaim := { program := "ytbecelblddemkaa", sum := "e83c5ba4ab315ffd99d07ead441de586bf5321cb5f67a6c7cbacb18d97b467d3", func := "loop.example/pedlar/laws.FnForAll", spec := "fnForAll", apart := false, narrowed := true }
def FnForAllUptoSaid : Prop := fnForAllUptoRow.holds Try.pinned (OpenSpec.upto fnForAllSpec)

/-- 'laws.FnForNone', WHERE WHAT IT READS IS OF BULK AT MOST 1048576: true; the input reads as it did. -/
def fnForNoneUptoRow : OpenClaim := { program := "ytbecelblddemkaa", sum := "e83c5ba4ab315ffd99d07ead441de586bf5321cb5f67a6c7cbacb18d97b467d3", func := "loop.example/pedlar/laws.FnForNone", spec := "fnForNone", apart := false, narrowed := true }
def FnForNoneUptoSaid : Prop := fnForNoneUptoRow.holds Try.pinned (OpenSpec.upto fnForNoneSpec)

/-- 'laws.FnForTwo', WHERE WHAT IT READS IS OF BULK AT MOST 1048576: true; the input reads as it did. -/
def fnForTwoUptoRow : OpenClaim := { program := "ytbecelblddemkaa", sum := "e83c5ba4ab315ffd99d07ead441de586bf5321cb5f67a6c7cbacb18d97b467d3", func := "loop.example/pedlar/laws.FnForTwo", spec := "fnForTwo", apart := false, narrowed := true }
def FnForTwoUptoSaid : Prop := fnForTwoUptoRow.holds Try.pinned (OpenSpec.upto fnForTwoSpec)

end Rows
end Go.Proofs.Ytbecelblddemkaa
