/-
  No cell of these rows narrows 'for every input' (looked for: loops, veiled, ifaces, maps, wideKeys, modest, calm, conditions, laid).
  DERIVED. THE GIVEN ROWS OF THIS SEAT. 5 by the template 'for every input the law returns true; each argument reads behind the call as it read before'; 0 by the template 'total and deterministic' (their statements: YtjidnkecjkngnaaTotals.lean).
  GIVEN WITH THE SEED: the statements are not yours to turn. If you find one false, say at which input.
  Laid BY PROGRAM, IN A SANDBOX (cutbox-rows.mjs): the forced cells as the released guide's own fill.sh prints them over the translation 2564c288f9e4f3f2… (all of the seat's roots in one cut). By AI agents, Wed Nov 11 2026. No macro, syntax, notation, axiom, sorry.
-/
import Derived.Test.YtjidnkecjkngnaaChecked
import GoSem.Claim
import GoSem.ClaimJoined
import GoSem.ClaimMapViews
import Derived.JoinedTies
import Derived.KernelRfl
namespace Go.Proofs.Ytjidnkecjkngnaa
/- THE CELL 'sum', in the pinned program and in every row, IS THE sha256 OF THE DUMP (.gsa) THAT YtjidnkecjkngnaaProg.lean LOADS. Nothing in Lean hashes anything: it is a label: what it is worth is what the hold of that sum in a sandbox is worth. -/
noncomputable def Try.pinned : Pinned := { name := "ytjidnkecjkngnaa", sum := "2564c288f9e4f3f2cd6860ddb21929fa5774a4843b0ac0b94ff08c1c66cfcc6a", checked := Try.checked }
namespace Rows
def none {H : Type} : Left H := { results := [], args := [] }

/-- 'cloisterlaw.LabelPrint': WHATEVER THE INPUT: true; the input reads as it did. -/
def labelPrintSpec : ChangeSpec := { name := "labelPrint", fn := fun _ => fun
  | [d] => { results := [.lit (.bool true)], args := [d] }
  | _ => none }
def labelPrintRow : OpenClaim := { program := "ytjidnkecjkngnaa", sum := "2564c288f9e4f3f2cd6860ddb21929fa5774a4843b0ac0b94ff08c1c66cfcc6a", func := "cloister/cloisterlaw.LabelPrint", spec := "labelPrint", inPlace := ["internal/abi.NoEscape", "internal/bytealg.MakeNoZero"], unfollowed := true, recurses := true, plainKeys := false, apart := false }
def LabelPrintSaid : Prop := labelPrintRow.holds Try.pinned (OpenSpec.ofChange labelPrintSpec)

/-- ITS FALSE NEIGHBOUR: 'it returns false'. Refute it at one input. -/
def labelPrintWrong : ChangeSpec := { name := "labelPrint", fn := fun _ => fun
  | [d] => { results := [.lit (.bool false)], args := [d] }
  | _ => none }
def LabelPrintWrongFalsely : Prop := labelPrintRow.holds Try.pinned (OpenSpec.ofChange labelPrintWrong)

/-- 'cloisterlaw.LabelFewer': WHATEVER THE INPUT: true; the input reads as it did. -/
def labelFewerSpec : ChangeSpec := { name := "labelFewer", fn := fun _ => fun
  | [d1, d2, d3, d4, d5] => { results := [.lit (.bool true)], args := [d1, d2, d3, d4, d5] }
  | _ => none }
def labelFewerRow : OpenClaim := { program := "ytjidnkecjkngnaa", sum := "2564c288f9e4f3f2cd6860ddb21929fa5774a4843b0ac0b94ff08c1c66cfcc6a", func := "cloister/cloisterlaw.LabelFewer", spec := "labelFewer", inPlace := ["internal/abi.NoEscape", "internal/bytealg.MakeNoZero"], unfollowed := true, recurses := true, plainKeys := false, apart := false }
def LabelFewerSaid : Prop := labelFewerRow.holds Try.pinned (OpenSpec.ofChange labelFewerSpec)

/-- ITS FALSE NEIGHBOUR: 'it returns false'. Refute it at one input. -/
def labelFewerWrong : ChangeSpec := { name := "labelFewer", fn := fun _ => fun
  | [d1, d2, d3, d4, d5] => { results := [.lit (.bool false)], args := [d1, d2, d3, d4, d5] }
  | _ => none }
def LabelFewerWrongFalsely : Prop := labelFewerRow.holds Try.pinned (OpenSpec.ofChange labelFewerWrong)

/-- 'cloisterlaw.LabelJoin': WHATEVER THE INPUT: true; the input reads as it did. -/
def labelJoinSpec : ChangeSpec := { name := "labelJoin", fn := fun _ => fun
  | [d1, d2, d3, d4, d5] => { results := [.lit (.bool true)], args := [d1, d2, d3, d4, d5] }
  | _ => none }
def labelJoinRow : OpenClaim := { program := "ytjidnkecjkngnaa", sum := "2564c288f9e4f3f2cd6860ddb21929fa5774a4843b0ac0b94ff08c1c66cfcc6a", func := "cloister/cloisterlaw.LabelJoin", spec := "labelJoin", inPlace := ["internal/abi.NoEscape", "internal/bytealg.MakeNoZero"], unfollowed := true, recurses := true, plainKeys := false, apart := false }
def LabelJoinSaid : Prop := labelJoinRow.holds Try.pinned (OpenSpec.ofChange labelJoinSpec)

/-- ITS FALSE NEIGHBOUR: 'it returns false'. Refute it at one input. -/
def labelJoinWrong : ChangeSpec := { name := "labelJoin", fn := fun _ => fun
  | [d1, d2, d3, d4, d5] => { results := [.lit (.bool false)], args := [d1, d2, d3, d4, d5] }
  | _ => none }
def LabelJoinWrongFalsely : Prop := labelJoinRow.holds Try.pinned (OpenSpec.ofChange labelJoinWrong)

/-- 'cloisterlaw.LabelChain': WHATEVER THE INPUT: true; the input reads as it did. -/
def labelChainSpec : ChangeSpec := { name := "labelChain", fn := fun _ => fun
  | [d1, d2, d3, d4, d5] => { results := [.lit (.bool true)], args := [d1, d2, d3, d4, d5] }
  | _ => none }
def labelChainRow : OpenClaim := { program := "ytjidnkecjkngnaa", sum := "2564c288f9e4f3f2cd6860ddb21929fa5774a4843b0ac0b94ff08c1c66cfcc6a", func := "cloister/cloisterlaw.LabelChain", spec := "labelChain", inPlace := ["internal/abi.NoEscape", "internal/bytealg.MakeNoZero"], unfollowed := true, recurses := true, plainKeys := false, apart := false }
def LabelChainSaid : Prop := labelChainRow.holds Try.pinned (OpenSpec.ofChange labelChainSpec)

/-- ITS FALSE NEIGHBOUR: 'it returns false'. Refute it at one input. -/
def labelChainWrong : ChangeSpec := { name := "labelChain", fn := fun _ => fun
  | [d1, d2, d3, d4, d5] => { results := [.lit (.bool false)], args := [d1, d2, d3, d4, d5] }
  | _ => none }
def LabelChainWrongFalsely : Prop := labelChainRow.holds Try.pinned (OpenSpec.ofChange labelChainWrong)

/-- 'cloisterlaw.LabelLess': WHATEVER THE INPUT: true; the input reads as it did. -/
def labelLessSpec : ChangeSpec := { name := "labelLess", fn := fun _ => fun
  | [d1, d2, d3, d4] => { results := [.lit (.bool true)], args := [d1, d2, d3, d4] }
  | _ => none }
def labelLessRow : OpenClaim := { program := "ytjidnkecjkngnaa", sum := "2564c288f9e4f3f2cd6860ddb21929fa5774a4843b0ac0b94ff08c1c66cfcc6a", func := "cloister/cloisterlaw.LabelLess", spec := "labelLess", inPlace := ["internal/abi.NoEscape", "internal/bytealg.MakeNoZero"], unfollowed := true, recurses := true, plainKeys := false, apart := false }
def LabelLessSaid : Prop := labelLessRow.holds Try.pinned (OpenSpec.ofChange labelLessSpec)

/-- ITS FALSE NEIGHBOUR: 'it returns false'. Refute it at one input. -/
def labelLessWrong : ChangeSpec := { name := "labelLess", fn := fun _ => fun
  | [d1, d2, d3, d4] => { results := [.lit (.bool false)], args := [d1, d2, d3, d4] }
  | _ => none }
def LabelLessWrongFalsely : Prop := labelLessRow.holds Try.pinned (OpenSpec.ofChange labelLessWrong)

/- THE SECOND FORM. 'bulk': how many values and letters a reading holds, each counted each time it is reached (what is shared counts as often as it is met; a slice's spare places count too). A statement '..UptoSaid' is the law's where the arguments, and the package variables that the reading takes, are together of bulk at most 1048576: NARROWER than '..Said'. Prove '..Said' where nothing that the law and all that it calls make is longer than what came in: it says more and counts as full. Else prove '..UptoSaid'. A law counts once. -/
mutual
def uptoBulk {H : Type} : DataW H → Nat
  | .lit (.string bytes) => bytes.length + 1
  | .lit _ => 1
  | .nil => 1
  | .ptr d => uptoBulk d + 1
  | .slice elems spare => uptoBulkAll elems + uptoBulkAll spare + 1
  | .agg parts => uptoBulkAll parts + 1
  | .iface _ d => uptoBulk d + 1
  | .map entries => uptoBulkEntries entries + 1
  | .held _ => 1
def uptoBulkAll {H : Type} : List (DataW H) → Nat
  | [] => 0
  | d :: r => uptoBulk d + uptoBulkAll r
def uptoBulkEntries {H : Type} : List (Lit × DataW H) → Nat
  | [] => 0
  | x :: r => uptoBulkEntry x + uptoBulkEntries r
def uptoBulkEntry {H : Type} : Lit × DataW H → Nat
  | (.string bytes, d) => bytes.length + uptoBulk d + 1
  | (_, d) => uptoBulk d + 1
 end
def uptoSmall : (H : Type) → List (DataW H) → Bool := fun _ ds => decide (uptoBulkAll ds ≤ 1048576)
def OpenSpec.upto (s : _root_.Go.ChangeSpec) : _root_.Go.OpenSpec := { _root_.Go.OpenSpec.ofChange s with cond := some uptoSmall }

/-- 'cloisterlaw.LabelPrint', WHERE WHAT IT READS IS OF BULK AT MOST 1048576: true; the input reads as it did. -/
def labelPrintUptoRow : OpenClaim := { program := "ytjidnkecjkngnaa", sum := "2564c288f9e4f3f2cd6860ddb21929fa5774a4843b0ac0b94ff08c1c66cfcc6a", func := "cloister/cloisterlaw.LabelPrint", spec := "labelPrint", inPlace := ["internal/abi.NoEscape", "internal/bytealg.MakeNoZero"], unfollowed := true, recurses := true, plainKeys := false, apart := false, narrowed := true }
def LabelPrintUptoSaid : Prop := labelPrintUptoRow.holds Try.pinned (OpenSpec.upto labelPrintSpec)

/-- 'cloisterlaw.LabelFewer', WHERE WHAT IT READS IS OF BULK AT MOST 1048576: true; the input reads as it did. -/
def labelFewerUptoRow : OpenClaim := { program := "ytjidnkecjkngnaa", sum := "2564c288f9e4f3f2cd6860ddb21929fa5774a4843b0ac0b94ff08c1c66cfcc6a", func := "cloister/cloisterlaw.LabelFewer", spec := "labelFewer", inPlace := ["internal/abi.NoEscape", "internal/bytealg.MakeNoZero"], unfollowed := true, recurses := true, plainKeys := false, apart := false, narrowed := true }
def LabelFewerUptoSaid : Prop := labelFewerUptoRow.holds Try.pinned (OpenSpec.upto labelFewerSpec)

/-- 'cloisterlaw.LabelJoin', WHERE WHAT IT READS IS OF BULK AT MOST 1048576: true; the input reads as it did. -/
def labelJoinUptoRow : OpenClaim := { program := "ytjidnkecjkngnaa", sum := "2564c288f9e4f3f2cd6860ddb21929fa5774a4843b0ac0b94ff08c1c66cfcc6a", func := "cloister/cloisterlaw.LabelJoin", spec := "labelJoin", inPlace := ["internal/abi.NoEscape", "internal/bytealg.MakeNoZero"], unfollowed := true, recurses := true, plainKeys := false, apart := false, narrowed := true }
def LabelJoinUptoSaid : Prop := labelJoinUptoRow.holds Try.pinned (OpenSpec.upto labelJoinSpec)

/-- 'cloisterlaw.LabelChain', WHERE WHAT IT READS IS OF BULK AT MOST 1048576: true; the input reads as it did. -/
def labelChainUptoRow : OpenClaim := { program := "ytjidnkecjkngnaa", sum := "2564c288f9e4f3f2cd6860ddb21929fa5774a4843b0ac0b94ff08c1c66cfcc6a", func := "cloister/cloisterlaw.LabelChain", spec := "labelChain", inPlace := ["internal/abi.NoEscape", "internal/bytealg.MakeNoZero"], unfollowed := true, recurses := true, plainKeys := false, apart := false, narrowed := true }
def LabelChainUptoSaid : Prop := labelChainUptoRow.holds Try.pinned (OpenSpec.upto labelChainSpec)

/-- 'cloisterlaw.LabelLess', WHERE WHAT IT READS IS OF BULK AT MOST 1048576: true; the input reads as it did. -/
def labelLessUptoRow : OpenClaim := { program := "ytjidnkecjkngnaa", sum := "2564c288f9e4f3f2cd6860ddb21929fa5774a4843b0ac0b94ff08c1c66cfcc6a", func := "cloister/cloisterlaw.LabelLess", spec := "labelLess", inPlace := ["internal/abi.NoEscape", "internal/bytealg.MakeNoZero"], unfollowed := true, recurses := true, plainKeys := false, apart := false, narrowed := true }
def LabelLessUptoSaid : Prop := labelLessUptoRow.holds Try.pinned (OpenSpec.upto labelLessSpec)

end Rows
end Go.Proofs.Ytjidnkecjkngnaa
