/-
  No cell of these rows narrows 'for every input' (looked for: loops, veiled, ifaces, maps, wideKeys, modest, calm, conditions, laid).
  DERIVED. THE GIVEN ROWS OF THIS SEAT. 6 by the template 'for every input the law returns true; each argument reads behind the call as it read before'; 0 by the template 'total and deterministic' (their statements: YtncdoghnfgnafaaTotals.lean).
  GIVEN WITH THE SEED: the statements are not yours to turn. If you find one false, say at which input.
  Laid BY PROGRAM, IN A SANDBOX (cutbox-rows.mjs): the forced cells as the released guide's own fill.sh prints them over the translation ae82621258fa3582… (all of the seat's roots in one cut). By AI agents, Wed Nov 11 2026. No macro, syntax, notation, axiom, sorry.
-/
import Derived.Test.YtncdoghnfgnafaaChecked
import GoSem.Claim
import GoSem.ClaimJoined
import GoSem.ClaimMapViews
import Derived.JoinedTies
import Derived.KernelRfl
namespace Go.Proofs.Ytncdoghnfgnafaa
/- THE CELL 'sum', in the pinned program and in every row, IS THE sha256 OF THE DUMP (.gsa) THAT YtncdoghnfgnafaaProg.lean LOADS. Nothing in Lean hashes anything: it is a label: what it is worth is what the hold of that sum in a sandbox is worth. -/
noncomputable def Try.pinned : Pinned := { name := "ytncdoghnfgnafaa", sum := "ae82621258fa35829f53702c1dc970f7f7ff16a3a7226ce070579dae54f07846", checked := Try.checked }
namespace Rows
def none {H : Type} : Left H := { results := [], args := [] }

/-- 'laws.FnExactGoodLane': WHATEVER THE INPUT: true; the input reads as it did. -/
def fnExactGoodLaneSpec : ChangeSpec := { name := "fnExactGoodLane", fn := fun _ => fun
  | [d] => { results := [.lit (.bool true)], args := [d] }
  | _ => none }
def fnExactGoodLaneRow : OpenClaim := { program := "ytncdoghnfgnafaa", sum := "ae82621258fa35829f53702c1dc970f7f7ff16a3a7226ce070579dae54f07846", func := "loop.example/g00170/laws.FnExactGoodLane", spec := "fnExactGoodLane", apart := false }
def FnExactGoodLaneSaid : Prop := fnExactGoodLaneRow.holds Try.pinned (OpenSpec.ofChange fnExactGoodLaneSpec)

/-- ITS FALSE NEIGHBOUR: 'it returns false'. Refute it at one input. -/
def fnExactGoodLaneWrong : ChangeSpec := { name := "fnExactGoodLane", fn := fun _ => fun
  | [d] => { results := [.lit (.bool false)], args := [d] }
  | _ => none }
def FnExactGoodLaneWrongFalsely : Prop := fnExactGoodLaneRow.holds Try.pinned (OpenSpec.ofChange fnExactGoodLaneWrong)

/-- 'laws.FnExactSendOn': WHATEVER THE INPUT: true; the input reads as it did. -/
def fnExactSendOnSpec : ChangeSpec := { name := "fnExactSendOn", fn := fun _ => fun
  | [d1, d2, d3] => { results := [.lit (.bool true)], args := [d1, d2, d3] }
  | _ => none }
def fnExactSendOnRow : OpenClaim := { program := "ytncdoghnfgnafaa", sum := "ae82621258fa35829f53702c1dc970f7f7ff16a3a7226ce070579dae54f07846", func := "loop.example/g00170/laws.FnExactSendOn", spec := "fnExactSendOn", apart := false }
def FnExactSendOnSaid : Prop := fnExactSendOnRow.holds Try.pinned (OpenSpec.ofChange fnExactSendOnSpec)

/-- ITS FALSE NEIGHBOUR: 'it returns false'. Refute it at one input. -/
def fnExactSendOnWrong : ChangeSpec := { name := "fnExactSendOn", fn := fun _ => fun
  | [d1, d2, d3] => { results := [.lit (.bool false)], args := [d1, d2, d3] }
  | _ => none }
def FnExactSendOnWrongFalsely : Prop := fnExactSendOnRow.holds Try.pinned (OpenSpec.ofChange fnExactSendOnWrong)

/-- 'laws.FnExactAnswerOn': WHATEVER THE INPUT: true; the input reads as it did. -/
def fnExactAnswerOnSpec : ChangeSpec := { name := "fnExactAnswerOn", fn := fun _ => fun
  | [d1, d2] => { results := [.lit (.bool true)], args := [d1, d2] }
  | _ => none }
def fnExactAnswerOnRow : OpenClaim := { program := "ytncdoghnfgnafaa", sum := "ae82621258fa35829f53702c1dc970f7f7ff16a3a7226ce070579dae54f07846", func := "loop.example/g00170/laws.FnExactAnswerOn", spec := "fnExactAnswerOn", apart := false }
def FnExactAnswerOnSaid : Prop := fnExactAnswerOnRow.holds Try.pinned (OpenSpec.ofChange fnExactAnswerOnSpec)

/-- ITS FALSE NEIGHBOUR: 'it returns false'. Refute it at one input. -/
def fnExactAnswerOnWrong : ChangeSpec := { name := "fnExactAnswerOn", fn := fun _ => fun
  | [d1, d2] => { results := [.lit (.bool false)], args := [d1, d2] }
  | _ => none }
def FnExactAnswerOnWrongFalsely : Prop := fnExactAnswerOnRow.holds Try.pinned (OpenSpec.ofChange fnExactAnswerOnWrong)

/-- 'laws.FnExactBreakLane': WHATEVER THE INPUT: true; the input reads as it did. -/
def fnExactBreakLaneSpec : ChangeSpec := { name := "fnExactBreakLane", fn := fun _ => fun
  | [d] => { results := [.lit (.bool true)], args := [d] }
  | _ => none }
def fnExactBreakLaneRow : OpenClaim := { program := "ytncdoghnfgnafaa", sum := "ae82621258fa35829f53702c1dc970f7f7ff16a3a7226ce070579dae54f07846", func := "loop.example/g00170/laws.FnExactBreakLane", spec := "fnExactBreakLane", apart := false }
def FnExactBreakLaneSaid : Prop := fnExactBreakLaneRow.holds Try.pinned (OpenSpec.ofChange fnExactBreakLaneSpec)

/-- ITS FALSE NEIGHBOUR: 'it returns false'. Refute it at one input. -/
def fnExactBreakLaneWrong : ChangeSpec := { name := "fnExactBreakLane", fn := fun _ => fun
  | [d] => { results := [.lit (.bool false)], args := [d] }
  | _ => none }
def FnExactBreakLaneWrongFalsely : Prop := fnExactBreakLaneRow.holds Try.pinned (OpenSpec.ofChange fnExactBreakLaneWrong)

/-- 'laws.FnExactLateOn': WHATEVER THE INPUT: true; the input reads as it did. -/
def fnExactLateOnSpec : ChangeSpec := { name := "fnExactLateOn", fn := fun _ => fun
  | [d1, d2, d3] => { results := [.lit (.bool true)], args := [d1, d2, d3] }
  | _ => none }
def fnExactLateOnRow : OpenClaim := { program := "ytncdoghnfgnafaa", sum := "ae82621258fa35829f53702c1dc970f7f7ff16a3a7226ce070579dae54f07846", func := "loop.example/g00170/laws.FnExactLateOn", spec := "fnExactLateOn", apart := false }
def FnExactLateOnSaid : Prop := fnExactLateOnRow.holds Try.pinned (OpenSpec.ofChange fnExactLateOnSpec)

/-- ITS FALSE NEIGHBOUR: 'it returns false'. Refute it at one input. -/
def fnExactLateOnWrong : ChangeSpec := { name := "fnExactLateOn", fn := fun _ => fun
  | [d1, d2, d3] => { results := [.lit (.bool false)], args := [d1, d2, d3] }
  | _ => none }
def FnExactLateOnWrongFalsely : Prop := fnExactLateOnRow.holds Try.pinned (OpenSpec.ofChange fnExactLateOnWrong)

/-- 'laws.FnExactBestLane': WHATEVER THE INPUT: true; the input reads as it did. -/
def fnExactBestLaneSpec : ChangeSpec := { name := "fnExactBestLane", fn := fun _ => fun
  | [d1, d2] => { results := [.lit (.bool true)], args := [d1, d2] }
  | _ => none }
def fnExactBestLaneRow : OpenClaim := { program := "ytncdoghnfgnafaa", sum := "ae82621258fa35829f53702c1dc970f7f7ff16a3a7226ce070579dae54f07846", func := "loop.example/g00170/laws.FnExactBestLane", spec := "fnExactBestLane", apart := false }
def FnExactBestLaneSaid : Prop := fnExactBestLaneRow.holds Try.pinned (OpenSpec.ofChange fnExactBestLaneSpec)

/-- ITS FALSE NEIGHBOUR: 'it returns false'. Refute it at one input. -/
def fnExactBestLaneWrong : ChangeSpec := { name := "fnExactBestLane", fn := fun _ => fun
  | [d1, d2] => { results := [.lit (.bool false)], args := [d1, d2] }
  | _ => none }
def FnExactBestLaneWrongFalsely : Prop := fnExactBestLaneRow.holds Try.pinned (OpenSpec.ofChange fnExactBestLaneWrong)

/- THE SECOND FORM. 'bulk': how many values and letters a reading holds, each counted each time it is reached (what is shared counts as often as it is met; a slice's spare places count too). A statement '..UptoSaid' is the law's where the arguments, and the package variables that the reading takes, are together of bulk at most 1048576: NARROWER than '..Said'. Prove '..Said' where nothing that the law and all that it calls make is longer than what came in: it says more and counts as full. Else prove '..UptoSaid'. A law counts once. -/
mutual
def uptoBulk {H : Type} : DataW H → Nat
  | .lit (.string bytes) => bytes.length + 1
  | .lit _ => 1
  | .nil => 1
  | .ptr d => uptoBulk d + 1
  | .slice elems spare => uptoBulkAll elems + uptoBulkAll spare + 1
  | .agg parts => uptoBulkAll parts + 1
  | .iface _ d => uptoBulk d + 1
  | .map entries => uptoBulkEntries entries + 1
  | .held _ => 1
def uptoBulkAll {H : Type} : List (DataW H) → Nat
  | [] => 0
  | d :: r => uptoBulk d + uptoBulkAll r
def uptoBulkEntries {H : Type} : List (Lit × DataW H) → Nat
  | [] => 0
  | x :: r => uptoBulkEntry x + uptoBulkEntries r
def uptoBulkEntry {H : Type} : Lit × DataW H → Nat
  | (.string bytes, d) => bytes.length + uptoBulk d + 1
  | (_, d) => uptoBulk d + 1
 end
def uptoSmall : (H : Type) → List (DataW H) → Bool := fun _ ds => decide (uptoBulkAll ds ≤ 1048576)
def OpenSpec.upto (s : _root_.Go.ChangeSpec) : _root_.Go.OpenSpec := { _root_.Go.OpenSpec.ofChange s with cond := some uptoSmall }

/-- 'laws.FnExactGoodLane', WHERE WHAT IT READS IS OF BULK AT MOST 1048576: true; the input reads as it did. -/
def fnExactGoodLaneUptoRow : OpenClaim := { program := "ytncdoghnfgnafaa", sum := "ae82621258fa35829f53702c1dc970f7f7ff16a3a7226ce070579dae54f07846", func := "loop.example/g00170/laws.FnExactGoodLane", spec := "fnExactGoodLane", apart := false, narrowed := true }
def FnExactGoodLaneUptoSaid : Prop := fnExactGoodLaneUptoRow.holds Try.pinned (OpenSpec.upto fnExactGoodLaneSpec)

/-- 'laws.FnExactSendOn', WHERE WHAT IT READS IS OF BULK AT MOST 1048576: true; the input reads as it did. -/
def fnExactSendOnUptoRow : OpenClaim := { program := "ytncdoghnfgnafaa", sum := "ae82621258fa35829f53702c1dc970f7f7ff16a3a7226ce070579dae54f07846", func := "loop.example/g00170/laws.FnExactSendOn", spec := "fnExactSendOn", apart := false, narrowed := true }
def FnExactSendOnUptoSaid : Prop := fnExactSendOnUptoRow.holds Try.pinned (OpenSpec.upto fnExactSendOnSpec)

/-- 'laws.FnExactAnswerOn', WHERE WHAT IT READS IS OF BULK AT MOST 1048576: true; the input reads as it did. -/
def fnExactAnswerOnUptoRow : OpenClaim := { program := "ytncdoghnfgnafaa", sum := "ae82621258fa35829f53702c1dc970f7f7ff16a3a7226ce070579dae54f07846", func := "loop.example/g00170/laws.FnExactAnswerOn", spec := "fnExactAnswerOn", apart := false, narrowed := true }
def FnExactAnswerOnUptoSaid : Prop := fnExactAnswerOnUptoRow.holds Try.pinned (OpenSpec.upto fnExactAnswerOnSpec)

/-- 'laws.FnExactBreakLane', WHERE WHAT IT READS IS OF BULK AT MOST 1048576: true; the input reads as it did. -/
def fnExactBreakLaneUptoRow : OpenClaim := { program := "ytncdoghnfgnafaa", sum := "ae82621258fa35829f53702c1dc970f7f7ff16a3a7226ce070579dae54f07846", func := "loop.example/g00170/laws.FnExactBreakLane", spec := "fnExactBreakLane", apart := false, narrowed := true }
def FnExactBreakLaneUptoSaid : Prop := fnExactBreakLaneUptoRow.holds Try.pinned (OpenSpec.upto fnExactBreakLaneSpec)

/-- 'laws.FnExactLateOn', WHERE WHAT IT READS IS OF BULK AT MOST 1048576: true; the input reads as it did. -/
def fnExactLateOnUptoRow : OpenClaim := { program := "ytncdoghnfgnafaa", sum := "ae82621258fa35829f53702c1dc970f7f7ff16a3a7226ce070579dae54f07846", func := "loop.example/g00170/laws.FnExactLateOn", spec := "fnExactLateOn", apart := false, narrowed := true }
def FnExactLateOnUptoSaid : Prop := fnExactLateOnUptoRow.holds Try.pinned (OpenSpec.upto fnExactLateOnSpec)

/-- 'laws.FnExactBestLane', WHERE WHAT IT READS IS OF BULK AT MOST 1048576: true; the input reads as it did. -/
def fnExactBestLaneUptoRow : OpenClaim := { program := "ytncdoghnfgnafaa", sum := "ae82621258fa35829f53702c1dc970f7f7ff16a3a7226ce070579dae54f07846", func := "loop.example/g00170/laws.FnExactBestLane", spec := "fnExactBestLane", apart := false, narrowed := true }
def FnExactBestLaneUptoSaid : Prop := fnExactBestLaneUptoRow.holds Try.pinned (OpenSpec.upto fnExactBestLaneSpec)

end Rows
end Go.Proofs.Ytncdoghnfgnafaa
