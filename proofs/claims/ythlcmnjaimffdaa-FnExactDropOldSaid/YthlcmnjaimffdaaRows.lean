/-
  No cell of these rows narrows 'for every input' (looked for: loops, veiled, ifaces, maps, wideKeys, modest, calm, conditions, laid).
  DERIVED. THE GIVEN ROWS OF THIS SEAT. 4 by the template 'for every input the law returns true; each argument reads behind the call as it read before'; 0 by the template 'total and deterministic' (their statements: YthlcmnjaimffdaaTotals.lean).
  GIVEN WITH THE SEED: the statements are not yours to turn. If you find one false, say at which input.
  Laid BY PROGRAM, IN A SANDBOX (cutbox-rows.mjs): the forced cells as the released guide's own fill.sh prints them over the translation 7d02a3f1bb344b2a… (all of the seat's roots in one cut). By AI agents, Wed Nov 11 2026. No macro, syntax, notation, axiom, sorry.
-/
import Derived.Test.YthlcmnjaimffdaaChecked
import GoSem.Claim
import GoSem.ClaimJoined
import GoSem.ClaimMapViews
import Derived.JoinedTies
import Derived.KernelRfl
namespace Go.Proofs.Ythlcmnjaimffdaa
/- THE CELL 'sum', in the pinned program and in every row, IS THE sha256 OF THE DUMP (.gsa) THAT YthlcmnjaimffdaaProg.lean LOADS. Nothing in Lean hashes anything: it is a label: what it is worth is what the hold of that sum in a sandbox is worth. -/
noncomputable def Try.pinned : Pinned := { name := "ythlcmnjaimffdaa", sum := "7d02a3f1bb344b2ad5a052f4e71cd2b2e26d6f4bd992aaaac753af87dccba672", checked := Try.checked }
namespace Rows
def none {H : Type} : Left H := { results := [], args := [] }

/-- 'laws.FnExactGoodStore': WHATEVER THE INPUT: true; the input reads as it did. -/
def fnExactGoodStoreSpec : ChangeSpec := { name := "fnExactGoodStore", fn := fun _ => fun
  | [d] => { results := [.lit (.bool true)], args := [d] }
  | _ => none }
def fnExactGoodStoreRow : OpenClaim := { program := "ythlcmnjaimffdaa", sum := "7d02a3f1bb344b2ad5a052f4e71cd2b2e26d6f4bd992aaaac753af87dccba672", func := "loop.example/g00170/laws.FnExactGoodStore", spec := "fnExactGoodStore", apart := false }
def FnExactGoodStoreSaid : Prop := fnExactGoodStoreRow.holds Try.pinned (OpenSpec.ofChange fnExactGoodStoreSpec)

/-- ITS FALSE NEIGHBOUR: 'it returns false'. Refute it at one input. -/
def fnExactGoodStoreWrong : ChangeSpec := { name := "fnExactGoodStore", fn := fun _ => fun
  | [d] => { results := [.lit (.bool false)], args := [d] }
  | _ => none }
def FnExactGoodStoreWrongFalsely : Prop := fnExactGoodStoreRow.holds Try.pinned (OpenSpec.ofChange fnExactGoodStoreWrong)

/-- 'laws.FnExactChargeOf': WHATEVER THE INPUT: true; the input reads as it did. -/
def fnExactChargeOfSpec : ChangeSpec := { name := "fnExactChargeOf", fn := fun _ => fun
  | [d] => { results := [.lit (.bool true)], args := [d] }
  | _ => none }
def fnExactChargeOfRow : OpenClaim := { program := "ythlcmnjaimffdaa", sum := "7d02a3f1bb344b2ad5a052f4e71cd2b2e26d6f4bd992aaaac753af87dccba672", func := "loop.example/g00170/laws.FnExactChargeOf", spec := "fnExactChargeOf", apart := false }
def FnExactChargeOfSaid : Prop := fnExactChargeOfRow.holds Try.pinned (OpenSpec.ofChange fnExactChargeOfSpec)

/-- ITS FALSE NEIGHBOUR: 'it returns false'. Refute it at one input. -/
def fnExactChargeOfWrong : ChangeSpec := { name := "fnExactChargeOf", fn := fun _ => fun
  | [d] => { results := [.lit (.bool false)], args := [d] }
  | _ => none }
def FnExactChargeOfWrongFalsely : Prop := fnExactChargeOfRow.holds Try.pinned (OpenSpec.ofChange fnExactChargeOfWrong)

/-- 'laws.FnExactDropOld': WHATEVER THE INPUT: true; the input reads as it did. -/
def fnExactDropOldSpec : ChangeSpec := { name := "fnExactDropOld", fn := fun _ => fun
  | [d1, d2] => { results := [.lit (.bool true)], args := [d1, d2] }
  | _ => none }
def fnExactDropOldRow : OpenClaim := { program := "ythlcmnjaimffdaa", sum := "7d02a3f1bb344b2ad5a052f4e71cd2b2e26d6f4bd992aaaac753af87dccba672", func := "loop.example/g00170/laws.FnExactDropOld", spec := "fnExactDropOld", apart := false }
def FnExactDropOldSaid : Prop := fnExactDropOldRow.holds Try.pinned (OpenSpec.ofChange fnExactDropOldSpec)

/-- ITS FALSE NEIGHBOUR: 'it returns false'. Refute it at one input. -/
def fnExactDropOldWrong : ChangeSpec := { name := "fnExactDropOld", fn := fun _ => fun
  | [d1, d2] => { results := [.lit (.bool false)], args := [d1, d2] }
  | _ => none }
def FnExactDropOldWrongFalsely : Prop := fnExactDropOldRow.holds Try.pinned (OpenSpec.ofChange fnExactDropOldWrong)

/-- 'laws.FnExactFindItem': WHATEVER THE INPUT: true; the input reads as it did. -/
def fnExactFindItemSpec : ChangeSpec := { name := "fnExactFindItem", fn := fun _ => fun
  | [d1, d2, d3] => { results := [.lit (.bool true)], args := [d1, d2, d3] }
  | _ => none }
def fnExactFindItemRow : OpenClaim := { program := "ythlcmnjaimffdaa", sum := "7d02a3f1bb344b2ad5a052f4e71cd2b2e26d6f4bd992aaaac753af87dccba672", func := "loop.example/g00170/laws.FnExactFindItem", spec := "fnExactFindItem", apart := false }
def FnExactFindItemSaid : Prop := fnExactFindItemRow.holds Try.pinned (OpenSpec.ofChange fnExactFindItemSpec)

/-- ITS FALSE NEIGHBOUR: 'it returns false'. Refute it at one input. -/
def fnExactFindItemWrong : ChangeSpec := { name := "fnExactFindItem", fn := fun _ => fun
  | [d1, d2, d3] => { results := [.lit (.bool false)], args := [d1, d2, d3] }
  | _ => none }
def FnExactFindItemWrongFalsely : Prop := fnExactFindItemRow.holds Try.pinned (OpenSpec.ofChange fnExactFindItemWrong)

/- THE SECOND FORM. 'bulk': how many values and letters a reading holds, each counted each time it is reached (what is shared counts as often as it is met; a slice's spare places count too). A statement '..UptoSaid' is the law's where the arguments, and the package variables that the reading takes, are together of bulk at most 1048576: NARROWER than '..Said'. Prove '..Said' where nothing that the law and all that it calls make is longer than what came in: it says more and counts as full. Else prove '..UptoSaid'. A law counts once. -/
mutual
def uptoBulk {H : Type} : DataW H → Nat
  | .lit (.string bytes) => bytes.length + 1
  | .lit _ => 1
  | .nil => 1
  | .ptr d => uptoBulk d + 1
  | .slice elems spare => uptoBulkAll elems + uptoBulkAll spare + 1
  | .agg parts => uptoBulkAll parts + 1
  | .iface _ d => uptoBulk d + 1
  | .map entries => uptoBulkEntries entries + 1
  | .held _ => 1
def uptoBulkAll {H : Type} : List (DataW H) → Nat
  | [] => 0
  | d :: r => uptoBulk d + uptoBulkAll r
def uptoBulkEntries {H : Type} : List (Lit × DataW H) → Nat
  | [] => 0
  | x :: r => uptoBulkEntry x + uptoBulkEntries r
def uptoBulkEntry {H : Type} : Lit × DataW H → Nat
  | (.string bytes, d) => bytes.length + uptoBulk d + 1
  | (_, d) => uptoBulk d + 1
 end
def uptoSmall : (H : Type) → List (DataW H) → Bool := fun _ ds => decide (uptoBulkAll ds ≤ 1048576)
def OpenSpec.upto (s : _root_.Go.ChangeSpec) : _root_.Go.OpenSpec := { _root_.Go.OpenSpec.ofChange s with cond := some uptoSmall }

/-- 'laws.FnExactGoodStore', WHERE WHAT IT READS IS OF BULK AT MOST 1048576: true; the input reads as it did. -/
def fnExactGoodStoreUptoRow : OpenClaim := { program := "ythlcmnjaimffdaa", sum := "7d02a3f1bb344b2ad5a052f4e71cd2b2e26d6f4bd992aaaac753af87dccba672", func := "loop.example/g00170/laws.FnExactGoodStore", spec := "fnExactGoodStore", apart := false, narrowed := true }
def FnExactGoodStoreUptoSaid : Prop := fnExactGoodStoreUptoRow.holds Try.pinned (OpenSpec.upto fnExactGoodStoreSpec)

/-- 'laws.FnExactChargeOf', WHERE WHAT IT READS IS OF BULK AT MOST 1048576: true; the input reads as it did. -/
def fnExactChargeOfUptoRow : OpenClaim := { program := "ythlcmnjaimffdaa", sum := "7d02a3f1bb344b2ad5a052f4e71cd2b2e26d6f4bd992aaaac753af87dccba672", func := "loop.example/g00170/laws.FnExactChargeOf", spec := "fnExactChargeOf", apart := false, narrowed := true }
def FnExactChargeOfUptoSaid : Prop := fnExactChargeOfUptoRow.holds Try.pinned (OpenSpec.upto fnExactChargeOfSpec)

/-- 'laws.FnExactDropOld', WHERE WHAT IT READS IS OF BULK AT MOST 1048576: true; the input reads as it did. -/
def fnExactDropOldUptoRow : OpenClaim := { program := "ythlcmnjaimffdaa", sum := "7d02a3f1bb344b2ad5a052f4e71cd2b2e26d6f4bd992aaaac753af87dccba672", func := "loop.example/g00170/laws.FnExactDropOld", spec := "fnExactDropOld", apart := false, narrowed := true }
def FnExactDropOldUptoSaid : Prop := fnExactDropOldUptoRow.holds Try.pinned (OpenSpec.upto fnExactDropOldSpec)

/-- 'laws.FnExactFindItem', WHERE WHAT IT READS IS OF BULK AT MOST 1048576: true; the input reads as it did. -/
def fnExactFindItemUptoRow : OpenClaim := { program := "ythlcmnjaimffdaa", sum := "7d02a3f1bb344b2ad5a052f4e71cd2b2e26d6f4bd992aaaac753af87dccba672", func := "loop.example/g00170/laws.FnExactFindItem", spec := "fnExactFindItem", apart := false, narrowed := true }
def FnExactFindItemUptoSaid : Prop := fnExactFindItemUptoRow.holds Try.pinned (OpenSpec.upto fnExactFindItemSpec)

end Rows
end Go.Proofs.Ythlcmnjaimffdaa
