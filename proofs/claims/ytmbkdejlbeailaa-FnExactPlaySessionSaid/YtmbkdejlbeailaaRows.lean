/-
  No cell of these rows narrows 'for every input' (looked for: loops, veiled, ifaces, maps, wideKeys, modest, calm, conditions, laid).
  DERIVED. THE GIVEN ROWS OF THIS SEAT. 5 by the template 'for every input the law returns true; each argument reads behind the call as it read before'; 0 by the template 'total and deterministic' (their statements: YtmbkdejlbeailaaTotals.lean).
  GIVEN WITH THE SEED: the statements are not yours to turn. If you find one false, say at which input.
  Laid BY PROGRAM, IN A SANDBOX (cutbox-rows.mjs): the forced cells as the released guide's own fill.sh prints them over the translation 4e2b631742ef7001… (all of the seat's roots in one cut). By AI agents, Wed Nov 11 2026. No macro, syntax, notation, axiom, sorry.
-/
import Derived.Test.YtmbkdejlbeailaaChecked
import GoSem.Claim
import GoSem.ClaimJoined
import GoSem.ClaimMapViews
import Derived.JoinedTies
import Derived.KernelRfl
namespace Go.Proofs.Ytmbkdejlbeailaa
/- THE CELL 'sum', in the pinned program and in every row, IS THE sha256 OF THE DUMP (.gsa) THAT YtmbkdejlbeailaaProg.lean LOADS. Nothing in Lean hashes anything: it is a label: what it is worth is what the hold of that sum in a sandbox is worth. -/
noncomputable def Try.pinned : Pinned := { name := "ytmbkdejlbeailaa", sum := "4e2b631742ef700168e5fe8ccf2fde0f7698e672e7901e7c841208191e9954da", checked := Try.checked }
namespace Rows
def none {H : Type} : Left H := { results := [], args := [] }

/-- 'laws.FnExactGoodSession': WHATEVER THE INPUT: true; the input reads as it did. -/
def fnExactGoodSessionSpec : ChangeSpec := { name := "fnExactGoodSession", fn := fun _ => fun
  | [d] => { results := [.lit (.bool true)], args := [d] }
  | _ => none }
def fnExactGoodSessionRow : OpenClaim := { program := "ytmbkdejlbeailaa", sum := "4e2b631742ef700168e5fe8ccf2fde0f7698e672e7901e7c841208191e9954da", func := "loop.example/g00170/laws.FnExactGoodSession", spec := "fnExactGoodSession", apart := false }
def FnExactGoodSessionSaid : Prop := fnExactGoodSessionRow.holds Try.pinned (OpenSpec.ofChange fnExactGoodSessionSpec)

/-- ITS FALSE NEIGHBOUR: 'it returns false'. Refute it at one input. -/
def fnExactGoodSessionWrong : ChangeSpec := { name := "fnExactGoodSession", fn := fun _ => fun
  | [d] => { results := [.lit (.bool false)], args := [d] }
  | _ => none }
def FnExactGoodSessionWrongFalsely : Prop := fnExactGoodSessionRow.holds Try.pinned (OpenSpec.ofChange fnExactGoodSessionWrong)

/-- 'laws.FnExactOpenSlot': WHATEVER THE INPUT: true; the input reads as it did. -/
def fnExactOpenSlotSpec : ChangeSpec := { name := "fnExactOpenSlot", fn := fun _ => fun
  | [d] => { results := [.lit (.bool true)], args := [d] }
  | _ => none }
def fnExactOpenSlotRow : OpenClaim := { program := "ytmbkdejlbeailaa", sum := "4e2b631742ef700168e5fe8ccf2fde0f7698e672e7901e7c841208191e9954da", func := "loop.example/g00170/laws.FnExactOpenSlot", spec := "fnExactOpenSlot", apart := false }
def FnExactOpenSlotSaid : Prop := fnExactOpenSlotRow.holds Try.pinned (OpenSpec.ofChange fnExactOpenSlotSpec)

/-- ITS FALSE NEIGHBOUR: 'it returns false'. Refute it at one input. -/
def fnExactOpenSlotWrong : ChangeSpec := { name := "fnExactOpenSlot", fn := fun _ => fun
  | [d] => { results := [.lit (.bool false)], args := [d] }
  | _ => none }
def FnExactOpenSlotWrongFalsely : Prop := fnExactOpenSlotRow.holds Try.pinned (OpenSpec.ofChange fnExactOpenSlotWrong)

/-- 'laws.FnExactCloseSlot': WHATEVER THE INPUT: true; the input reads as it did. -/
def fnExactCloseSlotSpec : ChangeSpec := { name := "fnExactCloseSlot", fn := fun _ => fun
  | [d1, d2, d3] => { results := [.lit (.bool true)], args := [d1, d2, d3] }
  | _ => none }
def fnExactCloseSlotRow : OpenClaim := { program := "ytmbkdejlbeailaa", sum := "4e2b631742ef700168e5fe8ccf2fde0f7698e672e7901e7c841208191e9954da", func := "loop.example/g00170/laws.FnExactCloseSlot", spec := "fnExactCloseSlot", inPlace := ["internal/abi.NoEscape"], apart := false }
def FnExactCloseSlotSaid : Prop := fnExactCloseSlotRow.holds Try.pinned (OpenSpec.ofChange fnExactCloseSlotSpec)

/-- ITS FALSE NEIGHBOUR: 'it returns false'. Refute it at one input. -/
def fnExactCloseSlotWrong : ChangeSpec := { name := "fnExactCloseSlot", fn := fun _ => fun
  | [d1, d2, d3] => { results := [.lit (.bool false)], args := [d1, d2, d3] }
  | _ => none }
def FnExactCloseSlotWrongFalsely : Prop := fnExactCloseSlotRow.holds Try.pinned (OpenSpec.ofChange fnExactCloseSlotWrong)

/-- 'laws.FnExactOpenIds': WHATEVER THE INPUT: true; the input reads as it did. -/
def fnExactOpenIdsSpec : ChangeSpec := { name := "fnExactOpenIds", fn := fun _ => fun
  | [d] => { results := [.lit (.bool true)], args := [d] }
  | _ => none }
def fnExactOpenIdsRow : OpenClaim := { program := "ytmbkdejlbeailaa", sum := "4e2b631742ef700168e5fe8ccf2fde0f7698e672e7901e7c841208191e9954da", func := "loop.example/g00170/laws.FnExactOpenIds", spec := "fnExactOpenIds", apart := false }
def FnExactOpenIdsSaid : Prop := fnExactOpenIdsRow.holds Try.pinned (OpenSpec.ofChange fnExactOpenIdsSpec)

/-- ITS FALSE NEIGHBOUR: 'it returns false'. Refute it at one input. -/
def fnExactOpenIdsWrong : ChangeSpec := { name := "fnExactOpenIds", fn := fun _ => fun
  | [d] => { results := [.lit (.bool false)], args := [d] }
  | _ => none }
def FnExactOpenIdsWrongFalsely : Prop := fnExactOpenIdsRow.holds Try.pinned (OpenSpec.ofChange fnExactOpenIdsWrong)

/-- 'laws.FnExactPlaySession': WHATEVER THE INPUT: true; the input reads as it did. -/
def fnExactPlaySessionSpec : ChangeSpec := { name := "fnExactPlaySession", fn := fun _ => fun
  | [d1, d2] => { results := [.lit (.bool true)], args := [d1, d2] }
  | _ => none }
def fnExactPlaySessionRow : OpenClaim := { program := "ytmbkdejlbeailaa", sum := "4e2b631742ef700168e5fe8ccf2fde0f7698e672e7901e7c841208191e9954da", func := "loop.example/g00170/laws.FnExactPlaySession", spec := "fnExactPlaySession", inPlace := ["internal/abi.NoEscape"], unfollowed := true, recurses := true, apart := false }
def FnExactPlaySessionSaid : Prop := fnExactPlaySessionRow.holds Try.pinned (OpenSpec.ofChange fnExactPlaySessionSpec)

/-- ITS FALSE NEIGHBOUR: 'it returns false'. Refute it at one input. -/
def fnExactPlaySessionWrong : ChangeSpec := { name := "fnExactPlaySession", fn := fun _ => fun
  | [d1, d2] => { results := [.lit (.bool false)], args := [d1, d2] }
  | _ => none }
def FnExactPlaySessionWrongFalsely : Prop := fnExactPlaySessionRow.holds Try.pinned (OpenSpec.ofChange fnExactPlaySessionWrong)

/- THE SECOND FORM. 'bulk': how many values and letters a reading holds, each counted each time it is reached (what is shared counts as often as it is met; a slice's spare places count too). A statement '..UptoSaid' is the law's where the arguments, and the package variables that the reading takes, are together of bulk at most 1048576: NARROWER than '..Said'. Prove '..Said' where nothing that the law and all that it calls make is longer than what came in: it says more and counts as full. Else prove '..UptoSaid'. A law counts once. -/
mutual
def uptoBulk {H : Type} : DataW H → Nat
  | .lit (.string bytes) => bytes.length + 1
  | .lit _ => 1
  | .nil => 1
  | .ptr d => uptoBulk d + 1
  | .slice elems spare => uptoBulkAll elems + uptoBulkAll spare + 1
  | .agg parts => uptoBulkAll parts + 1
  | .iface _ d => uptoBulk d + 1
  | .map entries => uptoBulkEntries entries + 1
  | .held _ => 1
def uptoBulkAll {H : Type} : List (DataW H) → Nat
  | [] => 0
  | d :: r => uptoBulk d + uptoBulkAll r
def uptoBulkEntries {H : Type} : List (Lit × DataW H) → Nat
  | [] => 0
  | x :: r => uptoBulkEntry x + uptoBulkEntries r
def uptoBulkEntry {H : Type} : Lit × DataW H → Nat
  | (.string bytes, d) => bytes.length + uptoBulk d + 1
  | (_, d) => uptoBulk d + 1
 end
def uptoSmall : (H : Type) → List (DataW H) → Bool := fun _ ds => decide (uptoBulkAll ds ≤ 1048576)
def OpenSpec.upto (s : _root_.Go.ChangeSpec) : _root_.Go.OpenSpec := { _root_.Go.OpenSpec.ofChange s with cond := some uptoSmall }

/-- 'laws.FnExactGoodSession', WHERE WHAT IT READS IS OF BULK AT MOST 1048576: true; the input reads as it did. -/
def fnExactGoodSessionUptoRow : OpenClaim := { program := "ytmbkdejlbeailaa", sum := "4e2b631742ef700168e5fe8ccf2fde0f7698e672e7901e7c841208191e9954da", func := "loop.example/g00170/laws.FnExactGoodSession", spec := "fnExactGoodSession", apart := false, narrowed := true }
def FnExactGoodSessionUptoSaid : Prop := fnExactGoodSessionUptoRow.holds Try.pinned (OpenSpec.upto fnExactGoodSessionSpec)

/-- 'laws.FnExactOpenSlot', WHERE WHAT IT READS IS OF BULK AT MOST 1048576: true; the input reads as it did. -/
def fnExactOpenSlotUptoRow : OpenClaim := { program := "ytmbkdejlbeailaa", sum := "4e2b631742ef700168e5fe8ccf2fde0f7698e672e7901e7c841208191e9954da", func := "loop.example/g00170/laws.FnExactOpenSlot", spec := "fnExactOpenSlot", apart := false, narrowed := true }
def FnExactOpenSlotUptoSaid : Prop := fnExactOpenSlotUptoRow.holds Try.pinned (OpenSpec.upto fnExactOpenSlotSpec)

/-- 'laws.FnExactCloseSlot', WHERE WHAT IT READS IS OF BULK AT MOST 1048576: true; the input reads as it did. -/
def fnExactCloseSlotUptoRow : OpenClaim := { program := "ytmbkdejlbeailaa", sum := "4e2b631742ef700168e5fe8ccf2fde0f7698e672e7901e7c841208191e9954da", func := "loop.example/g00170/laws.FnExactCloseSlot", spec := "fnExactCloseSlot", inPlace := ["internal/abi.NoEscape"], apart := false, narrowed := true }
def FnExactCloseSlotUptoSaid : Prop := fnExactCloseSlotUptoRow.holds Try.pinned (OpenSpec.upto fnExactCloseSlotSpec)

/-- 'laws.FnExactOpenIds', WHERE WHAT IT READS IS OF BULK AT MOST 1048576: true; the input reads as it did. -/
def fnExactOpenIdsUptoRow : OpenClaim := { program := "ytmbkdejlbeailaa", sum := "4e2b631742ef700168e5fe8ccf2fde0f7698e672e7901e7c841208191e9954da", func := "loop.example/g00170/laws.FnExactOpenIds", spec := "fnExactOpenIds", apart := false, narrowed := true }
def FnExactOpenIdsUptoSaid : Prop := fnExactOpenIdsUptoRow.holds Try.pinned (OpenSpec.upto fnExactOpenIdsSpec)

/-- 'laws.FnExactPlaySession', WHERE WHAT IT READS IS OF BULK AT MOST 1048576: true; the input reads as it did. -/
def fnExactPlaySessionUptoRow : OpenClaim := { program := "ytmbkdejlbeailaa", sum := "4e2b631742ef700168e5fe8ccf2fde0f7698e672e7901e7c841208191e9954da", func := "loop.example/g00170/laws.FnExactPlaySession", spec := "fnExactPlaySession", inPlace := ["internal/abi.NoEscape"], unfollowed := true, recurses := true, apart := false, narrowed := true }
def FnExactPlaySessionUptoSaid : Prop := fnExactPlaySessionUptoRow.holds Try.pinned (OpenSpec.upto fnExactPlaySessionSpec)

end Rows
end Go.Proofs.Ytmbkdejlbeailaa
