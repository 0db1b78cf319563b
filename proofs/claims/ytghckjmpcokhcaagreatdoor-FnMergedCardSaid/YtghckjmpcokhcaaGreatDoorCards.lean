/-
  DERIVED. GIVEN WITH THE SEED: THE CARDS: each row of YtghckjmpcokhcaaGreatDoorRows.lean that lists a variable, with what it lists TIED to the program's text (the seventh form; the later family's looks); each row that meets fmt, with fmt's text TOLD by the authors' own Lean function (tested against real Go, not proved from fmt's source: count such statements apart). THE CARD IS WHAT COUNTS. Prove the row's statement (the work); the ties are given (YtghckjmpcokhcaaGreatDoorTie.lean); close each card by the builder's one call (the guide's Derived/Test/ToyasCard.lean, 'card_holds'). Laid BY PROGRAM, IN A SANDBOX (cutbox-door.mjs). By AI agents, Wed Nov 11 2026. No macro, syntax, notation, axiom, sorry.
-/
import Derived.Test.YtghckjmpcokhcaaGreatDoorRows
import GoSem.ClaimSeven
namespace Go.Proofs.YtghckjmpcokhcaaGreatDoor
namespace Rows

/-- THE TIED CARD OF 'laws.FnMerged'. -/
def fnMergedCard : Claim7 := { stood := { row := fnMergedRow, standIns := [], harness := (true, "0696b564be821579aae5bffdc71b71c8052c8fa5ab6f5e8e3c8af88d3fb0ac50"), looks := true }, kinds := [], alts := [], laidByText := true, laidKinds := [.data, .data, .data, .data, .sentinel, .sentinel, .pinned], laidTests := true, laidLooks := .later }
def FnMergedCardSaid : Prop := Claim7.holds Tryz.pinned (.plain (OpenSpec.ofChange fnMergedSpec)) fnMergedCard

/-- THE TIED CARD OF 'laws.FnExactMergeAnswers'. -/
def fnExactMergeAnswersCard : Claim7 := { stood := { row := fnExactMergeAnswersRow, standIns := [], harness := (true, "0696b564be821579aae5bffdc71b71c8052c8fa5ab6f5e8e3c8af88d3fb0ac50"), looks := true }, kinds := [], alts := [], laidByText := true, laidKinds := [.data, .data, .data, .data, .sentinel, .sentinel, .pinned], laidTests := true, laidLooks := .later }
def FnExactMergeAnswersCardSaid : Prop := Claim7.holds Tryz.pinned (.plain (OpenSpec.ofChange fnExactMergeAnswersSpec)) fnExactMergeAnswersCard

/-- THE SECOND FORM's CARD OF 'laws.FnMerged'. -/
def fnMergedUptoCard : Claim7 := { stood := { row := fnMergedUptoRow, standIns := [], harness := (true, "0696b564be821579aae5bffdc71b71c8052c8fa5ab6f5e8e3c8af88d3fb0ac50"), looks := true }, kinds := [], alts := [], laidByText := true, laidKinds := [.data, .data, .data, .data, .sentinel, .sentinel, .pinned], laidTests := true, laidLooks := .later }
def FnMergedUptoCardSaid : Prop := Claim7.holds Tryz.pinned (.plain (OpenSpec.upto fnMergedSpec)) fnMergedUptoCard

/-- THE SECOND FORM's CARD OF 'laws.FnExactMergeAnswers'. -/
def fnExactMergeAnswersUptoCard : Claim7 := { stood := { row := fnExactMergeAnswersUptoRow, standIns := [], harness := (true, "0696b564be821579aae5bffdc71b71c8052c8fa5ab6f5e8e3c8af88d3fb0ac50"), looks := true }, kinds := [], alts := [], laidByText := true, laidKinds := [.data, .data, .data, .data, .sentinel, .sentinel, .pinned], laidTests := true, laidLooks := .later }
def FnExactMergeAnswersUptoCardSaid : Prop := Claim7.holds Tryz.pinned (.plain (OpenSpec.upto fnExactMergeAnswersSpec)) fnExactMergeAnswersUptoCard
end Rows
end Go.Proofs.YtghckjmpcokhcaaGreatDoor
