/-
  DERIVED. GIVEN WITH THE SEED: THE CARDS: each row of YtmdookiepiebnaaGreatDoorRows.lean that lists a variable, with what it lists TIED to the program's text (the seventh form; the later family's looks); each row that meets fmt, with fmt's text TOLD by the authors' own Lean function (tested against real Go, not proved from fmt's source: count such statements apart). THE CARD IS WHAT COUNTS. Prove the row's statement (the work); the ties are given (YtmdookiepiebnaaGreatDoorTie.lean); close each card by the builder's one call (the guide's Derived/Test/ToyasCard.lean, 'card_holds'). Laid BY PROGRAM, IN A SANDBOX (cutbox-door.mjs). By AI agents, Wed Nov 11 2026. No macro, syntax, notation, axiom, sorry.
-/
import Derived.Test.YtmdookiepiebnaaGreatDoorRows
import GoSem.ClaimSeven
namespace Go.Proofs.YtmdookiepiebnaaGreatDoor
namespace Rows

/-- THE TIED CARD OF 'laws.FnExactMergeAnswers'. -/
def fnExactMergeAnswersCard : Claim7 := { stood := { row := fnExactMergeAnswersRow, standIns := [], harness := (true, "c198f3d300233d2d5d5e3e09f4cd19bde24506f313d64083dbd46113f8c825b9"), looks := true }, kinds := [], alts := [], laidByText := true, laidKinds := [.data, .data, .data, .data, .sentinel, .sentinel, .pinned], laidTests := true, laidLooks := .later }
def FnExactMergeAnswersCardSaid : Prop := Claim7.holds Tryz.pinned (.plain (OpenSpec.ofChange fnExactMergeAnswersSpec)) fnExactMergeAnswersCard

/-- THE SECOND FORM's CARD OF 'laws.FnExactMergeAnswers'. -/
def fnExactMergeAnswersUptoCard : Claim7 := { stood := { row := fnExactMergeAnswersUptoRow, standIns := [], harness := (true, "c198f3d300233d2d5d5e3e09f4cd19bde24506f313d64083dbd46113f8c825b9"), looks := true }, kinds := [], alts := [], laidByText := true, laidKinds := [.data, .data, .data, .data, .sentinel, .sentinel, .pinned], laidTests := true, laidLooks := .later }
def FnExactMergeAnswersUptoCardSaid : Prop := Claim7.holds Tryz.pinned (.plain (OpenSpec.upto fnExactMergeAnswersSpec)) fnExactMergeAnswersUptoCard
end Rows
end Go.Proofs.YtmdookiepiebnaaGreatDoor
