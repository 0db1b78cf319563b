/-
  DERIVED. GIVEN WITH THE SEED: THE CARDS: each row of YtkodgbalhnbhcaaGreatDoorRows.lean that lists a variable, with what it lists TIED to the program's text (the seventh form; the later family's looks); each row that meets fmt, with fmt's text TOLD by the authors' own Lean function (tested against real Go, not proved from fmt's source: count such statements apart). THE CARD IS WHAT COUNTS. Prove the row's statement (the work); the ties are given (YtkodgbalhnbhcaaGreatDoorTie.lean); close each card by the builder's one call (the guide's Derived/Test/ToyasCard.lean, 'card_holds'). Laid BY PROGRAM, IN A SANDBOX (cutbox-door.mjs). By AI agents, Wed Nov 11 2026. No macro, syntax, notation, axiom, sorry.
-/
import Derived.Test.YtkodgbalhnbhcaaGreatDoorRows
import GoSem.ClaimSeven
namespace Go.Proofs.YtkodgbalhnbhcaaGreatDoor
namespace Rows

/-- THE TIED CARD OF 'laws.FnExactCrashNode'. -/
def fnExactCrashNodeCard : Claim7 := { stood := { row := fnExactCrashNodeRow, standIns := [], harness := (true, "50c05cadc009c9615aa4ea37630dff36c605d618a97e332dc8c5ec507b210ba9"), looks := false }, kinds := [], alts := [], laidByText := true, laidKinds := [.data, .data, .data], laidTests := true, laidLooks := .later }
def FnExactCrashNodeCardSaid : Prop := Claim7.holds Tryz.pinned (.plain (OpenSpec.ofChange fnExactCrashNodeSpec)) fnExactCrashNodeCard

/-- THE TIED CARD OF 'laws.FnExactEndMove'. -/
def fnExactEndMoveCard : Claim7 := { stood := { row := fnExactEndMoveRow, standIns := [], harness := (true, "50c05cadc009c9615aa4ea37630dff36c605d618a97e332dc8c5ec507b210ba9"), looks := false }, kinds := [], alts := [], laidByText := true, laidKinds := [.data, .data, .data], laidTests := true, laidLooks := .later }
def FnExactEndMoveCardSaid : Prop := Claim7.holds Tryz.pinned (.plain (OpenSpec.ofChange fnExactEndMoveSpec)) fnExactEndMoveCard

/-- THE TIED CARD OF 'laws.FnExactBeginMove'. -/
def fnExactBeginMoveCard : Claim7 := { stood := { row := fnExactBeginMoveRow, standIns := [], harness := (true, "50c05cadc009c9615aa4ea37630dff36c605d618a97e332dc8c5ec507b210ba9"), looks := false }, kinds := [], alts := [], laidByText := true, laidKinds := [.data, .data, .data], laidTests := true, laidLooks := .later }
def FnExactBeginMoveCardSaid : Prop := Claim7.holds Tryz.pinned (.plain (OpenSpec.ofChange fnExactBeginMoveSpec)) fnExactBeginMoveCard

/-- THE TIED CARD OF 'laws.FnExactGoodCluster'. -/
def fnExactGoodClusterCard : Claim7 := { stood := { row := fnExactGoodClusterRow, standIns := [], harness := (true, "50c05cadc009c9615aa4ea37630dff36c605d618a97e332dc8c5ec507b210ba9"), looks := false }, kinds := [], alts := [], laidByText := true, laidKinds := [.data, .data, .data], laidTests := true, laidLooks := .later }
def FnExactGoodClusterCardSaid : Prop := Claim7.holds Tryz.pinned (.plain (OpenSpec.ofChange fnExactGoodClusterSpec)) fnExactGoodClusterCard

/-- THE TIED CARD OF 'laws.FnExactPlacesOf'. -/
def fnExactPlacesOfCard : Claim7 := { stood := { row := fnExactPlacesOfRow, standIns := [], harness := (true, "50c05cadc009c9615aa4ea37630dff36c605d618a97e332dc8c5ec507b210ba9"), looks := false }, kinds := [], alts := [], laidByText := true, laidKinds := [.data, .data, .data], laidTests := true, laidLooks := .later }
def FnExactPlacesOfCardSaid : Prop := Claim7.holds Tryz.pinned (.plain (OpenSpec.ofChange fnExactPlacesOfSpec)) fnExactPlacesOfCard

/-- THE SECOND FORM's CARD OF 'laws.FnExactCrashNode'. -/
def fnExactCrashNodeUptoCard : Claim7 := { stood := { row := fnExactCrashNodeUptoRow, standIns := [], harness := (true, "50c05cadc009c9615aa4ea37630dff36c605d618a97e332dc8c5ec507b210ba9"), looks := false }, kinds := [], alts := [], laidByText := true, laidKinds := [.data, .data, .data], laidTests := true, laidLooks := .later }
def FnExactCrashNodeUptoCardSaid : Prop := Claim7.holds Tryz.pinned (.plain (OpenSpec.upto fnExactCrashNodeSpec)) fnExactCrashNodeUptoCard

/-- THE SECOND FORM's CARD OF 'laws.FnExactEndMove'. -/
def fnExactEndMoveUptoCard : Claim7 := { stood := { row := fnExactEndMoveUptoRow, standIns := [], harness := (true, "50c05cadc009c9615aa4ea37630dff36c605d618a97e332dc8c5ec507b210ba9"), looks := false }, kinds := [], alts := [], laidByText := true, laidKinds := [.data, .data, .data], laidTests := true, laidLooks := .later }
def FnExactEndMoveUptoCardSaid : Prop := Claim7.holds Tryz.pinned (.plain (OpenSpec.upto fnExactEndMoveSpec)) fnExactEndMoveUptoCard

/-- THE SECOND FORM's CARD OF 'laws.FnExactBeginMove'. -/
def fnExactBeginMoveUptoCard : Claim7 := { stood := { row := fnExactBeginMoveUptoRow, standIns := [], harness := (true, "50c05cadc009c9615aa4ea37630dff36c605d618a97e332dc8c5ec507b210ba9"), looks := false }, kinds := [], alts := [], laidByText := true, laidKinds := [.data, .data, .data], laidTests := true, laidLooks := .later }
def FnExactBeginMoveUptoCardSaid : Prop := Claim7.holds Tryz.pinned (.plain (OpenSpec.upto fnExactBeginMoveSpec)) fnExactBeginMoveUptoCard

/-- THE SECOND FORM's CARD OF 'laws.FnExactGoodCluster'. -/
def fnExactGoodClusterUptoCard : Claim7 := { stood := { row := fnExactGoodClusterUptoRow, standIns := [], harness := (true, "50c05cadc009c9615aa4ea37630dff36c605d618a97e332dc8c5ec507b210ba9"), looks := false }, kinds := [], alts := [], laidByText := true, laidKinds := [.data, .data, .data], laidTests := true, laidLooks := .later }
def FnExactGoodClusterUptoCardSaid : Prop := Claim7.holds Tryz.pinned (.plain (OpenSpec.upto fnExactGoodClusterSpec)) fnExactGoodClusterUptoCard

/-- THE SECOND FORM's CARD OF 'laws.FnExactPlacesOf'. -/
def fnExactPlacesOfUptoCard : Claim7 := { stood := { row := fnExactPlacesOfUptoRow, standIns := [], harness := (true, "50c05cadc009c9615aa4ea37630dff36c605d618a97e332dc8c5ec507b210ba9"), looks := false }, kinds := [], alts := [], laidByText := true, laidKinds := [.data, .data, .data], laidTests := true, laidLooks := .later }
def FnExactPlacesOfUptoCardSaid : Prop := Claim7.holds Tryz.pinned (.plain (OpenSpec.upto fnExactPlacesOfSpec)) fnExactPlacesOfUptoCard
end Rows
end Go.Proofs.YtkodgbalhnbhcaaGreatDoor
