/-
  DERIVED. GIVEN WITH THE SEED: THE CARDS: each row of YteiecijgmdbajaaDoorRows.lean that lists a variable, with what it lists TIED to the program's text (the seventh form; the later family's looks); each row that meets fmt, with fmt's text TOLD by the authors' own Lean function (tested against real Go, not proved from fmt's source: count such statements apart). THE CARD IS WHAT COUNTS. Prove the row's statement (the work); the ties are given (YteiecijgmdbajaaDoorTie.lean); close each card by the builder's one call (the guide's Derived/Test/ToyasCard.lean, 'card_holds'). Laid BY PROGRAM, IN A SANDBOX (cutbox-door.mjs). By AI agents, Wed Nov 11 2026. No macro, syntax, notation, axiom, sorry.
-/
import Derived.Test.YteiecijgmdbajaaDoorRows
import GoSem.ClaimSeven
namespace Go.Proofs.YteiecijgmdbajaaDoor
namespace Rows

/-- THE TIED CARD OF 'laws.FnExactReadNodes'. -/
def fnExactReadNodesCard : Claim7 := { stood := { row := fnExactReadNodesRow, standIns := [], harness := (true, "1888172de8a5490408ef7932eef1dbeddf7a69f765b20409f450dfb19689ae2a"), looks := true }, kinds := [], alts := [], laidByText := true, laidKinds := [.data, .data, .data, .data, .sentinel, .sentinel, .pinned], laidTests := true, laidLooks := .later }
def FnExactReadNodesCardSaid : Prop := Claim7.holds Tryd.pinned (.plain (OpenSpec.ofChange fnExactReadNodesSpec)) fnExactReadNodesCard

/-- THE TIED CARD OF 'laws.FnExactNodesText'. -/
def fnExactNodesTextCard : Claim7 := { stood := { row := fnExactNodesTextRow, standIns := [], harness := (true, "1888172de8a5490408ef7932eef1dbeddf7a69f765b20409f450dfb19689ae2a"), looks := true }, kinds := [], alts := [], laidByText := true, laidKinds := [.data, .data, .data], laidTests := true, laidLooks := .later }
def FnExactNodesTextCardSaid : Prop := Claim7.holds Tryd.pinned (.plain (OpenSpec.ofChange fnExactNodesTextSpec)) fnExactNodesTextCard

/-- THE SECOND FORM's CARD OF 'laws.FnExactReadNodes'. -/
def fnExactReadNodesUptoCard : Claim7 := { stood := { row := fnExactReadNodesUptoRow, standIns := [], harness := (true, "1888172de8a5490408ef7932eef1dbeddf7a69f765b20409f450dfb19689ae2a"), looks := true }, kinds := [], alts := [], laidByText := true, laidKinds := [.data, .data, .data, .data, .sentinel, .sentinel, .pinned], laidTests := true, laidLooks := .later }
def FnExactReadNodesUptoCardSaid : Prop := Claim7.holds Tryd.pinned (.plain (OpenSpec.upto fnExactReadNodesSpec)) fnExactReadNodesUptoCard

/-- THE SECOND FORM's CARD OF 'laws.FnExactNodesText'. -/
def fnExactNodesTextUptoCard : Claim7 := { stood := { row := fnExactNodesTextUptoRow, standIns := [], harness := (true, "1888172de8a5490408ef7932eef1dbeddf7a69f765b20409f450dfb19689ae2a"), looks := true }, kinds := [], alts := [], laidByText := true, laidKinds := [.data, .data, .data], laidTests := true, laidLooks := .later }
def FnExactNodesTextUptoCardSaid : Prop := Claim7.holds Tryd.pinned (.plain (OpenSpec.upto fnExactNodesTextSpec)) fnExactNodesTextUptoCard
end Rows
end Go.Proofs.YteiecijgmdbajaaDoor
