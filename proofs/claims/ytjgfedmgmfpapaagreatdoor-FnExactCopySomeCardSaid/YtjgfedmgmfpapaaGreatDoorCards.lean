/-
  DERIVED. GIVEN WITH THE SEED: THE CARDS: each row of YtjgfedmgmfpapaaGreatDoorRows.lean that lists a variable, with what it lists TIED to the program's text (the seventh form; the later family's looks); each row that meets fmt, with fmt's text TOLD by the authors' own Lean function (tested against real Go, not proved from fmt's source: count such statements apart). THE CARD IS WHAT COUNTS. Prove the row's statement (the work); the ties are given (YtjgfedmgmfpapaaGreatDoorTie.lean); close each card by the builder's one call (the guide's Derived/Test/ToyasCard.lean, 'card_holds'). Laid BY PROGRAM, IN A SANDBOX (cutbox-door.mjs). By AI agents, Wed Nov 11 2026. No macro, syntax, notation, axiom, sorry.
-/
import Derived.Test.YtjgfedmgmfpapaaGreatDoorRows
import GoSem.ClaimSeven
namespace Go.Proofs.YtjgfedmgmfpapaaGreatDoor
namespace Rows

/-- THE TIED CARD OF 'laws.FnExactCopySome'. -/
def fnExactCopySomeCard : Claim7 := { stood := { row := fnExactCopySomeRow, standIns := [], harness := (true, "ff67ff46599a5c8a06f955532914277266f4bde484debb482e57567b91bef30f"), looks := true }, kinds := [], alts := [], laidByText := true, laidKinds := [.data, .data, .data, .sentinel], laidTests := true, laidLooks := .later }
def FnExactCopySomeCardSaid : Prop := Claim7.holds Tryz.pinned (.plain (OpenSpec.ofChange fnExactCopySomeSpec)) fnExactCopySomeCard

/-- THE TIED CARD OF 'laws.FnExactDoCluster'. -/
def fnExactDoClusterCard : Claim7 := { stood := { row := fnExactDoClusterRow, standIns := [], harness := (true, "ff67ff46599a5c8a06f955532914277266f4bde484debb482e57567b91bef30f"), looks := true }, kinds := [], alts := [], laidByText := true, laidKinds := [.data, .data, .data, .sentinel, .sentinel, .sentinel], laidTests := true, laidLooks := .later }
def FnExactDoClusterCardSaid : Prop := Claim7.holds Tryz.pinned (.plain (OpenSpec.ofChange fnExactDoClusterSpec)) fnExactDoClusterCard

/-- THE SECOND FORM's CARD OF 'laws.FnExactCopySome'. -/
def fnExactCopySomeUptoCard : Claim7 := { stood := { row := fnExactCopySomeUptoRow, standIns := [], harness := (true, "ff67ff46599a5c8a06f955532914277266f4bde484debb482e57567b91bef30f"), looks := true }, kinds := [], alts := [], laidByText := true, laidKinds := [.data, .data, .data, .sentinel], laidTests := true, laidLooks := .later }
def FnExactCopySomeUptoCardSaid : Prop := Claim7.holds Tryz.pinned (.plain (OpenSpec.upto fnExactCopySomeSpec)) fnExactCopySomeUptoCard

/-- THE SECOND FORM's CARD OF 'laws.FnExactDoCluster'. -/
def fnExactDoClusterUptoCard : Claim7 := { stood := { row := fnExactDoClusterUptoRow, standIns := [], harness := (true, "ff67ff46599a5c8a06f955532914277266f4bde484debb482e57567b91bef30f"), looks := true }, kinds := [], alts := [], laidByText := true, laidKinds := [.data, .data, .data, .sentinel, .sentinel, .sentinel], laidTests := true, laidLooks := .later }
def FnExactDoClusterUptoCardSaid : Prop := Claim7.holds Tryz.pinned (.plain (OpenSpec.upto fnExactDoClusterSpec)) fnExactDoClusterUptoCard
end Rows
end Go.Proofs.YtjgfedmgmfpapaaGreatDoor
