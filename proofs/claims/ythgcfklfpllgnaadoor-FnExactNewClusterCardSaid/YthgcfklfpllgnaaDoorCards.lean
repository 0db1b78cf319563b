/-
  DERIVED. GIVEN WITH THE SEED: THE CARDS: each row of YthgcfklfpllgnaaDoorRows.lean that lists a variable, with what it lists TIED to the program's text (the seventh form; the later family's looks); each row that meets fmt, with fmt's text TOLD by the authors' own Lean function (tested against real Go, not proved from fmt's source: count such statements apart). THE CARD IS WHAT COUNTS. Prove the row's statement (the work); the ties are given (YthgcfklfpllgnaaDoorTie.lean); close each card by the builder's one call (the guide's Derived/Test/ToyasCard.lean, 'card_holds'). Laid BY PROGRAM, IN A SANDBOX (cutbox-door.mjs). By AI agents, Wed Nov 11 2026. No macro, syntax, notation, axiom, sorry.
-/
import Derived.Test.YthgcfklfpllgnaaDoorRows
import GoSem.ClaimSeven
namespace Go.Proofs.YthgcfklfpllgnaaDoor
namespace Rows

/-- THE TIED CARD OF 'laws.FnExactNewCluster'. -/
def fnExactNewClusterCard : Claim7 := { stood := { row := fnExactNewClusterRow, standIns := [], harness := (true, "7357eee3e4c395723c425ad7da39443bbc4d524da8457ce6c1bd112bd921465e"), looks := false }, kinds := [], alts := [], laidByText := true, laidKinds := [.data, .data, .data], laidTests := true, laidLooks := .later }
def FnExactNewClusterCardSaid : Prop := Claim7.holds Tryd.pinned (.plain (OpenSpec.ofChange fnExactNewClusterSpec)) fnExactNewClusterCard

/-- THE SECOND FORM's CARD OF 'laws.FnExactNewCluster'. -/
def fnExactNewClusterUptoCard : Claim7 := { stood := { row := fnExactNewClusterUptoRow, standIns := [], harness := (true, "7357eee3e4c395723c425ad7da39443bbc4d524da8457ce6c1bd112bd921465e"), looks := false }, kinds := [], alts := [], laidByText := true, laidKinds := [.data, .data, .data], laidTests := true, laidLooks := .later }
def FnExactNewClusterUptoCardSaid : Prop := Claim7.holds Tryd.pinned (.plain (OpenSpec.upto fnExactNewClusterSpec)) fnExactNewClusterUptoCard
end Rows
end Go.Proofs.YthgcfklfpllgnaaDoor
