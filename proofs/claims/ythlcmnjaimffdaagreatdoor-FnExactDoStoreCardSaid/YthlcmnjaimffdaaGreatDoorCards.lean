/-
  DERIVED. GIVEN WITH THE SEED: THE CARDS: each row of YthlcmnjaimffdaaGreatDoorRows.lean that lists a variable, with what it lists TIED to the program's text (the seventh form; the later family's looks); each row that meets fmt, with fmt's text TOLD by the authors' own Lean function (tested against real Go, not proved from fmt's source: count such statements apart). THE CARD IS WHAT COUNTS. Prove the row's statement (the work); the ties are given (YthlcmnjaimffdaaGreatDoorTie.lean); close each card by the builder's one call (the guide's Derived/Test/ToyasCard.lean, 'card_holds'). Laid BY PROGRAM, IN A SANDBOX (cutbox-door.mjs). By AI agents, Wed Nov 11 2026. No macro, syntax, notation, axiom, sorry.
-/
import Derived.Test.YthlcmnjaimffdaaGreatDoorRows
import GoSem.ClaimSeven
namespace Go.Proofs.YthlcmnjaimffdaaGreatDoor
namespace Rows

/-- THE TIED CARD OF 'laws.FnExactDoStore'. -/
def fnExactDoStoreCard : Claim7 := { stood := { row := fnExactDoStoreRow, standIns := [], harness := (true, "ff03e902d2c1162099b19535d585bf8a6d8056d58c9a5bdb884b02acd49e7287"), looks := true }, kinds := [], alts := [], laidByText := true, laidKinds := [.data, .data, .data, .sentinel, .sentinel, .sentinel], laidTests := true, laidLooks := .later }
def FnExactDoStoreCardSaid : Prop := Claim7.holds Tryz.pinned (.plain (OpenSpec.ofChange fnExactDoStoreSpec)) fnExactDoStoreCard

/-- THE SECOND FORM's CARD OF 'laws.FnExactDoStore'. -/
def fnExactDoStoreUptoCard : Claim7 := { stood := { row := fnExactDoStoreUptoRow, standIns := [], harness := (true, "ff03e902d2c1162099b19535d585bf8a6d8056d58c9a5bdb884b02acd49e7287"), looks := true }, kinds := [], alts := [], laidByText := true, laidKinds := [.data, .data, .data, .sentinel, .sentinel, .sentinel], laidTests := true, laidLooks := .later }
def FnExactDoStoreUptoCardSaid : Prop := Claim7.holds Tryz.pinned (.plain (OpenSpec.upto fnExactDoStoreSpec)) fnExactDoStoreUptoCard
end Rows
end Go.Proofs.YthlcmnjaimffdaaGreatDoor
