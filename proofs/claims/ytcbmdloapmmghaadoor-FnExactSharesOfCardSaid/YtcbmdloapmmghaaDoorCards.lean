/-
  DERIVED. GIVEN WITH THE SEED: THE CARDS: each row of YtcbmdloapmmghaaDoorRows.lean that lists a variable, with what it lists TIED to the program's text (the seventh form; the later family's looks); each row that meets fmt, with fmt's text TOLD by the authors' own Lean function (tested against real Go, not proved from fmt's source: count such statements apart). THE CARD IS WHAT COUNTS. Prove the row's statement (the work); the ties are given (YtcbmdloapmmghaaDoorTie.lean); close each card by the builder's one call (the guide's Derived/Test/ToyasCard.lean, 'card_holds'). Laid BY PROGRAM, IN A SANDBOX (cutbox-door.mjs). By AI agents, Wed Nov 11 2026. No macro, syntax, notation, axiom, sorry.
-/
import Derived.Test.YtcbmdloapmmghaaDoorRows
import GoSem.ClaimSeven
namespace Go.Proofs.YtcbmdloapmmghaaDoor
namespace Rows

/-- THE TIED CARD OF 'laws.FnExactRingOf'. -/
def fnExactRingOfCard : Claim7 := { stood := { row := fnExactRingOfRow, standIns := [], harness := (true, "673109f4dcaeca23264cd01b2b7678d06995b3120394f1b550640605513741de"), looks := false }, kinds := [], alts := [], laidByText := true, laidKinds := [.data, .data, .data], laidTests := true, laidLooks := .later }
def FnExactRingOfCardSaid : Prop := Claim7.holds Tryd.pinned (.plain (OpenSpec.ofChange fnExactRingOfSpec)) fnExactRingOfCard

/-- THE TIED CARD OF 'laws.FnExactOwnerOf'. -/
def fnExactOwnerOfCard : Claim7 := { stood := { row := fnExactOwnerOfRow, standIns := [], harness := (true, "673109f4dcaeca23264cd01b2b7678d06995b3120394f1b550640605513741de"), looks := false }, kinds := [], alts := [], laidByText := true, laidKinds := [.data, .data, .data], laidTests := true, laidLooks := .later }
def FnExactOwnerOfCardSaid : Prop := Claim7.holds Tryd.pinned (.plain (OpenSpec.ofChange fnExactOwnerOfSpec)) fnExactOwnerOfCard

/-- THE TIED CARD OF 'laws.FnExactMovedKeys'. -/
def fnExactMovedKeysCard : Claim7 := { stood := { row := fnExactMovedKeysRow, standIns := [], harness := (true, "673109f4dcaeca23264cd01b2b7678d06995b3120394f1b550640605513741de"), looks := false }, kinds := [], alts := [], laidByText := true, laidKinds := [.data, .data, .data], laidTests := true, laidLooks := .later }
def FnExactMovedKeysCardSaid : Prop := Claim7.holds Tryd.pinned (.plain (OpenSpec.ofChange fnExactMovedKeysSpec)) fnExactMovedKeysCard

/-- THE TIED CARD OF 'laws.FnExactSharesOf'. -/
def fnExactSharesOfCard : Claim7 := { stood := { row := fnExactSharesOfRow, standIns := [], harness := (true, "673109f4dcaeca23264cd01b2b7678d06995b3120394f1b550640605513741de"), looks := false }, kinds := [], alts := [], laidByText := true, laidKinds := [.data, .data, .data], laidTests := true, laidLooks := .later }
def FnExactSharesOfCardSaid : Prop := Claim7.holds Tryd.pinned (.plain (OpenSpec.ofChange fnExactSharesOfSpec)) fnExactSharesOfCard

/-- THE SECOND FORM's CARD OF 'laws.FnExactRingOf'. -/
def fnExactRingOfUptoCard : Claim7 := { stood := { row := fnExactRingOfUptoRow, standIns := [], harness := (true, "673109f4dcaeca23264cd01b2b7678d06995b3120394f1b550640605513741de"), looks := false }, kinds := [], alts := [], laidByText := true, laidKinds := [.data, .data, .data], laidTests := true, laidLooks := .later }
def FnExactRingOfUptoCardSaid : Prop := Claim7.holds Tryd.pinned (.plain (OpenSpec.upto fnExactRingOfSpec)) fnExactRingOfUptoCard

/-- THE SECOND FORM's CARD OF 'laws.FnExactOwnerOf'. -/
def fnExactOwnerOfUptoCard : Claim7 := { stood := { row := fnExactOwnerOfUptoRow, standIns := [], harness := (true, "673109f4dcaeca23264cd01b2b7678d06995b3120394f1b550640605513741de"), looks := false }, kinds := [], alts := [], laidByText := true, laidKinds := [.data, .data, .data], laidTests := true, laidLooks := .later }
def FnExactOwnerOfUptoCardSaid : Prop := Claim7.holds Tryd.pinned (.plain (OpenSpec.upto fnExactOwnerOfSpec)) fnExactOwnerOfUptoCard

/-- THE SECOND FORM's CARD OF 'laws.FnExactMovedKeys'. -/
def fnExactMovedKeysUptoCard : Claim7 := { stood := { row := fnExactMovedKeysUptoRow, standIns := [], harness := (true, "673109f4dcaeca23264cd01b2b7678d06995b3120394f1b550640605513741de"), looks := false }, kinds := [], alts := [], laidByText := true, laidKinds := [.data, .data, .data], laidTests := true, laidLooks := .later }
def FnExactMovedKeysUptoCardSaid : Prop := Claim7.holds Tryd.pinned (.plain (OpenSpec.upto fnExactMovedKeysSpec)) fnExactMovedKeysUptoCard

/-- THE SECOND FORM's CARD OF 'laws.FnExactSharesOf'. -/
def fnExactSharesOfUptoCard : Claim7 := { stood := { row := fnExactSharesOfUptoRow, standIns := [], harness := (true, "673109f4dcaeca23264cd01b2b7678d06995b3120394f1b550640605513741de"), looks := false }, kinds := [], alts := [], laidByText := true, laidKinds := [.data, .data, .data], laidTests := true, laidLooks := .later }
def FnExactSharesOfUptoCardSaid : Prop := Claim7.holds Tryd.pinned (.plain (OpenSpec.upto fnExactSharesOfSpec)) fnExactSharesOfUptoCard
end Rows
end Go.Proofs.YtcbmdloapmmghaaDoor
