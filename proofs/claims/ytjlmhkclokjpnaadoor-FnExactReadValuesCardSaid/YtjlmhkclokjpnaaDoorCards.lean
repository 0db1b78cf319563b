/-
  DERIVED. GIVEN WITH THE SEED: THE CARDS: each row of YtjlmhkclokjpnaaDoorRows.lean that lists a variable, with what it lists TIED to the program's text (the seventh form; the later family's looks); each row that meets fmt, with fmt's text TOLD by the authors' own Lean function (tested against real Go, not proved from fmt's source: count such statements apart). THE CARD IS WHAT COUNTS. Prove the row's statement (the work); the ties are given (YtjlmhkclokjpnaaDoorTie.lean); close each card by the builder's one call (the guide's Derived/Test/ToyasCard.lean, 'card_holds'). Laid BY PROGRAM, IN A SANDBOX (cutbox-door.mjs). By AI agents, Wed Nov 11 2026. No macro, syntax, notation, axiom, sorry.
-/
import Derived.Test.YtjlmhkclokjpnaaDoorRows
import GoSem.ClaimSeven
namespace Go.Proofs.YtjlmhkclokjpnaaDoor
namespace Rows

/-- THE TIED CARD OF 'laws.FnExactSplitKeys'. -/
def fnExactSplitKeysCard : Claim7 := { stood := { row := fnExactSplitKeysRow, standIns := [], harness := (true, "ce28ad90df98da41fba0e723968df8f9745524f39ed34359d04461264f950b38"), looks := true }, kinds := [], alts := [], laidByText := true, laidKinds := [.data, .data, .data], laidTests := true, laidLooks := .later }
def FnExactSplitKeysCardSaid : Prop := Claim7.holds Tryd.pinned (.plain (OpenSpec.ofChange fnExactSplitKeysSpec)) fnExactSplitKeysCard

/-- THE TIED CARD OF 'laws.FnExactReadValues'. -/
def fnExactReadValuesCard : Claim7 := { stood := { row := fnExactReadValuesRow, standIns := [], harness := (true, "ce28ad90df98da41fba0e723968df8f9745524f39ed34359d04461264f950b38"), looks := true }, kinds := [], alts := [], laidByText := true, laidKinds := [.data, .data, .data, .data, .sentinel, .sentinel, .pinned], laidTests := true, laidLooks := .later }
def FnExactReadValuesCardSaid : Prop := Claim7.holds Tryd.pinned (.plain (OpenSpec.ofChange fnExactReadValuesSpec)) fnExactReadValuesCard

/-- THE TIED CARD OF 'laws.FnExactValuesText'. -/
def fnExactValuesTextCard : Claim7 := { stood := { row := fnExactValuesTextRow, standIns := [], harness := (true, "ce28ad90df98da41fba0e723968df8f9745524f39ed34359d04461264f950b38"), looks := true }, kinds := [], alts := [], laidByText := true, laidKinds := [.data, .data, .data], laidTests := true, laidLooks := .later }
def FnExactValuesTextCardSaid : Prop := Claim7.holds Tryd.pinned (.plain (OpenSpec.ofChange fnExactValuesTextSpec)) fnExactValuesTextCard

/-- THE SECOND FORM's CARD OF 'laws.FnExactSplitKeys'. -/
def fnExactSplitKeysUptoCard : Claim7 := { stood := { row := fnExactSplitKeysUptoRow, standIns := [], harness := (true, "ce28ad90df98da41fba0e723968df8f9745524f39ed34359d04461264f950b38"), looks := true }, kinds := [], alts := [], laidByText := true, laidKinds := [.data, .data, .data], laidTests := true, laidLooks := .later }
def FnExactSplitKeysUptoCardSaid : Prop := Claim7.holds Tryd.pinned (.plain (OpenSpec.upto fnExactSplitKeysSpec)) fnExactSplitKeysUptoCard

/-- THE SECOND FORM's CARD OF 'laws.FnExactReadValues'. -/
def fnExactReadValuesUptoCard : Claim7 := { stood := { row := fnExactReadValuesUptoRow, standIns := [], harness := (true, "ce28ad90df98da41fba0e723968df8f9745524f39ed34359d04461264f950b38"), looks := true }, kinds := [], alts := [], laidByText := true, laidKinds := [.data, .data, .data, .data, .sentinel, .sentinel, .pinned], laidTests := true, laidLooks := .later }
def FnExactReadValuesUptoCardSaid : Prop := Claim7.holds Tryd.pinned (.plain (OpenSpec.upto fnExactReadValuesSpec)) fnExactReadValuesUptoCard

/-- THE SECOND FORM's CARD OF 'laws.FnExactValuesText'. -/
def fnExactValuesTextUptoCard : Claim7 := { stood := { row := fnExactValuesTextUptoRow, standIns := [], harness := (true, "ce28ad90df98da41fba0e723968df8f9745524f39ed34359d04461264f950b38"), looks := true }, kinds := [], alts := [], laidByText := true, laidKinds := [.data, .data, .data], laidTests := true, laidLooks := .later }
def FnExactValuesTextUptoCardSaid : Prop := Claim7.holds Tryd.pinned (.plain (OpenSpec.upto fnExactValuesTextSpec)) fnExactValuesTextUptoCard
end Rows
end Go.Proofs.YtjlmhkclokjpnaaDoor
