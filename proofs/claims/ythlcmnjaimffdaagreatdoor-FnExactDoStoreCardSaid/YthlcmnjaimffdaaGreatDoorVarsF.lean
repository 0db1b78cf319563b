/-
  What the variables hold: the library's, and errFull.
-/
import Derived.Test.YthlcmnjaimffdaaGreatDoorCountV
import Derived.Test.YthlcmnjaimffdaaGreatDoorShelfRF
namespace Go.Proofs.YthlcmnjaimffdaaGreatDoor
namespace Shelf
open Go.RowKit Base
def VarsF (w : World) : Prop := Count.Vars w ∧ ∃ p, FullIs w p
theorem VarsF.below {w w' : World} (h : VarsF w) (hb : Below w.heap.size w w') : VarsF w' := ⟨h.1.below hb, h.2.imp fun _ hp => hp.below hb⟩
end Shelf
end Go.Proofs.YthlcmnjaimffdaaGreatDoor
