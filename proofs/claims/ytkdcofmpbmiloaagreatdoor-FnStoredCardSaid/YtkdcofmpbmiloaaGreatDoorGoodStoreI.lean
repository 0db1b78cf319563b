/-
  The program's chargeOfItem and GoodStore: what they answer, by the plain functions. GoodStore fills a set of keys and a set of tokens and compares their sizes.
-/
import Derived.Test.YtkdcofmpbmiloaaGreatDoorStoreS
import Derived.Test.YtkdcofmpbmiloaaGreatDoorY4
namespace Go.Proofs.YtkdcofmpbmiloaaGreatDoor
namespace Store
open Go.RowKit Base GoodKey Items Keep Go.Maps
set_option linter.unusedVariables false

set_option maxRecDepth 10000 in
set_option maxHeartbeats 400000 in
theorem chargeOf_any (x : Itm) (w : World) (hf : Small x) :
    Calls Tryz.prog 27 #[.agg #[.string x.key, .int .i64 x.flags, .string x.data, .int .i64 x.upto, .int .i64 x.token]] w fun e w' => e = .returned (.int .i64 (charge x)) ∧ Below w.heap.size w w' := by
  obtain ⟨hk, hd⟩ := hf
  go_enter Tryz.func27, Tryz.ntmps27
  go_wp2
  go_ret
  exact ⟨ret_int rfl, bel1 w _⟩

theorem keyLaw : Keyed Tryz.prog 9 := string_keyed Tryz.underlying9
theorem tokLaw : Keyed Tryz.prog 3 := int_keyed Tryz.underlying3

end Store
end Go.Proofs.YtkdcofmpbmiloaaGreatDoor
