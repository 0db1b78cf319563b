/-
  FnExactOpenSlot returns true for every argument: the program's OpenSlot answers as the model's, leaves its argument alone, and its answer owns its memory. No condition.
-/
import Derived.Test.YtmbkdejlbeailaaOpenSlot
import Derived.Test.YtmbkdejlbeailaaOpenI
namespace Go.Proofs.Ytmbkdejlbeailaa
theorem openSlot_holds : Rows.FnExactOpenSlotSaid := OpenSlotL.over Sess.openI_some
end Go.Proofs.Ytmbkdejlbeailaa
