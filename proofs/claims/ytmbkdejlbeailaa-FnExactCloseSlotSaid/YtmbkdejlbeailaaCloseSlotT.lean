/-
  FnExactCloseSlot returns true for every argument: the program's CloseSlot answers as the model's, leaves its argument alone, and its answer owns its memory. No condition.
-/
import Derived.Test.YtmbkdejlbeailaaCloseSlot
import Derived.Test.YtmbkdejlbeailaaCloseI
namespace Go.Proofs.Ytmbkdejlbeailaa
theorem closeSlot_holds : Rows.FnExactCloseSlotSaid := CloseSlotL.over Sess.closeI_some
end Go.Proofs.Ytmbkdejlbeailaa
