/-
  FnExactOpenIds returns true for every session: the program's OpenIds answers as the model's, leaves its argument alone, and its answer owns its memory. No condition.
-/
import Derived.Test.YtmbkdejlbeailaaOpenIds
namespace Go.Proofs.Ytmbkdejlbeailaa
theorem openIds_holds : Rows.FnExactOpenIdsSaid := OpenIdsL.over Sess.idsI_some
end Go.Proofs.Ytmbkdejlbeailaa
