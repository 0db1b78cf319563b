/-
  FnExactGoodSession returns true for every session: the program's GoodSession answers as the model's, and leaves its argument alone. No condition.
-/
import Derived.Test.YtmbkdejlbeailaaGoodSession
import Derived.Test.YtmbkdejlbeailaaSessI
namespace Go.Proofs.Ytmbkdejlbeailaa
theorem goodSession_holds : Rows.FnExactGoodSessionSaid :=
  GoodSessionL.over (fun nx b off cap l w hb hc hl hcap => Sess.impl_some nx b off cap l w hb hc hl hcap)
end Go.Proofs.Ytmbkdejlbeailaa
