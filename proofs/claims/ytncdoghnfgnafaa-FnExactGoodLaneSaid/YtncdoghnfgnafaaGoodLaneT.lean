/-
  FnExactGoodLane returns true for every lane: the program's GoodLane answers as the model's, and leaves its argument alone. No condition.
-/
import Derived.Test.YtncdoghnfgnafaaGoodLane
import Derived.Test.YtncdoghnfgnafaaLaneI
namespace Go.Proofs.Ytncdoghnfgnafaa
theorem goodLane_holds : Rows.FnExactGoodLaneSaid :=
  GoodLaneL.over (fun ep fa b off cap l w hb hc hl hcap => Lanes.impl_some ep fa b off cap l w hb hc hl hcap)
end Go.Proofs.Ytncdoghnfgnafaa
