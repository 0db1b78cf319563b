/-
  FnExactSendOn returns true for every lane and numbers: the program's SendOn answers as the model's, leaves its argument alone, and its answer owns its memory. No condition.
-/
import Derived.Test.YtncdoghnfgnafaaSendOn
import Derived.Test.YtncdoghnfgnafaaSendI
namespace Go.Proofs.Ytncdoghnfgnafaa
theorem sendOn_holds : Rows.FnExactSendOnSaid := SendOnL.over Lanes.sendI_some
end Go.Proofs.Ytncdoghnfgnafaa
