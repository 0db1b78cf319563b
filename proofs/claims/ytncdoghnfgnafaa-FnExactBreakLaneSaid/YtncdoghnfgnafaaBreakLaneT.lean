/-
  FnExactBreakLane returns true for every lane: the program's BreakLane answers as the model's, leaves its argument alone, and its answer owns its memory. No condition.
-/
import Derived.Test.YtncdoghnfgnafaaBreakLane
import Derived.Test.YtncdoghnfgnafaaBreakI
namespace Go.Proofs.Ytncdoghnfgnafaa
theorem breakLane_holds : Rows.FnExactBreakLaneSaid := BreakLaneL.over Lanes.breakI_some
end Go.Proofs.Ytncdoghnfgnafaa
