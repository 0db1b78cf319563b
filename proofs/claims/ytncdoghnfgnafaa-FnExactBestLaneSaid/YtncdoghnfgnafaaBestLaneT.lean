/-
  FnExactBestLane returns true for every slice of lanes and every key: the program's BestLane answers as the model's, and leaves its arguments alone. No condition.
-/
import Derived.Test.YtncdoghnfgnafaaBestLane
namespace Go.Proofs.Ytncdoghnfgnafaa
theorem bestLane_holds : Rows.FnExactBestLaneSaid :=
  BestLaneL.over
end Go.Proofs.Ytncdoghnfgnafaa
