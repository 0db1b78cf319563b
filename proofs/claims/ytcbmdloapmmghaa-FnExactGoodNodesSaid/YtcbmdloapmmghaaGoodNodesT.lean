/-
  FnExactGoodNodes returns true for every slice of nodes: the statement, whole, no condition.
-/
import Derived.Test.YtcbmdloapmmghaaGoodNodes
import Derived.Test.YtcbmdloapmmghaaNodesI
namespace Go.Proofs.Ytcbmdloapmmghaa
open Go.RowKit Base NodesM
theorem goodNodes_holds : Rows.FnExactGoodNodesSaid :=
  GoodNodesL.over fun b off cap l w hb hc hl hcap hs => inodes_some b off cap l w hb hc (by unfold maxLen; omega) hs
end Go.Proofs.Ytcbmdloapmmghaa
