/-
  FnExactLateOn returns true for every lane and times: the program's LateOn answers as the model's, and leaves its argument alone. No condition.
-/
import Derived.Test.YtncdoghnfgnafaaLateOn
namespace Go.Proofs.Ytncdoghnfgnafaa
theorem lateOn_holds : Rows.FnExactLateOnSaid :=
  LateOnL.over (fun ep fa b off cap l now most w hb hc hl hcap => Lanes.lateI_some ep fa b off cap l now most w hb hc hl hcap)
end Go.Proofs.Ytncdoghnfgnafaa
