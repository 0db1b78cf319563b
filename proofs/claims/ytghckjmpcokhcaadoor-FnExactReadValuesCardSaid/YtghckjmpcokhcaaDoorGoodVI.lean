/-
  The contract of the program's goodValue: it answers by the plain function.
-/
import Derived.Test.YtghckjmpcokhcaaDoorValsP
import Derived.Test.YtghckjmpcokhcaaDoorItemI
namespace Go.Proofs.YtghckjmpcokhcaaDoor
namespace Vals
open Go.RowKit Base GoodKey Items Store NumText
set_option linter.unusedVariables false

set_option maxRecDepth 10000 in
set_option maxHeartbeats 1000000 in
theorem goodValue_any (x : Itm) (token : Bool) (w : World) (hf : Fits x) :
    Calls Tryd.prog 28 #[.agg #[.string x.key, .int .i64 x.flags, .string x.data, .int .i64 x.upto, .int .i64 x.token], .bool token] w fun e w' => e = .returned (.bool (goodV x token)) ∧ Below w.heap.size w w' := by
  have HI := hide (fun w' => goodItem_any (asItem x token) w' hf)
  have HG := hide (goodV_item x token)
  rw [← unhide HG]
  cases token
  all_goals
    go_enter Tryd.func28, Tryd.ntmps28
    go_wp2_with fail
    refine (unhide HI _).mono ?_
    rintro e w1 ⟨rfl, hb1⟩
    have hb1 := hide hb1
    go_wp2
    go_ret
    refine ⟨rfl, ?_⟩
    refine Below.trans ?_ ((unhide hb1).mono (by simp))
    repeat (refine Below.setCell ?_ (by simp) _)
    exact bel1 w _
end Vals
end Go.Proofs.YtghckjmpcokhcaaDoor
