/-
  The contract of the model's l1Number, for every int.
-/
import Derived.Test.YteiecijgmdbajaaDoorInS
namespace Go.Proofs.YteiecijgmdbajaaDoor
namespace Num
open Go.RowKit Base GoodKey

set_option maxHeartbeats 400000 in
theorem number_any (n : Int) (w : World) :
    Calls Tryd.prog 28 #[.int .i64 n] w fun e w' => e = .returned (.bool (inB n 0 1000000000)) ∧ w' = w := by
  go_enter Tryd.func28, Tryd.ntmps28
  go_wp2_with (go_at_call 27; refine (l1In_any _ _ _ _).mono ?_; rintro e w' ⟨rfl, rfl⟩)
  go_ret
  exact ⟨rfl, rfl⟩
end Num
end Go.Proofs.YteiecijgmdbajaaDoor
