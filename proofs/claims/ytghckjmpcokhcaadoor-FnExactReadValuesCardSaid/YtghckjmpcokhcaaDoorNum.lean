/-
  The contract of the model's l1Number, for every int.
-/
import Derived.Test.YtghckjmpcokhcaaDoorInS
namespace Go.Proofs.YtghckjmpcokhcaaDoor
namespace Num
open Go.RowKit Base GoodKey

set_option maxHeartbeats 400000 in
theorem number_any (n : Int) (w : World) :
    Calls Tryd.prog 19 #[.int .i64 n] w fun e w' => e = .returned (.bool (inB n 0 1000000000)) ∧ w' = w := by
  go_enter Tryd.func19, Tryd.ntmps19
  go_wp2_with (go_at_call 15; refine (l1In_any _ _ _ _).mono ?_; rintro e w' ⟨rfl, rfl⟩)
  go_ret
  exact ⟨rfl, rfl⟩
end Num
end Go.Proofs.YtghckjmpcokhcaaDoor
