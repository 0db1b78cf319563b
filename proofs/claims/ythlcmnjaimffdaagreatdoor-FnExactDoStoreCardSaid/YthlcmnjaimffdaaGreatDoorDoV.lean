/-
  The model's l2Until and l2Value: an item as it is told.
-/
import Derived.Test.YthlcmnjaimffdaaGreatDoorShelfUX
import Derived.Test.YthlcmnjaimffdaaGreatDoorShelfVW
import Derived.Test.YthlcmnjaimffdaaGreatDoorValS
namespace Go.Proofs.YthlcmnjaimffdaaGreatDoor
namespace Shelf
open Go.RowKit Base Items Keep Own Chain Store GoodKey NumText
set_option linter.unusedVariables false

set_option maxRecDepth 10000 in
set_option maxHeartbeats 1000000 in
theorem l2Until_any (now expire : Int) (w : World) (h1 : 0 ≤ now ∧ now ≤ 1000000000) (h2 : 0 ≤ expire ∧ expire ≤ 1000000000) :
    Calls Tryz.prog 84 #[.int .i64 now, .int .i64 expire] w fun e w' => e = .returned (.int .i64 (untilR now expire)) ∧ w = w' := by
  by_cases g : expire = 0
  · subst g
    have e : untilR now 0 = 0 := rfl
    rw [e]
    go_enter Tryz.func84, Tryz.ntmps84
    go_wp2
    go_ret
    exact ⟨rfl, rfl⟩
  · have e : untilR now expire = now + expire := if_neg g
    rw [e]
    have hw : IntKind.i64.wrap (now + expire) = now + expire := by rw [IntKind.wrap_i64]; omega
    have hd : decide (expire = 0) = false := decide_eq_false g
    go_enter Tryz.func84, Tryz.ntmps84
    go_wp2
    go_ret
    exact ⟨rfl, rfl⟩

theorem l2Value_any (x : Itm) (token : Bool) (w : World) (hx : Small x) (h1 : 0 ≤ x.flags ∧ x.flags ≤ 1000000000) (h2 : 0 ≤ x.token ∧ x.token ≤ 1000000000) :
    Calls Tryz.prog 66 #[.agg #[.string x.key, .int .i64 x.flags, .string x.data, .int .i64 x.upto, .int .i64 x.token], .bool token] w fun e w' => e = .returned (.string (valueR x token)) ∧ Below w.heap.size w w' := l2Value_gen x token w hx h1 (fun _ => h2)
end Shelf
end Go.Proofs.YthlcmnjaimffdaaGreatDoor
