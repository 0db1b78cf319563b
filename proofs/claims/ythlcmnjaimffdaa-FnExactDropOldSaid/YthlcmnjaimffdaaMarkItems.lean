/-
  Contracts of the law files' markItemS, heldItemS, markStore, heldStore: the marks are written into the items' own row and read again.
-/
import Derived.Test.YthlcmnjaimffdaaMarkItemsA
namespace Go.Proofs.Ythlcmnjaimffdaa
namespace Marks
open Go.RowKit Base NumText Items
set_option linter.unusedVariables false

set_option maxHeartbeats 400000 in
theorem store_mark (lim nx : Int) (a : Option Addr) (cap n : Nat) (f : Nat → Value) (r : Option Nat) (k : Int) (w : World) (hr : Ours w a n f r) (hk0 : 0 < k) (hk1 : k ≤ 1000000000000) (hn : n ≤ 1000000000) :
    Calls Try.prog 16 #[.agg #[.int .i64 lim, .int .i64 nx, .slice a n cap], .int .i64 k] w fun e w' => e = .returned (.int .i64 (k + n * 5)) ∧ Ours w' a n (mcell k) r ∧ w.grownBy w' r := by
  have HC := hide (fun o => items_mark_any a cap n f r k (w.alloc o) (hr.below (bel1 w o) (Nat.le_refl _)) hk0 hk1 hn)
  clear hr
  go_enter Try.func16, Try.ntmps16
  go_wp2_with fail
  refine (unhide HC _).mono ?_
  rintro e w1 ⟨rfl, h1, h2⟩
  have H1 := hide h1
  have H2 := hide (gb_trans (gb_below (r := r) (bel1 w _) (Nat.le_refl _)) h2)
  clear h1 h2
  go_wp2
  go_ret
  exact ⟨rfl, unhide H1, unhide H2⟩
set_option maxHeartbeats 400000 in
theorem store_held (lim nx : Int) (a : Option Addr) (cap n : Nat) (r : Option Nat) (k : Int) (w : World) (hr : Ours w a n (mcell k) r) (hk0 : 0 < k) (hk1 : k ≤ 1000000000000) (hn : n ≤ 1000000000) :
    Calls Try.prog 17 #[.agg #[.int .i64 lim, .int .i64 nx, .slice a n cap], .int .i64 k] w fun e w' => e = .returned (.int .i64 (k + n * 5)) ∧ Below w.heap.size w w' := by
  have HC := hide (fun o => items_held_any a cap n r k (w.alloc o) (hr.below (bel1 w o) (Nat.le_refl _)) hk0 hk1 hn)
  clear hr
  go_enter Try.func17, Try.ntmps17
  go_wp2_with fail
  refine (unhide HC _).mono ?_
  rintro e w1 ⟨rfl, h1⟩
  have H1 := hide ((bel1 w _).trans (h1.mono (by simp)))
  clear h1
  have hnn : ¬ k + (n : Int) * 5 < 0 := by omega
  go_wp2
  go_ret
  exact ⟨rfl, unhide H1⟩
end Marks
end Go.Proofs.Ythlcmnjaimffdaa
