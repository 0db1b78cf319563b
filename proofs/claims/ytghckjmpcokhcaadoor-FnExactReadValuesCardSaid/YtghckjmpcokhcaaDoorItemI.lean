/-
  The program's goodItem: what it answers, by the plain function.
-/
import Derived.Test.YtghckjmpcokhcaaDoorStoreP
import Derived.Test.YtghckjmpcokhcaaDoorGoodKeyC
namespace Go.Proofs.YtghckjmpcokhcaaDoor
namespace Store
open Go.RowKit Base GoodKey Items
set_option linter.unusedVariables false

theorem itemB_iff (x : Itm) : itemB x = true ↔ gk x.key.data.toList = true ∧ 0 ≤ x.flags ∧ x.flags ≤ 1000000000 ∧ (x.data.size : Int) ≤ 100 ∧ 0 ≤ x.upto ∧ x.upto ≤ 2000000000 ∧ 1 ≤ x.token ∧ x.token ≤ 1000000000 := by
  simp only [itemB, inB, Bool.and_eq_true, decide_eq_true_eq]
  constructor
  · rintro ⟨⟨⟨⟨a, b, c⟩, d⟩, e, f⟩, g, h⟩
    exact ⟨a, b, c, d, e, f, g, h⟩
  · rintro ⟨a, b, c, d, e, f, g, h⟩
    exact ⟨⟨⟨⟨a, b, c⟩, d⟩, e, f⟩, g, h⟩
theorem item_no {x : Itm} (h : ¬ (gk x.key.data.toList = true ∧ 0 ≤ x.flags ∧ x.flags ≤ 1000000000 ∧ (x.data.size : Int) ≤ 100 ∧ 0 ≤ x.upto ∧ x.upto ≤ 2000000000 ∧ 1 ≤ x.token ∧ x.token ≤ 1000000000)) : false = itemB x := by
  cases e : itemB x
  · rfl
  · exact absurd ((itemB_iff x).1 e) h
theorem item_yes {x : Itm} (h : gk x.key.data.toList = true ∧ 0 ≤ x.flags ∧ x.flags ≤ 1000000000 ∧ (x.data.size : Int) ≤ 100 ∧ 0 ≤ x.upto ∧ x.upto ≤ 2000000000 ∧ 1 ≤ x.token) : decide (x.token ≤ 1000000000) = itemB x := by
  rw [Bool.eq_iff_iff, itemB_iff, decide_eq_true_eq]
  exact ⟨fun e => ⟨h.1, h.2.1, h.2.2.1, h.2.2.2.1, h.2.2.2.2.1, h.2.2.2.2.2.1, h.2.2.2.2.2.2, e⟩, fun e => e.2.2.2.2.2.2.2⟩

set_option maxRecDepth 10000 in
set_option maxHeartbeats 400000 in
theorem goodItem_any (x : Itm) (w : World) (hs : Fits x) : Calls Tryd.prog 38 #[.agg #[.string x.key, .int .i64 x.flags, .string x.data, .int .i64 x.upto, .int .i64 x.token]] w fun e w' => e = .returned (.bool (itemB x)) ∧ Below w.heap.size w w' := by
  obtain ⟨hk, hd⟩ := hs
  have HK := hide hk
  unfold maxLen at hk hd
  go_enter Tryd.func38, Tryd.ntmps38
  go_wp2_with (go_at_call 36; refine (GoodKey.impl_any _ _ (unhide HK)).mono ?_; rintro e w1 ⟨rfl, rfl⟩)
  all_goals
    go_ret
    refine ⟨ret_bool ?_, bel1 w _⟩
    first
      | exact item_no (fun hh => absurd hh.1 ‹_›)
      | exact item_no (fun hh => by omega)
      | exact item_yes ⟨‹_›, by omega, by omega, by omega, by omega, by omega, by omega⟩
end Store
end Go.Proofs.YtghckjmpcokhcaaDoor
