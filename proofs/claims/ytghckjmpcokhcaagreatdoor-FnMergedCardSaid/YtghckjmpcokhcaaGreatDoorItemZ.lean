/-
  The program's goodItem: what it answers, by the plain function.
-/
import Derived.Test.YtghckjmpcokhcaaGreatDoorSpS
import Derived.Test.YtghckjmpcokhcaaGreatDoorGoodKeyC
import Derived.Test.YtghckjmpcokhcaaGreatDoorValZ
namespace Go.Proofs.YtghckjmpcokhcaaGreatDoor
namespace Store
open Go.RowKit Base GoodKey Items
set_option linter.unusedVariables false

theorem itemB_iff (x : Itm) : itemB x = true ↔ gk x.key.data.toList = true ∧ 0 ≤ x.flags ∧ x.flags ≤ 1000000000 ∧ (x.data.size : Int) ≤ 100 ∧ 0 ≤ x.upto ∧ x.upto ≤ 2000000000 ∧ 1 ≤ x.token ∧ x.token ≤ 1000000000 := by
  simp only [itemB, inB, Bool.and_eq_true, decide_eq_true_eq]
  constructor
  · rintro ⟨⟨⟨⟨a, b, c⟩, d⟩, e, f⟩, g, h⟩
    exact ⟨a, b, c, d, e, f, g, h⟩
  · rintro ⟨a, b, c, d, e, f, g, h⟩
    exact ⟨⟨⟨⟨a, b, c⟩, d⟩, e, f⟩, g, h⟩
theorem item_no {x : Itm} (h : ¬ (gk x.key.data.toList = true ∧ 0 ≤ x.flags ∧ x.flags ≤ 1000000000 ∧ (x.data.size : Int) ≤ 100 ∧ 0 ≤ x.upto ∧ x.upto ≤ 2000000000 ∧ 1 ≤ x.token ∧ x.token ≤ 1000000000)) : false = itemB x := by
  cases e : itemB x
  · rfl
  · exact absurd ((itemB_iff x).1 e) h
theorem item_yes {x : Itm} (h : gk x.key.data.toList = true ∧ 0 ≤ x.flags ∧ x.flags ≤ 1000000000 ∧ (x.data.size : Int) ≤ 100 ∧ 0 ≤ x.upto ∧ x.upto ≤ 2000000000 ∧ 1 ≤ x.token) : decide (x.token ≤ 1000000000) = itemB x := by
  rw [Bool.eq_iff_iff, itemB_iff, decide_eq_true_eq]
  exact ⟨fun e => ⟨h.1, h.2.1, h.2.2.1, h.2.2.2.1, h.2.2.2.2.1, h.2.2.2.2.2.1, h.2.2.2.2.2.2, e⟩, fun e => e.2.2.2.2.2.2.2⟩

set_option maxRecDepth 10000 in
set_option maxHeartbeats 400000 in
theorem goodItem_any (x : Itm) (w : World) (hs : Fits x) : Calls Tryz.prog 61 #[.agg #[.string x.key, .int .i64 x.flags, .string x.data, .int .i64 x.upto, .int .i64 x.token]] w fun e w' => e = .returned (.bool (itemB x)) ∧ Below w.heap.size w w' := by
  obtain ⟨hk, hd⟩ := hs
  have HK := hide hk
  unfold maxLen at hk hd
  go_enter Tryz.func61, Tryz.ntmps61
  go_wp2_with (go_at_call 50; refine (GoodKey.impl_any _ _ (unhide HK)).mono ?_; rintro e w1 ⟨rfl, rfl⟩)
  all_goals
    go_ret
    refine ⟨ret_bool ?_, bel1 w _⟩
    first
      | exact item_no (fun hh => absurd hh.1 ‹_›)
      | exact item_no (fun hh => by omega)
      | exact item_yes ⟨‹_›, by omega, by omega, by omega, by omega, by omega, by omega⟩
end Store
end Go.Proofs.YtghckjmpcokhcaaGreatDoor
/-
  The contract of the program's goodValue: it answers by the plain function.
-/
namespace Go.Proofs.YtghckjmpcokhcaaGreatDoor
namespace Vals
open Go.RowKit Base GoodKey Items Store NumText
set_option linter.unusedVariables false

set_option maxRecDepth 10000 in
set_option maxHeartbeats 1000000 in
theorem goodValue_any (x : Itm) (token : Bool) (w : World) (hf : Fits x) :
    Calls Tryz.prog 29 #[.agg #[.string x.key, .int .i64 x.flags, .string x.data, .int .i64 x.upto, .int .i64 x.token], .bool token] w fun e w' => e = .returned (.bool (goodV x token)) ∧ Below w.heap.size w w' := by
  have HI := hide (fun w' => goodItem_any (asItem x token) w' hf)
  have HG := hide (goodV_item x token)
  rw [← unhide HG]
  cases token
  all_goals
    go_enter Tryz.func29, Tryz.ntmps29
    go_wp2_with fail
    refine (unhide HI _).mono ?_
    rintro e w1 ⟨rfl, hb1⟩
    have hb1 := hide hb1
    go_wp2
    go_ret
    refine ⟨rfl, ?_⟩
    refine Below.trans ?_ ((unhide hb1).mono (by simp))
    repeat (refine Below.setCell ?_ (by simp) _)
    exact bel1 w _
end Vals
end Go.Proofs.YtghckjmpcokhcaaGreatDoor
