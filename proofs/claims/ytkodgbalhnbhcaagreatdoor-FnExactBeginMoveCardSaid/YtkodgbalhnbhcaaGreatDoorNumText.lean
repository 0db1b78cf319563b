/-
  The contract of the model's l1Num: the decimal digits, for every number from 0 on.
-/
import Derived.Test.YtkodgbalhnbhcaaGreatDoorZ2
import Derived.Test.YtkodgbalhnbhcaaGreatDoorRows
import Derived.Deep.RegionWith
import Derived.WalkLawsBesides
namespace Go.Proofs.YtkodgbalhnbhcaaGreatDoor
namespace NumText
open Go.RowKit Base
set_option linter.unusedVariables false

set_option maxRecDepth 10000 in
set_option maxHeartbeats 400000 in
theorem small (n : Int) (w : World) (h0 : 0 ≤ n) (h : n < 10) :
    Calls Tryz.prog 132 #[.int .i64 n] w fun e w' => e = .returned (.string (txt n.toNat)) ∧ Below w.heap.size w w' := by
  have hcv := conv1 (P := Tryz.prog) 123 9 5 (48 + n) (by omega) (by omega) Tryz.underlying123 Tryz.underlying5 Tryz.underlying9
  have HT := hide (txt_small n h0 h)
  go_enter Tryz.func132, Tryz.ntmps132
  go_wp2
  go_ret
  exact ⟨ret_str (unhide HT), bel1 w _⟩

set_option maxRecDepth 10000 in
set_option maxHeartbeats 1000000 in
theorem step (n : Int) (w : World) (h0 : 10 ≤ n) (h : n < 9223372036854775808)
    (ih : ∀ w : World, Calls Tryz.prog 132 #[.int .i64 (n / 10)] w fun e w' => e = .returned (.string (txt (n / 10).toNat)) ∧ Below w.heap.size w w') :
    Calls Tryz.prog 132 #[.int .i64 n] w fun e w' => e = .returned (.string (txt n.toNat)) ∧ Below w.heap.size w w' := by
  have hcv := conv1 (P := Tryz.prog) 123 9 5 (48 + n % 10) (by omega) (by omega) Tryz.underlying123 Tryz.underlying5 Tryz.underlying9
  have hlt : ¬ n < 10 := by omega
  have e1 := quo10 n h0 h
  have e2 := rem10 n h0 h
  have HT := txt_step n h0
  have hts : (txt (n / 10).toNat).size ≤ 20 := by
    show (Lib.decDigits (n / 10).toNat).toArray.size ≤ 20
    have := Lib.nDigits_le20 (n / 10).toNat (by omega)
    rw [Lib.decDigits_eq]
    simpa using this
  generalize n / 10 = q at ih e1 HT hts
  generalize 48 + n % 10 = m at e2 hcv HT
  generalize txt q.toNat = t at ih HT hts
  have IH := hide ih
  have HT1 := hide HT
  clear ih HT
  go_enter Tryz.func132, Tryz.ntmps132
  go_wp2
  go_region_with (go_at_call 132; refine (unhide IH _).mono ?_; rintro e w1 ⟨rfl, hb1⟩; have hc1 := (bcell hb1 (Nat.le_refl _)).1; have hz1 := hb1.size; have hb1 := hide hb1)
  all_goals go_wp2
  all_goals
    go_ret
    refine ⟨ret_str (unhide HT1), ?_⟩
    first
      | exact ((Below.refl _ w).drew.trans (unhide hb1)).alloc hz1 _
      | exact (bel1 w _).drew.trans ((unhide hb1).mono (by simp))

theorem num_any (n : Int) (w : World) (h0 : 0 ≤ n) (h : n < 9223372036854775808) :
    Calls Tryz.prog 132 #[.int .i64 n] w fun e w' => e = .returned (.string (txt n.toNat)) ∧ Below w.heap.size w w' := by
  obtain ⟨k, hk⟩ : ∃ k : Nat, n.toNat ≤ k := ⟨_, Nat.le_refl _⟩
  induction k generalizing n w with
  | zero => exact small n w h0 (by omega)
  | succ k ih =>
    by_cases h10 : n < 10
    · exact small n w h0 h10
    · exact step n w (by omega) h (fun w => ih (n / 10) w (by omega) (by omega) (by omega))
end NumText
end Go.Proofs.YtkodgbalhnbhcaaGreatDoor
