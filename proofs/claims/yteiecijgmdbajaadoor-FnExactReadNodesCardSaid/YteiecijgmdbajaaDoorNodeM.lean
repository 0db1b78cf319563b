/-
  Contracts of the law files' markNodeS: the marks are written into a row (written by a program of mine).
-/
import Derived.Test.YteiecijgmdbajaaDoorMark
import Derived.Test.YteiecijgmdbajaaDoorNodeV
import Derived.Deep.RegionWith
namespace Go.Proofs.YteiecijgmdbajaaDoor
namespace NodesM
open Go.RowKit Base NumText Marks
set_option linter.unusedVariables false

set_option maxRecDepth 10000 in
set_option maxHeartbeats 2000000 in
theorem row_mark (g cap n : Nat) (f : Nat → Value) (k : Int) (w : World) (hr : RowAt w g 38 (n * 2) f) (hk0 : 0 < k) (hk1 : k ≤ 1000000000000) (hn : n ≤ 1000000000) :
    Calls Tryd.prog 8 #[.slice (some ⟨g, 0, none⟩) n cap, .int .i64 k] w fun e w' =>
      e = .returned (.int .i64 (k + n * 2)) ∧ RowAt w' g 38 (n * 2) (mcell k) ∧ w.grownBy w' (some g) := by
  have HR := hide hr
  clear hr
  go_enter Tryd.func8, Tryd.ntmps8
  go_wp2
  go_loopw [1, 5] (fun kv iv wr => ∃ (i : Nat) (z : Int), i ≤ n ∧ 0 < z ∧ z ≤ 1000000000000 + n * 2 ∧ iv = .int .i64 i ∧ kv = .int .i64 z ∧ Hid (z = k + i * 2) ∧ Hid (RowAt wr g 38 (n * 2) (mhalf f k i)) ∧ Hid (w.grownBy wr (some g))) (fun _ iv _ => n - (intOf iv).toNat)
  case atStart => exact ⟨0, k, Nat.zero_le _, hk0, by omega, rfl, rfl, hide (by simp), hide ((unhide HR).congr (fun j _ => by simp [mhalf])), hide (gb_refl _ _)⟩
  case round =>
    obtain ⟨i, z, hi, hz0, hz1, rfl, rfl, hz, hrow, hgb⟩ := hrel
    by_cases hlt : i < n
    · have hzn : z + 2 ≤ 1000000000000 + n * 2 := by have := unhide hz; omega
      have T0 := hide (fun w => text_any (z) w (by omega) (by omega))
      have hst := hide (fun j => mhalf_step f k i j)
      rw [← unhide hz] at hst
      go_wp2_with fail
      refine (unhide T0 _).mono ?_
      rintro e w1 ⟨rfl, hb1⟩
      have r1 := (unhide hrow).below hb1 (unhide hrow).lt
      have G1 := hide (gb_trans (unhide hgb) (gb_below (r := some g) hb1 (Nat.le_refl _)))
      have d0 := r1.cell (i := i * 2) (by omega)
      have f0 := r1.frozen (i * 2)
      have d1 := r1.cell (i := i * 2 + 1) (by omega)
      have f1 := r1.frozen (i * 2 + 1)
      generalize (mhalf f k i (i * 2)) = o0 at d0
      generalize (mhalf f k i (i * 2 + 1)) = o1 at d1
      have R1 := hide r1
      clear r1 hb1
      have RE := hide (((unhide R1).set (i * 2) (.string (mtxt (z).toNat))).set (i * 2 + 1) (.int .i64 (z + 1)))
      have GE := hide (gb_set (gb_set (unhide G1) (i * 2) (.string (mtxt (z).toNat))) (i * 2 + 1) (.int .i64 (z + 1)))
      go_wp2
      go_roundw
      case rel => exact ⟨i + 1, z + 1 + 1, by omega, by omega, by omega, by go_num, rfl, hide (by have := unhide hz; omega), hide ((unhide RE).congr (fun j _ => unhide hst j)), GE⟩
      case measure => simp [intOf]; omega
    · obtain rfl : i = n := by omega
      have HZ := hide (unhide hz)
      go_wp2
      go_ret
      exact ⟨ret_int (unhide HZ), (unhide hrow).congr (fun j hj => by unfold mhalf; rw [if_pos hj]), unhide hgb⟩

set_option maxHeartbeats 400000 in
theorem mark_any (a : Option Addr) (cap n : Nat) (f : Nat → Value) (r : Option Nat) (k : Int) (w : World) (hr : Ours w a n f r) (hk0 : 0 < k) (hk1 : k ≤ 1000000000000) (hn : n ≤ 1000000000) :
    Calls Tryd.prog 8 #[.slice a n cap, .int .i64 k] w fun e w' => e = .returned (.int .i64 (k + n * 2)) ∧ Ours w' a n (mcell k) r ∧ w.grownBy w' r := by
  rcases hr with ⟨h0, hr0⟩ | ⟨g, rfl, rfl, h⟩
  · subst h0 hr0
    go_enter Tryd.func8, Tryd.ntmps8
    go_wp2
    go_loop [1, 5] (fun kv i => i = .int .i64 0 ∧ kv = .int .i64 k) (fun _ _ => 0)
    case atStart => exact ⟨rfl, rfl⟩
    case round =>
      obtain ⟨rfl, rfl⟩ := hrel
      go_wp2
      go_ret
      exact ⟨ret_int (by simp), .inl ⟨rfl, rfl⟩, gb_refl _ _⟩
  · exact (row_mark g cap n f k w h hk0 hk1 hn).mono fun e w' ⟨he, h1, h2⟩ => ⟨he, .inr ⟨g, rfl, rfl, h1⟩, h2⟩
end NodesM
end Go.Proofs.YteiecijgmdbajaaDoor
