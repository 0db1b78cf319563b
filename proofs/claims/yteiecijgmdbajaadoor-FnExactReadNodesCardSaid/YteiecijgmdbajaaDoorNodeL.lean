/-
  The contract of the law files' heldNodeS: the marks of a row are read again (written by a program of mine).
-/
import Derived.Test.YteiecijgmdbajaaDoorNodeM
namespace Go.Proofs.YteiecijgmdbajaaDoor
namespace NodesM
open Go.RowKit Base NumText Marks
set_option linter.unusedVariables false

set_option maxRecDepth 10000 in
set_option maxHeartbeats 2000000 in
theorem row_held (g cap n : Nat) (k : Int) (w : World) (hr : RowAt w g 38 (n * 2) (mcell k)) (hk0 : 0 < k) (hk1 : k ≤ 1000000000000) (hn : n ≤ 1000000000) :
    Calls Tryd.prog 9 #[.slice (some ⟨g, 0, none⟩) n cap, .int .i64 k] w fun e w' => e = .returned (.int .i64 (k + n * 2)) ∧ Below w.heap.size w w' := by
  have HR := hide hr
  clear hr
  go_enter Tryd.func9, Tryd.ntmps9
  go_wp2
  go_loopw [1, 5] (fun kv iv wr => ∃ (i : Nat) (z : Int), i ≤ n ∧ 0 < z ∧ z ≤ 1000000000000 + n * 2 ∧ iv = .int .i64 i ∧ kv = .int .i64 z ∧ Hid (z = k + i * 2) ∧ Hid (Below w.heap.size w wr)) (fun _ iv _ => n - (intOf iv).toNat)
  case atStart => exact ⟨0, k, Nat.zero_le _, hk0, by omega, rfl, rfl, hide (by simp), hide (Below.refl _ _)⟩
  case round =>
    obtain ⟨i, z, hi, hz0, hz1, rfl, rfl, hz, hbel⟩ := hrel
    by_cases hlt : i < n
    · have hzn : z + 2 ≤ 1000000000000 + n * 2 := by have := unhide hz; omega
      have T0 := hide (fun w => text_any (z) w (by omega) (by omega))
      have hzz := unhide hz
      have row := (unhide HR).below (unhide hbel) (unhide HR).lt
      have c0 : wr.cell? ⟨g, i * 2, none⟩ = some (.string (mtxt (z).toNat)) := by rw [row.cell (by omega), mc0 k (i * 2) (by omega), show k + ((i * 2 : Nat) : Int) = z by omega]
      have c1 : wr.cell? ⟨g, i * 2 + 1, none⟩ = some (.int .i64 (z + 1)) := by rw [row.cell (by omega), mc1 k (i * 2 + 1) (by omega), show k + ((i * 2 + 1 : Nat) : Int) = z + 1 by omega]
      have hglt : g < wr.heap.size := row.lt
      clear row hzz
      go_wp2
      go_region_with (go_at_call 21; refine (unhide T0 _).mono ?_; rintro e w1 ⟨rfl, hb1⟩; have hc1 := fun o => hb1.cell (p := ⟨g, o, none⟩) hglt; have hb1 := hide hb1)
      all_goals
        go_wp2
        go_roundw
        case rel => exact ⟨i + 1, z + 1 + 1, by omega, by omega, by omega, by go_num, rfl, hide (by have := unhide hz; omega), hide ((unhide hbel).drew.trans ((unhide hb1).mono (unhide hbel).size))⟩
        case measure => simp [intOf]; omega
    · obtain rfl : i = n := by omega
      have HZ := hide (unhide hz)
      go_wp2
      go_ret
      exact ⟨ret_int (unhide HZ), unhide hbel⟩

set_option maxHeartbeats 400000 in
theorem held_any (a : Option Addr) (cap n : Nat) (r : Option Nat) (k : Int) (w : World) (hr : Ours w a n (mcell k) r) (hk0 : 0 < k) (hk1 : k ≤ 1000000000000) (hn : n ≤ 1000000000) :
    Calls Tryd.prog 9 #[.slice a n cap, .int .i64 k] w fun e w' => e = .returned (.int .i64 (k + n * 2)) ∧ Below w.heap.size w w' := by
  rcases hr with ⟨h0, hr0⟩ | ⟨g, rfl, rfl, h⟩
  · subst h0 hr0
    go_enter Tryd.func9, Tryd.ntmps9
    go_wp2
    go_loop [1, 5] (fun kv i => i = .int .i64 0 ∧ kv = .int .i64 k) (fun _ _ => 0)
    case atStart => exact ⟨rfl, rfl⟩
    case round =>
      obtain ⟨rfl, rfl⟩ := hrel
      go_wp2
      go_ret
      exact ⟨ret_int (by simp), Below.refl _ _⟩
  · exact row_held g cap n k w h hk0 hk1 hn
end NodesM
end Go.Proofs.YteiecijgmdbajaaDoor
