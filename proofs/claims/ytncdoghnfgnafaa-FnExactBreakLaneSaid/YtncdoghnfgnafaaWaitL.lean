/-
  The contract of the law files' heldWaitS: the marks of a row are read again (by a program of mine, then by hand: the slice may begin inside its row).
-/
import Derived.Test.YtncdoghnfgnafaaWaitM
namespace Go.Proofs.Ytncdoghnfgnafaa
namespace WaitsM
open Go.RowKit Base NumText Marks
set_option linter.unusedVariables false

set_option maxRecDepth 10000 in
set_option maxHeartbeats 2000000 in
theorem row_held (g o cap n : Nat) (F : Nat → Value) (k : Int) (w : World) (hr : RowAt w g 58 (o + n * 2) F) (hf : ∀ i, i < n * 2 → F (o + i) = mcell k i) (hk0 : 0 < k) (hk1 : k ≤ 1000000000000) (hn : n ≤ 1000000000) :
    Calls Try.prog 41 #[.slice (some ⟨g, o, none⟩) n cap, .int .i64 k] w fun e w' => e = .returned (.int .i64 (k + n * 2)) ∧ Below w.heap.size w w' := by
  have HR := hide hr
  have HF := hide hf
  clear hr hf
  go_enter Try.func41, Try.ntmps41
  go_wp2
  go_loopw [1, 5] (fun kv iv wr => ∃ (i : Nat) (z : Int), i ≤ n ∧ 0 < z ∧ z ≤ 1000000000000 + n * 2 ∧ iv = .int .i64 i ∧ kv = .int .i64 z ∧ Hid (z = k + i * 2) ∧ Hid (Below w.heap.size w wr)) (fun _ iv _ => n - (intOf iv).toNat)
  case atStart => exact ⟨0, k, Nat.zero_le _, hk0, by omega, rfl, rfl, hide (by simp), hide (Below.refl _ _)⟩
  case round =>
    obtain ⟨i, z, hi, hz0, hz1, rfl, rfl, hz, hbel⟩ := hrel
    by_cases hlt : i < n
    · have hzn : z + 2 ≤ 1000000000000 + n * 2 := by have := unhide hz; omega
      have hzz := unhide hz
      have row := (unhide HR).below (unhide hbel) (unhide HR).lt
      have c0 : wr.cell? ⟨g, o + i * 2, none⟩ = some (.int .i64 (z)) := by rw [row.cell (by omega), unhide HF (i * 2) (by omega), mc0 k (i * 2) (by omega), show k + ((i * 2 : Nat) : Int) = z by omega]
      have c1 : wr.cell? ⟨g, o + i * 2 + 1, none⟩ = some (.int .i64 (z + 1)) := by rw [row.cell (by omega), Nat.add_assoc, unhide HF (i * 2 + 1) (by omega), mc1 k (i * 2 + 1) (by omega), show k + ((i * 2 + 1 : Nat) : Int) = z + 1 by omega]
      have hglt : g < wr.heap.size := row.lt
      clear row hzz
      go_wp2
      go_roundw
      case rel => exact ⟨i + 1, z + 1 + 1, by omega, by omega, by omega, by go_num, rfl, hide (by have := unhide hz; omega), hide (unhide hbel)⟩
      case measure => simp [intOf]; omega
    · obtain rfl : i = n := by omega
      have HZ := hide (unhide hz)
      go_wp2
      go_ret
      exact ⟨ret_int (unhide HZ), unhide hbel⟩

set_option maxHeartbeats 400000 in
theorem held_any (a : Option Addr) (cap n : Nat) (r : Option Nat) (k : Int) (w : World) (hr : Ours w a n (mcell k) r) (hk0 : 0 < k) (hk1 : k ≤ 1000000000000) (hn : n ≤ 1000000000) :
    Calls Try.prog 41 #[.slice a n cap, .int .i64 k] w fun e w' => e = .returned (.int .i64 (k + n * 2)) ∧ Below w.heap.size w w' := by
  rcases hr with ⟨h0, hr0⟩ | ⟨g, o, F, rfl, rfl, h, hf⟩
  · subst h0 hr0
    go_enter Try.func41, Try.ntmps41
    go_wp2
    go_loop [1, 5] (fun kv i => i = .int .i64 0 ∧ kv = .int .i64 k) (fun _ _ => 0)
    case atStart => exact ⟨rfl, rfl⟩
    case round =>
      obtain ⟨rfl, rfl⟩ := hrel
      go_wp2
      go_ret
      exact ⟨ret_int (by simp), Below.refl _ _⟩
  · exact row_held g o cap n F k w h hf hk0 hk1 hn
end WaitsM
end Go.Proofs.Ytncdoghnfgnafaa
