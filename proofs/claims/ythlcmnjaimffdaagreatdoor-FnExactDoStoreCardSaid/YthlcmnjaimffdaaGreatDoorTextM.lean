/-
  Rows of texts that may be written, and the marks. No Go function is spoken of here.
-/
import Derived.Test.YthlcmnjaimffdaaGreatDoorMarked
import Derived.Test.YthlcmnjaimffdaaGreatDoorRows
import Derived.Deep.RegionWith
namespace Go.Proofs.YthlcmnjaimffdaaGreatDoor
namespace StringsM
open Go.RowKit Base NumText Marks
set_option linter.unusedVariables false

/-- Cell j of a row that bears the marks from k on. -/
def mcell (k : Int) (j : Nat) : Value := .string (mtxt (k + j).toNat)
theorem mc0 (k : Int) (j : Nat) (h : j % 1 = 0) : mcell k j = .string (mtxt (k + j).toNat) := rfl
def mhalf (f : Nat → Value) (k : Int) (i j : Nat) : Value := if j < i then mcell k j else f j
theorem mhalf_step (f : Nat → Value) (k : Int) (i j : Nat) : (if j = i then (.string (mtxt (k + i).toNat) : Value) else mhalf f k i j) = mhalf f k (i + 1) j := by
  unfold mhalf
  by_cases h0 : j = i
  · rw [if_pos h0, if_pos (by omega), mc0 _ _ (by omega), show k + (j : Int) = k + i by omega]
  rw [if_neg h0]
  by_cases h : j < i
  · rw [if_pos h, if_pos (by omega)]
  · rw [if_neg h, if_neg (by omega)]

/-- A slice of n elements that may be written: empty, or the head of a row of its own; r names the row. -/
def Ours (w : World) (a : Option Addr) (n : Nat) (f : Nat → Value) (r : Option Nat) : Prop :=
  (n = 0 ∧ r = none) ∨ ∃ g, a = some ⟨g, 0, none⟩ ∧ r = some g ∧ RowAt w g 9 (n) f
theorem Ours.below {w w' : World} {a : Option Addr} {n : Nat} {f : Nat → Value} {r : Option Nat} {B : Nat} (h : Ours w a n f r) (hb : Below B w w') (hB : w.heap.size ≤ B) : Ours w' a n f r := by
  rcases h with h | ⟨g, ha, hr, h⟩
  · exact .inl h
  · exact .inr ⟨g, ha, hr, h.below hb (Nat.lt_of_lt_of_le h.lt hB)⟩
theorem Ours.gb {w w' : World} {a : Option Addr} {n : Nat} {f : Nat → Value} {r q : Option Nat} (h : Ours w a n f r) (hg : w.grownBy w' q) (hne : ∀ g, r = some g → some g ≠ q) : Ours w' a n f r := by
  rcases h with h | ⟨g, ha, hr, h⟩
  · exact .inl h
  · exact .inr ⟨g, ha, hr, h.of_block (hg.block g h.lt (hne g hr))⟩
theorem Ours.lt {w : World} {a : Option Addr} {n : Nat} {f : Nat → Value} {r : Option Nat} (h : Ours w a n f r) : ∀ g, r = some g → g < w.heap.size := by
  intro g e
  rcases h with ⟨_, hr⟩ | ⟨g', _, hr, h⟩
  · rw [hr] at e; simp at e
  · rw [hr] at e; simp at e; rw [← e]; exact h.lt
theorem Ours.congr {w : World} {a : Option Addr} {n : Nat} {f f' : Nat → Value} {r : Option Nat} (h : Ours w a n f r) (e : ∀ i, i < n → f i = f' i) : Ours w a n f' r := by
  rcases h with h | ⟨g, ha, hr, h⟩
  · exact .inl h
  · exact .inr ⟨g, ha, hr, h.congr e⟩
theorem Ours.row {w : World} {b n : Nat} {f : Nat → Value} (h : w.rowIs b 9 (n) f) : Ours w (some ⟨b, 0, none⟩) n f (some b) :=
  .inr ⟨b, rfl, rfl, RowAt.of_row h⟩
end StringsM
end Go.Proofs.YthlcmnjaimffdaaGreatDoor
/-
  Contracts of the law files' markStringS: the marks are written into a row (written by a program of mine).
-/
namespace Go.Proofs.YthlcmnjaimffdaaGreatDoor
namespace StringsM
open Go.RowKit Base NumText Marks
set_option linter.unusedVariables false

set_option maxRecDepth 10000 in
set_option maxHeartbeats 2000000 in
theorem row_mark (g cap n : Nat) (f : Nat → Value) (k : Int) (w : World) (hr : RowAt w g 9 (n) f) (hk0 : 0 < k) (hk1 : k ≤ 1000000000000) (hn : n ≤ 1000000000) :
    Calls Tryz.prog 33 #[.slice (some ⟨g, 0, none⟩) n cap, .int .i64 k] w fun e w' =>
      e = .returned (.int .i64 (k + n)) ∧ RowAt w' g 9 (n) (mcell k) ∧ w.grownBy w' (some g) := by
  have HR := hide hr
  clear hr
  go_enter Tryz.func33, Tryz.ntmps33
  go_wp2
  go_loopw [1, 5] (fun kv iv wr => ∃ (i : Nat) (z : Int), i ≤ n ∧ 0 < z ∧ z ≤ 1000000000000 + n ∧ iv = .int .i64 i ∧ kv = .int .i64 z ∧ Hid (z = k + i) ∧ Hid (RowAt wr g 9 (n) (mhalf f k i)) ∧ Hid (w.grownBy wr (some g))) (fun _ iv _ => n - (intOf iv).toNat)
  case atStart => exact ⟨0, k, Nat.zero_le _, hk0, by omega, rfl, rfl, hide (by simp), hide ((unhide HR).congr (fun j _ => by simp [mhalf])), hide (gb_refl _ _)⟩
  case round =>
    obtain ⟨i, z, hi, hz0, hz1, rfl, rfl, hz, hrow, hgb⟩ := hrel
    by_cases hlt : i < n
    · have hzn : z + 1 ≤ 1000000000000 + n := by have := unhide hz; omega
      have T0 := hide (fun w => text_any (z) w (by omega) (by omega))
      have hst := hide (fun j => mhalf_step f k i j)
      rw [← unhide hz] at hst
      go_wp2_with fail
      refine (unhide T0 _).mono ?_
      rintro e w1 ⟨rfl, hb1⟩
      have r1 := (unhide hrow).below hb1 (unhide hrow).lt
      have G1 := hide (gb_trans (unhide hgb) (gb_below (r := some g) hb1 (Nat.le_refl _)))
      have d0 := r1.cell (i := i) (by omega)
      have f0 := r1.frozen (i)
      generalize (mhalf f k i (i)) = o0 at d0
      have R1 := hide r1
      clear r1 hb1
      have RE := hide ((unhide R1).set (i) (.string (mtxt (z).toNat)))
      have GE := hide (gb_set (unhide G1) (i) (.string (mtxt (z).toNat)))
      go_wp2
      go_roundw
      case rel => exact ⟨i + 1, z + 1, by omega, by omega, by omega, by go_num, rfl, hide (by have := unhide hz; omega), hide ((unhide RE).congr (fun j _ => unhide hst j)), GE⟩
      case measure => simp [intOf]; omega
    · obtain rfl : i = n := by omega
      have HZ := hide (unhide hz)
      go_wp2
      go_ret
      exact ⟨ret_int (unhide HZ), (unhide hrow).congr (fun j hj => by unfold mhalf; rw [if_pos hj]), unhide hgb⟩

set_option maxHeartbeats 400000 in
theorem mark_any (a : Option Addr) (cap n : Nat) (f : Nat → Value) (r : Option Nat) (k : Int) (w : World) (hr : Ours w a n f r) (hk0 : 0 < k) (hk1 : k ≤ 1000000000000) (hn : n ≤ 1000000000) :
    Calls Tryz.prog 33 #[.slice a n cap, .int .i64 k] w fun e w' => e = .returned (.int .i64 (k + n)) ∧ Ours w' a n (mcell k) r ∧ w.grownBy w' r := by
  rcases hr with ⟨h0, hr0⟩ | ⟨g, rfl, rfl, h⟩
  · subst h0 hr0
    go_enter Tryz.func33, Tryz.ntmps33
    go_wp2
    go_loop [1, 5] (fun kv i => i = .int .i64 0 ∧ kv = .int .i64 k) (fun _ _ => 0)
    case atStart => exact ⟨rfl, rfl⟩
    case round =>
      obtain ⟨rfl, rfl⟩ := hrel
      go_wp2
      go_ret
      exact ⟨ret_int (by simp), .inl ⟨rfl, rfl⟩, gb_refl _ _⟩
  · exact (row_mark g cap n f k w h hk0 hk1 hn).mono fun e w' ⟨he, h1, h2⟩ => ⟨he, .inr ⟨g, rfl, rfl, h1⟩, h2⟩
end StringsM
end Go.Proofs.YthlcmnjaimffdaaGreatDoor
/-
  The law files' markCmd: it marks a command's keys.
-/
namespace Go.Proofs.YthlcmnjaimffdaaGreatDoor
namespace CmdC
open Go.RowKit Base
set_option linter.unusedVariables false

set_option maxHeartbeats 400000 in
theorem cmd_mark (nm : ByteArray) (a : Option Addr) (cap m : Nat) (f x n : Int) (dt : ByteArray) (q : Bool) (g : Nat → Value) (r : Option Nat) (k : Int) (w : World) (hr : StringsM.Ours w a m g r) (hk0 : 0 < k) (hk1 : k ≤ 1000000000000) (hn : m ≤ 1000000000) :
    Calls Tryz.prog 13 #[.agg #[.string nm, .slice a m cap, .int .i64 f, .int .i64 x, .int .i64 n, .string dt, .bool q], .int .i64 k] w fun e w' => e = .returned (.int .i64 (k + m)) ∧ w.grownBy w' r := by
  have HC := hide (fun o => StringsM.mark_any a cap m g r k (w.alloc o) (hr.below (bel1 w o) (Nat.le_refl _)) hk0 hk1 hn)
  clear hr
  go_enter Tryz.func13, Tryz.ntmps13
  go_wp2_with fail
  refine (unhide HC _).mono ?_
  rintro e w1 ⟨rfl, -, h2⟩
  have H2 := hide (Marks.gb_trans (Marks.gb_below (r := r) (bel1 w _) (Nat.le_refl _)) h2)
  clear h2
  go_wp2
  go_ret
  exact ⟨rfl, unhide H2⟩
end CmdC
end Go.Proofs.YthlcmnjaimffdaaGreatDoor
/-
  Contracts of the law files' markItemS, heldItemS, markStore, heldStore: the marks are written into the items' own row and read again.
-/
namespace Go.Proofs.YthlcmnjaimffdaaGreatDoor
namespace Marks
open Go.RowKit Base NumText Items
set_option linter.unusedVariables false

set_option maxHeartbeats 400000 in
theorem store_mark (lim nx : Int) (a : Option Addr) (cap n : Nat) (f : Nat → Value) (r : Option Nat) (k : Int) (w : World) (hr : Ours w a n f r) (hk0 : 0 < k) (hk1 : k ≤ 1000000000000) (hn : n ≤ 1000000000) :
    Calls Tryz.prog 12 #[.agg #[.int .i64 lim, .int .i64 nx, .slice a n cap], .int .i64 k] w fun e w' => e = .returned (.int .i64 (k + n * 5)) ∧ Ours w' a n (mcell k) r ∧ w.grownBy w' r := by
  have HC := hide (fun o => items_mark_any a cap n f r k (w.alloc o) (hr.below (bel1 w o) (Nat.le_refl _)) hk0 hk1 hn)
  clear hr
  go_enter Tryz.func12, Tryz.ntmps12
  go_wp2_with fail
  refine (unhide HC _).mono ?_
  rintro e w1 ⟨rfl, h1, h2⟩
  have H1 := hide h1
  have H2 := hide (gb_trans (gb_below (r := r) (bel1 w _) (Nat.le_refl _)) h2)
  clear h1 h2
  go_wp2
  go_ret
  exact ⟨rfl, unhide H1, unhide H2⟩
set_option maxHeartbeats 400000 in
theorem store_held (lim nx : Int) (a : Option Addr) (cap n : Nat) (r : Option Nat) (k : Int) (w : World) (hr : Ours w a n (mcell k) r) (hk0 : 0 < k) (hk1 : k ≤ 1000000000000) (hn : n ≤ 1000000000) :
    Calls Tryz.prog 14 #[.agg #[.int .i64 lim, .int .i64 nx, .slice a n cap], .int .i64 k] w fun e w' => e = .returned (.int .i64 (k + n * 5)) ∧ Below w.heap.size w w' := by
  have HC := hide (fun o => items_held_any a cap n r k (w.alloc o) (hr.below (bel1 w o) (Nat.le_refl _)) hk0 hk1 hn)
  clear hr
  go_enter Tryz.func14, Tryz.ntmps14
  go_wp2_with fail
  refine (unhide HC _).mono ?_
  rintro e w1 ⟨rfl, h1⟩
  have H1 := hide ((bel1 w _).trans (h1.mono (by simp)))
  clear h1
  have hnn : ¬ k + (n : Int) * 5 < 0 := by omega
  go_wp2
  go_ret
  exact ⟨rfl, unhide H1⟩
end Marks
end Go.Proofs.YthlcmnjaimffdaaGreatDoor
