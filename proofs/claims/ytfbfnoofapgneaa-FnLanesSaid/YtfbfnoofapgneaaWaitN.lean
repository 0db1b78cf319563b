/-
  Slices of waits that may be written, and the marks. No Go function is spoken of here.
-/
import Derived.Test.YtfbfnoofapgneaaMarkP
import Derived.Test.YtfbfnoofapgneaaRows
namespace Go.Proofs.Ytfbfnoofapgneaa
namespace WaitsM
open Go.RowKit Base NumText Marks
set_option linter.unusedVariables false

/-- Cell j of a row that bears the marks from k on. -/
def mcell (k : Int) (j : Nat) : Value := if j % 2 = 0 then .int .i64 (k + j) else .int .i64 (k + j)
theorem mc0 (k : Int) (j : Nat) (h : j % 2 = 0) : mcell k j = .int .i64 (k + j) := by unfold mcell; rw [if_pos h]
theorem mc1 (k : Int) (j : Nat) (h : j % 2 = 1) : mcell k j = .int .i64 (k + j) := by unfold mcell; rw [if_neg (by omega)]
def mhalf (F : Nat → Value) (o : Nat) (k : Int) (i j : Nat) : Value := if o ≤ j ∧ j < o + i * 2 then mcell k (j - o) else F j
theorem mhalf_step (F : Nat → Value) (o : Nat) (k : Int) (i j : Nat) : (if j = o + i * 2 + 1 then (.int .i64 (k + i * 2 + 1) : Value) else if j = o + i * 2 then (.int .i64 (k + i * 2) : Value) else mhalf F o k i j) = mhalf F o k (i + 1) j := by
  unfold mhalf
  by_cases h1 : j = o + i * 2 + 1
  · rw [if_pos h1, if_pos (by omega), mc1 _ _ (by omega), show k + ((j - o : Nat) : Int) = k + i * 2 + 1 by omega]
  rw [if_neg h1]
  by_cases h0 : j = o + i * 2
  · rw [if_pos h0, if_pos (by omega), mc0 _ _ (by omega), show k + ((j - o : Nat) : Int) = k + i * 2 by omega]
  rw [if_neg h0]
  by_cases h : o ≤ j ∧ j < o + i * 2
  · rw [if_pos h, if_pos (by omega)]
  · rw [if_neg h, if_neg (by omega)]

/-- A slice of n elements that may be written: empty, or a part of a row of its own; r names the row. -/
def Ours (w : World) (a : Option Addr) (n : Nat) (f : Nat → Value) (r : Option Nat) : Prop :=
  (n = 0 ∧ r = none) ∨ ∃ (g o : Nat) (F : Nat → Value), a = some ⟨g, o, none⟩ ∧ r = some g ∧ RowAt w g 36 (o + n * 2) F ∧ ∀ i, i < n * 2 → F (o + i) = f i
theorem Ours.below {w w' : World} {a : Option Addr} {n : Nat} {f : Nat → Value} {r : Option Nat} {B : Nat} (h : Ours w a n f r) (hb : Below B w w') (hB : w.heap.size ≤ B) : Ours w' a n f r := by
  rcases h with h | ⟨g, o, F, ha, hr, h, hf⟩
  · exact .inl h
  · exact .inr ⟨g, o, F, ha, hr, h.below hb (Nat.lt_of_lt_of_le h.lt hB), hf⟩
theorem Ours.gb {w w' : World} {a : Option Addr} {n : Nat} {f : Nat → Value} {r q : Option Nat} (h : Ours w a n f r) (hg : w.grownBy w' q) (hne : ∀ g, r = some g → some g ≠ q) : Ours w' a n f r := by
  rcases h with h | ⟨g, o, F, ha, hr, h, hf⟩
  · exact .inl h
  · exact .inr ⟨g, o, F, ha, hr, h.of_block (hg.block g h.lt (hne g hr)), hf⟩
theorem Ours.lt {w : World} {a : Option Addr} {n : Nat} {f : Nat → Value} {r : Option Nat} (h : Ours w a n f r) : ∀ g, r = some g → g < w.heap.size := by
  intro g e
  rcases h with ⟨_, hr⟩ | ⟨g', o, F, _, hr, h, _⟩
  · rw [hr] at e; simp at e
  · rw [hr] at e; simp at e; rw [← e]; exact h.lt
theorem Ours.congr {w : World} {a : Option Addr} {n : Nat} {f f' : Nat → Value} {r : Option Nat} (h : Ours w a n f r) (e : ∀ i, i < n * 2 → f i = f' i) : Ours w a n f' r := by
  rcases h with h | ⟨g, o, F, ha, hr, h, hf⟩
  · exact .inl h
  · exact .inr ⟨g, o, F, ha, hr, h, fun i hi => (hf i hi).trans (e i hi)⟩
theorem Ours.row {w : World} {b n : Nat} {f : Nat → Value} (h : w.rowIs b 36 (n * 2) f) : Ours w (some ⟨b, 0, none⟩) n f (some b) :=
  .inr ⟨b, 0, f, rfl, rfl, by rw [Nat.zero_add]; exact RowAt.of_row h, fun i _ => by rw [Nat.zero_add]⟩
theorem ours_none (w : World) (a : Option Addr) (f : Nat → Value) : Ours w a 0 f none := .inl ⟨rfl, rfl⟩

end WaitsM
end Go.Proofs.Ytfbfnoofapgneaa
