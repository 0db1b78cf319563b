/-
  A slice of the struct Slot that the call itself has made by append: its cells one behind the other (written by a program of mine). No Go function is spoken of here.
-/
import Derived.Test.YtedcmbegcmgfkaaOwnR
import Derived.Test.YtedcmbegcmgfkaaSlotP
namespace Go.Proofs.Ytedcmbegcmgfkaa
namespace SlotsW
open Go.RowKit Base Marks OwnR Slots
set_option linter.unusedVariables false

def cellsOf (x : D) : List Value := [.int .i64 x.id, .bool x.done, .string x.answer]
def flat (l : List D) : List Value := l.flatMap cellsOf
theorem flat_append (a b : List D) : flat (a ++ b) = flat a ++ flat b := by simp [flat]
theorem flat_one (x : D) : flat [x] = cellsOf x := by simp [flat]
theorem flat_length (l : List D) : (flat l).length = l.length * 3 := by
  induction l with
  | nil => rfl
  | cons x r ih =>
    have e : flat (x :: r) = cellsOf x ++ flat r := by simp [flat]
    rw [e, List.length_append, ih]
    simp [cellsOf]; omega
theorem icell_cons (x : D) (r : List D) (j : Nat) : icell (x :: r) (j + 3) = icell r j := by
  unfold icell
  rw [show (j + 3) % 3 = j % 3 by omega, show (j + 3) / 3 = j / 3 + 1 by omega]
  simp
theorem flat_get (l : List D) (j : Nat) (hj : j < l.length * 3) : (flat l)[j]? = some (icell l j) := by
  induction l generalizing j with
  | nil => simp at hj
  | cons x r ih =>
    have e : flat (x :: r) = cellsOf x ++ flat r := by simp [flat]
    rw [e]
    by_cases h : j < 3
    · rw [List.getElem?_append_left (by simp [cellsOf]; omega)]
      obtain rfl | rfl | rfl : j = 0 ∨ j = 1 ∨ j = 2 := by omega
      all_goals simp [cellsOf, icell]
    · obtain ⟨i, rfl⟩ : ∃ i, j = i + 3 := ⟨j - 3, by omega⟩
      rw [List.getElem?_append_right (by simp [cellsOf]), icell_cons]
      have el : (cellsOf x).length = 3 := rfl
      rw [el, Nat.add_sub_cancel]
      exact ih i (by simp at hj; omega)
theorem flat_oneCell (l : List D) (u : Value) (hu : u ∈ flat l) : u.oneCell' = true := by
  obtain ⟨x, _, hx⟩ := List.mem_flatMap.1 hu
  simp only [cellsOf, List.mem_cons, List.not_mem_nil, or_false] at hx
  rcases hx with rfl | rfl | rfl <;> rfl
theorem news_one (x : D) (u : Value) (hu : u ∈ cellsOf x) : u.oneCell' = true := flat_oneCell [x] u (by rw [flat_one]; exact hu)
theorem news_cells (w : World) (x : D) (t : TypeId) (j : Nat) (u : Value) (hj : (cellsOf x)[j]? = some u) :
    (w.alloc (.cells #[.int .i64 x.id, .bool x.done, .string x.answer] t)).cell? ((⟨w.heap.size, 0, none⟩ : Addr).add j) = some u := by
  rw [Go.WideShapes.add_plain, Nat.zero_add, World.cell?_alloc_new]
  show (cellsOf x).toArray[j]? = some u
  simpa using hj
/-- The cells of a row, as what an append takes. -/
theorem news_row {w : World} {b : Nat} {t : TypeId} {l : List D} (h : w.rowIs b t (l.length * 3) (icell l)) (j : Nat) (u : Value) (hj : (flat l)[j]? = some u) : w.cell? ((⟨b, 0, none⟩ : Addr).add j) = some u := by
  have hlt : j < l.length * 3 := by rw [← flat_length]; exact (List.getElem?_eq_some_iff.1 hj).1
  rw [flat_get l j hlt] at hj
  rw [Go.WideShapes.add_plain, Nat.zero_add, h.cell hlt]
  exact hj
theorem news_at {w : World} {b : Nat} {t : TypeId} {l : List D} {m : Nat} (h : RowAt w b t m (icell l)) (hm : l.length * 3 ≤ m) (j : Nat) (u : Value) (hj : (flat l)[j]? = some u) : w.cell? ((⟨b, 0, none⟩ : Addr).add j) = some u := by
  have hlt : j < l.length * 3 := by rw [← flat_length]; exact (List.getElem?_eq_some_iff.1 hj).1
  rw [flat_get l j hlt] at hj
  rw [Go.WideShapes.add_plain, Nat.zero_add, h.cell (by omega)]
  exact hj
theorem own_snoc {w : World} {base : Nat} {t : TypeId} {v : Value} {kept kept' : List D} {x : D} (h : w.ownsRow base t 3 v (kept.length + 1) (flat kept ++ cellsOf x)) (e : kept' = kept ++ [x]) : w.ownsRow base t 3 v kept'.length (flat kept') := by
  rw [e, flat_append, flat_one, List.length_append]
  exact h
end SlotsW
end Go.Proofs.Ytedcmbegcmgfkaa
