/-
  What a good session is, as a plain function of its fields. No Go function is spoken of here.
-/
import Derived.Test.YtedcmbegcmgfkaaSlotP
import Derived.Test.YtedcmbegcmgfkaaInS
namespace Go.Proofs.Ytedcmbegcmgfkaa
namespace Sess
open Go.RowKit Base GoodKey Slots

/-- The least id that the slot at i may bear. -/
def leastAt (l : List D) : Nat → Int
  | 0 => 0
  | i + 1 => (l.getD i zero).id + 1
def slotB (x : D) : Bool := decide ((x.answer.size : Int) ≤ 3000) && (x.done || x.answer.toList.isEmpty)
def stepB (nx : Int) (l : List D) (i : Nat) : Bool := decide (leastAt l i ≤ (l.getD i zero).id) && decide ((l.getD i zero).id < nx) && slotB (l.getD i zero)
def goodTo (nx : Int) (l : List D) (k : Nat) : Bool := (List.range k).all (stepB nx l)
def headB (l : List D) : Bool := decide (l.length = 0) || !(l.getD 0 zero).done
def gsB (nx : Int) (l : List D) : Bool := inB nx 0 1000000 && decide ((l.length : Int) ≤ 30) && goodTo nx l l.length && headB l

theorem gs_1 {nx : Int} {l : List D} (h : ¬ inB nx 0 1000000 = true) : gsB nx l = false := by simp [gsB, h]
theorem gs_2 {nx : Int} {l : List D} (h : 30 < (l.length : Int)) : gsB nx l = false := by
  unfold gsB; rw [decide_eq_false (show ¬ (l.length : Int) ≤ 30 by omega)]; simp
theorem goodTo_step {nx : Int} {l : List D} {k : Nat} (h : goodTo nx l k = true) (hs : stepB nx l k = true) : goodTo nx l (k + 1) = true := by
  unfold goodTo at *
  rw [List.range_succ, List.all_append, h]
  simp [hs]
theorem gs_3 {nx : Int} {l : List D} {k : Nat} (hk : k < l.length) (hs : stepB nx l k = false) : gsB nx l = false := by
  have h : goodTo nx l l.length = false := by
    unfold goodTo
    rw [List.all_eq_false]
    exact ⟨k, by simpa using hk, by simp [hs]⟩
  unfold gsB; rw [h]; simp
theorem gs_4 {nx : Int} {l : List D} (h1 : inB nx 0 1000000 = true) (h3 : ¬ 30 < (l.length : Int)) (h4 : goodTo nx l l.length = true) : gsB nx l = headB l := by
  unfold gsB; rw [h1, h4, decide_eq_true (show (l.length : Int) ≤ 30 by omega)]; simp
theorem gs_head {nx : Int} {l : List D} (h : headB l = false) : gsB nx l = false := by unfold gsB; rw [h]; simp
theorem head_0 {l : List D} (h : l.length = 0) : headB l = true := by simp [headB, h]
theorem head_1 {l : List D} (h : ¬ l.length = 0) : headB l = !(l.getD 0 zero).done := by simp [headB, h]
theorem to_step {nx : Int} {l : List D} {k j : Nat} (h : goodTo nx l k = true) (hj : j < k) : stepB nx l j = true := by
  unfold goodTo at h
  rw [List.all_eq_true] at h
  exact h j (by simpa using hj)
theorem least_0 {nx : Int} {l : List D} (k : Nat) (h : goodTo nx l k = true) : 0 ≤ leastAt l k := by
  induction k with
  | zero => exact Int.le_refl _
  | succ k ih =>
    have hs := to_step h (Nat.lt_succ_self k)
    have hk := ih (by
      unfold goodTo at h ⊢
      rw [List.all_eq_true] at h ⊢
      intro j hj
      exact h j (by simp at hj ⊢; omega))
    unfold stepB at hs
    simp only [Bool.and_eq_true, decide_eq_true_eq] at hs
    show 0 ≤ (l.getD k zero).id + 1
    omega
theorem step_1 {nx : Int} {l : List D} {k : Nat} (h : (l.getD k zero).id < leastAt l k) : stepB nx l k = false := by
  unfold stepB; rw [decide_eq_false (show ¬ leastAt l k ≤ (l.getD k zero).id by omega)]; rfl
theorem step_2 {nx : Int} {l : List D} {k : Nat} (h : nx ≤ (l.getD k zero).id) : stepB nx l k = false := by
  unfold stepB; rw [decide_eq_false (show ¬ (l.getD k zero).id < nx by omega)]; simp
theorem step_3 {nx : Int} {l : List D} {k : Nat} (h : slotB (l.getD k zero) = false) : stepB nx l k = false := by
  unfold stepB; rw [h]; simp
theorem step_4 {nx : Int} {l : List D} {k : Nat} (h1 : ¬ (l.getD k zero).id < leastAt l k) (h2 : ¬ nx ≤ (l.getD k zero).id) (h3 : slotB (l.getD k zero) = true) : stepB nx l k = true := by
  unfold stepB; rw [h3, decide_eq_true (show leastAt l k ≤ (l.getD k zero).id by omega), decide_eq_true (show (l.getD k zero).id < nx by omega)]; rfl
theorem slot_1 {x : D} (h : 3000 < (x.answer.size : Int)) : slotB x = false := by
  unfold slotB; rw [decide_eq_false (show ¬ (x.answer.size : Int) ≤ 3000 by omega)]; rfl
theorem slot_2 {x : D} (h : ¬ 3000 < (x.answer.size : Int)) : slotB x = (x.done || x.answer.toList.isEmpty) := by
  unfold slotB; rw [decide_eq_true (show (x.answer.size : Int) ≤ 3000 by omega)]; rfl
/-- What a good session tells. -/
theorem gs_nx {nx : Int} {l : List D} (h : gsB nx l = true) : 0 ≤ nx ∧ nx ≤ 1000000 ∧ l.length ≤ 30 := by
  unfold gsB inB at h
  simp only [Bool.and_eq_true, decide_eq_true_eq] at h
  omega
theorem gs_to {nx : Int} {l : List D} (h : gsB nx l = true) : goodTo nx l l.length = true := by
  unfold gsB at h
  simp only [Bool.and_eq_true] at h
  exact h.1.2
theorem gs_slot {nx : Int} {l : List D} (h : gsB nx l = true) {k : Nat} (hk : k < l.length) : 0 ≤ (l.getD k zero).id ∧ (l.getD k zero).id < nx ∧ (l.getD k zero).answer.size ≤ 3000 := by
  have hs := to_step (gs_to h) hk
  have h0 : 0 ≤ leastAt l k := least_0 (nx := nx) k (by
    have := gs_to h
    unfold goodTo at this ⊢
    rw [List.all_eq_true] at this ⊢
    intro j hj
    exact this j (by simp at hj ⊢; omega))
  unfold stepB slotB at hs
  simp only [Bool.and_eq_true, decide_eq_true_eq] at hs
  omega
theorem gs_rise {nx : Int} {l : List D} (h : gsB nx l = true) (k : Nat) (hk : k + 1 < l.length) : (l.getD k zero).id < (l.getD (k + 1) zero).id := by
  have hs := to_step (gs_to h) hk
  unfold stepB at hs
  simp only [Bool.and_eq_true, decide_eq_true_eq] at hs
  have h1 : (l.getD k zero).id + 1 ≤ (l.getD (k + 1) zero).id := hs.1.1
  omega
theorem gs_first {nx : Int} {l : List D} (h : gsB nx l = true) (h0 : 0 < l.length) : (l.getD 0 zero).done = false := by
  unfold gsB at h
  simp only [Bool.and_eq_true] at h
  have := h.2
  rw [head_1 (by omega)] at this
  simpa using this
end Sess
end Go.Proofs.Ytedcmbegcmgfkaa
