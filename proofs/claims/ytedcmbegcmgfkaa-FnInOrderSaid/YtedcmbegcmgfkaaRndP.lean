/-
  Closing a slot and letting out what is done at the front, as plain functions of a list of slots. No Go function is spoken of here.
-/
import Derived.Test.YtedcmbegcmgfkaaSessP
namespace Go.Proofs.Ytedcmbegcmgfkaa
namespace Rnd
open Go.RowKit Base Slots Sess
set_option linter.unusedVariables false

def hitB (id : Int) (x : D) : Bool := (x.id == id) && !x.done
def shut (id : Int) (ans : ByteArray) (x : D) : D := if hitB id x = true then ⟨id, true, ans⟩ else x
def closeL (l : List D) (id : Int) (ans : ByteArray) : List D := l.map (shut id ans)
def anyB (l : List D) (id : Int) : Bool := l.any (hitB id)
/-- What stays, and what goes out. -/
def popL : List D → List D
  | [] => []
  | x :: r => if x.done = true then popL r else x :: r
def popS : List D → ByteArray
  | [] => ByteArray.empty
  | x :: r => if x.done = true then x.answer ++ popS r else ByteArray.empty
/-- Ids rise. -/
def Rising (l : List D) : Prop := ∀ i j, i < j → j < l.length → (l.getD i zero).id < (l.getD j zero).id
def Small (l : List D) : Prop := ∀ i, i < l.length → (l.getD i zero).answer.size ≤ 3000
theorem rising_of {l : List D} (h : ∀ k, k + 1 < l.length → (l.getD k zero).id < (l.getD (k + 1) zero).id) : Rising l := by
  intro i j hij hj
  obtain ⟨d, rfl⟩ : ∃ d, j = i + 1 + d := ⟨j - (i + 1), by omega⟩
  clear hij
  induction d with
  | zero => exact h i hj
  | succ d ih =>
    have h1 := ih (by omega)
    have h2 := h (i + 1 + d) hj
    have e : i + 1 + (d + 1) = i + 1 + d + 1 := by omega
    rw [e]
    omega
theorem good_rising {nx : Int} {l : List D} (h : gsB nx l = true) : Rising l := rising_of (fun k hk => gs_rise h k hk)
theorem good_small {nx : Int} {l : List D} (h : gsB nx l = true) : Small l := fun k hk => (gs_slot h hk).2.2
theorem closeL_len (l : List D) (id : Int) (ans : ByteArray) : (closeL l id ans).length = l.length := by simp [closeL]
theorem getD_lt (l : List D) (i : Nat) (h : i < l.length) : l.getD i zero = l[i] := by simp [List.getD_eq_getElem?_getD, h]
theorem closeL_get (l : List D) (id : Int) (ans : ByteArray) (i : Nat) (h : i < l.length) : (closeL l id ans).getD i zero = shut id ans (l.getD i zero) := by
  rw [getD_lt _ _ (by rw [closeL_len]; exact h), getD_lt _ _ h]
  simp [closeL]
theorem shut_id (id : Int) (ans : ByteArray) (x : D) : (shut id ans x).id = x.id := by
  unfold shut
  split
  · rename_i h
    simp [hitB] at h
    exact h.1.symm
  · rfl
theorem close_rising {l : List D} (h : Rising l) (id : Int) (ans : ByteArray) : Rising (closeL l id ans) := by
  intro i j hij hj
  rw [closeL_len] at hj
  rw [closeL_get l id ans i (by omega), closeL_get l id ans j hj, shut_id, shut_id]
  exact h i j hij hj
theorem close_small {l : List D} (h : Small l) (id : Int) {ans : ByteArray} (ha : ans.size ≤ 3000) : Small (closeL l id ans) := by
  intro i hi
  rw [closeL_len] at hi
  rw [closeL_get l id ans i hi]
  unfold shut
  split
  · exact ha
  · exact h i hi
/-- Where ids rise, one slot at most is closed: the first that fits. -/
theorem close_set {l : List D} (h : Rising l) {id : Int} {ans : ByteArray} {i : Nat} (hi : i < l.length) (hh : hitB id (l.getD i zero) = true) (j : Nat) (hj : j < l.length) :
    (closeL l id ans).getD j zero = if j = i then ⟨id, true, ans⟩ else l.getD j zero := by
  rw [closeL_get l id ans j hj]
  unfold shut
  have hid : (l.getD i zero).id = id := by simp [hitB] at hh; exact hh.1
  by_cases e : j = i
  · subst e
    rw [if_pos hh, if_pos rfl]
  · rw [if_neg e, if_neg]
    intro hc
    have hjd : (l.getD j zero).id = id := by simp [hitB] at hc; exact hc.1
    rcases Nat.lt_or_gt_of_ne e with g | g
    · have := h j i g hi; omega
    · have := h i j g hj; omega
theorem any_hit {l : List D} {id : Int} {i : Nat} (hi : i < l.length) (hh : hitB id (l.getD i zero) = true) : anyB l id = true := by
  unfold anyB
  rw [List.any_eq_true]
  exact ⟨l[i], List.getElem_mem hi, by rw [getD_lt l i hi] at hh; exact hh⟩
theorem any_none {l : List D} {id : Int} (h : ∀ i, i < l.length → hitB id (l.getD i zero) = false) : anyB l id = false := by
  unfold anyB
  rw [List.any_eq_false]
  intro x hx
  obtain ⟨i, hi, rfl⟩ := List.getElem_of_mem hx
  have := h i hi
  rw [getD_lt l i hi] at this
  simp [this]
theorem pop_cons_done {x : D} {r : List D} (h : x.done = true) : popL (x :: r) = popL r ∧ popS (x :: r) = x.answer ++ popS r := by simp [popL, popS, h]
theorem pop_cons_open {x : D} {r : List D} (h : x.done = false) : popL (x :: r) = x :: r ∧ popS (x :: r) = ByteArray.empty := by simp [popL, popS, h]
theorem pop_nil : popL [] = [] ∧ popS [] = ByteArray.empty := ⟨rfl, rfl⟩
theorem popL_len (l : List D) : (popL l).length ≤ l.length := by
  induction l with
  | nil => simp [popL]
  | cons x r ih =>
    unfold popL
    split
    · simp; omega
    · exact Nat.le_refl _
theorem popL_drop (l : List D) : ∃ k, k ≤ l.length ∧ popL l = l.drop k := by
  induction l with
  | nil => exact ⟨0, Nat.le_refl _, rfl⟩
  | cons x r ih =>
    unfold popL
    split
    · obtain ⟨k, hk, e⟩ := ih
      exact ⟨k + 1, by simpa using hk, by simpa using e⟩
    · exact ⟨0, Nat.zero_le _, rfl⟩
theorem drop_get (l : List D) (k i : Nat) : (l.drop k).getD i zero = l.getD (k + i) zero := by simp [List.getD_eq_getElem?_getD, List.getElem?_drop]
theorem drop_rising {l : List D} (h : Rising l) (k : Nat) : Rising (l.drop k) := by
  intro i j hij hj
  rw [List.length_drop] at hj
  rw [drop_get, drop_get]
  exact h _ _ (by omega) (by omega)
theorem drop_small {l : List D} (h : Small l) (k : Nat) : Small (l.drop k) := by
  intro i hi
  rw [List.length_drop] at hi
  rw [drop_get]
  exact h _ (by omega)
theorem pop_rising {l : List D} (h : Rising l) : Rising (popL l) := by
  obtain ⟨k, _, e⟩ := popL_drop l
  rw [e]; exact drop_rising h k
theorem pop_small {l : List D} (h : Small l) : Small (popL l) := by
  obtain ⟨k, _, e⟩ := popL_drop l
  rw [e]; exact drop_small h k
theorem popS_size {l : List D} (h : Small l) : (popS l).size ≤ 3000 * l.length := by
  induction l with
  | nil => simp [popS]
  | cons x r ih =>
    unfold popS
    have h0 : x.answer.size ≤ 3000 := h 0 (by simp)
    have hr : Small r := fun i hi => h (i + 1) (by simpa using hi)
    have := ih hr
    split
    · rw [ByteArray.size_append]; simp; omega
    · simp
/-- The ids of those that are not done. -/
def openL (l : List D) : List Int := (l.filter (fun x => !x.done)).map D.id
theorem openL_take (l : List D) (k : Nat) (hk : k < l.length) : openL (l.take (k + 1)) = if (l.getD k zero).done = true then openL (l.take k) else openL (l.take k) ++ [(l.getD k zero).id] := by
  unfold openL
  rw [List.take_succ_eq_append_getElem hk, List.filter_append, List.map_append, getD_lt l k hk]
  cases h : l[k].done
  · simp [h]
  · simp [h]
theorem openL_len (l : List D) : (openL l).length ≤ l.length := by
  unfold openL
  rw [List.length_map]
  exact List.length_filter_le _ _
theorem openL_all (l : List D) : openL (l.take l.length) = openL l := by rw [List.take_length]
end Rnd
end Go.Proofs.Ytedcmbegcmgfkaa
