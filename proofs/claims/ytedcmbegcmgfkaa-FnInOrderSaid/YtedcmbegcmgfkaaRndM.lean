/-
  How the program's round lies in memory: a block of 93 cells whose slots go round. No Go function is spoken of here.
-/
import Derived.Test.YtedcmbegcmgfkaaRndP
import Derived.Test.YtedcmbegcmgfkaaMarkP
import Derived.Test.YtedcmbegcmgfkaaRows
namespace Go.Proofs.Ytedcmbegcmgfkaa
namespace Rnd
open Go.RowKit Base Slots Sess Marks
set_option linter.unusedVariables false

/-- Where the slot i of the round lies. -/
def pos (fi i : Nat) : Nat := 3 + (fi + i) % 30 * 3
def Cells (f : Nat → Value) (o : Nat) (x : D) : Prop := f o = .int .i64 x.id ∧ f (o + 1) = .bool x.done ∧ f (o + 2) = .string x.answer
def Lies (f : Nat → Value) (nx : Int) (fi : Nat) (l : List D) : Prop :=
  f 0 = .int .i64 nx ∧ f 1 = .int .i64 fi ∧ f 2 = .int .i64 l.length ∧ fi < 30 ∧ l.length ≤ 30 ∧ ∀ i, i < l.length → Cells f (pos fi i) (l.getD i zero)
def RAt (w : World) (b : Nat) (nx : Int) (fi : Nat) (l : List D) : Prop := ∃ f, RowAt w b 44 93 f ∧ Lies f nx fi l
theorem pos_lt (fi i : Nat) : pos fi i + 3 ≤ 93 := by unfold pos; omega
theorem pos_ge (fi i : Nat) : 3 ≤ pos fi i := by unfold pos; omega
theorem pos_ne {fi i j : Nat} (hi : i < 30) (hj : j < 30) (h : i ≠ j) : pos fi i + 3 ≤ pos fi j ∨ pos fi j + 3 ≤ pos fi i := by unfold pos; omega
namespace RAt
variable {w w' : World} {b : Nat} {nx : Int} {fi : Nat} {l : List D}
theorem lt (h : RAt w b nx fi l) : b < w.heap.size := by obtain ⟨f, h, _⟩ := h; exact h.lt
theorem of_block (h : RAt w b nx fi l) (e : w'.heap[b]? = w.heap[b]?) : RAt w' b nx fi l := by obtain ⟨f, h, k⟩ := h; exact ⟨f, h.of_block e, k⟩
theorem below {B : Nat} (h : RAt w b nx fi l) (hb : Below B w w') (hB : b < B) : RAt w' b nx fi l := h.of_block (hb.block b hB)
theorem frozen (h : RAt w b nx fi l) (o : Nat) : w.frozen? ⟨b, o, none⟩ = false := by obtain ⟨f, h, _⟩ := h; exact h.frozen o
theorem c0 (h : RAt w b nx fi l) : w.cell? ⟨b, 0, none⟩ = some (.int .i64 nx) := by obtain ⟨f, h, k⟩ := h; rw [h.cell (by omega), k.1]
theorem c1 (h : RAt w b nx fi l) : w.cell? ⟨b, 1, none⟩ = some (.int .i64 fi) := by obtain ⟨f, h, k⟩ := h; rw [h.cell (by omega), k.2.1]
theorem c2 (h : RAt w b nx fi l) : w.cell? ⟨b, 2, none⟩ = some (.int .i64 l.length) := by obtain ⟨f, h, k⟩ := h; rw [h.cell (by omega), k.2.2.1]
theorem fi_lt (h : RAt w b nx fi l) : fi < 30 := by obtain ⟨f, h, k⟩ := h; exact k.2.2.2.1
theorem len (h : RAt w b nx fi l) : l.length ≤ 30 := by obtain ⟨f, h, k⟩ := h; exact k.2.2.2.2.1
theorem slot (h : RAt w b nx fi l) (i : Nat) (hi : i < l.length) : At w b (pos fi i) (l.getD i zero) := by
  obtain ⟨f, h, k⟩ := h
  obtain ⟨k0, k1, k2⟩ := k.2.2.2.2.2 i hi
  have := pos_lt fi i
  refine ⟨?_, ?_, ?_⟩
  · rw [h.cell (by omega), k0]
  · rw [h.cell (by omega), k1]
  · rw [h.cell (by omega), k2]
/-- Any cell of it. -/
theorem some (h : RAt w b nx fi l) (o : Nat) (ho : o < 93) : ∃ v, w.cell? ⟨b, o, none⟩ = some v := by obtain ⟨f, h, k⟩ := h; exact ⟨f o, h.cell ho⟩
/-- The first goes. -/
theorem tail {x : D} {r : List D} (h : RAt w b nx fi (x :: r)) :
    RAt ((w.setCell ⟨b, 1, none⟩ (.int .i64 (((fi + 1) % 30 : Nat) : Int))).setCell ⟨b, 2, none⟩ (.int .i64 r.length)) b nx ((fi + 1) % 30) r := by
  obtain ⟨f, h, k0, k1, k2, k3, k4, k5⟩ := h
  refine ⟨_, (h.set 1 (.int .i64 (((fi + 1) % 30 : Nat) : Int))).set 2 (.int .i64 r.length), ?_, ?_, ?_, Nat.mod_lt _ (by omega), by simp at k4; omega, fun i hi => ?_⟩
  · simpa using k0
  · simp
  · simp
  · have h1 := k5 (i + 1) (by simpa using hi)
    have e : pos fi (i + 1) = pos ((fi + 1) % 30) i := by unfold pos; omega
    have e2 : (x :: r).getD (i + 1) zero = r.getD i zero := by simp
    rw [e, e2] at h1
    have h3 := pos_ge ((fi + 1) % 30) i
    obtain ⟨q0, q1, q2⟩ := h1
    refine ⟨?_, ?_, ?_⟩
    · dsimp only
      rw [if_neg (by omega), if_neg (by omega)]; exact q0
    · dsimp only
      rw [if_neg (by omega), if_neg (by omega)]; exact q1
    · dsimp only
      rw [if_neg (by omega), if_neg (by omega)]; exact q2
/-- One more behind. -/
theorem snoc {id : Int} (h : RAt w b nx fi l) (hl : l.length < 30) (m : Int) :
    RAt (((((w.setCell ⟨b, pos fi l.length, none⟩ (.int .i64 id)).setCell ⟨b, pos fi l.length + 1, none⟩ (.bool false)).setCell ⟨b, pos fi l.length + 2, none⟩ (.string ByteArray.empty)).setCell ⟨b, 2, none⟩ (.int .i64 ((l.length : Int) + 1))).setCell ⟨b, 0, none⟩ (.int .i64 m)) b m fi (l ++ [⟨id, false, ByteArray.empty⟩]) := by
  obtain ⟨f, h, k0, k1, k2, k3, k4, k5⟩ := h
  have hp := pos_ge fi l.length
  refine ⟨_, ((((h.set (pos fi l.length) (.int .i64 id)).set (pos fi l.length + 1) (.bool false)).set (pos fi l.length + 2) (.string ByteArray.empty)).set 2 (.int .i64 ((l.length : Int) + 1))).set 0 (.int .i64 m), ?_, ?_, ?_, k3, by simp; omega, fun i hi => ?_⟩
  · simp
  · dsimp only
    rw [if_neg (by omega), if_neg (by omega), if_neg (by omega), if_neg (by omega), if_neg (by omega)]; exact k1
  · dsimp only
    rw [if_neg (by omega), if_pos rfl]; simp
  · rw [List.length_append, List.length_singleton] at hi
    have hi3 := pos_ge fi i
    by_cases e : i = l.length
    · subst e
      rw [show (l ++ [(⟨id, false, ByteArray.empty⟩ : D)]).getD l.length zero = ⟨id, false, ByteArray.empty⟩ by simp]
      refine ⟨?_, ?_, ?_⟩
      · dsimp only
        rw [if_neg (by omega), if_neg (by omega), if_neg (by omega), if_neg (by omega), if_pos rfl]
      · dsimp only
        rw [if_neg (by omega), if_neg (by omega), if_neg (by omega), if_pos rfl]
      · dsimp only
        rw [if_neg (by omega), if_neg (by omega), if_pos rfl]
    · have hi' : i < l.length := by omega
      rw [show (l ++ [(⟨id, false, ByteArray.empty⟩ : D)]).getD i zero = l.getD i zero by simp [List.getD_eq_getElem?_getD, List.getElem?_append_left hi']]
      have hn := pos_ne (fi := fi) (i := i) (j := l.length) (by omega) (by omega) e
      obtain ⟨q0, q1, q2⟩ := k5 i hi'
      refine ⟨?_, ?_, ?_⟩
      · dsimp only
        rw [if_neg (by omega), if_neg (by omega), if_neg (by omega), if_neg (by omega), if_neg (by omega)]; exact q0
      · dsimp only
        rw [if_neg (by omega), if_neg (by omega), if_neg (by omega), if_neg (by omega), if_neg (by omega)]; exact q1
      · dsimp only
        rw [if_neg (by omega), if_neg (by omega), if_neg (by omega), if_neg (by omega), if_neg (by omega)]; exact q2
/-- One is closed. -/
theorem shuts {id : Int} {ans : ByteArray} {i : Nat} (h : RAt w b nx fi l) (hr : Rising l) (hi : i < l.length) (hh : hitB id (l.getD i zero) = true) :
    RAt ((w.setCell ⟨b, pos fi i + 1, none⟩ (.bool true)).setCell ⟨b, pos fi i + 2, none⟩ (.string ans)) b nx fi (closeL l id ans) := by
  obtain ⟨f, h, k0, k1, k2, k3, k4, k5⟩ := h
  have hp := pos_ge fi i
  have hid : (l.getD i zero).id = id := by simp [hitB] at hh; exact hh.1
  refine ⟨_, (h.set (pos fi i + 1) (.bool true)).set (pos fi i + 2) (.string ans), ?_, ?_, ?_, k3, by rw [closeL_len]; exact k4, fun j hj => ?_⟩
  · dsimp only
    rw [if_neg (by omega), if_neg (by omega)]; exact k0
  · dsimp only
    rw [if_neg (by omega), if_neg (by omega)]; exact k1
  · dsimp only
    rw [if_neg (by omega), if_neg (by omega), closeL_len]; exact k2
  · rw [closeL_len] at hj
    rw [close_set hr hi hh j hj]
    have hj3 := pos_ge fi j
    obtain ⟨q0, q1, q2⟩ := k5 j hj
    by_cases e : j = i
    · subst e
      rw [if_pos rfl]
      refine ⟨?_, ?_, ?_⟩
      · dsimp only
        rw [if_neg (by omega), if_neg (by omega), q0, hid]
      · dsimp only
        rw [if_neg (by omega), if_pos rfl]
      · dsimp only
        rw [if_pos rfl]
    · rw [if_neg e]
      have hn := pos_ne (fi := fi) (i := j) (j := i) (by omega) (by omega) e
      refine ⟨?_, ?_, ?_⟩
      · dsimp only
        rw [if_neg (by omega), if_neg (by omega)]; exact q0
      · dsimp only
        rw [if_neg (by omega), if_neg (by omega)]; exact q1
      · dsimp only
        rw [if_neg (by omega), if_neg (by omega)]; exact q2
end RAt
end Rnd
end Go.Proofs.Ytedcmbegcmgfkaa
