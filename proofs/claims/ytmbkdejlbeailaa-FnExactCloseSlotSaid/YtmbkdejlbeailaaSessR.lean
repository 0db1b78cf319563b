/-
  What OpenSlot, CloseSlot and OpenIds leave, as plain functions of a session. No Go function is spoken of here.
-/
import Derived.Test.YtmbkdejlbeailaaSessB
import Derived.Test.YtmbkdejlbeailaaRndP
namespace Go.Proofs.Ytmbkdejlbeailaa
namespace Sess
open Go.RowKit Base Slots Rnd
set_option linter.unusedVariables false

structure Opened where
  nx : Int
  l : List D
  m : Int
  ok : Bool
def openR (nx : Int) (l : List D) : Opened :=
  if gsB nx l = true then if l.length = 30 ∨ nx = 1000000 then ⟨0, [], 0, false⟩ else ⟨nx + 1, l ++ [⟨nx, false, ByteArray.empty⟩], nx, true⟩ else ⟨0, [], 0, false⟩
theorem open_1 {nx : Int} {l : List D} (h : gsB nx l = false) : openR nx l = ⟨0, [], 0, false⟩ := by simp [openR, h]
theorem open_2 {nx : Int} {l : List D} (h : gsB nx l = true) (h2 : l.length = 30 ∨ nx = 1000000) : openR nx l = ⟨0, [], 0, false⟩ := by unfold openR; rw [if_pos h, if_pos h2]
theorem open_3 {nx : Int} {l : List D} (h : gsB nx l = true) (h2 : ¬ (l.length = 30 ∨ nx = 1000000)) : openR nx l = ⟨nx + 1, l ++ [⟨nx, false, ByteArray.empty⟩], nx, true⟩ := by unfold openR; rw [if_pos h, if_neg h2]
theorem openR_len (nx : Int) (l : List D) : (openR nx l).l.length ≤ l.length + 1 := by
  unfold openR
  split
  · split
    · simp
    · simp
  · simp
def OpenEnd (T : Opened) (w : World) (e : Ending) (w' : World) : Prop := ∃ a c, e = .returned (.tuple #[.agg #[.int .i64 T.nx, .slice a T.l.length c], .int .i64 T.m, .bool T.ok]) ∧ Left w w' a T.l
/-- The same, where no more is said of the row than that it lies. -/
def OpenLies (T : Opened) (w : World) (e : Ending) (w' : World) : Prop := ∃ a c, e = .returned (.tuple #[.agg #[.int .i64 T.nx, .slice a T.l.length c], .int .i64 T.m, .bool T.ok]) ∧ LAt w' a T.l ∧ Below w.heap.size w w'

structure Closed where
  nx : Int
  l : List D
  m : ByteArray
  ok : Bool
def closeR (nx : Int) (l : List D) (id : Int) (ans : ByteArray) : Closed :=
  if gsB nx l = true then if ans.size ≤ 3000 ∧ anyB l id = true then ⟨nx, popL (closeL l id ans), popS (closeL l id ans), true⟩ else ⟨0, [], ByteArray.empty, false⟩ else ⟨0, [], ByteArray.empty, false⟩
theorem close_1 {nx : Int} {l : List D} {id : Int} {ans : ByteArray} (h : gsB nx l = false) : closeR nx l id ans = ⟨0, [], ByteArray.empty, false⟩ := by simp [closeR, h]
theorem close_2 {nx : Int} {l : List D} {id : Int} {ans : ByteArray} (h2 : ¬ (ans.size ≤ 3000 ∧ anyB l id = true)) : closeR nx l id ans = ⟨0, [], ByteArray.empty, false⟩ := by
  unfold closeR
  rw [if_neg h2]
  split <;> rfl
theorem close_3 {nx : Int} {l : List D} {id : Int} {ans : ByteArray} (h : gsB nx l = true) (h2 : ans.size ≤ 3000) (h3 : anyB l id = true) : closeR nx l id ans = ⟨nx, popL (closeL l id ans), popS (closeL l id ans), true⟩ := by unfold closeR; rw [if_pos h, if_pos ⟨h2, h3⟩]
theorem closeR_len (nx : Int) (l : List D) (id : Int) (ans : ByteArray) : (closeR nx l id ans).l.length ≤ l.length := by
  unfold closeR
  split
  · split
    · show (popL (closeL l id ans)).length ≤ l.length
      have := popL_len (closeL l id ans)
      rw [closeL_len] at this
      exact this
    · simp
  · simp
def CloseEnd (T : Closed) (w : World) (e : Ending) (w' : World) : Prop := ∃ a c, e = .returned (.tuple #[.agg #[.int .i64 T.nx, .slice a T.l.length c], .string T.m, .bool T.ok]) ∧ Left w w' a T.l
def CloseLies (T : Closed) (w : World) (e : Ending) (w' : World) : Prop := ∃ a c, e = .returned (.tuple #[.agg #[.int .i64 T.nx, .slice a T.l.length c], .string T.m, .bool T.ok]) ∧ LAt w' a T.l ∧ Below w.heap.size w w'
end Sess
end Go.Proofs.Ytmbkdejlbeailaa
