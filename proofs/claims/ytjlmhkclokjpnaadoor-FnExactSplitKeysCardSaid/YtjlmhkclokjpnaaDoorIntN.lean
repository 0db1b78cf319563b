/-
  Rows of numbers, in memory and by append. No Go function is spoken of here.
-/
import Derived.Test.YtjlmhkclokjpnaaDoorMarkZ
import Derived.Test.YtjlmhkclokjpnaaDoorRows
import Derived.Laws.AppendOwn
namespace Go.Proofs.YtjlmhkclokjpnaaDoor
namespace Ints
open Go.RowKit Base OwnR
set_option linter.unusedVariables false
def ncell (l : List Int) (i : Nat) : Value := .int .i64 (l.getD i 0)


/-- A slice of numbers that lies in memory. -/
def NAt (w : World) (a : Option Addr) (l : List Int) : Prop := l ≠ [] → ∃ b off, a = some ⟨b, off, none⟩ ∧ b < w.heap.size ∧ ∀ i, i < l.length → w.cell? ⟨b, off + i, none⟩ = some (.int .i64 (l.getD i 0))
theorem info_ex : ∃ i, Tryd.prog.info? 3 = some i ∧ i.zero = some (.int .i64 0) ∧ i.size = 1 ∧ i.bytes = 8 := by
  have h : (Tryd.prog.info? 3).map (fun i => (i.zero, i.size, i.bytes)) = some (some (.int .i64 0), 1, 8) := by kernel_rfl
  obtain ⟨i, hi, hz⟩ := Option.map_eq_some_iff.1 h
  simp only [Prod.mk.injEq] at hz
  exact ⟨i, hi, hz.1, hz.2.1, hz.2.2⟩
theorem info : (Tryd.prog.info? 3).map (fun i => (i.zero, i.size, i.bytes)) = some (some (.int .i64 0), 1, 8) := by kernel_rfl
def cells (l : List Int) : List Value := l.map (Value.int .i64)
theorem cells_len (l : List Int) : (cells l).length = l.length := by simp [cells]
theorem cells_get (l : List Int) (i : Nat) (hi : i < l.length) : (cells l)[i]? = some (ncell l i) := by
  simp [cells, ncell, List.getD_eq_getElem?_getD, List.getElem?_eq_getElem hi]
theorem own_snoc {w : World} {base : Nat} {v : Value} {kept kept' : List Int} {x : Int} (h : w.ownsRow base 3 1 v (kept.length + 1) (cells kept ++ [.int .i64 x])) (e : kept' = kept ++ [x]) : w.ownsRow base 3 1 v kept'.length (cells kept') := by
  rw [e, List.length_append]
  have : cells (kept ++ [x]) = cells kept ++ [.int .i64 x] := by simp [cells]
  rw [this]
  exact h
theorem news_one (x : Int) (u : Value) (hu : u ∈ [Value.int .i64 x]) : u.oneCell' = true := by
  simp at hu; rw [hu]; rfl
theorem news_cells (w : World) (x : Int) (t : TypeId) (j : Nat) (u : Value) (hj : [Value.int .i64 x][j]? = some u) :
    (w.alloc (.cells #[.int .i64 x] t)).cell? ((⟨w.heap.size, 0, none⟩ : Addr).add j) = some u := by
  rw [Go.WideShapes.add_plain, Nat.zero_add, World.cell?_alloc_new]
  show [Value.int .i64 x].toArray[j]? = some u
  simpa using hj
end Ints
end Go.Proofs.YtjlmhkclokjpnaaDoor
