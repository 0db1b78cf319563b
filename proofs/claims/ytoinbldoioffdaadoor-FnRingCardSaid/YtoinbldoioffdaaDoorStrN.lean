/-
  Rows of texts by append; rows of numbers and texts that a call has made, as slices that lie. No Go function is spoken of here.
-/
import Derived.Test.YtoinbldoioffdaaDoorIntZ
namespace Go.Proofs.YtoinbldoioffdaaDoor
namespace StrN
open Go.RowKit Base OwnR Marks
set_option linter.unusedVariables false

theorem info_ex : ∃ i, Tryd.prog.info? 9 = some i ∧ i.zero = some (.string ByteArray.empty) ∧ i.size = 1 ∧ i.bytes = 16 := by
  have h : (Tryd.prog.info? 9).map (fun i => (i.zero, i.size, i.bytes)) = some (some (.string ByteArray.empty), 1, 16) := by kernel_rfl
  obtain ⟨i, hi, hz⟩ := Option.map_eq_some_iff.1 h
  simp only [Prod.mk.injEq] at hz
  exact ⟨i, hi, hz.1, hz.2.1, hz.2.2⟩
def cells (l : List ByteArray) : List Value := l.map Value.string
theorem cells_get (l : List ByteArray) (i : Nat) (hi : i < l.length) : (cells l)[i]? = some (.string (l.getD i ByteArray.empty)) := by
  simp [cells, List.getD_eq_getElem?_getD, List.getElem?_eq_getElem hi]
def OwnT (w : World) (B : Nat) (v : Value) (l : List ByteArray) : Prop := w.ownsRow B 9 1 v l.length (cells l)
theorem own_snoc {w : World} {base : Nat} {v : Value} {kept : List ByteArray} {x : ByteArray} (h : w.ownsRow base 9 1 v (kept.length + 1) (cells kept ++ [.string x])) : OwnT w base v (kept ++ [x]) := by
  unfold OwnT
  rw [List.length_append]
  have : cells (kept ++ [x]) = cells kept ++ [.string x] := by simp [cells]
  rw [this]
  exact h
theorem news_one (x : ByteArray) (u : Value) (hu : u ∈ [Value.string x]) : u.oneCell' = true := by
  simp at hu; rw [hu]; rfl
theorem news_cells (w : World) (x : ByteArray) (t : TypeId) (j : Nat) (u : Value) (hj : [Value.string x][j]? = some u) :
    (w.alloc (.cells #[.string x] t)).cell? ((⟨w.heap.size, 0, none⟩ : Addr).add j) = some u := by
  rw [Go.WideShapes.add_plain, Nat.zero_add, World.cell?_alloc_new]
  show [Value.string x].toArray[j]? = some u
  simpa using hj
/-- It stands while only an elder block turns. -/
theorem own_gb {w w' : World} {base : Nat} {e : TypeId} {size : Nat} {v : Value} {n : Nat} {xs : List Value} {c : Nat} (h : w.ownsRow base e size v n xs) (hg : w.grownBy w' (some c)) (hc : c < base) : w'.ownsRow base e size v n xs := by
  refine ⟨h.1, h.2.elim Or.inl ?_⟩
  rintro ⟨g, cap, cur, hv, hgB, hh, rest⟩
  exact Or.inr ⟨g, cap, cur, hv, hgB, by rw [hg.block g (Array.getElem?_eq_some_iff.1 hh).1 (fun e => by simp at e; omega)]; exact hh, rest⟩
theorem gb_own {w0 w w' : World} {c : Nat} {r : Option Nat} (h : w0.grownBy w (some c)) (hg : w.grownBy w' r) (hr : ∀ k, r = some k → w0.heap.size ≤ k) : w0.grownBy w' (some c) :=
  ⟨hg.os.trans h.os, hg.tape.trans h.tape, hg.output.trans h.output, Nat.le_trans h.size hg.size, fun i hi hne => (hg.block i (Nat.lt_of_lt_of_le hi h.size) (fun e => by have := hr i e.symm; omega)).trans (h.block i hi hne)⟩
theorem own_strs {w : World} {B : Nat} {a : Option Addr} {c : Nat} {l : List ByteArray} (h : OwnT w B (.slice a l.length c) l) : StrsAt w a l ∧ ∀ b off, a = some ⟨b, off, none⟩ → b < w.heap.size := by
  rcases h.2 with ⟨hv, h0⟩ | ⟨g, cap', cur, hv, hg, hh, hn, _, hsz, ht⟩
  · simp only [Value.slice.injEq] at hv
    exact ⟨fun hne => absurd (List.length_eq_zero_iff.1 h0) hne, fun b off e => by rw [hv.1] at e; simp at e⟩
  · simp only [Value.slice.injEq] at hv
    have hlt : g < w.heap.size := (Array.getElem?_eq_some_iff.1 hh).1
    refine ⟨fun _ => ⟨g, 0, hv.1, hlt, fun i hi => ?_⟩, fun b off e => by rw [hv.1] at e; simp at e; omega⟩
    rw [Nat.zero_add]
    have e : cur[i]? = (cells l)[i]? := by rw [← ht, List.getElem?_take_of_lt (by omega)]; simp
    simp only [World.cell?, hh, e, cells_get l i hi]
    simp
theorem own_nums {w : World} {B : Nat} {a : Option Addr} {c : Nat} {l : List Int} (h : w.ownsRow B 3 1 (.slice a l.length c) l.length (Ints.cells l)) : Ints.NAt w a l ∧ ∀ b off, a = some ⟨b, off, none⟩ → b < w.heap.size := by
  rcases h.2 with ⟨hv, h0⟩ | ⟨g, cap', cur, hv, hg, hh, hn, _, hsz, ht⟩
  · simp only [Value.slice.injEq] at hv
    exact ⟨fun hne => absurd (List.length_eq_zero_iff.1 h0) hne, fun b off e => by rw [hv.1] at e; simp at e⟩
  · simp only [Value.slice.injEq] at hv
    have hlt : g < w.heap.size := (Array.getElem?_eq_some_iff.1 hh).1
    refine ⟨fun _ => ⟨g, 0, hv.1, hlt, fun i hi => ?_⟩, fun b off e => by rw [hv.1] at e; simp at e; omega⟩
    rw [Nat.zero_add]
    have e : cur[i]? = (Ints.cells l)[i]? := by rw [← ht, List.getElem?_take_of_lt (by omega)]; simp
    simp only [World.cell?, hh, e, Ints.cells_get l i hi]
    simp [Ints.ncell]
end StrN
end Go.Proofs.YtoinbldoioffdaaDoor
