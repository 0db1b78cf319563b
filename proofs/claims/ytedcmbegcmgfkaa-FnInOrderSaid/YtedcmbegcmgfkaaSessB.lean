/-
  The box of a session; slots in a row that a call has made. No Go function is spoken of here.
-/
import Derived.Test.YtedcmbegcmgfkaaSlotF
import Derived.Test.YtedcmbegcmgfkaaRows
import Derived.Test.YtedcmbegcmgfkaaSessP
import Derived.Laws.AppendOwn
import Derived.WalkSpells
import Derived.Lib.SliceRun
namespace Go.Proofs.Ytedcmbegcmgfkaa
namespace Sess
open Go.RowKit Base Slots Marks OwnR SlotsW
set_option linter.unusedVariables false

/-- A slice of slots in a row that the call has made, above B. -/
def OwnV (w : World) (B : Nat) (v : Value) (l : List D) : Prop := w.ownsRow B 41 3 v l.length (flat l)
theorem info_ex : ∃ i, Try.prog.info? 41 = some i ∧ i.zero = some (.agg #[.int .i64 0, .bool false, .string ByteArray.empty]) ∧ i.size = 3 ∧ i.bytes = 32 := by
  have h : (Try.prog.info? 41).map (fun i => (i.zero, i.size, i.bytes)) = some (some (.agg #[.int .i64 0, .bool false, .string ByteArray.empty]), 3, 32) := by kernel_rfl
  obtain ⟨i, hi, hz⟩ := Option.map_eq_some_iff.1 h
  simp only [Prod.mk.injEq] at hz
  exact ⟨i, hi, hz.1, hz.2.1, hz.2.2⟩
theorem OwnV.below {w w' : World} {B C : Nat} {v : Value} {l : List D} (h : OwnV w B v l) (hb : Below C w w') (hC : w.heap.size ≤ C) : OwnV w' B v l := own_below h hb hC
theorem OwnV.set {w : World} {B : Nat} {v : Value} {l : List D} (h : OwnV w B v l) {p : Addr} (hp : p.block < B) (u : Value) : OwnV (w.setCell p u) B v l := ownsRow_setCell_below h hp u
theorem OwnV.le {w : World} {B C : Nat} {v : Value} {l : List D} (h : OwnV w B v l) (hC : C ≤ B) : OwnV w C v l := own_le h hC
theorem OwnV.form {w : World} {B : Nat} {v : Value} {l : List D} (h : OwnV w B v l) : ∃ a c, v = .slice a l.length c := own_form h
theorem own_nil (w : World) (B : Nat) : OwnV w B (.slice none 0 0) [] := World.ownsRow_nil _ _ _ _
theorem own_empty (w : World) (t : TypeId) (size B : Nat) (hB : B ≤ w.heap.size) : (w.alloc (.cells #[] t)).ownsRow B t size (.slice (some ⟨w.heap.size, 0, none⟩) 0 0) 0 [] :=
  ⟨by simp, .inr ⟨w.heap.size, 0, #[], rfl, hB, heap_alloc_new w _, Nat.le_refl _, Nat.zero_le _, by simp, by simp⟩⟩
theorem news_lat {w : World} {b off : Nat} {l : List D} (h : ∀ i, i < l.length → At w b (off + i * 3) (l.getD i zero)) (j : Nat) (u : Value) (hj : (flat l)[j]? = some u) : w.cell? ((⟨b, off, none⟩ : Addr).add j) = some u := by
  have hlt : j < l.length * 3 := by rw [← flat_length]; exact (List.getElem?_eq_some_iff.1 hj).1
  rw [flat_get l j hlt] at hj
  rw [Go.WideShapes.add_plain, ← hj]
  have hi := h (j / 3) (by omega)
  unfold icell
  by_cases h0 : j % 3 = 0
  · rw [if_pos h0, show off + j = off + j / 3 * 3 by omega]; exact hi.1
  · rw [if_neg h0]
    by_cases h1 : j % 3 = 1
    · rw [if_pos h1, show off + j = off + j / 3 * 3 + 1 by omega]; exact hi.2.1
    · rw [if_neg h1, show off + j = off + j / 3 * 3 + 2 by omega]; exact hi.2.2
theorem take_snoc (l : List D) (k : Nat) (hk : k < l.length) : l.take (k + 1) = l.take k ++ [l.getD k zero] := by
  rw [List.take_succ_eq_append_getElem hk]
  simp [List.getD_eq_getElem?_getD, List.getElem?_eq_getElem hk]

/-- The box of a session, at H. -/
def Bx (w : World) (H : Nat) (n : Int) (v : Value) : Prop :=
  w.cell? ⟨H, 0, none⟩ = some (.int .i64 n) ∧ w.cell? ⟨H, 1, none⟩ = some v ∧ (∀ o, w.frozen? ⟨H, o, none⟩ = false) ∧ H < w.heap.size
theorem Bx.of_block {w w' : World} {H : Nat} {n : Int} {v : Value} (h : Bx w H n v) (e : w'.heap[H]? = w.heap[H]?) (hz : w.heap.size ≤ w'.heap.size) : Bx w' H n v := by
  obtain ⟨h0, h1, h2, h3⟩ := h
  have hc : ∀ o, w'.cell? ⟨H, o, none⟩ = w.cell? ⟨H, o, none⟩ := fun o => World.cell?_of_block (a := ⟨H, o, none⟩) e
  refine ⟨(hc 0).trans h0, (hc 1).trans h1, fun o => ?_, by omega⟩
  have := h2 o
  unfold World.frozen? at this ⊢
  rw [e]
  exact this
theorem Bx.below {w w' : World} {H C : Nat} {n : Int} {v : Value} (h : Bx w H n v) (hb : Below C w w') (hC : H < C) : Bx w' H n v := h.of_block (hb.block H hC) hb.size
theorem Bx.gb {w w' : World} {H : Nat} {n : Int} {v : Value} {r : Option Nat} (h : Bx w H n v) (hg : w.grownBy w' r) (hne : some H ≠ r) : Bx w' H n v := h.of_block (hg.block H h.2.2.2 hne) hg.size
theorem frozen_set (w : World) (p q : Addr) (u : Value) : (w.setCell p u).frozen? q = w.frozen? q := by simp
theorem Bx.set0 {w : World} {H : Nat} {n : Int} {v : Value} (h : Bx w H n v) (u : Int) : Bx (w.setCell ⟨H, 0, none⟩ (.int .i64 u)) H u v := by
  obtain ⟨h0, h1, h2, h3⟩ := h
  refine ⟨?_, ?_, fun o => (frozen_set _ _ _ _).trans (h2 o), by simpa [World.setCell] using h3⟩
  all_goals go_simp
theorem Bx.set1 {w : World} {H : Nat} {n : Int} {v : Value} (h : Bx w H n v) (u : Value) : Bx (w.setCell ⟨H, 1, none⟩ u) H n u := by
  obtain ⟨h0, h1, h2, h3⟩ := h
  refine ⟨?_, ?_, fun o => (frozen_set _ _ _ _).trans (h2 o), by simpa [World.setCell] using h3⟩
  all_goals go_simp
theorem Bx.other {w : World} {H : Nat} {n : Int} {v : Value} (h : Bx w H n v) {p : Addr} (hp : p.block ≠ H) (u : Value) : Bx (w.setCell p u) H n v :=
  h.of_block (Below.heap_setCell _ _ _ _ (fun e => hp e.symm)) (by simp [World.setCell])
theorem bx_new (w : World) (n : Int) (v : Value) : Bx (w.alloc (.cells #[.int .i64 n, v] 52)) w.heap.size n v := by
  refine ⟨?_, ?_, fun o => ?_, ?_⟩
  all_goals go_simp
end Sess
end Go.Proofs.Ytedcmbegcmgfkaa
