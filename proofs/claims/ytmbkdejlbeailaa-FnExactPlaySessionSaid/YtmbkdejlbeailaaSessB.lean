/-
  The box of a session; slots in a row that a call has made. No Go function is spoken of here.
-/
import Derived.Test.YtmbkdejlbeailaaSlotH
import Derived.Test.YtmbkdejlbeailaaSlotW
import Derived.Test.YtmbkdejlbeailaaSessP
import Derived.Laws.AppendOwn
import Derived.WalkSpells
import Derived.Lib.SliceRun
namespace Go.Proofs.Ytmbkdejlbeailaa
namespace Sess
open Go.RowKit Base Slots Marks OwnR SlotsW
set_option linter.unusedVariables false

/-- A slice of slots in a row that the call has made, above B. -/
def OwnV (w : World) (B : Nat) (v : Value) (l : List D) : Prop := w.ownsRow B 55 3 v l.length (flat l)
theorem info_ex : ∃ i, Try.prog.info? 55 = some i ∧ i.zero = some (.agg #[.int .i64 0, .bool false, .string ByteArray.empty]) ∧ i.size = 3 ∧ i.bytes = 32 := by
  obtain ⟨i, hi, hz⟩ := Option.map_eq_some_iff.1 info
  simp only [Prod.mk.injEq] at hz
  exact ⟨i, hi, hz.1, hz.2.1, hz.2.2⟩
theorem OwnV.below {w w' : World} {B C : Nat} {v : Value} {l : List D} (h : OwnV w B v l) (hb : Below C w w') (hC : w.heap.size ≤ C) : OwnV w' B v l := own_below h hb hC
theorem OwnV.set {w : World} {B : Nat} {v : Value} {l : List D} (h : OwnV w B v l) {p : Addr} (hp : p.block < B) (u : Value) : OwnV (w.setCell p u) B v l := ownsRow_setCell_below h hp u
theorem OwnV.le {w : World} {B C : Nat} {v : Value} {l : List D} (h : OwnV w B v l) (hC : C ≤ B) : OwnV w C v l := own_le h hC
theorem OwnV.form {w : World} {B : Nat} {v : Value} {l : List D} (h : OwnV w B v l) : ∃ a c, v = .slice a l.length c := own_form h
theorem own_nil (w : World) (B : Nat) : OwnV w B (.slice none 0 0) [] := World.ownsRow_nil _ _ _ _
theorem own_empty (w : World) (t : TypeId) (size B : Nat) (hB : B ≤ w.heap.size) : (w.alloc (.cells #[] t)).ownsRow B t size (.slice (some ⟨w.heap.size, 0, none⟩) 0 0) 0 [] :=
  ⟨by simp, .inr ⟨w.heap.size, 0, #[], rfl, hB, heap_alloc_new w _, Nat.le_refl _, Nat.zero_le _, by simp, by simp⟩⟩
theorem OwnV.at {w : World} {B : Nat} {a : Option Addr} {l : List D} {cap : Nat} (h : OwnV w B (.slice a l.length cap) l) : LAt w a l := by
  obtain ⟨r, h1, _⟩ := own_ours h
  exact ours_at h1
theorem news_lat {w : World} {b off : Nat} {l : List D} (h : ∀ i, i < l.length → At w b (off + i * 3) (l.getD i zero)) (j : Nat) (u : Value) (hj : (flat l)[j]? = some u) : w.cell? ((⟨b, off, none⟩ : Addr).add j) = some u := by
  have hlt : j < l.length * 3 := by rw [← flat_length]; exact (List.getElem?_eq_some_iff.1 hj).1
  rw [flat_get l j hlt] at hj
  rw [Go.WideShapes.add_plain, ← hj]
  have hi := h (j / 3) (by omega)
  unfold icell
  by_cases h0 : j % 3 = 0
  · rw [if_pos h0, show off + j = off + j / 3 * 3 by omega]; exact hi.1
  · rw [if_neg h0]
    by_cases h1 : j % 3 = 1
    · rw [if_pos h1, show off + j = off + j / 3 * 3 + 1 by omega]; exact hi.2.1
    · rw [if_neg h1, show off + j = off + j / 3 * 3 + 2 by omega]; exact hi.2.2
theorem take_snoc (l : List D) (k : Nat) (hk : k < l.length) : l.take (k + 1) = l.take k ++ [l.getD k zero] := by
  rw [List.take_succ_eq_append_getElem hk]
  simp [List.getD_eq_getElem?_getD, List.getElem?_eq_getElem hk]

/-- The box of a session, at H. -/
def Bx (w : World) (H : Nat) (n : Int) (v : Value) : Prop :=
  w.cell? ⟨H, 0, none⟩ = some (.int .i64 n) ∧ w.cell? ⟨H, 1, none⟩ = some v ∧ (∀ o, w.frozen? ⟨H, o, none⟩ = false) ∧ H < w.heap.size
theorem Bx.of_block {w w' : World} {H : Nat} {n : Int} {v : Value} (h : Bx w H n v) (e : w'.heap[H]? = w.heap[H]?) (hz : w.heap.size ≤ w'.heap.size) : Bx w' H n v := by
  obtain ⟨h0, h1, h2, h3⟩ := h
  have hc : ∀ o, w'.cell? ⟨H, o, none⟩ = w.cell? ⟨H, o, none⟩ := fun o => World.cell?_of_block (a := ⟨H, o, none⟩) e
  refine ⟨(hc 0).trans h0, (hc 1).trans h1, fun o => ?_, by omega⟩
  have := h2 o
  unfold World.frozen? at this ⊢
  rw [e]
  exact this
theorem Bx.below {w w' : World} {H C : Nat} {n : Int} {v : Value} (h : Bx w H n v) (hb : Below C w w') (hC : H < C) : Bx w' H n v := h.of_block (hb.block H hC) hb.size
theorem Bx.gb {w w' : World} {H : Nat} {n : Int} {v : Value} {r : Option Nat} (h : Bx w H n v) (hg : w.grownBy w' r) (hne : some H ≠ r) : Bx w' H n v := h.of_block (hg.block H h.2.2.2 hne) hg.size
theorem frozen_set (w : World) (p q : Addr) (u : Value) : (w.setCell p u).frozen? q = w.frozen? q := by simp
theorem Bx.set0 {w : World} {H : Nat} {n : Int} {v : Value} (h : Bx w H n v) (u : Int) : Bx (w.setCell ⟨H, 0, none⟩ (.int .i64 u)) H u v := by
  obtain ⟨h0, h1, h2, h3⟩ := h
  refine ⟨?_, ?_, fun o => (frozen_set _ _ _ _).trans (h2 o), by simpa [World.setCell] using h3⟩
  all_goals go_simp
theorem Bx.set1 {w : World} {H : Nat} {n : Int} {v : Value} (h : Bx w H n v) (u : Value) : Bx (w.setCell ⟨H, 1, none⟩ u) H n u := by
  obtain ⟨h0, h1, h2, h3⟩ := h
  refine ⟨?_, ?_, fun o => (frozen_set _ _ _ _).trans (h2 o), by simpa [World.setCell] using h3⟩
  all_goals go_simp
theorem Bx.other {w : World} {H : Nat} {n : Int} {v : Value} (h : Bx w H n v) {p : Addr} (hp : p.block ≠ H) (u : Value) : Bx (w.setCell p u) H n v :=
  h.of_block (Below.heap_setCell _ _ _ _ (fun e => hp e.symm)) (by simp [World.setCell])
theorem bx_new (w : World) (n : Int) (v : Value) : Bx (w.alloc (.cells #[.int .i64 n, v] 29)) w.heap.size n v := by
  refine ⟨?_, ?_, fun o => ?_, ?_⟩
  all_goals go_simp
/-- What a call leaves of a session: its slots in a row of its own. -/
def Left (w w' : World) (a : Option Addr) (l : List D) : Prop := ∃ r, SlotsM.Ours w' a l.length (icell l) r ∧ (∀ g, r = some g → w.heap.size ≤ g) ∧ Below w.heap.size w w'
theorem OwnV.left {w w' : World} {B : Nat} {a : Option Addr} {l : List D} {cap : Nat} (h : OwnV w' B (.slice a l.length cap) l) (hB : w.heap.size ≤ B) (hb : Below w.heap.size w w') : Left w w' a l := by
  obtain ⟨r, h1, h2⟩ := own_ours h
  exact ⟨r, h1, fun g e => Nat.le_trans hB (h2 g e), hb⟩
theorem left_none {w w' : World} (hb : Below w.heap.size w w') : Left w w' none [] := ⟨none, .inl ⟨rfl, rfl⟩, fun g e => by simp at e, hb⟩
end Sess
end Go.Proofs.Ytmbkdejlbeailaa
