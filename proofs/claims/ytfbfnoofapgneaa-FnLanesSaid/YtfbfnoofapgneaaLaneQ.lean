/-
  Good lanes grown by one and shortened by one; what lies beside a box. No Go function is spoken of here.
-/
import Derived.Test.YtfbfnoofapgneaaLaneN
import Derived.Test.YtfbfnoofapgneaaBreakP
namespace Go.Proofs.Ytfbfnoofapgneaa
namespace Lanes
open Go.RowKit Base GoodKey Waits Marks OwnR WaitsW
set_option linter.unusedVariables false

theorem goodTo_all {l : List D} {k : Nat} : goodTo l k = true ↔ ∀ j, j < k → stepB l j = true := by
  unfold goodTo
  simp [List.all_eq_true]
theorem gl_split {ep fa : Int} {l : List D} : glB ep fa l = true ↔ inB ep 1 1000000 = true ∧ inB fa 0 1000000 = true ∧ l.length ≤ 20 ∧ ∀ j, j < l.length → stepB l j = true := by
  unfold glB
  rw [Bool.and_eq_true, Bool.and_eq_true, Bool.and_eq_true, goodTo_all, decide_eq_true_eq]
  constructor
  · rintro ⟨⟨⟨h1, h2⟩, h3⟩, h4⟩
    exact ⟨h1, h2, by omega, h4⟩
  · rintro ⟨h1, h2, h3, h4⟩
    exact ⟨⟨⟨h1, h2⟩, by omega⟩, h4⟩
theorem gl_snoc {ep fa : Int} {l : List D} {x : D} (h : glB ep fa l = true) (hm : mayB l x = true) (hn : ¬ l.length = 20) : glB ep fa (l ++ [x]) = true := by
  rw [gl_split] at h ⊢
  obtain ⟨h1, h2, h3, h4⟩ := h
  refine ⟨h1, h2, by rw [List.length_append, List.length_singleton]; omega, fun j hj => ?_⟩
  rw [List.length_append, List.length_singleton] at hj
  unfold stepB
  by_cases hjl : j < l.length
  · have e1 : (l ++ [x]).take j = l.take j := by rw [List.take_append_of_le_length (by omega)]
    have e2 : (l ++ [x]).getD j zero = l.getD j zero := by simp [List.getD_eq_getElem?_getD, List.getElem?_append_left hjl]
    rw [e1, e2]
    exact h4 j hjl
  · obtain rfl : j = l.length := by omega
    have e1 : (l ++ [x]).take l.length = l := by rw [List.take_append_of_le_length (Nat.le_refl _), List.take_length]
    have e2 : (l ++ [x]).getD l.length zero = x := by simp
    rw [e1, e2]
    exact hm
theorem may_tail {y : D} {p : List D} {x : D} (h : mayB (y :: p) x = true) : mayB p x = true := by
  unfold mayB lastB freshB at h ⊢
  simp only [Bool.and_eq_true, Bool.or_eq_true, decide_eq_true_eq, List.all_cons] at h ⊢
  obtain ⟨⟨h1, h2⟩, h3, h4⟩ := h
  refine ⟨⟨h1, ?_⟩, h4⟩
  cases p with
  | nil => left; rfl
  | cons z q =>
    right
    rcases h2 with h2 | h2
    · simp at h2
    · simpa using h2
theorem gl_drop {ep fa : Int} {l : List D} (h : glB ep fa l = true) : glB ep 0 (l.drop 1) = true := by
  rw [gl_split] at h ⊢
  obtain ⟨h1, h2, h3, h4⟩ := h
  refine ⟨h1, rfl, by rw [List.length_drop]; omega, fun j hj => ?_⟩
  cases l with
  | nil => simp at hj
  | cons y r =>
    have := h4 (j + 1) (by simpa using hj)
    unfold stepB at this ⊢
    have e1 : (y :: r).take (j + 1) = y :: r.take j := rfl
    have e2 : (y :: r).getD (j + 1) zero = r.getD j zero := by simp
    rw [e1, e2] at this
    exact may_tail this
theorem drop_get (l : List D) (k : Nat) (hk : k < l.length) : (l.drop k).getD 0 zero = l.getD k zero := by
  simp [List.getD_eq_getElem?_getD]
theorem drop_drop1 (l : List D) (k : Nat) : (l.drop k).drop 1 = l.drop (k + 1) := by rw [List.drop_drop]

/-- Waits that lie beside the block X. -/
def LX (w : World) (X : Nat) (a : Option Addr) (l : List D) : Prop := l ≠ [] → ∃ b off, a = some ⟨b, off, none⟩ ∧ b ≠ X ∧ b < w.heap.size ∧ ∀ i, i < l.length → At w b (off + i * 2) (l.getD i zero)
/-- Numbers that lie beside the block X. -/
def NX (w : World) (X : Nat) (a : Option Addr) (l : List Int) : Prop := l ≠ [] → ∃ b off, a = some ⟨b, off, none⟩ ∧ b ≠ X ∧ b < w.heap.size ∧ ∀ i, i < l.length → w.cell? ⟨b, off + i, none⟩ = some (.int .i64 (l.getD i 0))
section
variable {w w' : World} {X B : Nat} {a : Option Addr} {l : List D} {c : Nat}
theorem LX.lat (h : LX w X a l) : LAt w a l := fun hne => by
  obtain ⟨b, off, h1, _, h2⟩ := h hne
  exact ⟨b, off, h1, h2⟩
theorem LX.keep (h : LX w X a l) (hz : w.heap.size ≤ w'.heap.size) (hb : ∀ b, b < w.heap.size → b ≠ X → w'.heap[b]? = w.heap[b]?) : LX w' X a l := fun hne => by
  obtain ⟨b, off, h1, h2, h3, h4⟩ := h hne
  have e := hb b h3 h2
  refine ⟨b, off, h1, h2, by omega, fun i hi => ?_⟩
  obtain ⟨c0, c1⟩ := h4 i hi
  exact ⟨(World.cell?_of_block (w := w) (a := ⟨b, off + i * 2, none⟩) e).trans c0, (World.cell?_of_block (w := w) (a := ⟨b, off + i * 2 + 1, none⟩) e).trans c1⟩
theorem LX.below (h : LX w X a l) (hb : Below w.heap.size w w') : LX w' X a l := h.keep hb.size (fun b hlt _ => hb.block b hlt)
theorem NX.keep {l : List Int} (h : NX w X a l) (hz : w.heap.size ≤ w'.heap.size) (hb : ∀ b, b < w.heap.size → b ≠ X → w'.heap[b]? = w.heap[b]?) : NX w' X a l := fun hne => by
  obtain ⟨b, off, h1, h2, h3, h4⟩ := h hne
  have e := hb b h3 h2
  exact ⟨b, off, h1, h2, by omega, fun i hi => (World.cell?_of_block (w := w) (a := ⟨b, off + i, none⟩) e).trans (h4 i hi)⟩
theorem NX.below {l : List Int} (h : NX w X a l) (hb : Below w.heap.size w w') : NX w' X a l := h.keep hb.size (fun b hlt _ => hb.block b hlt)
theorem full_lx (h : Full w w' a c l) (hX : X < w.heap.size ∨ w'.heap.size ≤ X) : LX w' X a l := fun hne => by
  obtain ⟨b, off, h1, h2, h3⟩ := h.lat hne
  refine ⟨b, off, h1, ?_, h2, h3⟩
  rcases h.2.2 with ⟨h4, _⟩ | ⟨g, o, h4, h5, h6, _⟩
  · rw [h4] at h1; simp at h1
  · rw [h4] at h1
    simp only [Option.some.injEq, Addr.mk.injEq, and_true] at h1
    omega
theorem ours_nx {l : List Int} {q : Option Nat} (h : IntsM.Ours w a l.length (Ints.ncell l) q) (hq : ∀ g, q = some g → g ≠ X) : NX w X a l := fun hne => by
  rcases h with ⟨h0, _⟩ | ⟨g, ha, hr, hrow⟩
  · exact absurd (List.length_eq_zero_iff.1 h0) hne
  · refine ⟨g, 0, ha, hq g hr, hrow.lt, fun i hi => ?_⟩
    rw [Nat.zero_add, hrow.cell hi]
    rfl
end
/-- A lane's box. -/
def Xb (w : World) (X : Nat) (ep fa : Int) (v : Value) : Prop := (w.cell? ⟨X, 0, none⟩ = some (.int .i64 ep) ∧ w.cell? ⟨X, 1, none⟩ = some (.int .i64 fa) ∧ w.cell? ⟨X, 2, none⟩ = some v) ∧ (∀ o, w.frozen? ⟨X, o, none⟩ = false) ∧ X < w.heap.size
theorem xb_new (w : World) (ep fa : Int) (v : Value) : Xb (w.alloc (.cells #[.int .i64 ep, .int .i64 fa, v] 25)) w.heap.size ep fa v := by
  refine ⟨⟨?_, ?_, ?_⟩, fun o => ?_, ?_⟩
  all_goals go_simp
theorem Xb.below {w w' : World} {X B : Nat} {ep fa : Int} {v : Value} (h : Xb w X ep fa v) (hb : Below B w w') (hB : X < B) : Xb w' X ep fa v := by
  obtain ⟨⟨x0, x1, x2⟩, f, z⟩ := h
  have e := fun o => hb.cell (p := ⟨X, o, none⟩) hB
  exact ⟨⟨(e _).trans x0, (e _).trans x1, (e _).trans x2⟩, fun o => (hb.frozen (p := ⟨X, o, none⟩) hB).trans (f o), Nat.lt_of_lt_of_le z hb.size⟩
/-- A round's store into the box: all else stays. -/
theorem xb_put {w : World} {X : Nat} {ep fa : Int} {v : Value} (h : Xb w X ep fa v) (ep' fa' : Int) (v' : Value) : Xb (((w.setCell ⟨X, 0, none⟩ (.int .i64 ep')).setCell ⟨X, 1, none⟩ (.int .i64 fa')).setCell ⟨X, 2, none⟩ v') X ep' fa' v' := by
  obtain ⟨⟨x0, x1, x2⟩, f, z⟩ := h
  refine ⟨⟨?_, ?_, ?_⟩, fun o => ?_, by simpa [World.setCell] using z⟩
  · go_simp
  · go_simp
  · go_simp
  · rw [frozen_set, frozen_set, frozen_set]; exact f o
theorem gb_put (w : World) (X : Nat) (ep' fa' : Int) (v' : Value) : w.grownBy (((w.setCell ⟨X, 0, none⟩ (.int .i64 ep')).setCell ⟨X, 1, none⟩ (.int .i64 fa')).setCell ⟨X, 2, none⟩ v') (some X) :=
  gb_set (gb_set (gb_set (gb_refl w (some X)) _ _) _ _) _ _
theorem LX.put {w w' : World} {X : Nat} {a : Option Addr} {l : List D} (h : LX w X a l) (hg : w.grownBy w' (some X)) : LX w' X a l := h.keep hg.size (fun b hb hne => hg.block b hb (fun e => hne (by simpa using e)))
theorem NX.put {w w' : World} {X : Nat} {a : Option Addr} {l : List Int} (h : NX w X a l) (hg : w.grownBy w' (some X)) : NX w' X a l := h.keep hg.size (fun b hb hne => hg.block b hb (fun e => hne (by simpa using e)))
theorem bel_put {w0 w w' : World} {X : Nat} (h : Below X w0 w) (hg : w.grownBy w' (some X)) (hz : X ≤ w.heap.size) : Below X w0 w' := h.grown hg hz (fun k e => by simp at e; omega)
end Lanes
end Go.Proofs.Ytfbfnoofapgneaa
