/-
  Who owns a place on a ring: found by halving, and by one pass over the points; and boxes of one point. No Go function is spoken of here.
-/
import Derived.Test.YthgcfklfpllgnaaDoorZ5
import Derived.Test.YthgcfklfpllgnaaDoorZ2
import Derived.Test.YthgcfklfpllgnaaDoorZ4
import Derived.Test.YthgcfklfpllgnaaDoorZ21
import Derived.Outline
namespace Go.Proofs.YthgcfklfpllgnaaDoor
namespace Ring
open Go.RowKit Base Points Marks
set_option linter.unusedVariables false

/-- Halving: below i all are below h, from j on none is. -/
def Halved (L : List D) (h : Int) (i j : Nat) : Prop := i ≤ j ∧ j ≤ L.length ∧ (∀ q, q < i → (L.getD q zero).pos < h) ∧ (∀ q, j ≤ q → q < L.length → h ≤ (L.getD q zero).pos)
theorem pos_mono {L : List D} (hs : Sorted L) {p q : Nat} (hpq : p ≤ q) (hq : q < L.length) : (L.getD p zero).pos ≤ (L.getD q zero).pos := by
  by_cases e : p = q
  · subst e; exact Int.le_refl _
  · have := List.pairwise_iff_getElem.1 hs p q (by omega) hq (by omega)
    rw [List.getD_eq_getElem?_getD, List.getD_eq_getElem?_getD, List.getElem?_eq_getElem (by omega), List.getElem?_eq_getElem hq]
    exact sorted_pos this
theorem halved_start (L : List D) (h : Int) : Halved L h 0 L.length := ⟨Nat.zero_le _, Nat.le_refl _, fun q hq => by omega, fun q h1 h2 => by omega⟩
theorem halved_low {L : List D} {h : Int} {i j m : Nat} (hs : Sorted L) (H : Halved L h i j) (h1 : i ≤ m) (h2 : m < j) (hm : (L.getD m zero).pos < h) : Halved L h (m + 1) j := by
  obtain ⟨a, b, c, d⟩ := H
  exact ⟨by omega, b, fun q hq => Int.lt_of_le_of_lt (pos_mono hs (show q ≤ m by omega) (by omega)) hm, d⟩
theorem halved_high {L : List D} {h : Int} {i j m : Nat} (hs : Sorted L) (H : Halved L h i j) (h1 : i ≤ m) (h2 : m < j) (hm : h ≤ (L.getD m zero).pos) : Halved L h i m := by
  obtain ⟨a, b, c, d⟩ := H
  exact ⟨h1, by omega, c, fun q hq1 hq2 => Int.le_trans hm (pos_mono hs hq1 hq2)⟩
/-- The name that stands there, going round. -/
theorem halved_end {L : List D} {h : Int} {i : Nat} (H : Halved L h i i) (h0 : 0 < L.length) : ownerN L h = (L.getD (if i < L.length then i else 0) zero).name := by
  obtain ⟨a, b, c, d⟩ := H
  by_cases hi : i < L.length
  · rw [if_pos hi]; exact find_at hi c (d i (Nat.le_refl _) hi)
  · rw [if_neg hi]; exact find_none (fun q hq => c q (by omega))

def filt (h : Int) (l : List D) : List D := l.filter (fun p => decide (h ≤ p.pos))
/-- One pass: the least of all so far, and of those that are not below h. -/
structure Best (L : List D) (h : Int) (k : Nat) (f b : D) (fd : Bool) : Prop where
  first : 0 < k → IsLeast (L.take k) f
  best : fd = true → IsLeast (filt h (L.take k)) b
  none : fd = false → filt h (L.take k) = []
theorem best_start (L : List D) (h : Int) (f b : D) : Best L h 0 f b false := ⟨fun h => by omega, fun h => by simp at h, fun _ => by simp [filt]⟩
theorem take_snoc' {L : List D} {k : Nat} (hk : k < L.length) : L.take (k + 1) = L.take k ++ [L.getD k zero] := by
  rw [List.take_succ_eq_append_getElem hk]; simp [hk]
theorem filt_snoc (h : Int) (l : List D) (x : D) : filt h (l ++ [x]) = filt h l ++ (if h ≤ x.pos then [x] else []) := by
  unfold filt
  rw [List.filter_append]
  by_cases hx : h ≤ x.pos <;> simp [hx]
def nf (k : Nat) (x f : D) : D := if k = 0 ∨ less x f = true then x else f
def nb (h : Int) (x b : D) (fd : Bool) : D := if h ≤ x.pos ∧ (fd = false ∨ less x b = true) then x else b
def nd (h : Int) (x b : D) (fd : Bool) : Bool := if h ≤ x.pos ∧ (fd = false ∨ less x b = true) then true else fd
theorem best_step {L : List D} {h : Int} {k : Nat} {f b : D} {fd : Bool} (H : Best L h k f b fd) (hk : k < L.length) : Best L h (k + 1) (nf k (L.getD k zero) f) (nb h (L.getD k zero) b fd) (nd h (L.getD k zero) b fd) := by
  obtain ⟨h1, h2, h3⟩ := H
  have et := take_snoc' hk
  generalize L.getD k zero = x at et
  refine ⟨fun _ => ?_, fun hd => ?_, fun hd => ?_⟩
  · rw [et]
    unfold nf
    by_cases h0 : k = 0
    · subst h0; rw [if_pos (.inl rfl)]; simpa using least_one x
    · by_cases hl : less x f = true
      · rw [if_pos (.inr hl)]; exact least_snoc_new (h1 (by omega)) hl
      · rw [if_neg (by rintro (h | h); exact h0 h; exact hl h)]; exact least_snoc_old (h1 (by omega)) (by simpa using hl)
  · rw [et, filt_snoc]
    unfold nd at hd
    unfold nb
    by_cases hx : h ≤ x.pos
    · rw [if_pos hx]
      cases fd with
      | false => rw [if_pos ⟨hx, .inl rfl⟩, h3 rfl]; exact least_one x
      | true =>
        by_cases hl : less x b = true
        · rw [if_pos ⟨hx, .inr hl⟩]; exact least_snoc_new (h2 rfl) hl
        · rw [if_neg (by rintro ⟨_, h | h⟩; exact absurd h (by simp); exact hl h)]; exact least_snoc_old (h2 rfl) (by simpa using hl)
    · rw [if_neg hx, List.append_nil]
      rw [if_neg (fun hh : h ≤ x.pos ∧ (fd = false ∨ less x b = true) => hx hh.1)] at hd ⊢
      exact h2 hd
  · rw [et, filt_snoc]
    unfold nd at hd
    by_cases hx : h ≤ x.pos
    · cases fd with
      | false => rw [if_pos ⟨hx, .inl rfl⟩] at hd; simp at hd
      | true => split at hd <;> simp at hd
    · rw [if_neg (fun hh => hx hh.1)] at hd
      rw [if_neg hx, List.append_nil]
      exact h3 hd
theorem best_end {L : List D} {h : Int} {f b : D} {fd : Bool} (H : Best L h L.length f b fd) (h0 : 0 < L.length) : ownerN (ring L) h = if fd then b.name else f.name := by
  obtain ⟨h1, h2, h3⟩ := H
  rw [List.take_length] at h1 h2 h3
  have hp : (filt h L).Perm ((ring L).filter (fun p => decide (h ≤ p.pos))) := (ring_perm L).symm.filter _
  cases fd with
  | true => exact owner_least (ring_sorted L) (least_perm hp (h2 rfl))
  | false =>
    have hn : (ring L).filter (fun p => decide (h ≤ p.pos)) = [] := by
      have := h3 rfl
      rw [this] at hp
      exact hp.symm.eq_nil
    exact owner_first (ring_sorted L) hn (least_perm (ring_perm L).symm (h1 h0))

/-- A box of one point. -/
def Box2 (w : World) (b : Nat) (t : TypeId) (x : D) : Prop := w.heap[b]? = some (.cells #[.int .u32 x.pos, .string x.name] t (0, 0))
section
variable {w w' : World} {b : Nat} {t : TypeId} {x : D}
theorem Box2.c0 (h : Box2 w b t x) : w.cell? ⟨b, 0, none⟩ = some (.int .u32 x.pos) := by simp [World.cell?, show w.heap[b]? = _ from h]
theorem Box2.c1 (h : Box2 w b t x) : w.cell? ⟨b, 1, none⟩ = some (.string x.name) := by simp [World.cell?, show w.heap[b]? = _ from h]
theorem Box2.fz (h : Box2 w b t x) (o : Nat) : w.frozen? ⟨b, o, none⟩ = false := by simp [World.frozen?, show w.heap[b]? = _ from h]
theorem Box2.lt (h : Box2 w b t x) : b < w.heap.size := (Array.getElem?_eq_some_iff.1 h).1
theorem Box2.of_block (h : Box2 w b t x) (e : w'.heap[b]? = w.heap[b]?) : Box2 w' b t x := e.trans h
theorem Box2.below {B : Nat} (h : Box2 w b t x) (hb : Below B w w') (hB : b < B) : Box2 w' b t x := h.of_block (hb.block b hB)
theorem Box2.alloc (h : Box2 w b t x) (o : Obj) : Box2 (w.alloc o) b t x := h.of_block (Below.heap_alloc _ _ _ h.lt)
theorem Box2.other (h : Box2 w b t x) {p : Addr} (hp : b ≠ p.block) (u : Value) : Box2 (w.setCell p u) b t x := h.of_block (Below.heap_setCell _ _ _ _ hp)
theorem Box2.new (w : World) (t : TypeId) (x : D) : Box2 (w.alloc (.cells #[.int .u32 x.pos, .string x.name] t)) w.heap.size t x := heap_alloc_new w _
theorem Box2.set (h : Box2 w b t x) (y : D) : Box2 ((w.setCell ⟨b, 0, none⟩ (.int .u32 y.pos)).setCell ⟨b, 1, none⟩ (.string y.name)) b t y := by
  unfold Box2 at *
  simp [World.setCell, Array.getElem?_modify, h]
end
end Ring
end Go.Proofs.YthgcfklfpllgnaaDoor
/-
  The contract of the program's GoodKey: it answers by the same plain function of the bytes as the model's, for every string.
-/
namespace Go.Proofs.YthgcfklfpllgnaaDoor
namespace GoodKey
open Go.RowKit Base
set_option linter.unusedVariables false

end GoodKey
end Go.Proofs.YthgcfklfpllgnaaDoor
/-
  The program's search by halving and ownerIn: the name of the first point that is not below the key's hash, going round.
-/
namespace Go.Proofs.YthgcfklfpllgnaaDoor
namespace Ring
open Go.RowKit Base Points Marks
set_option linter.unusedVariables false

theorem cmpI_lt (a b : Int) : decide (cmpI a b < 0) = decide (a < b) := by
  unfold cmpI
  by_cases h : a < b
  · simp [h]
  · rw [if_neg h]
    split <;> simp [h]
theorem at_pt {w : World} {g n : Nat} {t : TypeId} {L : List D} (h : RowAt w g t (n * 2) (icell L)) {i : Nat} (hi : i < n) : w.cell? ⟨g, i * 2, none⟩ = some (.int .u32 (L.getD i zero).pos) ∧ w.cell? ⟨g, i * 2 + 1, none⟩ = some (.string (L.getD i zero).name) := by
  refine ⟨?_, ?_⟩
  · rw [h.cell (by omega), icell, show (i * 2) % 2 = 0 by omega, show (i * 2) / 2 = i by omega]; simp
  · rw [h.cell (by omega), icell, show (i * 2 + 1) % 2 = 1 by omega, show (i * 2 + 1) / 2 = i by omega]; simp

end Ring
end Go.Proofs.YthgcfklfpllgnaaDoor
