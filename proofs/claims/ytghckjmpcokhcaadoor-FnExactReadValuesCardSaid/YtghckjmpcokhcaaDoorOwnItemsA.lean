/-
  A slice of items that the call itself has made by append: its cells one behind the other. No Go function is spoken of here.
-/
import Derived.Test.YtghckjmpcokhcaaDoorItemsP
import Derived.Test.YtghckjmpcokhcaaDoorMarkP
namespace Go.Proofs.YtghckjmpcokhcaaDoor
namespace Own
open Go.RowKit Base Items Marks

def cellsOf (x : Itm) : List Value := [.string x.key, .int .i64 x.flags, .string x.data, .int .i64 x.upto, .int .i64 x.token]
def flat (its : List Itm) : List Value := its.flatMap cellsOf
theorem flat_append (a b : List Itm) : flat (a ++ b) = flat a ++ flat b := by simp [flat]
theorem flat_one (x : Itm) : flat [x] = cellsOf x := by simp [flat]
theorem flat_length (its : List Itm) : (flat its).length = its.length * 5 := by
  induction its with
  | nil => rfl
  | cons x r ih =>
    have e : flat (x :: r) = cellsOf x ++ flat r := by simp [flat]
    rw [e, List.length_append, ih]
    simp [cellsOf]; omega
theorem icell_cons (x : Itm) (r : List Itm) (j : Nat) : icell (x :: r) (j + 5) = icell r j := by
  unfold icell
  rw [show (j + 5) % 5 = j % 5 by omega, show (j + 5) / 5 = j / 5 + 1 by omega]
  simp
theorem flat_get (its : List Itm) (j : Nat) (hj : j < its.length * 5) : (flat its)[j]? = some (icell its j) := by
  induction its generalizing j with
  | nil => simp at hj
  | cons x r ih =>
    have e : flat (x :: r) = cellsOf x ++ flat r := by simp [flat]
    rw [e]
    by_cases h : j < 5
    · rw [List.getElem?_append_left (by simp [cellsOf]; omega)]
      obtain rfl | rfl | rfl | rfl | rfl : j = 0 ∨ j = 1 ∨ j = 2 ∨ j = 3 ∨ j = 4 := by omega
      all_goals simp [cellsOf, icell]
    · obtain ⟨i, rfl⟩ : ∃ i, j = i + 5 := ⟨j - 5, by omega⟩
      rw [List.getElem?_append_right (by simp [cellsOf]), icell_cons]
      have el : (cellsOf x).length = 5 := rfl
      rw [el, Nat.add_sub_cancel]
      exact ih i (by simp at hj; omega)

theorem own_below {w w' : World} {base : Nat} {e : TypeId} {size : Nat} {v : Value} {n : Nat} {xs : List Value} {B : Nat} (h : w.ownsRow base e size v n xs) (hb : Below B w w') (hB : w.heap.size ≤ B) : w'.ownsRow base e size v n xs := by
  refine ⟨h.1, h.2.elim Or.inl ?_⟩
  rintro ⟨g, cap, cur, hv, hg, hh, r⟩
  have hlt : g < w.heap.size := (Array.getElem?_eq_some_iff.1 hh).1
  exact Or.inr ⟨g, cap, cur, hv, hg, by rw [hb.block g (by omega)]; exact hh, r⟩
theorem own_block {w : World} {base : Nat} {e : TypeId} {size : Nat} {v : Value} {n : Nat} {xs : List Value} (h : w.ownsRow base e size v n xs) : ∀ k, v.ownBlock = some k → base ≤ k := by
  intro k hk
  rcases h.2 with ⟨rfl, _⟩ | ⟨g, cap, cur, rfl, hg, _⟩
  · simp [Value.ownBlock] at hk
  · simp [Value.ownBlock] at hk; omega
theorem own_form {w : World} {base : Nat} {e : TypeId} {size : Nat} {v : Value} {n : Nat} {xs : List Value} (h : w.ownsRow base e size v n xs) : ∃ a cap, v = .slice a n cap := by
  rcases h.2 with ⟨rfl, rfl⟩ | ⟨g, cap, cur, rfl, _⟩
  · exact ⟨none, 0, rfl⟩
  · exact ⟨_, _, rfl⟩
theorem own_at {w : World} {base : Nat} {a : Option Addr} {cap : Nat} {its : List Itm} (h : w.ownsRow base 32 5 (.slice a its.length cap) its.length (flat its)) : ItemsAt w a its := by
  intro hne
  rcases h.2 with ⟨_, h0⟩ | ⟨g, cap', cur, hv, hg, hh, hn, _, hsz, ht⟩
  · exact absurd (List.length_eq_zero_iff.1 h0) hne
  · simp only [Value.slice.injEq] at hv
    have hrow : RowAt w g 32 (its.length * 5) (icell its) := ⟨cur, hh, by rw [hsz]; omega, fun i hi => by
      rw [← flat_get its i hi, ← ht, List.getElem?_take_of_lt hi]
      simp⟩
    refine ⟨g, 0, hv.1, hrow.lt, fun i hi => ?_⟩
    rw [Nat.zero_add]
    refine ⟨?_, ?_, ?_, ?_, ?_⟩
    · rw [hrow.cell (by omega), icell, show (i * 5) % 5 = 0 by omega, show (i * 5) / 5 = i by omega]; simp
    · rw [hrow.cell (by omega), icell, show (i * 5 + 1) % 5 = 1 by omega, show (i * 5 + 1) / 5 = i by omega]; simp
    · rw [hrow.cell (by omega), icell, show (i * 5 + 2) % 5 = 2 by omega, show (i * 5 + 2) / 5 = i by omega]; simp
    · rw [hrow.cell (by omega), icell, show (i * 5 + 3) % 5 = 3 by omega, show (i * 5 + 3) / 5 = i by omega]; simp
    · rw [hrow.cell (by omega), icell, show (i * 5 + 4) % 5 = 4 by omega, show (i * 5 + 4) / 5 = i by omega]; simp
theorem own_le {w : World} {base base' : Nat} {e : TypeId} {size : Nat} {v : Value} {n : Nat} {xs : List Value} (h : w.ownsRow base e size v n xs) (hb : base' ≤ base) : w.ownsRow base' e size v n xs :=
  ⟨h.1, h.2.elim Or.inl (fun ⟨g, cap, cur, hv, hg, r⟩ => Or.inr ⟨g, cap, cur, hv, Nat.le_trans hb hg, r⟩)⟩
theorem news_cells (w : World) (x : Itm) (t : TypeId) (j : Nat) (u : Value) (hj : (cellsOf x)[j]? = some u) :
    (w.alloc (.cells #[.string x.key, .int .i64 x.flags, .string x.data, .int .i64 x.upto, .int .i64 x.token] t)).cell? ((⟨w.heap.size, 0, none⟩ : Addr).add j) = some u := by
  rw [Go.WideShapes.add_plain, Nat.zero_add, World.cell?_alloc_new]
  show (cellsOf x).toArray[j]? = some u
  simpa using hj
theorem news_one (x : Itm) (u : Value) (hu : u ∈ cellsOf x) : u.oneCell' = true := by
  simp only [cellsOf, List.mem_cons, List.not_mem_nil, or_false] at hu
  rcases hu with rfl | rfl | rfl | rfl | rfl <;> rfl
theorem own_snoc {w : World} {base : Nat} {t : TypeId} {v : Value} {kept kept' : List Itm} {x : Itm} (h : w.ownsRow base t 5 v (kept.length + 1) (flat kept ++ cellsOf x)) (e : kept' = kept ++ [x]) : w.ownsRow base t 5 v kept'.length (flat kept') := by
  rw [e, flat_append, flat_one, List.length_append]
  exact h
end Own
end Go.Proofs.YtghckjmpcokhcaaDoor
