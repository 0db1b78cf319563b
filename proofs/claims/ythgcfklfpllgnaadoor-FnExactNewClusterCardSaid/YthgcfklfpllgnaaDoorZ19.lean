/-
  Rows of points that may be written, and the marks. No Go function is spoken of here.
-/
import Derived.Test.YthgcfklfpllgnaaDoorZ2
import Derived.Test.YthgcfklfpllgnaaDoorRows
import Derived.Test.YthgcfklfpllgnaaDoorZ3
import Derived.Test.YthgcfklfpllgnaaDoorZ5
import Derived.Test.YthgcfklfpllgnaaDoorRingI
import Derived.WalkSpells
import Derived.Lib.SliceRun
namespace Go.Proofs.YthgcfklfpllgnaaDoor
namespace PointsM
open Go.RowKit Base NumText Marks
set_option linter.unusedVariables false

/-- Cell j of a row that bears the marks from k on. -/
def mcell (k : Int) (j : Nat) : Value := if j % 2 = 0 then .int .u32 ((k + j) % 4294967296) else .string (mtxt (k + j).toNat)
theorem mc0 (k : Int) (j : Nat) (h : j % 2 = 0) : mcell k j = .int .u32 ((k + j) % 4294967296) := by unfold mcell; rw [if_pos h]
theorem mc1 (k : Int) (j : Nat) (h : j % 2 = 1) : mcell k j = .string (mtxt (k + j).toNat) := by unfold mcell; rw [if_neg (by omega)]
def mhalf (f : Nat → Value) (k : Int) (i j : Nat) : Value := if j < i * 2 then mcell k j else f j
theorem mhalf_step (f : Nat → Value) (k : Int) (i j : Nat) : (if j = i * 2 + 1 then (.string (mtxt (k + i * 2 + 1).toNat) : Value) else if j = i * 2 then (.int .u32 ((k + i * 2) % 4294967296) : Value) else mhalf f k i j) = mhalf f k (i + 1) j := by
  unfold mhalf
  by_cases h1 : j = i * 2 + 1
  · subst h1
    rw [if_pos rfl, if_pos (by omega), mc1 _ _ (by omega), show k + ((i * 2 + 1 : Nat) : Int) = k + i * 2 + 1 by omega]
  rw [if_neg h1]
  by_cases h0 : j = i * 2
  · subst h0
    rw [if_pos rfl, if_pos (by omega), mc0 _ _ (by omega), show k + ((i * 2 : Nat) : Int) = k + i * 2 by omega]
  rw [if_neg h0]
  by_cases h : j < i * 2
  · rw [if_pos h, if_pos (by omega)]
  · rw [if_neg h, if_neg (by omega)]

/-- A slice of n elements that may be written: empty, or the head of a row of its own; r names the row. -/
def Ours (w : World) (a : Option Addr) (n : Nat) (f : Nat → Value) (r : Option Nat) : Prop :=
  (n = 0 ∧ r = none) ∨ ∃ g, a = some ⟨g, 0, none⟩ ∧ r = some g ∧ RowAt w g 113 (n * 2) f
theorem Ours.below {w w' : World} {a : Option Addr} {n : Nat} {f : Nat → Value} {r : Option Nat} {B : Nat} (h : Ours w a n f r) (hb : Below B w w') (hB : w.heap.size ≤ B) : Ours w' a n f r := by
  rcases h with h | ⟨g, ha, hr, h⟩
  · exact .inl h
  · exact .inr ⟨g, ha, hr, h.below hb (Nat.lt_of_lt_of_le h.lt hB)⟩
theorem Ours.gb {w w' : World} {a : Option Addr} {n : Nat} {f : Nat → Value} {r q : Option Nat} (h : Ours w a n f r) (hg : w.grownBy w' q) (hne : ∀ g, r = some g → some g ≠ q) : Ours w' a n f r := by
  rcases h with h | ⟨g, ha, hr, h⟩
  · exact .inl h
  · exact .inr ⟨g, ha, hr, h.of_block (hg.block g h.lt (hne g hr))⟩
theorem Ours.lt {w : World} {a : Option Addr} {n : Nat} {f : Nat → Value} {r : Option Nat} (h : Ours w a n f r) : ∀ g, r = some g → g < w.heap.size := by
  intro g e
  rcases h with ⟨_, hr⟩ | ⟨g', _, hr, h⟩
  · rw [hr] at e; simp at e
  · rw [hr] at e; simp at e; rw [← e]; exact h.lt
theorem Ours.congr {w : World} {a : Option Addr} {n : Nat} {f f' : Nat → Value} {r : Option Nat} (h : Ours w a n f r) (e : ∀ i, i < n * 2 → f i = f' i) : Ours w a n f' r := by
  rcases h with h | ⟨g, ha, hr, h⟩
  · exact .inl h
  · exact .inr ⟨g, ha, hr, h.congr e⟩
theorem Ours.row {w : World} {b n : Nat} {f : Nat → Value} (h : w.rowIs b 113 (n * 2) f) : Ours w (some ⟨b, 0, none⟩) n f (some b) :=
  .inr ⟨b, rfl, rfl, RowAt.of_row h⟩
end PointsM
end Go.Proofs.YthgcfklfpllgnaaDoor
/-
  A slice of the struct Point that the call itself has made by append: its cells one behind the other (written by a program of mine). No Go function is spoken of here.
-/
namespace Go.Proofs.YthgcfklfpllgnaaDoor
namespace PointsW
open Go.RowKit Base Marks OwnR Points
set_option linter.unusedVariables false

def cellsOf (x : D) : List Value := [.int .u32 x.pos, .string x.name]
def flat (l : List D) : List Value := l.flatMap cellsOf
theorem flat_append (a b : List D) : flat (a ++ b) = flat a ++ flat b := by simp [flat]
theorem flat_one (x : D) : flat [x] = cellsOf x := by simp [flat]
theorem flat_length (l : List D) : (flat l).length = l.length * 2 := by
  induction l with
  | nil => rfl
  | cons x r ih =>
    have e : flat (x :: r) = cellsOf x ++ flat r := by simp [flat]
    rw [e, List.length_append, ih]
    simp [cellsOf]; omega
theorem icell_cons (x : D) (r : List D) (j : Nat) : icell (x :: r) (j + 2) = icell r j := by
  unfold icell
  rw [show (j + 2) % 2 = j % 2 by omega, show (j + 2) / 2 = j / 2 + 1 by omega]
  simp
theorem flat_get (l : List D) (j : Nat) (hj : j < l.length * 2) : (flat l)[j]? = some (icell l j) := by
  induction l generalizing j with
  | nil => simp at hj
  | cons x r ih =>
    have e : flat (x :: r) = cellsOf x ++ flat r := by simp [flat]
    rw [e]
    by_cases h : j < 2
    · rw [List.getElem?_append_left (by simp [cellsOf]; omega)]
      obtain rfl | rfl : j = 0 ∨ j = 1 := by omega
      all_goals simp [cellsOf, icell]
    · obtain ⟨i, rfl⟩ : ∃ i, j = i + 2 := ⟨j - 2, by omega⟩
      rw [List.getElem?_append_right (by simp [cellsOf]), icell_cons]
      have el : (cellsOf x).length = 2 := rfl
      rw [el, Nat.add_sub_cancel]
      exact ih i (by simp at hj; omega)
theorem flat_oneCell (l : List D) (u : Value) (hu : u ∈ flat l) : u.oneCell' = true := by
  obtain ⟨x, _, hx⟩ := List.mem_flatMap.1 hu
  simp only [cellsOf, List.mem_cons, List.not_mem_nil, or_false] at hx
  rcases hx with rfl | rfl <;> rfl
theorem news_one (x : D) (u : Value) (hu : u ∈ cellsOf x) : u.oneCell' = true := flat_oneCell [x] u (by rw [flat_one]; exact hu)
theorem news_cells (w : World) (x : D) (t : TypeId) (j : Nat) (u : Value) (hj : (cellsOf x)[j]? = some u) :
    (w.alloc (.cells #[.int .u32 x.pos, .string x.name] t)).cell? ((⟨w.heap.size, 0, none⟩ : Addr).add j) = some u := by
  rw [Go.WideShapes.add_plain, Nat.zero_add, World.cell?_alloc_new]
  show (cellsOf x).toArray[j]? = some u
  simpa using hj
/-- The cells of a row, as what an append takes. -/
theorem news_row {w : World} {b : Nat} {t : TypeId} {l : List D} (h : w.rowIs b t (l.length * 2) (icell l)) (j : Nat) (u : Value) (hj : (flat l)[j]? = some u) : w.cell? ((⟨b, 0, none⟩ : Addr).add j) = some u := by
  have hlt : j < l.length * 2 := by rw [← flat_length]; exact (List.getElem?_eq_some_iff.1 hj).1
  rw [flat_get l j hlt] at hj
  rw [Go.WideShapes.add_plain, Nat.zero_add, h.cell hlt]
  exact hj
theorem news_at {w : World} {b : Nat} {t : TypeId} {l : List D} {m : Nat} (h : RowAt w b t m (icell l)) (hm : l.length * 2 ≤ m) (j : Nat) (u : Value) (hj : (flat l)[j]? = some u) : w.cell? ((⟨b, 0, none⟩ : Addr).add j) = some u := by
  have hlt : j < l.length * 2 := by rw [← flat_length]; exact (List.getElem?_eq_some_iff.1 hj).1
  rw [flat_get l j hlt] at hj
  rw [Go.WideShapes.add_plain, Nat.zero_add, h.cell (by omega)]
  exact hj
theorem own_snoc {w : World} {base : Nat} {t : TypeId} {v : Value} {kept kept' : List D} {x : D} (h : w.ownsRow base t 2 v (kept.length + 1) (flat kept ++ cellsOf x)) (e : kept' = kept ++ [x]) : w.ownsRow base t 2 v kept'.length (flat kept') := by
  rw [e, flat_append, flat_one, List.length_append]
  exact h
theorem own_ours {w : World} {base : Nat} {a : Option Addr} {cap : Nat} {l : List D} (h : w.ownsRow base 113 2 (.slice a l.length cap) l.length (flat l)) :
    ∃ r, PointsM.Ours w a l.length (icell l) r ∧ ∀ g, r = some g → base ≤ g := by
  rcases h.2 with ⟨_, h0⟩ | ⟨g, cap', cur, hv, hg, hh, hn, _, hsz, ht⟩
  · exact ⟨none, .inl ⟨h0, rfl⟩, fun g e => by simp at e⟩
  · simp only [Value.slice.injEq] at hv
    refine ⟨some g, .inr ⟨g, hv.1, rfl, cur, hh, by rw [hsz]; omega, fun i hi => ?_⟩, fun g' e => by simp at e; omega⟩
    rw [← flat_get l i hi, ← ht, List.getElem?_take_of_lt hi]
    simp
theorem ours_at {w : World} {a : Option Addr} {l : List D} {r : Option Nat} (h : PointsM.Ours w a l.length (icell l) r) : LAt w a l := by
  intro hne
  rcases h with ⟨h0, _⟩ | ⟨g, ha, _, hrow⟩
  · exact absurd (List.length_eq_zero_iff.1 h0) hne
  · refine ⟨g, 0, ha, hrow.lt, fun i hi => ?_⟩
    rw [Nat.zero_add]
    refine ⟨?_, ?_⟩
    · rw [hrow.cell (by omega), icell, show (i * 2) % 2 = 0 by omega, show (i * 2) / 2 = i by omega]; simp
    · rw [hrow.cell (by omega), icell, show (i * 2 + 1) % 2 = 1 by omega, show (i * 2 + 1) / 2 = i by omega]; simp
end PointsW
end Go.Proofs.YthgcfklfpllgnaaDoor
/-
  slices.Clone at the points, and the program's sortedBy: the ring of a list of points, in a row of its own.
-/
namespace Go.Proofs.YthgcfklfpllgnaaDoor
namespace Ring
open Go.RowKit Base Points NumText Marks OwnR PointsW
set_option linter.unusedVariables false

theorem info_ex : ∃ i, Tryd.prog.info? 113 = some i ∧ i.zero = some (.agg #[.int .u32 0, .string ByteArray.empty]) ∧ i.size = 2 ∧ i.bytes = 24 := by
  obtain ⟨i, hi, hz⟩ := Option.map_eq_some_iff.1 infoP
  simp only [Prod.mk.injEq] at hz
  exact ⟨i, hi, hz.1, hz.2.1, hz.2.2⟩
theorem own_empty (w : World) (t : TypeId) (size : Nat) : (w.alloc (.cells #[] t)).ownsRow w.heap.size t size (.slice (some ⟨w.heap.size, 0, none⟩) 0 0) 0 [] :=
  ⟨by simp, .inr ⟨w.heap.size, 0, #[], rfl, Nat.le_refl _, heap_alloc_new w _, Nat.le_refl _, Nat.zero_le _, by simp, by simp⟩⟩

set_option maxRecDepth 10000 in
set_option maxHeartbeats 1000000 in
theorem clone_pts (f cap : Nat) (l : List D) (w : World) (hr : RowAt w f 113 (l.length * 2) (icell l)) (h0 : 0 < l.length) (h1 : l.length ≤ 1000) :
    Calls Tryd.prog 68 #[.slice (some ⟨f, 0, none⟩) l.length cap] w fun e w' =>
      ∃ g c, e = .returned (.slice (some ⟨g, 0, none⟩) l.length c) ∧ w.heap.size ≤ g ∧ l.length ≤ c ∧ RowAt w' g 113 (l.length * 2) (icell l) ∧ Below w.heap.size w w' := by
  obtain ⟨i0, hi, hz0, hz1, hz2⟩ := info_ex
  have HI := hide hi
  have HZ0 := hide hz0
  have HZ1 := hide hz1
  have HZ2 := hide hz2
  have HR := hide hr
  have HFL := hide (flat_length l)
  have HFO := hide (flat_oneCell l)
  have hnil : ∀ w, (binOp .eql 62 (.slice (some ⟨f, 0, none⟩) l.length cap) (.slice none 0 0)).run Tryd.prog w = .ok (.bool false) w := fun w => Lib.run_eql_slice_nil w _ _ _ _ _ _ _ Tryd.underlying62
  clear hi hz0 hz1 hz2 hr
  go_enter Tryd.func68, Tryd.ntmps68
  go_wp2_with (at_builtin; go_loud (refine wpList_append_own _ rfl _ _ 62 rfl w.heap.size 113 i0 _ 2 24 Tryd.underlying62 (unhide HI) (unhide HZ0) (unhide HZ1) (unhide HZ2) rfl (by decide) _ _ _ rfl (own_empty w _ _) ⟨f, 0, none⟩ l.length cap (flat l) rfl (unhide HFL) ?c1 (unhide HFO) ?c3 ?c4 ?c5 ?_))
  case c1 => exact news_at ((unhide HR).below (bel1 w _) (unhide HR).lt) (Nat.le_refl _)
  case c3 => unfold maxLen; omega
  case c4 => omega
  case c5 => simp
  intro v' w2 hown' hgrow _
  obtain ⟨g, c, rfl, hg, hc, -⟩ := own_some hown' h0
  obtain ⟨r, hours, -⟩ := own_ours hown'
  have hrow : RowAt w2 g 113 (l.length * 2) (icell l) := by
    rcases hours with ⟨h, _⟩ | ⟨g', he, _, h⟩
    · omega
    · simp at he; rw [he]; exact h
  have HB := hide ((bel1 w (.cells #[] 113)).grown hgrow (by simp) (fun k e => by simp [Value.ownBlock] at e; omega))
  have HROW := hide hrow
  clear hown' hgrow hrow hours
  go_wp2
  go_ret
  exact ⟨g, c, rfl, hg, hc, unhide HROW, unhide HB⟩
end Ring
end Go.Proofs.YthgcfklfpllgnaaDoor
