/-
  Rows that are merged two by two, as plain data and in memory. No Go function is spoken of here.
-/
import Derived.Test.YthgcfklfpllgnaaDoorZ18
import Derived.Test.YthgcfklfpllgnaaDoorZ2
import Derived.Test.YthgcfklfpllgnaaDoorRows
import Derived.Deep.RegionWith
import Derived.WalkLawsBesides
import Derived.Test.YthgcfklfpllgnaaDoorZ6
import Derived.Test.YthgcfklfpllgnaaDoorZ19
import Derived.Deep.RegionHeld3
import Derived.Deep.AppendLies
import Derived.Outline
namespace Go.Proofs.YthgcfklfpllgnaaDoor
namespace Ring
open Go.RowKit Base Points Marks
set_option linter.unusedVariables false

/-- How far one pass over the rows of length r has come: m pairs are merged. -/
def Mid (r : Nat) (L : List D) (m : Nat) (T : List D) : Prop := T.length = min (m * (2 * r)) L.length ∧ T.Perm (L.take (m * (2 * r))) ∧ Runs (2 * r) T
theorem mid_start (r : Nat) (L : List D) : Mid r L 0 [] := ⟨by simp, by simp, fun k => by simp [Sorted]⟩
def runA (r : Nat) (L : List D) (s : Nat) : List D := (L.drop s).take r
theorem runA_length (r : Nat) (L : List D) (s : Nat) : (runA r L s).length = min r (L.length - s) := by simp [runA]
theorem two_runs (r : Nat) (L : List D) (s : Nat) : runA r L s ++ runA r L (s + r) = (L.drop s).take (2 * r) := by
  unfold runA
  rw [show 2 * r = r + r by omega, List.take_add, List.drop_drop]
theorem mid_step {r : Nat} {L : List D} {m : Nat} {T : List D} (h : Mid r L m T) (hL : Runs r L) (hlt : m * (2 * r) < L.length) :
    Mid r L (m + 1) (T ++ List.merge (runA r L (m * (2 * r))) (runA r L (m * (2 * r) + r)) le) := by
  obtain ⟨h1, h2, h3⟩ := h
  have e1 : (m + 1) * (2 * r) = m * (2 * r) + 2 * r := by rw [Nat.succ_mul]
  have hl : T.length = m * (2 * r) := by rw [h1]; omega
  have hml := merge_length (runA r L (m * (2 * r))) (runA r L (m * (2 * r) + r))
  rw [runA_length, runA_length] at hml
  refine ⟨?_, ?_, ?_⟩
  · rw [List.length_append, hml, hl, e1]; omega
  · have hp := merge_perm (runA r L (m * (2 * r))) (runA r L (m * (2 * r) + r))
    rw [two_runs] at hp
    rw [e1, List.take_add]
    exact List.Perm.append h2 hp
  · refine runs_snoc hl h3 (merge_sorted ?_ ?_) (by rw [hml]; omega)
    · have := hL (2 * m)
      rwa [show 2 * m * r = m * (2 * r) by rw [Nat.mul_comm 2 m, Nat.mul_assoc]] at this
    · have := hL (2 * m + 1)
      rwa [show (2 * m + 1) * r = m * (2 * r) + r by rw [Nat.succ_mul, Nat.mul_comm 2 m, Nat.mul_assoc]] at this
theorem mid_end {r : Nat} {L : List D} {m : Nat} {T : List D} (h : Mid r L m T) (hlt : L.length ≤ m * (2 * r)) : T.length = L.length ∧ T.Perm L ∧ Runs (2 * r) T := by
  obtain ⟨h1, h2, h3⟩ := h
  rw [List.take_of_length_le hlt] at h2
  exact ⟨h2.length_eq, h2, h3⟩
theorem icell_append_right (M N : List D) (j : Nat) (h : M.length * 2 ≤ j) : icell (M ++ N) j = icell N (j - M.length * 2) := by
  unfold icell
  have e1 : (j - M.length * 2) % 2 = j % 2 := by omega
  have e2 : (j - M.length * 2) / 2 = j / 2 - M.length := by omega
  have hj : M.length ≤ j / 2 := by omega
  rw [e1, e2]
  simp only [List.getD_eq_getElem?_getD, List.getElem?_append_right hj]
theorem over_append (F : Nat → Value) (T C : List D) (j : Nat) : over (over F 0 T) (T.length * 2) C j = over F 0 (T ++ C) j := by
  unfold over
  rw [List.length_append]
  by_cases h1 : j < T.length * 2
  · rw [if_neg (by omega), if_pos (by omega), if_pos (by omega), icell_append_left _ _ _ (by omega)]
  · by_cases h2 : j < T.length * 2 + C.length * 2
    · rw [if_pos (by omega), if_pos (by omega), Nat.sub_zero, icell_append_right _ _ _ (by omega)]
    · rw [if_neg (by omega), if_neg (by omega), if_neg (by omega)]
theorem over_all (F : Nat → Value) (T : List D) (j : Nat) (h : j < T.length * 2) : over F 0 T j = icell T j := by
  unfold over; rw [if_pos (by omega), Nat.sub_zero]
/-- A piece of a row. -/
theorem pat_piece {w : World} {g n : Nat} {t : TypeId} {L : List D} (h : RowAt w g t (n * 2) (icell L)) (hn : L.length = n) (s r : Nat) (a : Option Addr) (ha : s < n → a = some ⟨g, s * 2, none⟩) : PAt w g a (runA r L s) := by
  intro hne
  have hs : s < n := by
    by_cases hs : s < n
    · exact hs
    · exact absurd (by unfold runA; rw [List.drop_eq_nil_of_le (by omega)]; simp) hne
  refine ⟨s * 2, ha hs, fun i hi => ?_⟩
  have hl : i < min r (L.length - s) := by rw [← runA_length]; exact hi
  have e : (runA r L s).getD i zero = L.getD (s + i) zero := by
    unfold runA
    rw [List.getD_eq_getElem?_getD, List.getElem?_take_of_lt (by omega), List.getElem?_drop, List.getD_eq_getElem?_getD]
  rw [e]
  refine ⟨?_, ?_⟩
  · rw [h.cell (by omega), icell, show (s * 2 + i * 2) % 2 = 0 by omega, show (s * 2 + i * 2) / 2 = s + i by omega]; simp
  · rw [h.cell (by omega), icell, show (s * 2 + i * 2 + 1) % 2 = 1 by omega, show (s * 2 + i * 2 + 1) / 2 = s + i by omega]; simp
end Ring
end Go.Proofs.YthgcfklfpllgnaaDoor
/-
  The contract of the model's l1Num: the decimal digits, for every number from 0 on.
-/
namespace Go.Proofs.YthgcfklfpllgnaaDoor
namespace NumText
open Go.RowKit Base
set_option linter.unusedVariables false

end NumText
end Go.Proofs.YthgcfklfpllgnaaDoor
/-
  The model's l3Less and l3Points: the order of the points, and the points of a list of nodes.
-/
namespace Go.Proofs.YthgcfklfpllgnaaDoor
namespace Ring
open Go.RowKit Base Points NumText Marks OwnR PointsW
set_option linter.unusedVariables false

theorem far {w1 w3 : World} {o : Obj} {r : Option Nat} {bx k : Nat} {u : Value} (hg : (w1.alloc o).grownBy w3 r) (hr : r ≠ some bx) (hb : bx < w1.heap.size) (h : w1.cell? ⟨bx, k, none⟩ = some u) : w3.cell? ⟨bx, k, none⟩ = some u :=
  (World.cell?_of_block (a := ⟨bx, k, none⟩) (hg.block bx (by rw [World.size_alloc]; omega) (fun e => hr e.symm))).trans ((World.cell?_of_block (a := ⟨bx, k, none⟩) (Below.heap_alloc w1 o bx hb)).trans h)
theorem below_drew {B : Nat} {w w1 : World} (h : Below B w.drew w1) : Below B w w1 := ⟨h.os, h.tape, h.output, h.size, h.block⟩
theorem infoP' : ∃ i, Tryd.prog.info? 113 = some i ∧ i.zero = some (.agg #[.int .u32 0, .string ByteArray.empty]) ∧ i.size = 2 ∧ i.bytes = 24 := by
  have h : (Tryd.prog.info? 113).map (fun i => (i.zero, i.size, i.bytes)) = some (some (.agg #[.int .u32 0, .string ByteArray.empty]), 2, 24) := by kernel_rfl
  obtain ⟨i, hi, hz⟩ := Option.map_eq_some_iff.1 h
  simp only [Prod.mk.injEq] at hz
  exact ⟨i, hi, hz.1, hz.2.1, hz.2.2⟩

end Ring
end Go.Proofs.YthgcfklfpllgnaaDoor
