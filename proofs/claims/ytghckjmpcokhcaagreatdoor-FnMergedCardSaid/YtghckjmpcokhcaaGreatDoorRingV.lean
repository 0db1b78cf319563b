/-
  slices.Clone at the points, and the program's sortedBy: the ring of a list of points, in a row of its own.
-/
import Derived.Test.YtghckjmpcokhcaaGreatDoorRingI
import Derived.Test.YtghckjmpcokhcaaGreatDoorPointZ
import Derived.WalkSpells
import Derived.Lib.SliceRun
import Derived.Test.YtghckjmpcokhcaaGreatDoorRingY
namespace Go.Proofs.YtghckjmpcokhcaaGreatDoor
namespace Ring
open Go.RowKit Base Points NumText Marks OwnR PointsW
set_option linter.unusedVariables false

theorem info_ex : ∃ i, Tryz.prog.info? 118 = some i ∧ i.zero = some (.agg #[.int .u32 0, .string ByteArray.empty]) ∧ i.size = 2 ∧ i.bytes = 24 := by
  obtain ⟨i, hi, hz⟩ := Option.map_eq_some_iff.1 infoP
  simp only [Prod.mk.injEq] at hz
  exact ⟨i, hi, hz.1, hz.2.1, hz.2.2⟩
theorem own_empty (w : World) (t : TypeId) (size : Nat) : (w.alloc (.cells #[] t)).ownsRow w.heap.size t size (.slice (some ⟨w.heap.size, 0, none⟩) 0 0) 0 [] :=
  ⟨by simp, .inr ⟨w.heap.size, 0, #[], rfl, Nat.le_refl _, heap_alloc_new w _, Nat.le_refl _, Nat.zero_le _, by simp, by simp⟩⟩

set_option maxRecDepth 10000 in
set_option maxHeartbeats 1000000 in
theorem clone_pts (f cap : Nat) (l : List D) (w : World) (hr : RowAt w f 118 (l.length * 2) (icell l)) (h0 : 0 < l.length) (h1 : l.length ≤ 1000) :
    Calls Tryz.prog 94 #[.slice (some ⟨f, 0, none⟩) l.length cap] w fun e w' =>
      ∃ g c, e = .returned (.slice (some ⟨g, 0, none⟩) l.length c) ∧ w.heap.size ≤ g ∧ l.length ≤ c ∧ RowAt w' g 118 (l.length * 2) (icell l) ∧ Below w.heap.size w w' := by
  obtain ⟨i0, hi, hz0, hz1, hz2⟩ := info_ex
  have HI := hide hi
  have HZ0 := hide hz0
  have HZ1 := hide hz1
  have HZ2 := hide hz2
  have HR := hide hr
  have HFL := hide (flat_length l)
  have HFO := hide (flat_oneCell l)
  have hnil : ∀ w, (binOp .eql 96 (.slice (some ⟨f, 0, none⟩) l.length cap) (.slice none 0 0)).run Tryz.prog w = .ok (.bool false) w := fun w => Lib.run_eql_slice_nil w _ _ _ _ _ _ _ Tryz.underlying96
  clear hi hz0 hz1 hz2 hr
  go_enter Tryz.func94, Tryz.ntmps94
  go_wp2_with (at_builtin; go_loud (refine wpList_append_own _ rfl _ _ 96 rfl w.heap.size 118 i0 _ 2 24 Tryz.underlying96 (unhide HI) (unhide HZ0) (unhide HZ1) (unhide HZ2) rfl (by decide) _ _ _ rfl (own_empty w _ _) ⟨f, 0, none⟩ l.length cap (flat l) rfl (unhide HFL) ?c1 (unhide HFO) ?c3 ?c4 ?c5 ?_))
  case c1 => exact news_at ((unhide HR).below (bel1 w _) (unhide HR).lt) (Nat.le_refl _)
  case c3 => unfold maxLen; omega
  case c4 => omega
  case c5 => simp
  intro v' w2 hown' hgrow _
  obtain ⟨g, c, rfl, hg, hc, -⟩ := own_some hown' h0
  obtain ⟨r, hours, -⟩ := own_ours hown'
  have hrow : RowAt w2 g 118 (l.length * 2) (icell l) := by
    rcases hours with ⟨h, _⟩ | ⟨g', he, _, h⟩
    · omega
    · simp at he; rw [he]; exact h
  have HB := hide ((bel1 w (.cells #[] 118)).grown hgrow (by simp) (fun k e => by simp [Value.ownBlock] at e; omega))
  have HROW := hide hrow
  clear hown' hgrow hrow hours
  go_wp2
  go_ret
  exact ⟨g, c, rfl, hg, hc, unhide HROW, unhide HB⟩
end Ring
end Go.Proofs.YtghckjmpcokhcaaGreatDoor
/-
  Rows that are merged two by two, as plain data and in memory. No Go function is spoken of here.
-/
namespace Go.Proofs.YtghckjmpcokhcaaGreatDoor
namespace Ring
open Go.RowKit Base Points Marks
set_option linter.unusedVariables false

/-- How far one pass over the rows of length r has come: m pairs are merged. -/
def Mid (r : Nat) (L : List D) (m : Nat) (T : List D) : Prop := T.length = min (m * (2 * r)) L.length ∧ T.Perm (L.take (m * (2 * r))) ∧ Runs (2 * r) T
theorem mid_start (r : Nat) (L : List D) : Mid r L 0 [] := ⟨by simp, by simp, fun k => by simp [Sorted]⟩
def runA (r : Nat) (L : List D) (s : Nat) : List D := (L.drop s).take r
theorem runA_length (r : Nat) (L : List D) (s : Nat) : (runA r L s).length = min r (L.length - s) := by simp [runA]
theorem two_runs (r : Nat) (L : List D) (s : Nat) : runA r L s ++ runA r L (s + r) = (L.drop s).take (2 * r) := by
  unfold runA
  rw [show 2 * r = r + r by omega, List.take_add, List.drop_drop]
theorem mid_step {r : Nat} {L : List D} {m : Nat} {T : List D} (h : Mid r L m T) (hL : Runs r L) (hlt : m * (2 * r) < L.length) :
    Mid r L (m + 1) (T ++ List.merge (runA r L (m * (2 * r))) (runA r L (m * (2 * r) + r)) le) := by
  obtain ⟨h1, h2, h3⟩ := h
  have e1 : (m + 1) * (2 * r) = m * (2 * r) + 2 * r := by rw [Nat.succ_mul]
  have hl : T.length = m * (2 * r) := by rw [h1]; omega
  have hml := merge_length (runA r L (m * (2 * r))) (runA r L (m * (2 * r) + r))
  rw [runA_length, runA_length] at hml
  refine ⟨?_, ?_, ?_⟩
  · rw [List.length_append, hml, hl, e1]; omega
  · have hp := merge_perm (runA r L (m * (2 * r))) (runA r L (m * (2 * r) + r))
    rw [two_runs] at hp
    rw [e1, List.take_add]
    exact List.Perm.append h2 hp
  · refine runs_snoc hl h3 (merge_sorted ?_ ?_) (by rw [hml]; omega)
    · have := hL (2 * m)
      rwa [show 2 * m * r = m * (2 * r) by rw [Nat.mul_comm 2 m, Nat.mul_assoc]] at this
    · have := hL (2 * m + 1)
      rwa [show (2 * m + 1) * r = m * (2 * r) + r by rw [Nat.succ_mul, Nat.mul_comm 2 m, Nat.mul_assoc]] at this
theorem mid_end {r : Nat} {L : List D} {m : Nat} {T : List D} (h : Mid r L m T) (hlt : L.length ≤ m * (2 * r)) : T.length = L.length ∧ T.Perm L ∧ Runs (2 * r) T := by
  obtain ⟨h1, h2, h3⟩ := h
  rw [List.take_of_length_le hlt] at h2
  exact ⟨h2.length_eq, h2, h3⟩
theorem icell_append_right (M N : List D) (j : Nat) (h : M.length * 2 ≤ j) : icell (M ++ N) j = icell N (j - M.length * 2) := by
  unfold icell
  have e1 : (j - M.length * 2) % 2 = j % 2 := by omega
  have e2 : (j - M.length * 2) / 2 = j / 2 - M.length := by omega
  have hj : M.length ≤ j / 2 := by omega
  rw [e1, e2]
  simp only [List.getD_eq_getElem?_getD, List.getElem?_append_right hj]
theorem over_append (F : Nat → Value) (T C : List D) (j : Nat) : over (over F 0 T) (T.length * 2) C j = over F 0 (T ++ C) j := by
  unfold over
  rw [List.length_append]
  by_cases h1 : j < T.length * 2
  · rw [if_neg (by omega), if_pos (by omega), if_pos (by omega), icell_append_left _ _ _ (by omega)]
  · by_cases h2 : j < T.length * 2 + C.length * 2
    · rw [if_pos (by omega), if_pos (by omega), Nat.sub_zero, icell_append_right _ _ _ (by omega)]
    · rw [if_neg (by omega), if_neg (by omega), if_neg (by omega)]
theorem over_all (F : Nat → Value) (T : List D) (j : Nat) (h : j < T.length * 2) : over F 0 T j = icell T j := by
  unfold over; rw [if_pos (by omega), Nat.sub_zero]
/-- A piece of a row. -/
theorem pat_piece {w : World} {g n : Nat} {t : TypeId} {L : List D} (h : RowAt w g t (n * 2) (icell L)) (hn : L.length = n) (s r : Nat) (a : Option Addr) (ha : s < n → a = some ⟨g, s * 2, none⟩) : PAt w g a (runA r L s) := by
  intro hne
  have hs : s < n := by
    by_cases hs : s < n
    · exact hs
    · exact absurd (by unfold runA; rw [List.drop_eq_nil_of_le (by omega)]; simp) hne
  refine ⟨s * 2, ha hs, fun i hi => ?_⟩
  have hl : i < min r (L.length - s) := by rw [← runA_length]; exact hi
  have e : (runA r L s).getD i zero = L.getD (s + i) zero := by
    unfold runA
    rw [List.getD_eq_getElem?_getD, List.getElem?_take_of_lt (by omega), List.getElem?_drop, List.getD_eq_getElem?_getD]
  rw [e]
  refine ⟨?_, ?_⟩
  · rw [h.cell (by omega), icell, show (s * 2 + i * 2) % 2 = 0 by omega, show (s * 2 + i * 2) / 2 = s + i by omega]; simp
  · rw [h.cell (by omega), icell, show (s * 2 + i * 2 + 1) % 2 = 1 by omega, show (s * 2 + i * 2 + 1) / 2 = s + i by omega]; simp
end Ring
end Go.Proofs.YtghckjmpcokhcaaGreatDoor
