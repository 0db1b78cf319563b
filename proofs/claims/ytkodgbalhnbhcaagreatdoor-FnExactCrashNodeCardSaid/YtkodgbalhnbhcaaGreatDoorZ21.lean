/-
  Rows that are merged two by two, as plain data and in memory. No Go function is spoken of here.
-/
import Derived.Test.YtkodgbalhnbhcaaGreatDoorZ18
import Derived.Test.YtkodgbalhnbhcaaGreatDoorZ3
import Derived.Test.YtkodgbalhnbhcaaGreatDoorRows
import Derived.Deep.RegionWith
import Derived.WalkLawsBesides
namespace Go.Proofs.YtkodgbalhnbhcaaGreatDoor
namespace Ring
open Go.RowKit Base Points Marks
set_option linter.unusedVariables false

/-- How far one pass over the rows of length r has come: m pairs are merged. -/
def Mid (r : Nat) (L : List D) (m : Nat) (T : List D) : Prop := T.length = min (m * (2 * r)) L.length ∧ T.Perm (L.take (m * (2 * r))) ∧ Runs (2 * r) T
theorem mid_start (r : Nat) (L : List D) : Mid r L 0 [] := ⟨by simp, by simp, fun k => by simp [Sorted]⟩
def runA (r : Nat) (L : List D) (s : Nat) : List D := (L.drop s).take r
theorem runA_length (r : Nat) (L : List D) (s : Nat) : (runA r L s).length = min r (L.length - s) := by simp [runA]
theorem two_runs (r : Nat) (L : List D) (s : Nat) : runA r L s ++ runA r L (s + r) = (L.drop s).take (2 * r) := by
  unfold runA
  rw [show 2 * r = r + r by omega, List.take_add, List.drop_drop]
theorem mid_step {r : Nat} {L : List D} {m : Nat} {T : List D} (h : Mid r L m T) (hL : Runs r L) (hlt : m * (2 * r) < L.length) :
    Mid r L (m + 1) (T ++ List.merge (runA r L (m * (2 * r))) (runA r L (m * (2 * r) + r)) le) := by
  obtain ⟨h1, h2, h3⟩ := h
  have e1 : (m + 1) * (2 * r) = m * (2 * r) + 2 * r := by rw [Nat.succ_mul]
  have hl : T.length = m * (2 * r) := by rw [h1]; omega
  have hml := merge_length (runA r L (m * (2 * r))) (runA r L (m * (2 * r) + r))
  rw [runA_length, runA_length] at hml
  refine ⟨?_, ?_, ?_⟩
  · rw [List.length_append, hml, hl, e1]; omega
  · have hp := merge_perm (runA r L (m * (2 * r))) (runA r L (m * (2 * r) + r))
    rw [two_runs] at hp
    rw [e1, List.take_add]
    exact List.Perm.append h2 hp
  · refine runs_snoc hl h3 (merge_sorted ?_ ?_) (by rw [hml]; omega)
    · have := hL (2 * m)
      rwa [show 2 * m * r = m * (2 * r) by rw [Nat.mul_comm 2 m, Nat.mul_assoc]] at this
    · have := hL (2 * m + 1)
      rwa [show (2 * m + 1) * r = m * (2 * r) + r by rw [Nat.succ_mul, Nat.mul_comm 2 m, Nat.mul_assoc]] at this
theorem mid_end {r : Nat} {L : List D} {m : Nat} {T : List D} (h : Mid r L m T) (hlt : L.length ≤ m * (2 * r)) : T.length = L.length ∧ T.Perm L ∧ Runs (2 * r) T := by
  obtain ⟨h1, h2, h3⟩ := h
  rw [List.take_of_length_le hlt] at h2
  exact ⟨h2.length_eq, h2, h3⟩
theorem icell_append_right (M N : List D) (j : Nat) (h : M.length * 2 ≤ j) : icell (M ++ N) j = icell N (j - M.length * 2) := by
  unfold icell
  have e1 : (j - M.length * 2) % 2 = j % 2 := by omega
  have e2 : (j - M.length * 2) / 2 = j / 2 - M.length := by omega
  have hj : M.length ≤ j / 2 := by omega
  rw [e1, e2]
  simp only [List.getD_eq_getElem?_getD, List.getElem?_append_right hj]
theorem over_append (F : Nat → Value) (T C : List D) (j : Nat) : over (over F 0 T) (T.length * 2) C j = over F 0 (T ++ C) j := by
  unfold over
  rw [List.length_append]
  by_cases h1 : j < T.length * 2
  · rw [if_neg (by omega), if_pos (by omega), if_pos (by omega), icell_append_left _ _ _ (by omega)]
  · by_cases h2 : j < T.length * 2 + C.length * 2
    · rw [if_pos (by omega), if_pos (by omega), Nat.sub_zero, icell_append_right _ _ _ (by omega)]
    · rw [if_neg (by omega), if_neg (by omega), if_neg (by omega)]
theorem over_all (F : Nat → Value) (T : List D) (j : Nat) (h : j < T.length * 2) : over F 0 T j = icell T j := by
  unfold over; rw [if_pos (by omega), Nat.sub_zero]
/-- A piece of a row. -/
theorem pat_piece {w : World} {g n : Nat} {t : TypeId} {L : List D} (h : RowAt w g t (n * 2) (icell L)) (hn : L.length = n) (s r : Nat) (a : Option Addr) (ha : s < n → a = some ⟨g, s * 2, none⟩) : PAt w g a (runA r L s) := by
  intro hne
  have hs : s < n := by
    by_cases hs : s < n
    · exact hs
    · exact absurd (by unfold runA; rw [List.drop_eq_nil_of_le (by omega)]; simp) hne
  refine ⟨s * 2, ha hs, fun i hi => ?_⟩
  have hl : i < min r (L.length - s) := by rw [← runA_length]; exact hi
  have e : (runA r L s).getD i zero = L.getD (s + i) zero := by
    unfold runA
    rw [List.getD_eq_getElem?_getD, List.getElem?_take_of_lt (by omega), List.getElem?_drop, List.getD_eq_getElem?_getD]
  rw [e]
  refine ⟨?_, ?_⟩
  · rw [h.cell (by omega), icell, show (s * 2 + i * 2) % 2 = 0 by omega, show (s * 2 + i * 2) / 2 = s + i by omega]; simp
  · rw [h.cell (by omega), icell, show (s * 2 + i * 2 + 1) % 2 = 1 by omega, show (s * 2 + i * 2 + 1) / 2 = s + i by omega]; simp
end Ring
end Go.Proofs.YtkodgbalhnbhcaaGreatDoor
/-
  The contract of the model's l1Num: the decimal digits, for every number from 0 on.
-/
namespace Go.Proofs.YtkodgbalhnbhcaaGreatDoor
namespace NumText
open Go.RowKit Base
set_option linter.unusedVariables false

set_option maxRecDepth 10000 in
set_option maxHeartbeats 400000 in
theorem small (n : Int) (w : World) (h0 : 0 ≤ n) (h : n < 10) :
    Calls Tryz.prog 132 #[.int .i64 n] w fun e w' => e = .returned (.string (txt n.toNat)) ∧ Below w.heap.size w w' := by
  have hcv := conv1 (P := Tryz.prog) 123 9 5 (48 + n) (by omega) (by omega) Tryz.underlying123 Tryz.underlying5 Tryz.underlying9
  have HT := hide (txt_small n h0 h)
  go_enter Tryz.func132, Tryz.ntmps132
  go_wp2
  go_ret
  exact ⟨ret_str (unhide HT), bel1 w _⟩

set_option maxRecDepth 10000 in
set_option maxHeartbeats 1000000 in
theorem step (n : Int) (w : World) (h0 : 10 ≤ n) (h : n < 9223372036854775808)
    (ih : ∀ w : World, Calls Tryz.prog 132 #[.int .i64 (n / 10)] w fun e w' => e = .returned (.string (txt (n / 10).toNat)) ∧ Below w.heap.size w w') :
    Calls Tryz.prog 132 #[.int .i64 n] w fun e w' => e = .returned (.string (txt n.toNat)) ∧ Below w.heap.size w w' := by
  have hcv := conv1 (P := Tryz.prog) 123 9 5 (48 + n % 10) (by omega) (by omega) Tryz.underlying123 Tryz.underlying5 Tryz.underlying9
  have hlt : ¬ n < 10 := by omega
  have e1 := quo10 n h0 h
  have e2 := rem10 n h0 h
  have HT := txt_step n h0
  have hts : (txt (n / 10).toNat).size ≤ 20 := by
    show (Lib.decDigits (n / 10).toNat).toArray.size ≤ 20
    have := Lib.nDigits_le20 (n / 10).toNat (by omega)
    rw [Lib.decDigits_eq]
    simpa using this
  generalize n / 10 = q at ih e1 HT hts
  generalize 48 + n % 10 = m at e2 hcv HT
  generalize txt q.toNat = t at ih HT hts
  have IH := hide ih
  have HT1 := hide HT
  clear ih HT
  go_enter Tryz.func132, Tryz.ntmps132
  go_wp2
  go_region_with (go_at_call 132; refine (unhide IH _).mono ?_; rintro e w1 ⟨rfl, hb1⟩; have hc1 := (bcell hb1 (Nat.le_refl _)).1; have hz1 := hb1.size; have hb1 := hide hb1)
  all_goals go_wp2
  all_goals
    go_ret
    refine ⟨ret_str (unhide HT1), ?_⟩
    first
      | exact ((Below.refl _ w).drew.trans (unhide hb1)).alloc hz1 _
      | exact (bel1 w _).drew.trans ((unhide hb1).mono (by simp))

theorem num_any (n : Int) (w : World) (h0 : 0 ≤ n) (h : n < 9223372036854775808) :
    Calls Tryz.prog 132 #[.int .i64 n] w fun e w' => e = .returned (.string (txt n.toNat)) ∧ Below w.heap.size w w' := by
  obtain ⟨k, hk⟩ : ∃ k : Nat, n.toNat ≤ k := ⟨_, Nat.le_refl _⟩
  induction k generalizing n w with
  | zero => exact small n w h0 (by omega)
  | succ k ih =>
    by_cases h10 : n < 10
    · exact small n w h0 h10
    · exact step n w (by omega) h (fun w => ih (n / 10) w (by omega) (by omega) (by omega))
end NumText
end Go.Proofs.YtkodgbalhnbhcaaGreatDoor
