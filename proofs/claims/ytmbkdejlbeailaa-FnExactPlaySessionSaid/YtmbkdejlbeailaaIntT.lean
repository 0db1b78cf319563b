/-
  A slice of numbers among the arguments, opened; the contract of the law files' toIntS.
-/
import Derived.Test.YtmbkdejlbeailaaIntQ
import Derived.Test.YtmbkdejlbeailaaOpen
import Derived.ChangeSlices
namespace Go.Proofs.Ytmbkdejlbeailaa
namespace Ints
open Go.ChangeShapes Go.WideShapes Go.RowKit Go.Deep Base
set_option linter.unusedVariables false

section
variable {H : Type} {enc : TypeId × Value → H} {P : Program} {w : World} {base : Nat} {spare : Nat → Bool} {held : Bool}
theorem open_of {t e : TypeId} {n : Nat} {v : Value} {y : DataW H × List MemPlace} (ht : P.underlying t = some (.slice e)) (he : P.underlying e = some (.int .i64)) (hc : P.cellsOf e = 1)
    (h : DataW.trod enc P w base spare held n t [v] = some y) :
    ∃ (a : Option Addr) (cap : Nat) (l : List Int), v = .slice a l.length cap ∧ NAt w a l ∧ l.length ≤ maxLen := by
  rcases open_ints ht he hc h with ⟨hcs, _⟩ | ⟨a, len, cap, zs, hcs, _, hl, hm, hz, _, hcell, hwf⟩
  · simp only [List.cons.injEq, and_true] at hcs
    exact ⟨none, 0, [], hcs, fun h => absurd rfl h, by simp⟩
  · simp only [List.cons.injEq, and_true] at hcs
    have hle : len ≤ zs.length := by rw [hz]; split <;> omega
    refine ⟨some a, cap, zs.take len, ?_, ?_, ?_⟩
    · rw [List.length_take, Nat.min_eq_left hle]; exact hcs
    · intro hne
      have hp : 0 < (zs.take len).length := List.length_pos_iff.2 hne
      rw [List.length_take, Nat.min_eq_left hle] at hp
      have h0 := hcell 0 (by omega)
      obtain ⟨b, off, spot⟩ := a
      have hspot : spot = none := by simpa [Addr.add] using World.cell?_spot h0
      subst hspot
      refine ⟨b, off, rfl, by simpa [Addr.add] using Open.cell_lt h0, fun i hi => ?_⟩
      rw [List.length_take, Nat.min_eq_left hle] at hi
      rw [← add_plain, hcell i (by omega)]
      simp [List.getD_eq_getElem?_getD, hi]
    · rw [List.length_take]; omega
end
theorem NAt.below {w w' : World} {a : Option Addr} {l : List Int} {B : Nat} (h : NAt w a l) (hb : Below B w w') (hB : w.heap.size ≤ B) : NAt w' a l := by
  intro hne
  obtain ⟨b, off, ha, hlt, hc⟩ := h hne
  refine ⟨b, off, ha, Nat.lt_of_lt_of_le hlt hb.size, fun i hi => ?_⟩
  rw [hb.cell (p := ⟨b, off + i, none⟩) (Nat.lt_of_lt_of_le hlt hB)]
  exact hc i hi
theorem NAt.row {w : World} {b : Nat} {t : TypeId} {l : List Int} (h : w.rowIs b t l.length (fun i => .int .i64 (l.getD i 0))) : NAt w (some ⟨b, 0, none⟩) l := by
  intro _
  refine ⟨b, 0, rfl, h.lt, fun i hi => ?_⟩
  rw [Nat.zero_add]
  exact h.cell hi
/-- The row of toIntS behind k rounds. -/
def half (l : List Int) (k j : Nat) : Value := if j < k then .int .i64 (l.getD j 0) else .int .i64 0
theorem half_step (l : List Int) (k : Nat) : ∀ i, (if i = k then Value.int .i64 (l.getD k 0) else half l k i) = half l (k + 1) i := by
  intro i
  unfold half
  by_cases e : i = k
  · subst e; simp
  · rw [if_neg e]
    by_cases h : i < k
    · rw [if_pos h, if_pos (by omega)]
    · rw [if_neg h, if_neg (by omega)]

set_option maxHeartbeats 400000 in
theorem to_some (b off cap : Nat) (l : List Int) (w : World) (hb : b < w.heap.size) (hc : ∀ i, i < l.length → w.cell? ⟨b, off + i, none⟩ = some (.int .i64 (l.getD i 0)))
    (hl : l.length ≤ 1048576) :
    Calls Try.prog 26 #[.slice (some ⟨b, off, none⟩) l.length cap] w fun e w' =>
      e = .returned (.slice (some ⟨w.heap.size, 0, none⟩) l.length l.length) ∧ w'.rowIs w.heap.size 3 l.length (fun i => .int .i64 (l.getD i 0)) ∧ Below w.heap.size w w' := by
  have hmk := fun w => run_make_row' (P := Try.prog) 39 3 (.int .i64 0) 8 Try.underlying39 info rfl .i64 .i64 l.length (by omega) (by omega) w
  have hcs := hide hc
  clear hc
  go_enter Try.func26, Try.ntmps26
  go_wp2
  go_loopw [4] (fun i wr => ∃ k : Nat, k ≤ l.length ∧ i = .int .i64 k ∧ Hid (wr.rowIs w.heap.size 3 l.length (half l k)) ∧ Hid (Below w.heap.size w wr)) (fun i _ => l.length - (intOf i).toNat)
  case atStart => exact ⟨0, Nat.zero_le _, rfl, hide ((World.rowIs_made w _ _ _).congr (fun i _ => by simp [half])), hide ((Below.refl _ _).alloc (Nat.le_refl _) _)⟩
  case round =>
    obtain ⟨k, hk, rfl, hrow, hbel⟩ := hrel
    by_cases hlt : k < l.length
    · have hck : wr.cell? ⟨b, off + k, none⟩ = some (.int .i64 (l.getD k 0)) := by
        rw [(unhide hbel).cell (p := ⟨b, off + k, none⟩) hb]; exact unhide hcs k hlt
      have hdst := (unhide hrow).cell hlt
      have hfr := (unhide hrow).frozen k
      have hset := hide ((unhide hrow).set k (.int .i64 (l.getD k 0)))
      have hst := hide (half_step l k)
      have hbel2 := hide ((unhide hbel).setCell (p := ⟨w.heap.size, k, none⟩) (Nat.le_refl _) (.int .i64 (l.getD k 0)))
      generalize l.getD k 0 = s at hck hset hst hbel2
      generalize half l k k = old at hdst
      go_wp2
      go_roundw
      case rel => exact ⟨k + 1, by omega, by go_num, hide ((unhide hset).congr (fun i _ => unhide hst i)), hbel2⟩
      case measure => simp [intOf]; omega
    · go_wp2
      go_ret
      exact ⟨rfl, (unhide hrow).congr (fun i hi => by unfold half; rw [if_pos (by omega)]), unhide hbel⟩

set_option maxHeartbeats 400000 in
theorem to_any (a : Option Addr) (cap : Nat) (l : List Int) (w : World) (hc : NAt w a l) (hl : l.length ≤ 1048576) :
    Calls Try.prog 26 #[.slice a l.length cap] w fun e w' =>
      e = .returned (.slice (some ⟨w.heap.size, 0, none⟩) l.length l.length) ∧ w'.rowIs w.heap.size 3 l.length (fun i => .int .i64 (l.getD i 0)) ∧ Below w.heap.size w w' := by
  by_cases hne : l = []
  · subst hne
    have hmk : ∀ w, (Instr.makeSlice 39 (.int .i64 0) (.int .i64 0)).run Try.prog w = .ok (.slice (some ⟨w.heap.size, 0, none⟩) 0 0) (w.alloc (.cells (madeCells #[.int .i64 0] 0) 3)) :=
      fun w => run_make_row' (P := Try.prog) 39 3 (.int .i64 0) 8 Try.underlying39 info rfl .i64 .i64 0 (by omega) (by omega) w
    go_enter Try.func26, Try.ntmps26
    go_wp2
    go_loop [4] (fun i => i = .int .i64 0) (fun _ => 0)
    case atStart => exact rfl
    case round =>
      obtain rfl := hrel
      go_wp2
      go_ret
      exact ⟨rfl, (World.rowIs_made w _ _ _).congr (fun i hi => by simp), (Below.refl _ _).alloc (Nat.le_refl _) _⟩
  · obtain ⟨b, off, rfl, hb, hcc⟩ := hc hne
    exact to_some b off cap l w hb hcc hl
end Ints
end Go.Proofs.Ytmbkdejlbeailaa
