/-
  Contracts of the law files' helpers over the struct Wait and slices of it: sz, to, eq (written by a program of mine).
-/
import Derived.Test.YtncdoghnfgnafaaWaitP
import Derived.Test.YtncdoghnfgnafaaRows
import Derived.Deep.RegionWith
namespace Go.Proofs.Ytncdoghnfgnafaa
namespace Waits
open Go.RowKit Base
set_option linter.unusedVariables false

set_option maxHeartbeats 400000 in
theorem sz_any (a : Option Addr) (cap : Nat) (l : List D) (left : Int) (w : World) (hc : LAt w a l)
    (hl : l.length ≤ maxLen) (hs : ∀ x ∈ l, Fits x) (h0 : 0 ≤ left) (h1 : left ≤ 1048576) :
    Calls Try.prog 32 #[.slice a l.length cap, .int .i64 left] w fun e w' => e = .returned (.int .i64 (szL l left)) ∧ Below w.heap.size w w' := by
  clear hc hs
  unfold maxLen at hl
  by_cases g : left - l.length < 0
  · have H : Hid (szL l left = -1) := by show szL l left = -1; unfold szL; rw [if_pos g]
    go_enter Try.func32, Try.ntmps32
    go_wp2
    go_ret
    exact ⟨ret_int (unhide H).symm, Below.refl _ _⟩
  · have H : Hid (szL l left = left - l.length) := by show szL l left = _; unfold szL; rw [if_neg g]
    go_enter Try.func32, Try.ntmps32
    go_wp2
    go_ret
    exact ⟨ret_int (unhide H).symm, Below.refl _ _⟩

set_option maxHeartbeats 400000 in
theorem to1_any (x : D) (w : World) :
    Calls Try.prog 49 #[.agg #[.int .i64 x.id, .int .i64 x.since]] w fun e w' => e = .returned (.agg #[.int .i64 x.id, .int .i64 x.since]) ∧ Below w.heap.size w w' := by
  obtain ⟨id, since⟩ := x
  go_enter Try.func49, Try.ntmps49
  go_wp2
  refine bodyPost_ret (v := .agg #[.int .i64 id, .int .i64 since]) (by simp [results, Try.results49, go_sem]) rfl ⟨rfl, bel3 w _ _ _⟩

theorem info : (Try.prog.info? 58).map (fun i => (i.zero, i.size, i.bytes)) = some (some (.agg #[.int .i64 0, .int .i64 0]), 2, 16) := by kernel_rfl

set_option maxHeartbeats 400000 in
theorem to_some (b off cap : Nat) (l : List D) (w : World) (hb : b < w.heap.size) (hc : ∀ i, i < l.length → At w b (off + i * 2) (l.getD i zero)) (hl : l.length ≤ 1048576) :
    Calls Try.prog 35 #[.slice (some ⟨b, off, none⟩) l.length cap] w fun e w' =>
      e = .returned (.slice (some ⟨w.heap.size, 0, none⟩) l.length l.length) ∧ w'.rowIs w.heap.size 58 (l.length * 2) (icell l) ∧ Below w.heap.size w w' := by
  have hmk := fun w => run_make_rows (P := Try.prog) 27 58 _ 2 16 Try.underlying27 info .i64 .i64 l.length (by omega) (by omega) w
  have hcs := hide hc
  clear hc
  go_enter Try.func35, Try.ntmps35
  go_wp2
  go_loopw [4] (fun i wr => ∃ k : Nat, k ≤ l.length ∧ i = .int .i64 k ∧ Hid (wr.rowIs w.heap.size 58 (l.length * 2) (half l k)) ∧ Hid (Below w.heap.size w wr)) (fun i _ => l.length - (intOf i).toNat)
  case atStart => exact ⟨0, Nat.zero_le _, rfl, hide ((rowIs_mades w _ _ _ _ made_zero).congr (fun i _ => by simp [half])), hide ((Below.refl _ _).alloc (Nat.le_refl _) _)⟩
  case round =>
    obtain ⟨k, hk, rfl, hrow, hbel⟩ := hrel
    by_cases hlt : k < l.length
    · obtain ⟨c0, c1⟩ := (unhide hcs k hlt).below (unhide hbel) hb
      have hst := hide (half_step l k)
      generalize l.getD k zero = x at c0 c1 hst
      go_wp2_with fail
      refine (to1_any x _).mono ?_
      rintro e w1 ⟨rfl, hb1⟩
      have hrow1 := (unhide hrow).of_block (hb1.block _ (unhide hrow).lt)
      have d0 := hrow1.cell (i := k * 2) (by omega)
      have f0 := hrow1.frozen (k * 2)
      have d1 := hrow1.cell (i := k * 2 + 1) (by omega)
      have f1 := hrow1.frozen (k * 2 + 1)
      have hrow2 := hide ((hrow1.set (k * 2) (.int .i64 x.id)).set (k * 2 + 1) (.int .i64 x.since))
      have hbel1 := hide ((unhide hbel).trans (hb1.mono (unhide hbel).size))
      generalize half l k (k * 2) = o0 at d0
      generalize half l k (k * 2 + 1) = o1 at d1
      clear hrow1 hb1
      go_wp2
      go_roundw
      case rel =>
        refine ⟨k + 1, by omega, by go_num, hide ((unhide hrow2).congr (fun i _ => unhide hst i)), hide ?_⟩
        show Below w.heap.size w _
        repeat (refine Below.setCell ?_ (by first | (simp; done) | (simp; omega)) _)
        exact unhide hbel1
      case measure => simp [intOf]; omega
    · go_wp2
      go_ret
      exact ⟨rfl, (unhide hrow).congr (fun i hi => by unfold half; rw [if_pos (by omega)]), unhide hbel⟩

set_option maxHeartbeats 400000 in
theorem to_any (a : Option Addr) (cap : Nat) (l : List D) (w : World) (hc : LAt w a l) (hl : l.length ≤ 1048576) :
    Calls Try.prog 35 #[.slice a l.length cap] w fun e w' =>
      e = .returned (.slice (some ⟨w.heap.size, 0, none⟩) l.length l.length) ∧ w'.rowIs w.heap.size 58 (l.length * 2) (icell l) ∧ Below w.heap.size w w' := by
  by_cases hne : l = []
  · subst hne
    have hmk : ∀ w, (Instr.makeSlice 27 (.int .i64 0) (.int .i64 0)).run Try.prog w = .ok (.slice (some ⟨w.heap.size, 0, none⟩) 0 0) (w.alloc (.cells (madeCells #[.int .i64 0, .int .i64 0] 0) 58)) :=
      fun w => run_make_rows (P := Try.prog) 27 58 _ 2 16 Try.underlying27 info .i64 .i64 0 (by omega) (by omega) w
    go_enter Try.func35, Try.ntmps35
    go_wp2
    go_loop [4] (fun i => i = .int .i64 0) (fun _ => 0)
    case atStart => exact rfl
    case round =>
      obtain rfl := hrel
      go_wp2
      go_ret
      exact ⟨rfl, (rowIs_mades w _ _ _ _ made_zero), (Below.refl _ _).alloc (Nat.le_refl _) _⟩
  · obtain ⟨b, off, rfl, hb, hcc⟩ := hc hne
    exact to_some b off cap l w hb hcc hl

set_option maxHeartbeats 400000 in
theorem eq1_same (x : D) (w : World) :
    Calls Try.prog 50 #[.agg #[.int .i64 x.id, .int .i64 x.since], .agg #[.int .i64 x.id, .int .i64 x.since]] w fun e w' => e = .returned (.bool true) ∧ Below w.heap.size w w' := by
  obtain ⟨id, since⟩ := x
  go_enter Try.func50, Try.ntmps50
  go_wp2
  go_ret
  exact ⟨rfl, bel2 w _ _⟩

set_option maxHeartbeats 1000000 in
theorem eq_some (b off cap b' off' cap' : Nat) (l : List D) (w : World) (hb : b < w.heap.size) (hc : ∀ i, i < l.length → At w b (off + i * 2) (l.getD i zero))
    (hb' : b' < w.heap.size) (hc' : ∀ i, i < l.length → At w b' (off' + i * 2) (l.getD i zero)) (hl : l.length ≤ maxLen) :
    Calls Try.prog 37 #[.slice (some ⟨b, off, none⟩) l.length cap, .slice (some ⟨b', off', none⟩) l.length cap'] w fun e w' => e = .returned (.bool true) ∧ Below w.heap.size w w' := by
  unfold maxLen at hl
  have hcs := hide hc
  have hcs' := hide hc'
  clear hc hc'
  go_enter Try.func37, Try.ntmps37
  go_wp2
  go_loopw [5] (fun i wr => ∃ k : Nat, k ≤ l.length ∧ i = .int .i64 k ∧ Hid (Below w.heap.size w wr)) (fun i _ => l.length - (intOf i).toNat)
  case atStart => exact ⟨0, Nat.zero_le _, rfl, hide (Below.refl _ _)⟩
  case round =>
    obtain ⟨k, hk, rfl, hbel⟩ := hrel
    by_cases hlt : k < l.length
    · obtain ⟨c0, c1⟩ := (unhide hcs k hlt).below (unhide hbel) hb
      obtain ⟨d0, d1⟩ := (unhide hcs' k hlt).below (unhide hbel) hb'
      generalize l.getD k zero = x at c0 c1 d0 d1
      go_wp2
      go_region_with (go_at_call 50; refine (eq1_same x _).mono ?_; rintro e w1 ⟨rfl, hb1⟩; have hb1 := hide hb1)
      all_goals
        go_wp2
        go_roundw
        case rel => exact ⟨k + 1, by omega, by go_num, hide ((unhide hbel).drew.trans ((unhide hb1).mono (unhide hbel).size))⟩
        case measure => simp [intOf]; omega
    · go_wp2
      go_ret
      exact ⟨rfl, unhide hbel⟩

set_option maxHeartbeats 400000 in
theorem eq_same (a a' : Option Addr) (cap cap' : Nat) (l : List D) (w : World) (hc : LAt w a l) (hc' : LAt w a' l) (hl : l.length ≤ maxLen) :
    Calls Try.prog 37 #[.slice a l.length cap, .slice a' l.length cap'] w fun e w' => e = .returned (.bool true) ∧ Below w.heap.size w w' := by
  by_cases hne : l = []
  · subst hne
    go_enter Try.func37, Try.ntmps37
    go_wp2
    go_loop [5] (fun i => i = .int .i64 0) (fun _ => 0)
    case atStart => exact rfl
    case round =>
      obtain rfl := hrel
      go_wp2
      go_ret
      exact ⟨rfl, Below.refl _ _⟩
  · obtain ⟨b, off, rfl, hb, hcc⟩ := hc hne
    obtain ⟨b', off', rfl, hb', hcc'⟩ := hc' hne
    exact eq_some b off cap b' off' cap' l w hb hcc hb' hcc' hl
end Waits
end Go.Proofs.Ytncdoghnfgnafaa
