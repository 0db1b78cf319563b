/-
  Contracts of the law files' helpers over the struct Slot and slices of it: sz, to, eq (written by a program of mine).
-/
import Derived.Test.YtmbkdejlbeailaaSlotP
import Derived.Test.YtmbkdejlbeailaaRows
import Derived.Deep.RegionWith
namespace Go.Proofs.Ytmbkdejlbeailaa
namespace Slots
open Go.RowKit Base
set_option linter.unusedVariables false

set_option maxHeartbeats 400000 in
theorem sz1_any (x : D) (left : Int) (w : World) (hf : Fits x) (h0 : 0 ≤ left) (h1 : left ≤ 1048576) :
    Calls Try.prog 46 #[.agg #[.int .i64 x.id, .bool x.done, .string x.answer], .int .i64 left] w fun e w' => e = .returned (.int .i64 (szI x left)) ∧ Below w.heap.size w w' := by
  unfold Fits maxLen at hf
  obtain ⟨id, done, answer⟩ := x
  dsimp only at *
  by_cases g0 : left - answer.size < 0
  · have H : Hid (szI ⟨id, done, answer⟩ left = -1) := by show szI ⟨id, done, answer⟩ left = -1; unfold szI; rw [if_pos g0]
    go_enter Try.func46, Try.ntmps46
    go_wp2
    go_ret
    exact ⟨ret_int (unhide H).symm, bel1 w _⟩
  have H : Hid (szI ⟨id, done, answer⟩ left = left - answer.size) := by show szI ⟨id, done, answer⟩ left = _; unfold szI; rw [if_neg g0]
  go_enter Try.func46, Try.ntmps46
  go_wp2
  go_ret
  exact ⟨ret_int (unhide H).symm, bel1 w _⟩

set_option maxHeartbeats 400000 in
theorem sz_some (b off cap : Nat) (l : List D) (left : Int) (w : World) (hb : b < w.heap.size) (hc : ∀ i, i < l.length → At w b (off + i * 3) (l.getD i zero))
    (hl : l.length ≤ maxLen) (hs : ∀ x ∈ l, Fits x) (h0 : 0 ≤ left) (h1 : left ≤ 1048576) :
    Calls Try.prog 30 #[.slice (some ⟨b, off, none⟩) l.length cap, .int .i64 left] w fun e w' => e = .returned (.int .i64 (szL l left)) ∧ Below w.heap.size w w' := by
  unfold maxLen at hl
  by_cases g : left - l.length < 0
  · have H : Hid (szL l left = -1) := by show szL l left = -1; unfold szL; rw [if_pos g]
    clear hc hs
    go_enter Try.func30, Try.ntmps30
    go_wp2
    go_ret
    exact ⟨ret_int (unhide H).symm, Below.refl _ _⟩
  have HE : Hid (szL l left = szGo l (left - l.length)) := by show szL l left = _; unfold szL; rw [if_neg g]
  have hcs := hide hc
  have hss := hide hs
  clear hc hs
  go_enter Try.func30, Try.ntmps30
  go_wp2
  go_loopw [1, 5] (fun lv i wr => ∃ (k : Nat) (z : Int), k ≤ l.length ∧ 0 ≤ z ∧ z ≤ 1048576 ∧ i = .int .i64 k ∧ lv = .int .i64 z ∧ Hid (szGo l (left - l.length) = szGo (l.drop k) z) ∧ Hid (Below w.heap.size w wr)) (fun _ i _ => l.length - (intOf i).toNat)
  case atStart => exact ⟨0, left - l.length, Nat.zero_le _, by omega, by omega, rfl, rfl, hide (by simp), hide (Below.refl _ _)⟩
  case round =>
    obtain ⟨k, z, hk, hz0, hz1, rfl, rfl, hr, hbel⟩ := hrel
    by_cases hlt : k < l.length
    · obtain ⟨c0, c1, c2⟩ := (unhide hcs k hlt).below (unhide hbel) hb
      have hfit := hide (fits_getD (unhide hss) k hlt)
      have hd := szGo_drop l k hlt z
      generalize l.getD k zero = x at c0 c1 c2 hfit hd
      have hbd := szI_bd x z hz0
      have hcal := fun w => sz1_any x z w (unhide hfit) hz0 hz1
      generalize szI x z = y at hd hbd hcal
      have HC := hide hcal
      clear hcal
      by_cases g2 : y < 0
      · have H : Hid (szL l left = -1) := by show szL l left = -1; rw [unhide HE, unhide hr, hd, if_pos g2]
        clear hd
        go_wp2_with fail
        refine (unhide HC _).mono ?_
        rintro e w1 ⟨rfl, hb1⟩
        have hb1 := hide ((unhide hbel).trans (hb1.mono (unhide hbel).size))
        go_wp2
        go_ret
        exact ⟨ret_int (unhide H).symm, unhide hb1⟩
      · have H : Hid (szGo l (left - l.length) = szGo (l.drop (k + 1)) y) := by show szGo l (left - l.length) = _; rw [unhide hr, hd, if_neg g2]
        clear hd
        go_wp2_with fail
        refine (unhide HC _).mono ?_
        rintro e w1 ⟨rfl, hb1⟩
        have hb1 := hide ((unhide hbel).trans (hb1.mono (unhide hbel).size))
        go_wp2
        go_roundw
        case rel => exact ⟨k + 1, y, by omega, by omega, by omega, by go_num, rfl, H, hb1⟩
        case measure => simp [intOf]; omega
    · have H : Hid (szL l left = z) := by show szL l left = z; rw [unhide HE, unhide hr, List.drop_of_length_le (by omega)]; rfl
      go_wp2
      go_ret
      exact ⟨ret_int (unhide H).symm, unhide hbel⟩

set_option maxHeartbeats 400000 in
theorem sz_any (a : Option Addr) (cap : Nat) (l : List D) (left : Int) (w : World) (hc : LAt w a l)
    (hl : l.length ≤ maxLen) (hs : ∀ x ∈ l, Fits x) (h0 : 0 ≤ left) (h1 : left ≤ 1048576) :
    Calls Try.prog 30 #[.slice a l.length cap, .int .i64 left] w fun e w' => e = .returned (.int .i64 (szL l left)) ∧ Below w.heap.size w w' := by
  by_cases hne : l = []
  · subst hne
    have H : Hid (szL [] left = left) := by show szL [] left = left; unfold szL; rw [if_neg (by simp; omega)]; simp [szGo]
    go_enter Try.func30, Try.ntmps30
    go_wp2
    go_loop [1, 5] (fun l i => i = .int .i64 0 ∧ l = .int .i64 left) (fun _ _ => 0)
    case atStart => exact ⟨rfl, rfl⟩
    case round =>
      obtain ⟨rfl, rfl⟩ := hrel
      go_wp2
      go_ret
      exact ⟨ret_int (unhide H).symm, Below.refl _ _⟩
  · obtain ⟨b, off, rfl, hb, hcc⟩ := hc hne
    exact sz_some b off cap l left w hb hcc hl hs h0 h1

set_option maxHeartbeats 400000 in
theorem to1_any (x : D) (w : World) :
    Calls Try.prog 47 #[.agg #[.int .i64 x.id, .bool x.done, .string x.answer]] w fun e w' => e = .returned (.agg #[.int .i64 x.id, .bool x.done, .string x.answer]) ∧ Below w.heap.size w w' := by
  obtain ⟨id, done, answer⟩ := x
  go_enter Try.func47, Try.ntmps47
  go_wp2
  refine bodyPost_ret (v := .agg #[.int .i64 id, .bool done, .string answer]) (by simp [results, Try.results47, go_sem]) rfl ⟨rfl, bel3 w _ _ _⟩

theorem info : (Try.prog.info? 55).map (fun i => (i.zero, i.size, i.bytes)) = some (some (.agg #[.int .i64 0, .bool false, .string ByteArray.empty]), 3, 32) := by kernel_rfl

set_option maxHeartbeats 400000 in
theorem to_some (b off cap : Nat) (l : List D) (w : World) (hb : b < w.heap.size) (hc : ∀ i, i < l.length → At w b (off + i * 3) (l.getD i zero)) (hl : l.length ≤ 1048576) :
    Calls Try.prog 32 #[.slice (some ⟨b, off, none⟩) l.length cap] w fun e w' =>
      e = .returned (.slice (some ⟨w.heap.size, 0, none⟩) l.length l.length) ∧ w'.rowIs w.heap.size 55 (l.length * 3) (icell l) ∧ Below w.heap.size w w' := by
  have hmk := fun w => run_make_rows (P := Try.prog) 27 55 _ 3 32 Try.underlying27 info .i64 .i64 l.length (by omega) (by omega) w
  have hcs := hide hc
  clear hc
  go_enter Try.func32, Try.ntmps32
  go_wp2
  go_loopw [4] (fun i wr => ∃ k : Nat, k ≤ l.length ∧ i = .int .i64 k ∧ Hid (wr.rowIs w.heap.size 55 (l.length * 3) (half l k)) ∧ Hid (Below w.heap.size w wr)) (fun i _ => l.length - (intOf i).toNat)
  case atStart => exact ⟨0, Nat.zero_le _, rfl, hide ((rowIs_mades w _ _ _ _ made_zero).congr (fun i _ => by simp [half])), hide ((Below.refl _ _).alloc (Nat.le_refl _) _)⟩
  case round =>
    obtain ⟨k, hk, rfl, hrow, hbel⟩ := hrel
    by_cases hlt : k < l.length
    · obtain ⟨c0, c1, c2⟩ := (unhide hcs k hlt).below (unhide hbel) hb
      have hst := hide (half_step l k)
      generalize l.getD k zero = x at c0 c1 c2 hst
      go_wp2_with fail
      refine (to1_any x _).mono ?_
      rintro e w1 ⟨rfl, hb1⟩
      have hrow1 := (unhide hrow).of_block (hb1.block _ (unhide hrow).lt)
      have d0 := hrow1.cell (i := k * 3) (by omega)
      have f0 := hrow1.frozen (k * 3)
      have d1 := hrow1.cell (i := k * 3 + 1) (by omega)
      have f1 := hrow1.frozen (k * 3 + 1)
      have d2 := hrow1.cell (i := k * 3 + 2) (by omega)
      have f2 := hrow1.frozen (k * 3 + 2)
      have hrow2 := hide (((hrow1.set (k * 3) (.int .i64 x.id)).set (k * 3 + 1) (.bool x.done)).set (k * 3 + 2) (.string x.answer))
      have hbel1 := hide ((unhide hbel).trans (hb1.mono (unhide hbel).size))
      generalize half l k (k * 3) = o0 at d0
      generalize half l k (k * 3 + 1) = o1 at d1
      generalize half l k (k * 3 + 2) = o2 at d2
      clear hrow1 hb1
      go_wp2
      go_roundw
      case rel =>
        refine ⟨k + 1, by omega, by go_num, hide ((unhide hrow2).congr (fun i _ => unhide hst i)), hide ?_⟩
        show Below w.heap.size w _
        repeat (refine Below.setCell ?_ (by first | (simp; done) | (simp; omega)) _)
        exact unhide hbel1
      case measure => simp [intOf]; omega
    · go_wp2
      go_ret
      exact ⟨rfl, (unhide hrow).congr (fun i hi => by unfold half; rw [if_pos (by omega)]), unhide hbel⟩

set_option maxHeartbeats 400000 in
theorem to_any (a : Option Addr) (cap : Nat) (l : List D) (w : World) (hc : LAt w a l) (hl : l.length ≤ 1048576) :
    Calls Try.prog 32 #[.slice a l.length cap] w fun e w' =>
      e = .returned (.slice (some ⟨w.heap.size, 0, none⟩) l.length l.length) ∧ w'.rowIs w.heap.size 55 (l.length * 3) (icell l) ∧ Below w.heap.size w w' := by
  by_cases hne : l = []
  · subst hne
    have hmk : ∀ w, (Instr.makeSlice 27 (.int .i64 0) (.int .i64 0)).run Try.prog w = .ok (.slice (some ⟨w.heap.size, 0, none⟩) 0 0) (w.alloc (.cells (madeCells #[.int .i64 0, .bool false, .string ByteArray.empty] 0) 55)) :=
      fun w => run_make_rows (P := Try.prog) 27 55 _ 3 32 Try.underlying27 info .i64 .i64 0 (by omega) (by omega) w
    go_enter Try.func32, Try.ntmps32
    go_wp2
    go_loop [4] (fun i => i = .int .i64 0) (fun _ => 0)
    case atStart => exact rfl
    case round =>
      obtain rfl := hrel
      go_wp2
      go_ret
      exact ⟨rfl, (rowIs_mades w _ _ _ _ made_zero), (Below.refl _ _).alloc (Nat.le_refl _) _⟩
  · obtain ⟨b, off, rfl, hb, hcc⟩ := hc hne
    exact to_some b off cap l w hb hcc hl

set_option maxHeartbeats 400000 in
theorem eq1_same (x : D) (w : World) :
    Calls Try.prog 48 #[.agg #[.int .i64 x.id, .bool x.done, .string x.answer], .agg #[.int .i64 x.id, .bool x.done, .string x.answer]] w fun e w' => e = .returned (.bool true) ∧ Below w.heap.size w w' := by
  obtain ⟨id, done, answer⟩ := x
  have hb_done : (done != done) = false := by cases done <;> rfl
  go_enter Try.func48, Try.ntmps48
  go_wp2
  go_ret
  exact ⟨rfl, bel2 w _ _⟩

set_option maxHeartbeats 1000000 in
theorem eq_some (b off cap b' off' cap' : Nat) (l : List D) (w : World) (hb : b < w.heap.size) (hc : ∀ i, i < l.length → At w b (off + i * 3) (l.getD i zero))
    (hb' : b' < w.heap.size) (hc' : ∀ i, i < l.length → At w b' (off' + i * 3) (l.getD i zero)) (hl : l.length ≤ maxLen) :
    Calls Try.prog 34 #[.slice (some ⟨b, off, none⟩) l.length cap, .slice (some ⟨b', off', none⟩) l.length cap'] w fun e w' => e = .returned (.bool true) ∧ Below w.heap.size w w' := by
  unfold maxLen at hl
  have hcs := hide hc
  have hcs' := hide hc'
  clear hc hc'
  go_enter Try.func34, Try.ntmps34
  go_wp2
  go_loopw [5] (fun i wr => ∃ k : Nat, k ≤ l.length ∧ i = .int .i64 k ∧ Hid (Below w.heap.size w wr)) (fun i _ => l.length - (intOf i).toNat)
  case atStart => exact ⟨0, Nat.zero_le _, rfl, hide (Below.refl _ _)⟩
  case round =>
    obtain ⟨k, hk, rfl, hbel⟩ := hrel
    by_cases hlt : k < l.length
    · obtain ⟨c0, c1, c2⟩ := (unhide hcs k hlt).below (unhide hbel) hb
      obtain ⟨d0, d1, d2⟩ := (unhide hcs' k hlt).below (unhide hbel) hb'
      generalize l.getD k zero = x at c0 c1 c2 d0 d1 d2
      go_wp2
      go_region_with (go_at_call 48; refine (eq1_same x _).mono ?_; rintro e w1 ⟨rfl, hb1⟩; have hb1 := hide hb1)
      all_goals
        go_wp2
        go_roundw
        case rel => exact ⟨k + 1, by omega, by go_num, hide ((unhide hbel).drew.trans ((unhide hb1).mono (unhide hbel).size))⟩
        case measure => simp [intOf]; omega
    · go_wp2
      go_ret
      exact ⟨rfl, unhide hbel⟩

set_option maxHeartbeats 400000 in
theorem eq_same (a a' : Option Addr) (cap cap' : Nat) (l : List D) (w : World) (hc : LAt w a l) (hc' : LAt w a' l) (hl : l.length ≤ maxLen) :
    Calls Try.prog 34 #[.slice a l.length cap, .slice a' l.length cap'] w fun e w' => e = .returned (.bool true) ∧ Below w.heap.size w w' := by
  by_cases hne : l = []
  · subst hne
    go_enter Try.func34, Try.ntmps34
    go_wp2
    go_loop [5] (fun i => i = .int .i64 0) (fun _ => 0)
    case atStart => exact rfl
    case round =>
      obtain rfl := hrel
      go_wp2
      go_ret
      exact ⟨rfl, Below.refl _ _⟩
  · obtain ⟨b, off, rfl, hb, hcc⟩ := hc hne
    obtain ⟨b', off', rfl, hb', hcc'⟩ := hc' hne
    exact eq_some b off cap b' off' cap' l w hb hcc hb' hcc' hl
end Slots
end Go.Proofs.Ytmbkdejlbeailaa
