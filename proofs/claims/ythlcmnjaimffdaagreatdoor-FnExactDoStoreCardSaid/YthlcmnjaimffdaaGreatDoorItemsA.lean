/-
  Contracts of the law files' helpers over items: szItem, szItemS, toItem, toItemS, eqItem, eqItemS.
-/
import Derived.Test.YthlcmnjaimffdaaGreatDoorItemsP
import Derived.Test.YthlcmnjaimffdaaGreatDoorRows
import Derived.Deep.RegionWith
import Derived.BigQuiet
import Derived.Deep.QuietTactic
namespace Go.Proofs.YthlcmnjaimffdaaGreatDoor
namespace Items
open Go.RowKit Base
set_option linter.unusedVariables false
set_option maxHeartbeats 400000 in
theorem szItem_any (x : Itm) (left : Int) (w : World) (hf : Fits x) (h0 : 0 ≤ left) (h1 : left ≤ 1048576) :
    Calls Tryz.prog 35 #[.agg #[.string x.key, .int .i64 x.flags, .string x.data, .int .i64 x.upto, .int .i64 x.token], .int .i64 left] w fun e w' =>
      e = .returned (.int .i64 (szI x left)) ∧ Below w.heap.size w w' := by
  obtain ⟨hk, hd⟩ := hf
  unfold maxLen at hk hd
  obtain ⟨ky, fl, dt, up, tk⟩ := x
  dsimp only at hk hd ⊢
  by_cases g1 : left - ky.size < 0
  · have H : Hid (szI ⟨ky, fl, dt, up, tk⟩ left = -1) := by show szI ⟨ky, fl, dt, up, tk⟩ left = -1; unfold szI; rw [if_pos g1]
    go_enter Tryz.func35, Tryz.ntmps35
    go_wp2
    go_ret
    exact ⟨ret_int (unhide H).symm, bel1 w _⟩
  by_cases g2 : left - ky.size - dt.size < 0
  · have H : Hid (szI ⟨ky, fl, dt, up, tk⟩ left = -1) := by show szI ⟨ky, fl, dt, up, tk⟩ left = -1; unfold szI; rw [if_neg g1, if_pos g2]
    go_enter Tryz.func35, Tryz.ntmps35
    go_wp2
    go_ret
    exact ⟨ret_int (unhide H).symm, bel1 w _⟩
  have H : Hid (szI ⟨ky, fl, dt, up, tk⟩ left = left - ky.size - dt.size) := by show szI ⟨ky, fl, dt, up, tk⟩ left = _; unfold szI; rw [if_neg g1, if_neg g2]
  go_enter Tryz.func35, Tryz.ntmps35
  go_wp2
  go_ret
  exact ⟨ret_int (unhide H).symm, bel1 w _⟩

set_option maxHeartbeats 400000 in
theorem szItemS_some (b off cap : Nat) (its : List Itm) (left : Int) (w : World) (hb : b < w.heap.size) (hc : ∀ i, i < its.length → At w b (off + i * 5) (its.getD i zero))
    (hl : its.length ≤ maxLen) (hs : ∀ x ∈ its, Fits x) (h0 : 0 ≤ left) (h1 : left ≤ 1048576) :
    Calls Tryz.prog 15 #[.slice (some ⟨b, off, none⟩) its.length cap, .int .i64 left] w fun e w' => e = .returned (.int .i64 (szIs its left)) ∧ Below w.heap.size w w' := by
  unfold maxLen at hl
  by_cases g : left - its.length < 0
  · have H : Hid (szIs its left = -1) := by show szIs its left = -1; unfold szIs; rw [if_pos g]
    clear hc hs
    go_enter Tryz.func15, Tryz.ntmps15
    go_wp2
    go_ret
    exact ⟨ret_int (unhide H).symm, Below.refl _ _⟩
  have HE : Hid (szIs its left = szGo its (left - its.length)) := by show szIs its left = _; unfold szIs; rw [if_neg g]
  have hcs := hide hc
  have hss := hide hs
  clear hc hs
  go_enter Tryz.func15, Tryz.ntmps15
  go_wp2
  go_loopw [1, 5] (fun l i wr => ∃ (k : Nat) (z : Int), k ≤ its.length ∧ 0 ≤ z ∧ z ≤ 1048576 ∧ i = .int .i64 k ∧ l = .int .i64 z ∧ Hid (szGo its (left - its.length) = szGo (its.drop k) z) ∧ Hid (Below w.heap.size w wr)) (fun _ i _ => its.length - (intOf i).toNat)
  case atStart => exact ⟨0, left - its.length, Nat.zero_le _, by omega, by omega, rfl, rfl, hide (by simp), hide (Below.refl _ _)⟩
  case round =>
    obtain ⟨k, z, hk, hz0, hz1, rfl, rfl, hr, hbel⟩ := hrel
    by_cases hlt : k < its.length
    · obtain ⟨c0, c1, c2, c3, c4⟩ := (unhide hcs k hlt).below (unhide hbel) hb
      have hfit := hide (fits_getD (unhide hss) k hlt)
      have hd := szGo_drop its k hlt z
      generalize its.getD k zero = x at c0 c1 c2 c3 c4 hfit hd
      have hbd := szI_bd x z hz0
      have hcal := fun w => szItem_any x z w (unhide hfit) hz0 hz1
      generalize szI x z = y at hd hbd hcal
      have HC := hide hcal
      clear hcal
      by_cases g2 : y < 0
      · have H : Hid (szIs its left = -1) := by show szIs its left = -1; rw [unhide HE, unhide hr, hd, if_pos g2]
        clear hd
        go_wp2_with fail
        refine (unhide HC _).mono ?_
        rintro e w1 ⟨rfl, hb1⟩
        have hb1 := hide ((unhide hbel).trans (hb1.mono (unhide hbel).size))
        go_wp2
        go_ret
        exact ⟨ret_int (unhide H).symm, unhide hb1⟩
      · have H : Hid (szGo its (left - its.length) = szGo (its.drop (k + 1)) y) := by show szGo its (left - its.length) = _; rw [unhide hr, hd, if_neg g2]
        clear hd
        go_wp2_with fail
        refine (unhide HC _).mono ?_
        rintro e w1 ⟨rfl, hb1⟩
        have hb1 := hide ((unhide hbel).trans (hb1.mono (unhide hbel).size))
        go_wp2
        go_roundw
        case rel => exact ⟨k + 1, y, by omega, by omega, by omega, by go_num, rfl, H, hb1⟩
        case measure => simp [intOf]; omega
    · have H : Hid (szIs its left = z) := by show szIs its left = z; rw [unhide HE, unhide hr, List.drop_of_length_le (by omega)]; rfl
      go_wp2
      go_ret
      exact ⟨ret_int (unhide H).symm, unhide hbel⟩

set_option maxHeartbeats 400000 in
theorem szItemS_any (a : Option Addr) (cap : Nat) (its : List Itm) (left : Int) (w : World) (hc : ItemsAt w a its)
    (hl : its.length ≤ maxLen) (hs : ∀ x ∈ its, Fits x) (h0 : 0 ≤ left) (h1 : left ≤ 1048576) :
    Calls Tryz.prog 15 #[.slice a its.length cap, .int .i64 left] w fun e w' => e = .returned (.int .i64 (szIs its left)) ∧ Below w.heap.size w w' := by
  by_cases hne : its = []
  · subst hne
    have H : Hid (szIs [] left = left) := by show szIs [] left = left; unfold szIs; rw [if_neg (by simp; omega)]; simp [szGo]
    go_enter Tryz.func15, Tryz.ntmps15
    go_wp2
    go_loop [1, 5] (fun l i => i = .int .i64 0 ∧ l = .int .i64 left) (fun _ _ => 0)
    case atStart => exact ⟨rfl, rfl⟩
    case round =>
      obtain ⟨rfl, rfl⟩ := hrel
      go_wp2
      go_ret
      exact ⟨ret_int (unhide H).symm, Below.refl _ _⟩
  · obtain ⟨b, off, rfl, hb, hcc⟩ := hc hne
    exact szItemS_some b off cap its left w hb hcc hl hs h0 h1

set_option maxHeartbeats 400000 in
theorem toItem_any (x : Itm) (w : World) :
    Calls Tryz.prog 43 #[.agg #[.string x.key, .int .i64 x.flags, .string x.data, .int .i64 x.upto, .int .i64 x.token]] w fun e w' =>
      e = .returned (.agg #[.string x.key, .int .i64 x.flags, .string x.data, .int .i64 x.upto, .int .i64 x.token]) ∧ Below w.heap.size w w' := by
  obtain ⟨ky, fl, dt, up, tk⟩ := x
  go_enter Tryz.func43, Tryz.ntmps43
  go_wp2
  refine bodyPost_ret (v := .agg #[.string ky, .int .i64 fl, .string dt, .int .i64 up, .int .i64 tk]) (by simp [results, Tryz.results43, go_sem]) rfl ⟨rfl, bel3 w _ _ _⟩

theorem info_item : (Tryz.prog.info? 71).map (fun i => (i.zero, i.size, i.bytes)) = some (some (.agg #[.string ByteArray.empty, .int .i64 0, .string ByteArray.empty, .int .i64 0, .int .i64 0]), 5, 56) := by kernel_rfl

set_option maxHeartbeats 400000 in
theorem toItemS_some (b off cap : Nat) (its : List Itm) (w : World) (hb : b < w.heap.size) (hc : ∀ i, i < its.length → At w b (off + i * 5) (its.getD i zero)) (hl : its.length ≤ 1048576) :
    Calls Tryz.prog 21 #[.slice (some ⟨b, off, none⟩) its.length cap] w fun e w' =>
      e = .returned (.slice (some ⟨w.heap.size, 0, none⟩) its.length its.length) ∧ w'.rowIs w.heap.size 71 (its.length * 5) (icell its) ∧ Below w.heap.size w w' := by
  have hmk := fun w => run_make_rows (P := Tryz.prog) 30 71 _ 5 56 Tryz.underlying30 info_item .i64 .i64 its.length (by omega) (by omega) w
  have hcs := hide hc
  clear hc
  go_enter Tryz.func21, Tryz.ntmps21
  go_wp2
  go_loopw [4] (fun i wr => ∃ k : Nat, k ≤ its.length ∧ i = .int .i64 k ∧ Hid (wr.rowIs w.heap.size 71 (its.length * 5) (half its k)) ∧ Hid (Below w.heap.size w wr)) (fun i _ => its.length - (intOf i).toNat)
  case atStart => exact ⟨0, Nat.zero_le _, rfl, hide ((rowIs_mades w _ _ _ _ made_zero).congr (fun i _ => by simp [half])), hide ((Below.refl _ _).alloc (Nat.le_refl _) _)⟩
  case round =>
    obtain ⟨k, hk, rfl, hrow, hbel⟩ := hrel
    by_cases hlt : k < its.length
    · obtain ⟨c0, c1, c2, c3, c4⟩ := (unhide hcs k hlt).below (unhide hbel) hb
      have hst := hide (half_step its k)
      generalize its.getD k zero = x at c0 c1 c2 c3 c4 hst
      go_wp2_with fail
      refine (toItem_any x _).mono ?_
      rintro e w1 ⟨rfl, hb1⟩
      have hrow1 := (unhide hrow).of_block (hb1.block _ (unhide hrow).lt)
      have d0 := hrow1.cell (i := k * 5) (by omega)
      have d1 := hrow1.cell (i := k * 5 + 1) (by omega)
      have d2 := hrow1.cell (i := k * 5 + 2) (by omega)
      have d3 := hrow1.cell (i := k * 5 + 3) (by omega)
      have d4 := hrow1.cell (i := k * 5 + 4) (by omega)
      have f0 := hrow1.frozen (k * 5)
      have f1 := hrow1.frozen (k * 5 + 1)
      have f2 := hrow1.frozen (k * 5 + 2)
      have f3 := hrow1.frozen (k * 5 + 3)
      have f4 := hrow1.frozen (k * 5 + 4)
      have hrow2 := hide (((((hrow1.set (k * 5) (.string x.key)).set (k * 5 + 1) (.int .i64 x.flags)).set (k * 5 + 2) (.string x.data)).set (k * 5 + 3) (.int .i64 x.upto)).set (k * 5 + 4) (.int .i64 x.token))
      have hbel1 := hide ((unhide hbel).trans (hb1.mono (unhide hbel).size))
      generalize half its k (k * 5) = o0 at d0
      generalize half its k (k * 5 + 1) = o1 at d1
      generalize half its k (k * 5 + 2) = o2 at d2
      generalize half its k (k * 5 + 3) = o3 at d3
      generalize half its k (k * 5 + 4) = o4 at d4
      clear hrow1 hb1
      go_wp2
      go_roundw
      case rel => exact ⟨k + 1, by omega, by go_num, hide ((unhide hrow2).congr (fun i _ => unhide hst i)), hide (((((unhide hbel1).setCell (Nat.le_refl _) _).setCell (Nat.le_refl _) _).setCell (Nat.le_refl _) _).setCell (Nat.le_refl _) _ |>.setCell (Nat.le_refl _) _)⟩
      case measure => simp [intOf]; omega
    · go_wp2
      go_ret
      exact ⟨rfl, (unhide hrow).congr (fun i hi => by unfold half; rw [if_pos (by omega)]), unhide hbel⟩

set_option maxHeartbeats 400000 in
theorem toItemS_any (a : Option Addr) (cap : Nat) (its : List Itm) (w : World) (hc : ItemsAt w a its) (hl : its.length ≤ 1048576) :
    Calls Tryz.prog 21 #[.slice a its.length cap] w fun e w' =>
      e = .returned (.slice (some ⟨w.heap.size, 0, none⟩) its.length its.length) ∧ w'.rowIs w.heap.size 71 (its.length * 5) (icell its) ∧ Below w.heap.size w w' := by
  by_cases hne : its = []
  · subst hne
    have hmk : ∀ w, (Instr.makeSlice 30 (.int .i64 0) (.int .i64 0)).run Tryz.prog w = .ok (.slice (some ⟨w.heap.size, 0, none⟩) 0 0) (w.alloc (.cells (madeCells #[.string ByteArray.empty, .int .i64 0, .string ByteArray.empty, .int .i64 0, .int .i64 0] 0) 71)) :=
      fun w => run_make_rows (P := Tryz.prog) 30 71 _ 5 56 Tryz.underlying30 info_item .i64 .i64 0 (by omega) (by omega) w
    go_enter Tryz.func21, Tryz.ntmps21
    go_wp2
    go_loop [4] (fun i => i = .int .i64 0) (fun _ => 0)
    case atStart => exact rfl
    case round =>
      obtain rfl := hrel
      go_wp2
      go_ret
      exact ⟨rfl, (rowIs_mades w _ _ _ _ made_zero), (Below.refl _ _).alloc (Nat.le_refl _) _⟩
  · obtain ⟨b, off, rfl, hb, hcc⟩ := hc hne
    exact toItemS_some b off cap its w hb hcc hl

set_option maxHeartbeats 400000 in
theorem eqItem_same (x : Itm) (w : World) :
    Calls Tryz.prog 61 #[.agg #[.string x.key, .int .i64 x.flags, .string x.data, .int .i64 x.upto, .int .i64 x.token], .agg #[.string x.key, .int .i64 x.flags, .string x.data, .int .i64 x.upto, .int .i64 x.token]] w fun e w' =>
      e = .returned (.bool true) ∧ Below w.heap.size w w' := by
  obtain ⟨ky, fl, dt, up, tk⟩ := x
  go_enter Tryz.func61, Tryz.ntmps61
  go_wp2
  go_ret
  exact ⟨rfl, bel2 w _ _⟩

set_option maxHeartbeats 1000000 in
theorem eqItemS_some (b off cap b' off' cap' : Nat) (its : List Itm) (w : World) (hb : b < w.heap.size) (hc : ∀ i, i < its.length → At w b (off + i * 5) (its.getD i zero))
    (hb' : b' < w.heap.size) (hc' : ∀ i, i < its.length → At w b' (off' + i * 5) (its.getD i zero)) (hl : its.length ≤ maxLen) :
    Calls Tryz.prog 30 #[.slice (some ⟨b, off, none⟩) its.length cap, .slice (some ⟨b', off', none⟩) its.length cap'] w fun e w' => e = .returned (.bool true) ∧ Below w.heap.size w w' := by
  unfold maxLen at hl
  have hcs := hide hc
  have hcs' := hide hc'
  clear hc hc'
  go_enter Tryz.func30, Tryz.ntmps30
  go_wp2
  go_loopw [5] (fun i wr => ∃ k : Nat, k ≤ its.length ∧ i = .int .i64 k ∧ Hid (Below w.heap.size w wr)) (fun i _ => its.length - (intOf i).toNat)
  case atStart => exact ⟨0, Nat.zero_le _, rfl, hide (Below.refl _ _)⟩
  case round =>
    obtain ⟨k, hk, rfl, hbel⟩ := hrel
    by_cases hlt : k < its.length
    · obtain ⟨c0, c1, c2, c3, c4⟩ := (unhide hcs k hlt).below (unhide hbel) hb
      obtain ⟨d0, d1, d2, d3, d4⟩ := (unhide hcs' k hlt).below (unhide hbel) hb'
      generalize its.getD k zero = x at c0 c1 c2 c3 c4 d0 d1 d2 d3 d4
      go_wp2
      go_region_with (go_at_call 61; refine (eqItem_same x _).mono ?_; rintro e w1 ⟨rfl, hb1⟩; have hb1 := hide hb1)
      all_goals
        go_wp2
        go_roundw
        case rel => exact ⟨k + 1, by omega, by go_num, hide ((unhide hbel).drew.trans ((unhide hb1).mono (unhide hbel).size))⟩
        case measure => simp [intOf]; omega
    · go_wp2
      go_ret
      exact ⟨rfl, unhide hbel⟩

set_option maxHeartbeats 400000 in
theorem eqItemS_same (a a' : Option Addr) (cap cap' : Nat) (its : List Itm) (w : World) (hc : ItemsAt w a its) (hc' : ItemsAt w a' its) (hl : its.length ≤ maxLen) :
    Calls Tryz.prog 30 #[.slice a its.length cap, .slice a' its.length cap'] w fun e w' => e = .returned (.bool true) ∧ Below w.heap.size w w' := by
  by_cases hne : its = []
  · subst hne
    go_enter Tryz.func30, Tryz.ntmps30
    go_wp2
    go_loop [5] (fun i => i = .int .i64 0) (fun _ => 0)
    case atStart => exact rfl
    case round =>
      obtain rfl := hrel
      go_wp2
      go_ret
      exact ⟨rfl, Below.refl _ _⟩
  · obtain ⟨b, off, rfl, hb, hcc⟩ := hc hne
    obtain ⟨b', off', rfl, hb', hcc'⟩ := hc' hne
    exact eqItemS_some b off cap b' off' cap' its w hb hcc hb' hcc' hl
end Items
end Go.Proofs.YthlcmnjaimffdaaGreatDoor
