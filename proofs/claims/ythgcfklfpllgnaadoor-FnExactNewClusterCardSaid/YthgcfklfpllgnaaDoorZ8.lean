/-
  Contracts of the law files' helpers over stores: szStore, toStore, eqStore.
-/
import Derived.Test.YthgcfklfpllgnaaDoorZ7
import Derived.Test.YthgcfklfpllgnaaDoorRows
import Derived.Deep.RegionWith
import Derived.BigQuiet
import Derived.Deep.QuietTactic
import Derived.Test.YthgcfklfpllgnaaDoorZ1
import Derived.Test.YthgcfklfpllgnaaDoorZ2
namespace Go.Proofs.YthgcfklfpllgnaaDoor
namespace Items
open Go.RowKit Base
set_option linter.unusedVariables false
set_option maxHeartbeats 400000 in
theorem eqStore_same (lim nx : Int) (a a' : Option Addr) (cap cap' : Nat) (its : List Itm) (w : World) (hc : ItemsAt w a its) (hc' : ItemsAt w a' its) (hl : its.length ≤ maxLen) :
    Calls Tryd.prog 47 #[.agg #[.int .i64 lim, .int .i64 nx, .slice a its.length cap], .agg #[.int .i64 lim, .int .i64 nx, .slice a' its.length cap']] w fun e w' => e = .returned (.bool true) ∧ Below w.heap.size w w' := by
  have HC := hide hc
  have HC' := hide hc'
  clear hc hc'
  go_enter Tryd.func47, Tryd.ntmps47
  go_wp2_with fail
  refine (eqItemS_same a a' cap cap' its _ ?_ ?_ hl).mono ?_
  · exact (unhide HC).below (bel2 w _ _) (Nat.le_refl _)
  · exact (unhide HC').below (bel2 w _ _) (Nat.le_refl _)
  rintro e w1 ⟨rfl, hb1⟩
  have hb1 := hide ((bel2 w _ _).trans (hb1.mono (by simp; omega)))
  go_wp2
  go_ret
  exact ⟨rfl, unhide hb1⟩
end Items
end Go.Proofs.YthgcfklfpllgnaaDoor
/-
  Contracts of the law files' helpers over places: szPlace, szPlaceS, toPlace, toPlaceS, eqPlace, eqPlaceS.
-/
namespace Go.Proofs.YthgcfklfpllgnaaDoor
namespace Pls
open Go.RowKit Base
set_option linter.unusedVariables false

theorem info : (Tryd.prog.info? 59).map (fun i => (i.zero, i.size, i.bytes)) = some (some (.agg #[.string ByteArray.empty, .int .i64 0, .int .i64 0, .slice none 0 0]), 4, 56) := by kernel_rfl
theorem made_zero (i : Nat) : (#[.string ByteArray.empty, .int .i64 0, .int .i64 0, .slice none 0 0] : Array Value)[i % 4]! = lcell [] i := by
  have h : i % 4 < 4 := Nat.mod_lt _ (by omega)
  unfold lcell
  generalize i % 4 = m at h
  obtain rfl | rfl | rfl | rfl : m = 0 ∨ m = 1 ∨ m = 2 ∨ m = 3 := by omega
  all_goals rfl

set_option maxRecDepth 10000 in
set_option maxHeartbeats 1000000 in
theorem eq1_same (x y : Pl) (w : World) (hco : core x = core y) (hx : Items.ItemsAt w x.a x.its) (hy : Items.ItemsAt w y.a y.its) (hl : x.its.length ≤ maxLen) :
    Calls Tryd.prog 35 #[.agg #[.string x.name, .int .i64 x.lim, .int .i64 x.nx, .slice x.a x.its.length x.cap], .agg #[.string y.name, .int .i64 y.lim, .int .i64 y.nx, .slice y.a y.its.length y.cap]] w fun e w' => e = .returned (.bool true) ∧ Below w.heap.size w w' := by
  obtain ⟨name, lim, nx, a, cap, its⟩ := x
  obtain ⟨name', lim', nx', a', cap', its'⟩ := y
  simp only [core, Core.mk.injEq] at hco
  obtain ⟨rfl, rfl, rfl, rfl⟩ := hco
  dsimp only at hx hy hl ⊢
  have HC := hide hx
  have HC' := hide hy
  clear hx hy
  go_enter Tryd.func35, Tryd.ntmps35
  go_wp2_with fail
  refine (Items.eqStore_same lim nx a a' cap cap' its _ ?_ ?_ hl).mono ?_
  · exact (unhide HC).below (bel2 w _ _) (Nat.le_refl _)
  · exact (unhide HC').below (bel2 w _ _) (Nat.le_refl _)
  rintro e w1 ⟨rfl, hb1⟩
  have hb1 := hide ((bel2 w _ _).trans (hb1.mono (by simp; omega)))
  go_wp2
  go_ret
  exact ⟨rfl, unhide hb1⟩

set_option maxRecDepth 10000 in
set_option maxHeartbeats 1000000 in
theorem eqs_same (a a' : Option Addr) (cap cap' n : Nat) (L M : List Pl) (w : World) (hL : LsAt w a L) (hM : LsAt w a' M) (hco : L.map core = M.map core) (hn : L.length = n) (hl : n ≤ 1048576) (hs : ∀ x ∈ L, x.its.length ≤ 1048576) :
    Calls Tryd.prog 20 #[.slice a n cap, .slice a' n cap'] w fun e w' => e = .returned (.bool true) ∧ Below w.heap.size w w' := by
  by_cases h0 : n = 0
  · subst h0
    clear hL hM hco hs
    go_enter Tryd.func20, Tryd.ntmps20
    go_wp2
    go_loopw [5] (fun i wr => i = .int .i64 0 ∧ Hid (Below w.heap.size w wr)) (fun _ _ => 0)
    case atStart => exact ⟨rfl, hide (Below.refl _ _)⟩
    case round =>
      obtain ⟨rfl, hbel⟩ := hrel
      go_wp2
      go_ret
      exact ⟨rfl, unhide hbel⟩
  have hnm : M.length = n := (map_len hco).symm.trans hn
  obtain ⟨b, off, rfl, hb, hLc⟩ := hL (fun e => h0 (by rw [← hn, e]; rfl))
  obtain ⟨b', off', rfl, hb', hMc⟩ := hM (fun e => h0 (by rw [← hnm, e]; rfl))
  have HL := hide hLc
  have HM := hide hMc
  have HCO := hide hco
  have HN := hide hn
  have HNM := hide hnm
  have HSS := hide hs
  clear hL hM hco hn hs hLc hMc hnm
  go_enter Tryd.func20, Tryd.ntmps20
  go_wp2
  go_loopw [5] (fun i wr => ∃ k : Nat, k ≤ n ∧ i = .int .i64 k ∧ Hid (Below w.heap.size w wr)) (fun i _ => n - (intOf i).toNat)
  case atStart => exact ⟨0, Nat.zero_le _, rfl, hide (Below.refl _ _)⟩
  case round =>
    obtain ⟨k, hk, rfl, hbel⟩ := hrel
    by_cases hlt : k < n
    · obtain ⟨hc, HA⟩ := unhide HL k (by have := unhide HN; omega)
      obtain ⟨hd, HB⟩ := unhide HM k (by have := unhide HNM; omega)
      obtain ⟨c0, c1, c2, c3⟩ := hc.below (unhide hbel) hb
      obtain ⟨d0, d1, d2, d3⟩ := hd.below (unhide hbel) hb'
      have he := hide (map_at (unhide HCO) k)
      have hsk : Hid ((L.getD k zeroL).its.length ≤ maxLen) := Nat.le_trans (unhide HSS _ (getD_mem (by have := unhide HN; omega))) (by unfold maxLen; omega)
      have HA := hide ((HA.below (unhide hbel) (Nat.le_refl _)).below (w' := wr.drew) (Below.refl wr.heap.size wr).drew (Nat.le_refl _))
      have HB := hide ((HB.below (unhide hbel) (Nat.le_refl _)).below (w' := wr.drew) (Below.refl wr.heap.size wr).drew (Nat.le_refl _))
      have hk1 : b < wr.heap.size := Nat.lt_of_lt_of_le hb (unhide hbel).size
      have hk2 : b' < wr.heap.size := Nat.lt_of_lt_of_le hb' (unhide hbel).size
      clear hc hd
      generalize L.getD k zeroL = x at c0 c1 c2 c3 he HA hsk
      generalize M.getD k zeroL = y at d0 d1 d2 d3 he HB
      have hcal := hide (eq1_same x y wr.drew (unhide he) (unhide HA) (unhide HB) (unhide hsk))
      clear HA HB he
      go_wp2
      go_region_with (go_at_call 35; refine (unhide hcal).mono ?_; rintro e w1 ⟨rfl, hb1⟩; have hb1 := hide hb1)
      all_goals
        go_wp2
        go_roundw
        case rel => exact ⟨k + 1, by omega, by go_num, hide ((unhide hbel).drew.trans ((unhide hb1).mono (unhide hbel).size))⟩
        case measure => simp [intOf]; omega
    · go_wp2
      go_ret
      exact ⟨rfl, unhide hbel⟩
end Pls
end Go.Proofs.YthgcfklfpllgnaaDoor
/-
  Contracts of the law files' helpers over the struct Node and slices of it: sz, to, eq (written by a program of mine).
-/
namespace Go.Proofs.YthgcfklfpllgnaaDoor
namespace Nodes
open Go.RowKit Base
set_option linter.unusedVariables false

set_option maxHeartbeats 400000 in
theorem sz1_any (x : D) (left : Int) (w : World) (hf : Fits x) (h0 : 0 ≤ left) (h1 : left ≤ 1048576) :
    Calls Tryd.prog 13 #[.agg #[.string x.name, .int .i64 x.weight], .int .i64 left] w fun e w' => e = .returned (.int .i64 (szI x left)) ∧ Below w.heap.size w w' := by
  unfold Fits maxLen at hf
  obtain ⟨name, weight⟩ := x
  dsimp only at *
  by_cases g0 : left - name.size < 0
  · have H : Hid (szI ⟨name, weight⟩ left = -1) := by show szI ⟨name, weight⟩ left = -1; unfold szI; rw [if_pos g0]
    go_enter Tryd.func13, Tryd.ntmps13
    go_wp2
    go_ret
    exact ⟨ret_int (unhide H).symm, bel1 w _⟩
  have H : Hid (szI ⟨name, weight⟩ left = left - name.size) := by show szI ⟨name, weight⟩ left = _; unfold szI; rw [if_neg g0]
  go_enter Tryd.func13, Tryd.ntmps13
  go_wp2
  go_ret
  exact ⟨ret_int (unhide H).symm, bel1 w _⟩

set_option maxHeartbeats 400000 in
theorem sz_some (b off cap : Nat) (l : List D) (left : Int) (w : World) (hb : b < w.heap.size) (hc : ∀ i, i < l.length → At w b (off + i * 2) (l.getD i zero))
    (hl : l.length ≤ maxLen) (hs : ∀ x ∈ l, Fits x) (h0 : 0 ≤ left) (h1 : left ≤ 1048576) :
    Calls Tryd.prog 4 #[.slice (some ⟨b, off, none⟩) l.length cap, .int .i64 left] w fun e w' => e = .returned (.int .i64 (szL l left)) ∧ Below w.heap.size w w' := by
  unfold maxLen at hl
  by_cases g : left - l.length < 0
  · have H : Hid (szL l left = -1) := by show szL l left = -1; unfold szL; rw [if_pos g]
    clear hc hs
    go_enter Tryd.func4, Tryd.ntmps4
    go_wp2
    go_ret
    exact ⟨ret_int (unhide H).symm, Below.refl _ _⟩
  have HE : Hid (szL l left = szGo l (left - l.length)) := by show szL l left = _; unfold szL; rw [if_neg g]
  have hcs := hide hc
  have hss := hide hs
  clear hc hs
  go_enter Tryd.func4, Tryd.ntmps4
  go_wp2
  go_loopw [1, 5] (fun lv i wr => ∃ (k : Nat) (z : Int), k ≤ l.length ∧ 0 ≤ z ∧ z ≤ 1048576 ∧ i = .int .i64 k ∧ lv = .int .i64 z ∧ Hid (szGo l (left - l.length) = szGo (l.drop k) z) ∧ Hid (Below w.heap.size w wr)) (fun _ i _ => l.length - (intOf i).toNat)
  case atStart => exact ⟨0, left - l.length, Nat.zero_le _, by omega, by omega, rfl, rfl, hide (by simp), hide (Below.refl _ _)⟩
  case round =>
    obtain ⟨k, z, hk, hz0, hz1, rfl, rfl, hr, hbel⟩ := hrel
    by_cases hlt : k < l.length
    · obtain ⟨c0, c1⟩ := (unhide hcs k hlt).below (unhide hbel) hb
      have hfit := hide (fits_getD (unhide hss) k hlt)
      have hd := szGo_drop l k hlt z
      generalize l.getD k zero = x at c0 c1 hfit hd
      have hbd := szI_bd x z hz0
      have hcal := fun w => sz1_any x z w (unhide hfit) hz0 hz1
      generalize szI x z = y at hd hbd hcal
      have HC := hide hcal
      clear hcal
      by_cases g2 : y < 0
      · have H : Hid (szL l left = -1) := by show szL l left = -1; rw [unhide HE, unhide hr, hd, if_pos g2]
        clear hd
        go_wp2_with fail
        refine (unhide HC _).mono ?_
        rintro e w1 ⟨rfl, hb1⟩
        have hb1 := hide ((unhide hbel).trans (hb1.mono (unhide hbel).size))
        go_wp2
        go_ret
        exact ⟨ret_int (unhide H).symm, unhide hb1⟩
      · have H : Hid (szGo l (left - l.length) = szGo (l.drop (k + 1)) y) := by show szGo l (left - l.length) = _; rw [unhide hr, hd, if_neg g2]
        clear hd
        go_wp2_with fail
        refine (unhide HC _).mono ?_
        rintro e w1 ⟨rfl, hb1⟩
        have hb1 := hide ((unhide hbel).trans (hb1.mono (unhide hbel).size))
        go_wp2
        go_roundw
        case rel => exact ⟨k + 1, y, by omega, by omega, by omega, by go_num, rfl, H, hb1⟩
        case measure => simp [intOf]; omega
    · have H : Hid (szL l left = z) := by show szL l left = z; rw [unhide HE, unhide hr, List.drop_of_length_le (by omega)]; rfl
      go_wp2
      go_ret
      exact ⟨ret_int (unhide H).symm, unhide hbel⟩

set_option maxHeartbeats 400000 in
theorem sz_any (a : Option Addr) (cap : Nat) (l : List D) (left : Int) (w : World) (hc : LAt w a l)
    (hl : l.length ≤ maxLen) (hs : ∀ x ∈ l, Fits x) (h0 : 0 ≤ left) (h1 : left ≤ 1048576) :
    Calls Tryd.prog 4 #[.slice a l.length cap, .int .i64 left] w fun e w' => e = .returned (.int .i64 (szL l left)) ∧ Below w.heap.size w w' := by
  by_cases hne : l = []
  · subst hne
    have H : Hid (szL [] left = left) := by show szL [] left = left; unfold szL; rw [if_neg (by simp; omega)]; simp [szGo]
    go_enter Tryd.func4, Tryd.ntmps4
    go_wp2
    go_loop [1, 5] (fun l i => i = .int .i64 0 ∧ l = .int .i64 left) (fun _ _ => 0)
    case atStart => exact ⟨rfl, rfl⟩
    case round =>
      obtain ⟨rfl, rfl⟩ := hrel
      go_wp2
      go_ret
      exact ⟨ret_int (unhide H).symm, Below.refl _ _⟩
  · obtain ⟨b, off, rfl, hb, hcc⟩ := hc hne
    exact sz_some b off cap l left w hb hcc hl hs h0 h1

set_option maxHeartbeats 400000 in
theorem to1_any (x : D) (w : World) :
    Calls Tryd.prog 17 #[.agg #[.string x.name, .int .i64 x.weight]] w fun e w' => e = .returned (.agg #[.string x.name, .int .i64 x.weight]) ∧ Below w.heap.size w w' := by
  obtain ⟨name, weight⟩ := x
  go_enter Tryd.func17, Tryd.ntmps17
  go_wp2
  refine bodyPost_ret (v := .agg #[.string name, .int .i64 weight]) (by simp [results, Tryd.results17, go_sem]) rfl ⟨rfl, bel3 w _ _ _⟩

theorem info : (Tryd.prog.info? 42).map (fun i => (i.zero, i.size, i.bytes)) = some (some (.agg #[.string ByteArray.empty, .int .i64 0]), 2, 24) := by kernel_rfl

set_option maxHeartbeats 400000 in
theorem to_some (b off cap : Nat) (l : List D) (w : World) (hb : b < w.heap.size) (hc : ∀ i, i < l.length → At w b (off + i * 2) (l.getD i zero)) (hl : l.length ≤ 1048576) :
    Calls Tryd.prog 6 #[.slice (some ⟨b, off, none⟩) l.length cap] w fun e w' =>
      e = .returned (.slice (some ⟨w.heap.size, 0, none⟩) l.length l.length) ∧ w'.rowIs w.heap.size 42 (l.length * 2) (icell l) ∧ Below w.heap.size w w' := by
  have hmk := fun w => run_make_rows (P := Tryd.prog) 24 42 _ 2 24 Tryd.underlying24 info .i64 .i64 l.length (by omega) (by omega) w
  have hcs := hide hc
  clear hc
  go_enter Tryd.func6, Tryd.ntmps6
  go_wp2
  go_loopw [4] (fun i wr => ∃ k : Nat, k ≤ l.length ∧ i = .int .i64 k ∧ Hid (wr.rowIs w.heap.size 42 (l.length * 2) (half l k)) ∧ Hid (Below w.heap.size w wr)) (fun i _ => l.length - (intOf i).toNat)
  case atStart => exact ⟨0, Nat.zero_le _, rfl, hide ((rowIs_mades w _ _ _ _ made_zero).congr (fun i _ => by simp [half])), hide ((Below.refl _ _).alloc (Nat.le_refl _) _)⟩
  case round =>
    obtain ⟨k, hk, rfl, hrow, hbel⟩ := hrel
    by_cases hlt : k < l.length
    · obtain ⟨c0, c1⟩ := (unhide hcs k hlt).below (unhide hbel) hb
      have hst := hide (half_step l k)
      generalize l.getD k zero = x at c0 c1 hst
      go_wp2_with fail
      refine (to1_any x _).mono ?_
      rintro e w1 ⟨rfl, hb1⟩
      have hrow1 := (unhide hrow).of_block (hb1.block _ (unhide hrow).lt)
      have d0 := hrow1.cell (i := k * 2) (by omega)
      have f0 := hrow1.frozen (k * 2)
      have d1 := hrow1.cell (i := k * 2 + 1) (by omega)
      have f1 := hrow1.frozen (k * 2 + 1)
      have hrow2 := hide ((hrow1.set (k * 2) (.string x.name)).set (k * 2 + 1) (.int .i64 x.weight))
      have hbel1 := hide ((unhide hbel).trans (hb1.mono (unhide hbel).size))
      generalize half l k (k * 2) = o0 at d0
      generalize half l k (k * 2 + 1) = o1 at d1
      clear hrow1 hb1
      go_wp2
      go_roundw
      case rel =>
        refine ⟨k + 1, by omega, by go_num, hide ((unhide hrow2).congr (fun i _ => unhide hst i)), hide ?_⟩
        show Below w.heap.size w _
        repeat (refine Below.setCell ?_ (by first | (simp; done) | (simp; omega)) _)
        exact unhide hbel1
      case measure => simp [intOf]; omega
    · go_wp2
      go_ret
      exact ⟨rfl, (unhide hrow).congr (fun i hi => by unfold half; rw [if_pos (by omega)]), unhide hbel⟩

set_option maxHeartbeats 400000 in
theorem to_any (a : Option Addr) (cap : Nat) (l : List D) (w : World) (hc : LAt w a l) (hl : l.length ≤ 1048576) :
    Calls Tryd.prog 6 #[.slice a l.length cap] w fun e w' =>
      e = .returned (.slice (some ⟨w.heap.size, 0, none⟩) l.length l.length) ∧ w'.rowIs w.heap.size 42 (l.length * 2) (icell l) ∧ Below w.heap.size w w' := by
  by_cases hne : l = []
  · subst hne
    have hmk : ∀ w, (Instr.makeSlice 24 (.int .i64 0) (.int .i64 0)).run Tryd.prog w = .ok (.slice (some ⟨w.heap.size, 0, none⟩) 0 0) (w.alloc (.cells (madeCells #[.string ByteArray.empty, .int .i64 0] 0) 42)) :=
      fun w => run_make_rows (P := Tryd.prog) 24 42 _ 2 24 Tryd.underlying24 info .i64 .i64 0 (by omega) (by omega) w
    go_enter Tryd.func6, Tryd.ntmps6
    go_wp2
    go_loop [4] (fun i => i = .int .i64 0) (fun _ => 0)
    case atStart => exact rfl
    case round =>
      obtain rfl := hrel
      go_wp2
      go_ret
      exact ⟨rfl, (rowIs_mades w _ _ _ _ made_zero), (Below.refl _ _).alloc (Nat.le_refl _) _⟩
  · obtain ⟨b, off, rfl, hb, hcc⟩ := hc hne
    exact to_some b off cap l w hb hcc hl

set_option maxHeartbeats 400000 in
theorem eq1_same (x : D) (w : World) :
    Calls Tryd.prog 21 #[.agg #[.string x.name, .int .i64 x.weight], .agg #[.string x.name, .int .i64 x.weight]] w fun e w' => e = .returned (.bool true) ∧ Below w.heap.size w w' := by
  obtain ⟨name, weight⟩ := x
  go_enter Tryd.func21, Tryd.ntmps21
  go_wp2
  go_ret
  exact ⟨rfl, bel2 w _ _⟩

set_option maxHeartbeats 1000000 in
theorem eq_some (b off cap b' off' cap' : Nat) (l : List D) (w : World) (hb : b < w.heap.size) (hc : ∀ i, i < l.length → At w b (off + i * 2) (l.getD i zero))
    (hb' : b' < w.heap.size) (hc' : ∀ i, i < l.length → At w b' (off' + i * 2) (l.getD i zero)) (hl : l.length ≤ maxLen) :
    Calls Tryd.prog 9 #[.slice (some ⟨b, off, none⟩) l.length cap, .slice (some ⟨b', off', none⟩) l.length cap'] w fun e w' => e = .returned (.bool true) ∧ Below w.heap.size w w' := by
  unfold maxLen at hl
  have hcs := hide hc
  have hcs' := hide hc'
  clear hc hc'
  go_enter Tryd.func9, Tryd.ntmps9
  go_wp2
  go_loopw [5] (fun i wr => ∃ k : Nat, k ≤ l.length ∧ i = .int .i64 k ∧ Hid (Below w.heap.size w wr)) (fun i _ => l.length - (intOf i).toNat)
  case atStart => exact ⟨0, Nat.zero_le _, rfl, hide (Below.refl _ _)⟩
  case round =>
    obtain ⟨k, hk, rfl, hbel⟩ := hrel
    by_cases hlt : k < l.length
    · obtain ⟨c0, c1⟩ := (unhide hcs k hlt).below (unhide hbel) hb
      obtain ⟨d0, d1⟩ := (unhide hcs' k hlt).below (unhide hbel) hb'
      generalize l.getD k zero = x at c0 c1 d0 d1
      go_wp2
      go_region_with (go_at_call 21; refine (eq1_same x _).mono ?_; rintro e w1 ⟨rfl, hb1⟩; have hb1 := hide hb1)
      all_goals
        go_wp2
        go_roundw
        case rel => exact ⟨k + 1, by omega, by go_num, hide ((unhide hbel).drew.trans ((unhide hb1).mono (unhide hbel).size))⟩
        case measure => simp [intOf]; omega
    · go_wp2
      go_ret
      exact ⟨rfl, unhide hbel⟩

set_option maxHeartbeats 400000 in
theorem eq_same (a a' : Option Addr) (cap cap' : Nat) (l : List D) (w : World) (hc : LAt w a l) (hc' : LAt w a' l) (hl : l.length ≤ maxLen) :
    Calls Tryd.prog 9 #[.slice a l.length cap, .slice a' l.length cap'] w fun e w' => e = .returned (.bool true) ∧ Below w.heap.size w w' := by
  by_cases hne : l = []
  · subst hne
    go_enter Tryd.func9, Tryd.ntmps9
    go_wp2
    go_loop [5] (fun i => i = .int .i64 0) (fun _ => 0)
    case atStart => exact rfl
    case round =>
      obtain rfl := hrel
      go_wp2
      go_ret
      exact ⟨rfl, Below.refl _ _⟩
  · obtain ⟨b, off, rfl, hb, hcc⟩ := hc hne
    obtain ⟨b', off', rfl, hb', hcc'⟩ := hc' hne
    exact eq_some b off cap b' off' cap' l w hb hcc hb' hcc' hl
end Nodes
end Go.Proofs.YthgcfklfpllgnaaDoor
