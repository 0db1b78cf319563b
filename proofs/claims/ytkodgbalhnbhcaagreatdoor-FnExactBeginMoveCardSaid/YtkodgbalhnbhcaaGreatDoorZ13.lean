/-
  Contracts of the law files' helpers over stores: szStore, toStore, eqStore.
-/
import Derived.Test.YtkodgbalhnbhcaaGreatDoorZ12
import Derived.Test.YtkodgbalhnbhcaaGreatDoorRows
import Derived.Deep.RegionWith
import Derived.BigQuiet
import Derived.Deep.QuietTactic
import Derived.Test.YtkodgbalhnbhcaaGreatDoorZ8
import Derived.Test.YtkodgbalhnbhcaaGreatDoorZ9
import Derived.Test.YtkodgbalhnbhcaaGreatDoorZ11
namespace Go.Proofs.YtkodgbalhnbhcaaGreatDoor
namespace Items
open Go.RowKit Base
set_option linter.unusedVariables false
set_option maxHeartbeats 400000 in
theorem szStore_any (lim nx : Int) (a : Option Addr) (cap : Nat) (its : List Itm) (left : Int) (w : World) (hc : ItemsAt w a its)
    (hl : its.length ≤ maxLen) (hs : ∀ x ∈ its, Fits x) (h0 : 0 ≤ left) (h1 : left ≤ 1048576) :
    Calls Tryz.prog 107 #[.agg #[.int .i64 lim, .int .i64 nx, .slice a its.length cap], .int .i64 left] w fun e w' => e = .returned (.int .i64 (szIs its left)) ∧ Below w.heap.size w w' := by
  have hcal := fun o => szItemS_any a cap its left (w.alloc o) (hc.below (bel1 w o) (Nat.le_refl _)) hl hs h0 h1
  have hbd := szIs_bd its left h0
  generalize szIs its left = z at hcal hbd ⊢
  have HC := hide hcal
  clear hcal hs
  by_cases g : z < 0
  · obtain rfl : z = -1 := by omega
    go_enter Tryz.func107, Tryz.ntmps107
    go_wp2_with fail
    refine (unhide HC _).mono ?_
    rintro e w1 ⟨rfl, hb1⟩
    have hb1 := hide ((bel1 w _).trans (hb1.mono (by simp)))
    go_wp2
    go_ret
    exact ⟨rfl, unhide hb1⟩
  · go_enter Tryz.func107, Tryz.ntmps107
    go_wp2_with fail
    refine (unhide HC _).mono ?_
    rintro e w1 ⟨rfl, hb1⟩
    have hb1 := hide ((bel1 w _).trans (hb1.mono (by simp)))
    go_wp2
    go_ret
    exact ⟨rfl, unhide hb1⟩

set_option maxHeartbeats 400000 in
theorem toStore_any (lim nx : Int) (a : Option Addr) (cap : Nat) (its : List Itm) (w : World) (hc : ItemsAt w a its) (hl : its.length ≤ 1048576) :
    Calls Tryz.prog 108 #[.agg #[.int .i64 lim, .int .i64 nx, .slice a its.length cap]] w fun e w' =>
      ∃ b, e = .returned (.agg #[.int .i64 lim, .int .i64 nx, .slice (some ⟨b, 0, none⟩) its.length its.length]) ∧ w.heap.size ≤ b ∧ w'.rowIs b 85 (its.length * 5) (icell its) ∧ Below w.heap.size w w' := by
  have HC := hide hc
  clear hc
  go_enter Tryz.func108, Tryz.ntmps108
  go_wp2_with fail
  refine (toItemS_any a cap its _ ?_ hl).mono ?_
  · exact (unhide HC).below (bel3 w _ _ _) (Nat.le_refl _)
  rintro e w1 ⟨rfl, hrow, hbel⟩
  obtain ⟨hcw, hfw⟩ := bcell hbel (Nat.le_refl _)
  have hrow3 : Hid (w1.rowIs (w.heap.size + 3) 85 (its.length * 5) (icell its)) := by
    simp only [World.size_alloc] at hrow; exact hrow
  have hbel3 : Hid (Below w.heap.size w w1) := (bel3 w _ _ _).trans (hbel.mono (by simp; omega))
  have hz : w.heap.size + 3 < w1.heap.size := (unhide hrow3).lt
  clear hrow hbel
  go_wp2
  refine bodyPost_ret (v := .agg #[.int .i64 lim, .int .i64 nx, .slice (some ⟨w.heap.size + 3, 0, none⟩) its.length its.length]) (by simp [results, Tryz.results108, go_sem, hcw]) rfl ⟨w.heap.size + 3, rfl, by omega, ?_, ?_⟩
  · repeat (refine World.rowIs.setOther ?_ (by first | (simp; done) | (simp; omega)) _)
    exact unhide hrow3
  · repeat (refine Below.setCell ?_ (by first | (simp; done) | (simp; omega)) _)
    exact unhide hbel3

set_option maxHeartbeats 400000 in
theorem eqStore_same (lim nx : Int) (a a' : Option Addr) (cap cap' : Nat) (its : List Itm) (w : World) (hc : ItemsAt w a its) (hc' : ItemsAt w a' its) (hl : its.length ≤ maxLen) :
    Calls Tryz.prog 116 #[.agg #[.int .i64 lim, .int .i64 nx, .slice a its.length cap], .agg #[.int .i64 lim, .int .i64 nx, .slice a' its.length cap']] w fun e w' => e = .returned (.bool true) ∧ Below w.heap.size w w' := by
  have HC := hide hc
  have HC' := hide hc'
  clear hc hc'
  go_enter Tryz.func116, Tryz.ntmps116
  go_wp2_with fail
  refine (eqItemS_same a a' cap cap' its _ ?_ ?_ hl).mono ?_
  · exact (unhide HC).below (bel2 w _ _) (Nat.le_refl _)
  · exact (unhide HC').below (bel2 w _ _) (Nat.le_refl _)
  rintro e w1 ⟨rfl, hb1⟩
  have hb1 := hide ((bel2 w _ _).trans (hb1.mono (by simp; omega)))
  go_wp2
  go_ret
  exact ⟨rfl, unhide hb1⟩
end Items
end Go.Proofs.YtkodgbalhnbhcaaGreatDoor
/-
  Contracts of the law files' helpers over places: szPlace, szPlaceS, toPlace, toPlaceS, eqPlace, eqPlaceS.
-/
namespace Go.Proofs.YtkodgbalhnbhcaaGreatDoor
namespace Pls
open Go.RowKit Base
set_option linter.unusedVariables false

set_option maxRecDepth 10000 in
set_option maxHeartbeats 1000000 in
theorem sz1_any (x : Pl) (left : Int) (w : World) (hc : Items.ItemsAt w x.a x.its) (hf : Fits x) (h0 : 0 ≤ left) (h1 : left ≤ 1048576) :
    Calls Tryz.prog 75 #[.agg #[.string x.name, .int .i64 x.lim, .int .i64 x.nx, .slice x.a x.its.length x.cap], .int .i64 left] w fun e w' => e = .returned (.int .i64 (szPl x left)) ∧ Below w.heap.size w w' := by
  obtain ⟨name, lim, nx, a, cap, its⟩ := x
  obtain ⟨hn, hcap, hl, hs⟩ := hf
  dsimp only at hc hn hcap hl hs ⊢
  by_cases g0 : left - name.size < 0
  · have H : Hid (szPl ⟨name, lim, nx, a, cap, its⟩ left = -1) := by show szPl ⟨name, lim, nx, a, cap, its⟩ left = -1; unfold szPl; rw [if_pos g0]
    unfold maxLen at hn hl
    clear hc hs
    go_enter Tryz.func75, Tryz.ntmps75
    go_wp2
    go_ret
    exact ⟨ret_int (unhide H).symm, bel1 w _⟩
  have H : Hid (szPl ⟨name, lim, nx, a, cap, its⟩ left = Items.szIs its (left - name.size)) := by show szPl ⟨name, lim, nx, a, cap, its⟩ left = _; unfold szPl; rw [if_neg g0]
  rw [unhide H]
  clear H
  have hcal := fun o => Items.szStore_any lim nx a cap its (left - name.size) (w.alloc o) (hc.below (bel1 w o) (Nat.le_refl _)) hl hs (by omega) (by omega)
  have hbd := Items.szIs_bd its (left - name.size) (by omega)
  generalize Items.szIs its (left - name.size) = z at hcal hbd ⊢
  have HC := hide hcal
  unfold maxLen at hn hl
  clear hcal hs hc
  by_cases g : z < 0
  · obtain rfl : z = -1 := by omega
    go_enter Tryz.func75, Tryz.ntmps75
    go_wp2_with fail
    refine (unhide HC _).mono ?_
    rintro e w1 ⟨rfl, hb1⟩
    have hb1 := hide ((bel1 w _).trans (hb1.mono (by simp)))
    go_wp2
    go_ret
    exact ⟨rfl, unhide hb1⟩
  · go_enter Tryz.func75, Tryz.ntmps75
    go_wp2_with fail
    refine (unhide HC _).mono ?_
    rintro e w1 ⟨rfl, hb1⟩
    have hb1 := hide ((bel1 w _).trans (hb1.mono (by simp)))
    go_wp2
    go_ret
    exact ⟨rfl, unhide hb1⟩

set_option maxRecDepth 10000 in
set_option maxHeartbeats 1000000 in
theorem szs_some (b off cap : Nat) (L : List Pl) (left : Int) (w : World) (hb : b < w.heap.size) (hc : ∀ i, i < L.length → PlAt w b (off + i * 4) (L.getD i zeroL) ∧ Items.ItemsAt w (L.getD i zeroL).a (L.getD i zeroL).its)
    (hl : L.length ≤ maxLen) (hs : ∀ x ∈ L, Fits x) (h0 : 0 ≤ left) (h1 : left ≤ 1048576) :
    Calls Tryz.prog 30 #[.slice (some ⟨b, off, none⟩) L.length cap, .int .i64 left] w fun e w' => e = .returned (.int .i64 (szLs L left)) ∧ Below w.heap.size w w' := by
  unfold maxLen at hl
  by_cases g : left - (L.length : Int) < 0
  · have H : Hid (szLs L left = -1) := by show szLs L left = -1; unfold szLs; rw [if_pos g]
    clear hc hs
    go_enter Tryz.func30, Tryz.ntmps30
    go_wp2
    go_ret
    exact ⟨ret_int (unhide H).symm, Below.refl _ _⟩
  have HE : Hid (szLs L left = szGo L (left - L.length)) := by show szLs L left = _; unfold szLs; rw [if_neg g]
  generalize szLs L left = T at HE ⊢
  have hcs := hide hc
  have hss := hide hs
  clear hc hs
  go_enter Tryz.func30, Tryz.ntmps30
  go_wp2
  go_loopw [1, 5] (fun lv iv wr => ∃ (k : Nat) (z : Int), k ≤ L.length ∧ lv = .int .i64 z ∧ iv = .int .i64 (k : Int) ∧ 0 ≤ z ∧ z ≤ 1048576 ∧ Hid (T = szGo (L.drop k) z) ∧ Hid (Below w.heap.size w wr)) (fun _ iv _ => L.length - (intOf iv).toNat)
  case atStart => exact ⟨0, left - L.length, Nat.zero_le _, rfl, rfl, by omega, by omega, HE, hide (Below.refl _ _)⟩
  case round =>
    obtain ⟨k, z, hk, rfl, rfl, hz0, hz1, hr, hbel⟩ := hrel
    by_cases hlt : k < L.length
    · obtain ⟨c0, c1, c2, c3⟩ := (unhide hcs k hlt).1.below (unhide hbel) hb
      have hla := hide ((unhide hcs k hlt).2.below (unhide hbel) (Nat.le_refl _))
      have hsk : Hid (Fits (L.getD k zeroL)) := unhide hss _ (getD_mem hlt)
      have hd := hide (szGo_drop L k hlt z)
      have hbd := szPl_bd (L.getD k zeroL) z hz0
      generalize L.getD k zeroL = x at c0 c1 c2 c3 hla hsk hd hbd
      have hcal := hide (sz1_any x z wr (unhide hla) (unhide hsk) hz0 hz1)
      generalize szPl x z = y at hd hbd hcal
      by_cases g2 : y < 0
      · have H : Hid (T = -1) := by show T = -1; rw [unhide hr, unhide hd, if_pos g2]
        go_wp2_with fail
        refine (unhide hcal).mono ?_
        rintro e w1 ⟨rfl, hb1⟩
        have hB := hide ((unhide hbel).trans (hb1.mono (unhide hbel).size))
        clear hb1
        go_wp2
        go_ret
        exact ⟨ret_int (unhide H).symm, unhide hB⟩
      · have H : Hid (T = szGo (L.drop (k + 1)) y) := by show T = _; rw [unhide hr, unhide hd, if_neg g2]
        go_wp2_with fail
        refine (unhide hcal).mono ?_
        rintro e w1 ⟨rfl, hb1⟩
        have hB := hide ((unhide hbel).trans (hb1.mono (unhide hbel).size))
        clear hb1
        go_wp2
        go_roundw
        case rel => exact ⟨k + 1, y, by omega, rfl, by go_num, by omega, by omega, H, hB⟩
        case measure => simp [intOf]; omega
    · have H : Hid (T = z) := by show T = z; rw [unhide hr, List.drop_of_length_le (by omega)]; rfl
      go_wp2
      go_ret
      exact ⟨ret_int (unhide H).symm, unhide hbel⟩

set_option maxHeartbeats 400000 in
theorem szs_any (a : Option Addr) (cap : Nat) (L : List Pl) (left : Int) (w : World) (hc : LsAt w a L) (hl : L.length ≤ maxLen) (hs : ∀ x ∈ L, Fits x) (h0 : 0 ≤ left) (h1 : left ≤ 1048576) :
    Calls Tryz.prog 30 #[.slice a L.length cap, .int .i64 left] w fun e w' => e = .returned (.int .i64 (szLs L left)) ∧ Below w.heap.size w w' := by
  by_cases hne : L = []
  · subst hne
    have H : Hid (szLs [] left = left) := by show szLs [] left = left; unfold szLs; rw [if_neg (by simp; omega)]; simp [szGo]
    go_enter Tryz.func30, Tryz.ntmps30
    go_wp2
    go_loop [1, 5] (fun l i => l = .int .i64 left ∧ i = .int .i64 0) (fun _ _ => 0)
    case atStart => exact ⟨rfl, rfl⟩
    case round =>
      obtain ⟨rfl, rfl⟩ := hrel
      go_wp2
      go_ret
      exact ⟨ret_int (unhide H).symm, Below.refl _ _⟩
  · obtain ⟨b, off, rfl, hb, hcc⟩ := hc hne
    exact szs_some b off cap L left w hb hcc hl hs h0 h1

set_option maxRecDepth 10000 in
set_option maxHeartbeats 1000000 in
theorem to1_any (x : Pl) (w : World) (hc : Items.ItemsAt w x.a x.its) (hl : x.its.length ≤ 1048576) :
    Calls Tryz.prog 76 #[.agg #[.string x.name, .int .i64 x.lim, .int .i64 x.nx, .slice x.a x.its.length x.cap]] w fun e w' =>
      ∃ b, e = .returned (.agg #[.string x.name, .int .i64 x.lim, .int .i64 x.nx, .slice (some ⟨b, 0, none⟩) x.its.length x.its.length]) ∧ w.heap.size ≤ b ∧ w'.rowIs b 85 (x.its.length * 5) (Items.icell x.its) ∧ Below w.heap.size w w' := by
  obtain ⟨name, lim, nx, a, cap, its⟩ := x
  dsimp only at hc hl ⊢
  have HC := hide hc
  clear hc
  go_enter Tryz.func76, Tryz.ntmps76
  go_wp2_with fail
  refine (Items.toStore_any lim nx a cap its _ ?_ hl).mono ?_
  · exact (unhide HC).below (bel3 w _ _ _) (Nat.le_refl _)
  rintro e w1 ⟨b, rfl, hb, hrow, hbel⟩
  obtain ⟨hcw, hfw⟩ := bcell hbel (Nat.le_refl _)
  have hrow := hide hrow
  have hbel3 : Hid (Below w.heap.size w w1) := (bel3 w _ _ _).trans (hbel.mono (by simp; omega))
  have hz : w.heap.size + 3 ≤ w1.heap.size := by have := hbel.size; simp at this; omega
  have hb3 : w.heap.size + 3 ≤ b := by simpa using hb
  clear hbel hb
  go_wp2
  refine bodyPost_ret (v := .agg #[.string name, .int .i64 lim, .int .i64 nx, .slice (some ⟨b, 0, none⟩) its.length its.length]) (by simp [results, Tryz.results76, go_sem, hcw]) rfl ⟨b, rfl, by omega, ?_, ?_⟩
  · repeat (refine World.rowIs.setOther ?_ (by first | (simp; done) | (simp; omega)) _)
    exact unhide hrow
  · repeat (refine Below.setCell ?_ (by first | (simp; done) | (simp; omega)) _)
    exact unhide hbel3

theorem info : (Tryz.prog.info? 59).map (fun i => (i.zero, i.size, i.bytes)) = some (some (.agg #[.string ByteArray.empty, .int .i64 0, .int .i64 0, .slice none 0 0]), 4, 56) := by kernel_rfl
theorem made_zero (i : Nat) : (#[.string ByteArray.empty, .int .i64 0, .int .i64 0, .slice none 0 0] : Array Value)[i % 4]! = lcell [] i := by
  have h : i % 4 < 4 := Nat.mod_lt _ (by omega)
  unfold lcell
  generalize i % 4 = m at h
  obtain rfl | rfl | rfl | rfl : m = 0 ∨ m = 1 ∨ m = 2 ∨ m = 3 := by omega
  all_goals rfl

set_option maxRecDepth 10000 in
set_option maxHeartbeats 1000000 in
theorem tos_some (b off cap : Nat) (L : List Pl) (w : World) (hb : b < w.heap.size) (hc : ∀ i, i < L.length → PlAt w b (off + i * 4) (L.getD i zeroL) ∧ Items.ItemsAt w (L.getD i zeroL).a (L.getD i zeroL).its) (hl : L.length ≤ 1048576) (hs : ∀ x ∈ L, x.its.length ≤ 1048576) :
    Calls Tryz.prog 33 #[.slice (some ⟨b, off, none⟩) L.length cap] w fun e w' =>
      e = .returned (.slice (some ⟨w.heap.size, 0, none⟩) L.length L.length) ∧ (∃ L', L'.map core = L.map core ∧ RAt w' w.heap.size L') ∧ Below w.heap.size w w' := by
  have hmk := fun w => run_make_rows (P := Tryz.prog) 28 59 _ 4 56 Tryz.underlying28 info .i64 .i64 L.length (by omega) (by omega) w
  have hcs := hide hc
  have hss := hide hs
  clear hc hs
  go_enter Tryz.func33, Tryz.ntmps33
  go_wp2
  go_loopw [4] (fun i wr => ∃ (k : Nat) (M : List Pl), k ≤ L.length ∧ i = .int .i64 k ∧ Hid (M.length = k) ∧ Hid (M.map core = (L.take k).map core) ∧ Hid (∀ j, j < k → Str wr (M.getD j zeroL)) ∧ Hid (∀ j, j < k → w.heap.size < blk (M.getD j zeroL)) ∧ Hid (∀ i j, i < j → j < k → blk (M.getD i zeroL) < blk (M.getD j zeroL)) ∧ Hid (wr.rowIs w.heap.size 59 (L.length * 4) (lcell M)) ∧ Hid (Below w.heap.size w wr)) (fun i _ => L.length - (intOf i).toNat)
  case atStart => exact ⟨0, [], Nat.zero_le _, rfl, hide rfl, hide (by simp), hide (fun j hj => absurd hj (by omega)), hide (fun j hj => absurd hj (by omega)), hide (fun i j _ hj => absurd hj (by omega)), hide (rowIs_mades w _ _ _ _ made_zero), hide ((Below.refl _ _).alloc (Nat.le_refl _) _)⟩
  case round =>
    obtain ⟨k, M, hk, rfl, hM, hco, hst, hgt, hup, hrow, hbel⟩ := hrel
    by_cases hlt : k < L.length
    · obtain ⟨c0, c1, c2, c3⟩ := (unhide hcs k hlt).1.below (unhide hbel) hb
      have hla := hide ((unhide hcs k hlt).2.below (unhide hbel) (Nat.le_refl _))
      have hsk : Hid ((L.getD k zeroL).its.length ≤ 1048576) := unhide hss _ (getD_mem hlt)
      have hnx : Hid (∀ y, core y = core (L.getD k zeroL) → (M ++ [y]).map core = (L.take (k + 1)).map core) := fun y hy => by
        rw [List.map_append, unhide hco, List.take_succ_eq_append_getElem hlt, List.map_append, List.map_cons, List.map_nil, hy, List.getD_eq_getElem?_getD, List.getElem?_eq_getElem hlt]
        rfl
      generalize L.getD k zeroL = x at c0 c1 c2 c3 hla hsk hnx
      have zr : w.heap.size < wr.heap.size := (unhide hrow).lt
      go_wp2_with fail
      refine (to1_any x _ (unhide hla) (unhide hsk)).mono ?_
      rintro e w1 ⟨g, rfl, hg, hrw, hb1⟩
      have hrow1 := (unhide hrow).of_block (hb1.block _ (unhide hrow).lt)
      have d0 := hrow1.cell (i := k * 4) (by omega)
      have f0 := hrow1.frozen (k * 4)
      have d1 := hrow1.cell (i := k * 4 + 1) (by omega)
      have f1 := hrow1.frozen (k * 4 + 1)
      have d2 := hrow1.cell (i := k * 4 + 2) (by omega)
      have f2 := hrow1.frozen (k * 4 + 2)
      have d3 := hrow1.cell (i := k * 4 + 3) (by omega)
      have f3 := hrow1.frozen (k * 4 + 3)
      have hrow2 := hide ((((hrow1.set (k * 4) (.string x.name)).set (k * 4 + 1) (.int .i64 x.lim)).set (k * 4 + 2) (.int .i64 x.nx)).set (k * 4 + 3) (.slice (some ⟨g, 0, none⟩) x.its.length x.its.length))
      have hbel1 := hide ((unhide hbel).trans (hb1.mono (unhide hbel).size))
      have hst1 := hide (fun j hj => (unhide hst j hj).below hb1 (Nat.le_refl _))
      have hlt1 := hide (fun j hj => (unhide hst j hj).lt)
      have hnew : Hid (Str w1 ⟨x.name, x.lim, x.nx, some ⟨g, 0, none⟩, x.its.length, x.its⟩) := ⟨rfl, hrw, rfl⟩
      generalize lcell M (k * 4) = o0 at d0
      generalize lcell M (k * 4 + 1) = o1 at d1
      generalize lcell M (k * 4 + 2) = o2 at d2
      generalize lcell M (k * 4 + 3) = o3 at d3
      clear hrow1 hb1 hrw
      go_wp2
      go_roundw
      case rel =>
        refine ⟨k + 1, M ++ [⟨x.name, x.lim, x.nx, some ⟨g, 0, none⟩, x.its.length, x.its⟩], by omega, by go_num, hide ?_, hide (unhide hnx _ rfl), hide ?_, hide ?_, hide ?_, hide ((unhide hrow2).congr (fun i _ => lcell_snoc M ⟨x.name, x.lim, x.nx, some ⟨g, 0, none⟩, x.its.length, x.its⟩ k i (unhide hM))), hide ?_⟩
        · show (M ++ [_]).length = k + 1
          rw [List.length_append, unhide hM]; rfl
        · intro j hj
          rw [getD_snoc, unhide hM]
          by_cases ej : j = k
          · rw [if_pos ej]
            exact ((((unhide hnew).set (by simp [blk]; omega) _).set (by simp [blk]; omega) _).set (by simp [blk]; omega) _).set (by simp [blk]; omega) _
          · rw [if_neg ej]
            have hg' := Nat.ne_of_gt (unhide hgt j (by omega))
            exact ((((unhide hst1 j (by omega)).set hg' _).set hg' _).set hg' _).set hg' _
        · intro j hj
          rw [getD_snoc, unhide hM]
          by_cases ej : j = k
          · rw [if_pos ej]
            show w.heap.size < g
            omega
          · rw [if_neg ej]
            exact unhide hgt j (by omega)
        · intro i j hij hj
          rw [getD_snoc, getD_snoc, unhide hM, if_neg (show ¬ i = k by omega)]
          by_cases ej : j = k
          · rw [if_pos ej]
            show _ < g
            have := unhide hlt1 i (by omega)
            omega
          · rw [if_neg ej]
            exact unhide hup i j hij (by omega)
        · show Below w.heap.size w _
          repeat (refine Below.setCell ?_ (by first | (simp; done) | (simp; omega)) _)
          exact unhide hbel1
      case measure => simp [intOf]; omega
    · obtain rfl : k = L.length := by omega
      have hco' := (unhide hco).trans (by rw [List.take_length])
      have HF : Hid (∃ L', L'.map core = L.map core ∧ RAt wr w.heap.size L') := ⟨M, hco', by rw [unhide hM]; exact unhide hrow, fun i hi => unhide hst i (by have := unhide hM; omega), fun i hi => unhide hgt i (by have := unhide hM; omega), fun i j hij hj => unhide hup i j hij (by have := unhide hM; omega)⟩
      clear hco'
      go_wp2
      go_ret
      exact ⟨rfl, unhide HF, unhide hbel⟩

set_option maxHeartbeats 400000 in
theorem tos_any (a : Option Addr) (cap : Nat) (L : List Pl) (w : World) (hc : LsAt w a L) (hl : L.length ≤ 1048576) (hs : ∀ x ∈ L, x.its.length ≤ 1048576) :
    Calls Tryz.prog 33 #[.slice a L.length cap] w fun e w' =>
      e = .returned (.slice (some ⟨w.heap.size, 0, none⟩) L.length L.length) ∧ (∃ L', L'.map core = L.map core ∧ RAt w' w.heap.size L') ∧ Below w.heap.size w w' := by
  by_cases hne : L = []
  · subst hne
    have hmk : ∀ w, (Instr.makeSlice 28 (.int .i64 0) (.int .i64 0)).run Tryz.prog w = .ok (.slice (some ⟨w.heap.size, 0, none⟩) 0 0) (w.alloc (.cells (madeCells #[.string ByteArray.empty, .int .i64 0, .int .i64 0, .slice none 0 0] 0) 59)) :=
      fun w => run_make_rows (P := Tryz.prog) 28 59 _ 4 56 Tryz.underlying28 info .i64 .i64 0 (by omega) (by omega) w
    have HR : Hid ((w.alloc (.cells (madeCells #[.string ByteArray.empty, .int .i64 0, .int .i64 0, .slice none 0 0] 0) 59)).rowIs w.heap.size 59 0 (lcell [])) := rowIs_mades w _ 0 _ _ made_zero
    go_enter Tryz.func33, Tryz.ntmps33
    go_wp2
    go_loop [4] (fun i => i = .int .i64 0) (fun _ => 0)
    case atStart => exact rfl
    case round =>
      obtain rfl := hrel
      go_wp2
      go_ret
      refine ⟨rfl, ?_, (Below.refl _ _).alloc (Nat.le_refl _) _⟩
      exact ⟨unhide HR, fun i hi => absurd hi (by simp), fun i hi => absurd hi (by simp), fun i j _ hi => absurd hi (by simp)⟩
  · obtain ⟨b, off, rfl, hb, hcc⟩ := hc hne
    exact tos_some b off cap L w hb hcc hl hs

set_option maxRecDepth 10000 in
set_option maxHeartbeats 1000000 in
theorem eq1_same (x y : Pl) (w : World) (hco : core x = core y) (hx : Items.ItemsAt w x.a x.its) (hy : Items.ItemsAt w y.a y.its) (hl : x.its.length ≤ maxLen) :
    Calls Tryz.prog 81 #[.agg #[.string x.name, .int .i64 x.lim, .int .i64 x.nx, .slice x.a x.its.length x.cap], .agg #[.string y.name, .int .i64 y.lim, .int .i64 y.nx, .slice y.a y.its.length y.cap]] w fun e w' => e = .returned (.bool true) ∧ Below w.heap.size w w' := by
  obtain ⟨name, lim, nx, a, cap, its⟩ := x
  obtain ⟨name', lim', nx', a', cap', its'⟩ := y
  simp only [core, Core.mk.injEq] at hco
  obtain ⟨rfl, rfl, rfl, rfl⟩ := hco
  dsimp only at hx hy hl ⊢
  have HC := hide hx
  have HC' := hide hy
  clear hx hy
  go_enter Tryz.func81, Tryz.ntmps81
  go_wp2_with fail
  refine (Items.eqStore_same lim nx a a' cap cap' its _ ?_ ?_ hl).mono ?_
  · exact (unhide HC).below (bel2 w _ _) (Nat.le_refl _)
  · exact (unhide HC').below (bel2 w _ _) (Nat.le_refl _)
  rintro e w1 ⟨rfl, hb1⟩
  have hb1 := hide ((bel2 w _ _).trans (hb1.mono (by simp; omega)))
  go_wp2
  go_ret
  exact ⟨rfl, unhide hb1⟩

set_option maxRecDepth 10000 in
set_option maxHeartbeats 1000000 in
theorem eqs_same (a a' : Option Addr) (cap cap' n : Nat) (L M : List Pl) (w : World) (hL : LsAt w a L) (hM : LsAt w a' M) (hco : L.map core = M.map core) (hn : L.length = n) (hl : n ≤ 1048576) (hs : ∀ x ∈ L, x.its.length ≤ 1048576) :
    Calls Tryz.prog 37 #[.slice a n cap, .slice a' n cap'] w fun e w' => e = .returned (.bool true) ∧ Below w.heap.size w w' := by
  by_cases h0 : n = 0
  · subst h0
    clear hL hM hco hs
    go_enter Tryz.func37, Tryz.ntmps37
    go_wp2
    go_loopw [5] (fun i wr => i = .int .i64 0 ∧ Hid (Below w.heap.size w wr)) (fun _ _ => 0)
    case atStart => exact ⟨rfl, hide (Below.refl _ _)⟩
    case round =>
      obtain ⟨rfl, hbel⟩ := hrel
      go_wp2
      go_ret
      exact ⟨rfl, unhide hbel⟩
  have hnm : M.length = n := (map_len hco).symm.trans hn
  obtain ⟨b, off, rfl, hb, hLc⟩ := hL (fun e => h0 (by rw [← hn, e]; rfl))
  obtain ⟨b', off', rfl, hb', hMc⟩ := hM (fun e => h0 (by rw [← hnm, e]; rfl))
  have HL := hide hLc
  have HM := hide hMc
  have HCO := hide hco
  have HN := hide hn
  have HNM := hide hnm
  have HSS := hide hs
  clear hL hM hco hn hs hLc hMc hnm
  go_enter Tryz.func37, Tryz.ntmps37
  go_wp2
  go_loopw [5] (fun i wr => ∃ k : Nat, k ≤ n ∧ i = .int .i64 k ∧ Hid (Below w.heap.size w wr)) (fun i _ => n - (intOf i).toNat)
  case atStart => exact ⟨0, Nat.zero_le _, rfl, hide (Below.refl _ _)⟩
  case round =>
    obtain ⟨k, hk, rfl, hbel⟩ := hrel
    by_cases hlt : k < n
    · obtain ⟨hc, HA⟩ := unhide HL k (by have := unhide HN; omega)
      obtain ⟨hd, HB⟩ := unhide HM k (by have := unhide HNM; omega)
      obtain ⟨c0, c1, c2, c3⟩ := hc.below (unhide hbel) hb
      obtain ⟨d0, d1, d2, d3⟩ := hd.below (unhide hbel) hb'
      have he := hide (map_at (unhide HCO) k)
      have hsk : Hid ((L.getD k zeroL).its.length ≤ maxLen) := Nat.le_trans (unhide HSS _ (getD_mem (by have := unhide HN; omega))) (by unfold maxLen; omega)
      have HA := hide ((HA.below (unhide hbel) (Nat.le_refl _)).below (w' := wr.drew) (Below.refl wr.heap.size wr).drew (Nat.le_refl _))
      have HB := hide ((HB.below (unhide hbel) (Nat.le_refl _)).below (w' := wr.drew) (Below.refl wr.heap.size wr).drew (Nat.le_refl _))
      have hk1 : b < wr.heap.size := Nat.lt_of_lt_of_le hb (unhide hbel).size
      have hk2 : b' < wr.heap.size := Nat.lt_of_lt_of_le hb' (unhide hbel).size
      clear hc hd
      generalize L.getD k zeroL = x at c0 c1 c2 c3 he HA hsk
      generalize M.getD k zeroL = y at d0 d1 d2 d3 he HB
      have hcal := hide (eq1_same x y wr.drew (unhide he) (unhide HA) (unhide HB) (unhide hsk))
      clear HA HB he
      go_wp2
      go_region_with (go_at_call 81; refine (unhide hcal).mono ?_; rintro e w1 ⟨rfl, hb1⟩; have hb1 := hide hb1)
      all_goals
        go_wp2
        go_roundw
        case rel => exact ⟨k + 1, by omega, by go_num, hide ((unhide hbel).drew.trans ((unhide hb1).mono (unhide hbel).size))⟩
        case measure => simp [intOf]; omega
    · go_wp2
      go_ret
      exact ⟨rfl, unhide hbel⟩
end Pls
end Go.Proofs.YtkodgbalhnbhcaaGreatDoor
/-
  Contracts of the law files' helpers over the struct Node and slices of it: sz, to, eq (written by a program of mine).
-/
namespace Go.Proofs.YtkodgbalhnbhcaaGreatDoor
namespace Nodes
open Go.RowKit Base
set_option linter.unusedVariables false

set_option maxHeartbeats 400000 in
theorem sz1_any (x : D) (left : Int) (w : World) (hf : Fits x) (h0 : 0 ≤ left) (h1 : left ≤ 1048576) :
    Calls Tryz.prog 45 #[.agg #[.string x.name, .int .i64 x.weight], .int .i64 left] w fun e w' => e = .returned (.int .i64 (szI x left)) ∧ Below w.heap.size w w' := by
  unfold Fits maxLen at hf
  obtain ⟨name, weight⟩ := x
  dsimp only at *
  by_cases g0 : left - name.size < 0
  · have H : Hid (szI ⟨name, weight⟩ left = -1) := by show szI ⟨name, weight⟩ left = -1; unfold szI; rw [if_pos g0]
    go_enter Tryz.func45, Tryz.ntmps45
    go_wp2
    go_ret
    exact ⟨ret_int (unhide H).symm, bel1 w _⟩
  have H : Hid (szI ⟨name, weight⟩ left = left - name.size) := by show szI ⟨name, weight⟩ left = _; unfold szI; rw [if_neg g0]
  go_enter Tryz.func45, Tryz.ntmps45
  go_wp2
  go_ret
  exact ⟨ret_int (unhide H).symm, bel1 w _⟩

set_option maxHeartbeats 400000 in
theorem sz_some (b off cap : Nat) (l : List D) (left : Int) (w : World) (hb : b < w.heap.size) (hc : ∀ i, i < l.length → At w b (off + i * 2) (l.getD i zero))
    (hl : l.length ≤ maxLen) (hs : ∀ x ∈ l, Fits x) (h0 : 0 ≤ left) (h1 : left ≤ 1048576) :
    Calls Tryz.prog 17 #[.slice (some ⟨b, off, none⟩) l.length cap, .int .i64 left] w fun e w' => e = .returned (.int .i64 (szL l left)) ∧ Below w.heap.size w w' := by
  unfold maxLen at hl
  by_cases g : left - l.length < 0
  · have H : Hid (szL l left = -1) := by show szL l left = -1; unfold szL; rw [if_pos g]
    clear hc hs
    go_enter Tryz.func17, Tryz.ntmps17
    go_wp2
    go_ret
    exact ⟨ret_int (unhide H).symm, Below.refl _ _⟩
  have HE : Hid (szL l left = szGo l (left - l.length)) := by show szL l left = _; unfold szL; rw [if_neg g]
  have hcs := hide hc
  have hss := hide hs
  clear hc hs
  go_enter Tryz.func17, Tryz.ntmps17
  go_wp2
  go_loopw [1, 5] (fun lv i wr => ∃ (k : Nat) (z : Int), k ≤ l.length ∧ 0 ≤ z ∧ z ≤ 1048576 ∧ i = .int .i64 k ∧ lv = .int .i64 z ∧ Hid (szGo l (left - l.length) = szGo (l.drop k) z) ∧ Hid (Below w.heap.size w wr)) (fun _ i _ => l.length - (intOf i).toNat)
  case atStart => exact ⟨0, left - l.length, Nat.zero_le _, by omega, by omega, rfl, rfl, hide (by simp), hide (Below.refl _ _)⟩
  case round =>
    obtain ⟨k, z, hk, hz0, hz1, rfl, rfl, hr, hbel⟩ := hrel
    by_cases hlt : k < l.length
    · obtain ⟨c0, c1⟩ := (unhide hcs k hlt).below (unhide hbel) hb
      have hfit := hide (fits_getD (unhide hss) k hlt)
      have hd := szGo_drop l k hlt z
      generalize l.getD k zero = x at c0 c1 hfit hd
      have hbd := szI_bd x z hz0
      have hcal := fun w => sz1_any x z w (unhide hfit) hz0 hz1
      generalize szI x z = y at hd hbd hcal
      have HC := hide hcal
      clear hcal
      by_cases g2 : y < 0
      · have H : Hid (szL l left = -1) := by show szL l left = -1; rw [unhide HE, unhide hr, hd, if_pos g2]
        clear hd
        go_wp2_with fail
        refine (unhide HC _).mono ?_
        rintro e w1 ⟨rfl, hb1⟩
        have hb1 := hide ((unhide hbel).trans (hb1.mono (unhide hbel).size))
        go_wp2
        go_ret
        exact ⟨ret_int (unhide H).symm, unhide hb1⟩
      · have H : Hid (szGo l (left - l.length) = szGo (l.drop (k + 1)) y) := by show szGo l (left - l.length) = _; rw [unhide hr, hd, if_neg g2]
        clear hd
        go_wp2_with fail
        refine (unhide HC _).mono ?_
        rintro e w1 ⟨rfl, hb1⟩
        have hb1 := hide ((unhide hbel).trans (hb1.mono (unhide hbel).size))
        go_wp2
        go_roundw
        case rel => exact ⟨k + 1, y, by omega, by omega, by omega, by go_num, rfl, H, hb1⟩
        case measure => simp [intOf]; omega
    · have H : Hid (szL l left = z) := by show szL l left = z; rw [unhide HE, unhide hr, List.drop_of_length_le (by omega)]; rfl
      go_wp2
      go_ret
      exact ⟨ret_int (unhide H).symm, unhide hbel⟩

set_option maxHeartbeats 400000 in
theorem sz_any (a : Option Addr) (cap : Nat) (l : List D) (left : Int) (w : World) (hc : LAt w a l)
    (hl : l.length ≤ maxLen) (hs : ∀ x ∈ l, Fits x) (h0 : 0 ≤ left) (h1 : left ≤ 1048576) :
    Calls Tryz.prog 17 #[.slice a l.length cap, .int .i64 left] w fun e w' => e = .returned (.int .i64 (szL l left)) ∧ Below w.heap.size w w' := by
  by_cases hne : l = []
  · subst hne
    have H : Hid (szL [] left = left) := by show szL [] left = left; unfold szL; rw [if_neg (by simp; omega)]; simp [szGo]
    go_enter Tryz.func17, Tryz.ntmps17
    go_wp2
    go_loop [1, 5] (fun l i => i = .int .i64 0 ∧ l = .int .i64 left) (fun _ _ => 0)
    case atStart => exact ⟨rfl, rfl⟩
    case round =>
      obtain ⟨rfl, rfl⟩ := hrel
      go_wp2
      go_ret
      exact ⟨ret_int (unhide H).symm, Below.refl _ _⟩
  · obtain ⟨b, off, rfl, hb, hcc⟩ := hc hne
    exact sz_some b off cap l left w hb hcc hl hs h0 h1

set_option maxHeartbeats 400000 in
theorem to1_any (x : D) (w : World) :
    Calls Tryz.prog 49 #[.agg #[.string x.name, .int .i64 x.weight]] w fun e w' => e = .returned (.agg #[.string x.name, .int .i64 x.weight]) ∧ Below w.heap.size w w' := by
  obtain ⟨name, weight⟩ := x
  go_enter Tryz.func49, Tryz.ntmps49
  go_wp2
  refine bodyPost_ret (v := .agg #[.string name, .int .i64 weight]) (by simp [results, Tryz.results49, go_sem]) rfl ⟨rfl, bel3 w _ _ _⟩

theorem info : (Tryz.prog.info? 76).map (fun i => (i.zero, i.size, i.bytes)) = some (some (.agg #[.string ByteArray.empty, .int .i64 0]), 2, 24) := by kernel_rfl

set_option maxHeartbeats 400000 in
theorem to_some (b off cap : Nat) (l : List D) (w : World) (hb : b < w.heap.size) (hc : ∀ i, i < l.length → At w b (off + i * 2) (l.getD i zero)) (hl : l.length ≤ 1048576) :
    Calls Tryz.prog 19 #[.slice (some ⟨b, off, none⟩) l.length cap] w fun e w' =>
      e = .returned (.slice (some ⟨w.heap.size, 0, none⟩) l.length l.length) ∧ w'.rowIs w.heap.size 76 (l.length * 2) (icell l) ∧ Below w.heap.size w w' := by
  have hmk := fun w => run_make_rows (P := Tryz.prog) 27 76 _ 2 24 Tryz.underlying27 info .i64 .i64 l.length (by omega) (by omega) w
  have hcs := hide hc
  clear hc
  go_enter Tryz.func19, Tryz.ntmps19
  go_wp2
  go_loopw [4] (fun i wr => ∃ k : Nat, k ≤ l.length ∧ i = .int .i64 k ∧ Hid (wr.rowIs w.heap.size 76 (l.length * 2) (half l k)) ∧ Hid (Below w.heap.size w wr)) (fun i _ => l.length - (intOf i).toNat)
  case atStart => exact ⟨0, Nat.zero_le _, rfl, hide ((rowIs_mades w _ _ _ _ made_zero).congr (fun i _ => by simp [half])), hide ((Below.refl _ _).alloc (Nat.le_refl _) _)⟩
  case round =>
    obtain ⟨k, hk, rfl, hrow, hbel⟩ := hrel
    by_cases hlt : k < l.length
    · obtain ⟨c0, c1⟩ := (unhide hcs k hlt).below (unhide hbel) hb
      have hst := hide (half_step l k)
      generalize l.getD k zero = x at c0 c1 hst
      go_wp2_with fail
      refine (to1_any x _).mono ?_
      rintro e w1 ⟨rfl, hb1⟩
      have hrow1 := (unhide hrow).of_block (hb1.block _ (unhide hrow).lt)
      have d0 := hrow1.cell (i := k * 2) (by omega)
      have f0 := hrow1.frozen (k * 2)
      have d1 := hrow1.cell (i := k * 2 + 1) (by omega)
      have f1 := hrow1.frozen (k * 2 + 1)
      have hrow2 := hide ((hrow1.set (k * 2) (.string x.name)).set (k * 2 + 1) (.int .i64 x.weight))
      have hbel1 := hide ((unhide hbel).trans (hb1.mono (unhide hbel).size))
      generalize half l k (k * 2) = o0 at d0
      generalize half l k (k * 2 + 1) = o1 at d1
      clear hrow1 hb1
      go_wp2
      go_roundw
      case rel =>
        refine ⟨k + 1, by omega, by go_num, hide ((unhide hrow2).congr (fun i _ => unhide hst i)), hide ?_⟩
        show Below w.heap.size w _
        repeat (refine Below.setCell ?_ (by first | (simp; done) | (simp; omega)) _)
        exact unhide hbel1
      case measure => simp [intOf]; omega
    · go_wp2
      go_ret
      exact ⟨rfl, (unhide hrow).congr (fun i hi => by unfold half; rw [if_pos (by omega)]), unhide hbel⟩

set_option maxHeartbeats 400000 in
theorem to_any (a : Option Addr) (cap : Nat) (l : List D) (w : World) (hc : LAt w a l) (hl : l.length ≤ 1048576) :
    Calls Tryz.prog 19 #[.slice a l.length cap] w fun e w' =>
      e = .returned (.slice (some ⟨w.heap.size, 0, none⟩) l.length l.length) ∧ w'.rowIs w.heap.size 76 (l.length * 2) (icell l) ∧ Below w.heap.size w w' := by
  by_cases hne : l = []
  · subst hne
    have hmk : ∀ w, (Instr.makeSlice 27 (.int .i64 0) (.int .i64 0)).run Tryz.prog w = .ok (.slice (some ⟨w.heap.size, 0, none⟩) 0 0) (w.alloc (.cells (madeCells #[.string ByteArray.empty, .int .i64 0] 0) 76)) :=
      fun w => run_make_rows (P := Tryz.prog) 27 76 _ 2 24 Tryz.underlying27 info .i64 .i64 0 (by omega) (by omega) w
    go_enter Tryz.func19, Tryz.ntmps19
    go_wp2
    go_loop [4] (fun i => i = .int .i64 0) (fun _ => 0)
    case atStart => exact rfl
    case round =>
      obtain rfl := hrel
      go_wp2
      go_ret
      exact ⟨rfl, (rowIs_mades w _ _ _ _ made_zero), (Below.refl _ _).alloc (Nat.le_refl _) _⟩
  · obtain ⟨b, off, rfl, hb, hcc⟩ := hc hne
    exact to_some b off cap l w hb hcc hl

set_option maxHeartbeats 400000 in
theorem eq1_same (x : D) (w : World) :
    Calls Tryz.prog 52 #[.agg #[.string x.name, .int .i64 x.weight], .agg #[.string x.name, .int .i64 x.weight]] w fun e w' => e = .returned (.bool true) ∧ Below w.heap.size w w' := by
  obtain ⟨name, weight⟩ := x
  go_enter Tryz.func52, Tryz.ntmps52
  go_wp2
  go_ret
  exact ⟨rfl, bel2 w _ _⟩

set_option maxHeartbeats 1000000 in
theorem eq_some (b off cap b' off' cap' : Nat) (l : List D) (w : World) (hb : b < w.heap.size) (hc : ∀ i, i < l.length → At w b (off + i * 2) (l.getD i zero))
    (hb' : b' < w.heap.size) (hc' : ∀ i, i < l.length → At w b' (off' + i * 2) (l.getD i zero)) (hl : l.length ≤ maxLen) :
    Calls Tryz.prog 21 #[.slice (some ⟨b, off, none⟩) l.length cap, .slice (some ⟨b', off', none⟩) l.length cap'] w fun e w' => e = .returned (.bool true) ∧ Below w.heap.size w w' := by
  unfold maxLen at hl
  have hcs := hide hc
  have hcs' := hide hc'
  clear hc hc'
  go_enter Tryz.func21, Tryz.ntmps21
  go_wp2
  go_loopw [5] (fun i wr => ∃ k : Nat, k ≤ l.length ∧ i = .int .i64 k ∧ Hid (Below w.heap.size w wr)) (fun i _ => l.length - (intOf i).toNat)
  case atStart => exact ⟨0, Nat.zero_le _, rfl, hide (Below.refl _ _)⟩
  case round =>
    obtain ⟨k, hk, rfl, hbel⟩ := hrel
    by_cases hlt : k < l.length
    · obtain ⟨c0, c1⟩ := (unhide hcs k hlt).below (unhide hbel) hb
      obtain ⟨d0, d1⟩ := (unhide hcs' k hlt).below (unhide hbel) hb'
      generalize l.getD k zero = x at c0 c1 d0 d1
      go_wp2
      go_region_with (go_at_call 52; refine (eq1_same x _).mono ?_; rintro e w1 ⟨rfl, hb1⟩; have hb1 := hide hb1)
      all_goals
        go_wp2
        go_roundw
        case rel => exact ⟨k + 1, by omega, by go_num, hide ((unhide hbel).drew.trans ((unhide hb1).mono (unhide hbel).size))⟩
        case measure => simp [intOf]; omega
    · go_wp2
      go_ret
      exact ⟨rfl, unhide hbel⟩

set_option maxHeartbeats 400000 in
theorem eq_same (a a' : Option Addr) (cap cap' : Nat) (l : List D) (w : World) (hc : LAt w a l) (hc' : LAt w a' l) (hl : l.length ≤ maxLen) :
    Calls Tryz.prog 21 #[.slice a l.length cap, .slice a' l.length cap'] w fun e w' => e = .returned (.bool true) ∧ Below w.heap.size w w' := by
  by_cases hne : l = []
  · subst hne
    go_enter Tryz.func21, Tryz.ntmps21
    go_wp2
    go_loop [5] (fun i => i = .int .i64 0) (fun _ => 0)
    case atStart => exact rfl
    case round =>
      obtain rfl := hrel
      go_wp2
      go_ret
      exact ⟨rfl, Below.refl _ _⟩
  · obtain ⟨b, off, rfl, hb, hcc⟩ := hc hne
    obtain ⟨b', off', rfl, hb', hcc'⟩ := hc' hne
    exact eq_some b off cap b' off' cap' l w hb hcc hb' hcc' hl
end Nodes
end Go.Proofs.YtkodgbalhnbhcaaGreatDoor
/-
  A cluster in memory; contracts of the law files' helpers over clusters: szCluster, toCluster, eqCluster.
-/
namespace Go.Proofs.YtkodgbalhnbhcaaGreatDoor
namespace Clus
open Go.RowKit Base
set_option linter.unusedVariables false

structure Cl where
  now : Int
  nx : Int
  lim : Int
  lost : Int
  na : Option Addr
  nc : Nat
  ns : List Nodes.D
  ca : Option Addr
  cc : Nat
  cs : List Nodes.D
  pa : Option Addr
  pc : Nat
  ps : List Pls.Pl
def plain (c : Cl) : CC := ⟨c.now, c.nx, c.lim, c.lost, c.ns, c.cs, c.ps.map Pls.core⟩
def ClAt (w : World) (c : Cl) : Prop := Nodes.LAt w c.na c.ns ∧ Nodes.LAt w c.ca c.cs ∧ Pls.LsAt w c.pa c.ps
theorem ClAt.below {w w' : World} {c : Cl} {B : Nat} (h : ClAt w c) (hb : Below B w w') (hB : w.heap.size ≤ B) : ClAt w' c := ⟨h.1.below hb hB, h.2.1.below hb hB, h.2.2.below hb hB⟩
structure Fits (c : Cl) : Prop where
  nl : c.ns.length ≤ maxLen
  nf : ∀ x ∈ c.ns, Nodes.Fits x
  nk : c.ns.length ≤ c.nc
  cl : c.cs.length ≤ maxLen
  cf : ∀ x ∈ c.cs, Nodes.Fits x
  ck : c.cs.length ≤ c.cc
  pl : c.ps.length ≤ maxLen
  pf : ∀ x ∈ c.ps, Pls.Fits x
  pk : c.ps.length ≤ c.pc
def szC (c : Cl) (left : Int) : Int := if Nodes.szL c.ns left < 0 then -1 else if Nodes.szL c.cs (Nodes.szL c.ns left) < 0 then -1 else Pls.szLs c.ps (Nodes.szL c.cs (Nodes.szL c.ns left))
structure Small (c : Cl) : Prop where
  sn : c.ns.length ≤ 1048576
  sc : c.cs.length ≤ 1048576
  sp : c.ps.length ≤ 1048576
  si : ∀ x ∈ c.ps, x.its.length ≤ 1048576
theorem szC_small {c : Cl} (h : ¬ szC c 1048576 < 0) : Small c := by
  unfold szC at h
  have b0 := Nodes.szL_bd c.ns 1048576 (by omega)
  split at h
  · omega
  · rename_i h1
    have l1 := Nodes.szL_len h1
    have b1 := Nodes.szL_bd c.cs (Nodes.szL c.ns 1048576) (by omega)
    split at h
    · omega
    · rename_i h2
      have l2 := Nodes.szL_len h2
      obtain ⟨l3, l4⟩ := Pls.szLs_len h
      exact ⟨by omega, by omega, by omega, fun x hx => by have := (l4 x hx).2; omega⟩
theorem szC_bd (c : Cl) : -1 ≤ szC c 1048576 := by
  unfold szC
  have b0 := Nodes.szL_bd c.ns 1048576 (by omega)
  split
  · omega
  · have b1 := Nodes.szL_bd c.cs (Nodes.szL c.ns 1048576) (by omega)
    split
    · omega
    · have := Pls.szLs_bd c.ps (Nodes.szL c.cs (Nodes.szL c.ns 1048576)) (by omega)
      omega

set_option maxRecDepth 10000 in
set_option maxHeartbeats 1000000 in
theorem sz_any (c : Cl) (w : World) (hc : ClAt w c) (hf : Fits c) :
    Calls Tryz.prog 8 #[.agg #[.int .i64 c.now, .int .i64 c.nx, .int .i64 c.lim, .int .i64 c.lost, .slice c.na c.ns.length c.nc, .slice c.ca c.cs.length c.cc, .slice c.pa c.ps.length c.pc], .int .i64 1048576] w fun e w' => e = .returned (.int .i64 (szC c 1048576)) ∧ Below w.heap.size w w' := by
  obtain ⟨now, nx, lim, lost, na, nc, ns, ca, cc, cs, pa, pc, ps⟩ := c
  obtain ⟨nl, nf, nk, cl, cf, ck, pl, pf, pk⟩ := hf
  dsimp only at nl nf nk cl cf ck pl pf pk ⊢
  have hE : Hid (szC ⟨now, nx, lim, lost, na, nc, ns, ca, cc, cs, pa, pc, ps⟩ 1048576 = if Nodes.szL ns 1048576 < 0 then -1 else if Nodes.szL cs (Nodes.szL ns 1048576) < 0 then -1 else Pls.szLs ps (Nodes.szL cs (Nodes.szL ns 1048576))) := rfl
  generalize szC ⟨now, nx, lim, lost, na, nc, ns, ca, cc, cs, pa, pc, ps⟩ 1048576 = T at hE ⊢
  have b0 := Nodes.szL_bd ns 1048576 (by omega)
  have C0 := hide (fun w' (hb : Below w.heap.size w w') => Nodes.sz_any na nc ns 1048576 w' (hc.1.below hb (Nat.le_refl _)) nl nf (by omega) (by omega))
  have C1 := hide (fun (z : Int) (h0 : 0 ≤ z) (h1 : z ≤ 1048576) w' (hb : Below w.heap.size w w') => Nodes.sz_any ca cc cs z w' (hc.2.1.below hb (Nat.le_refl _)) cl cf h0 h1)
  have C2 := hide (fun (z : Int) (h0 : 0 ≤ z) (h1 : z ≤ 1048576) w' (hb : Below w.heap.size w w') => Pls.szs_any pa pc ps z w' (hc.2.2.below hb (Nat.le_refl _)) pl pf h0 h1)
  have B1 := hide (fun z => Nodes.szL_bd cs z)
  have B2 := hide (fun z => Pls.szLs_bd ps z)
  clear hc nf cf pf
  generalize Nodes.szL ns 1048576 = z0 at hE b0 C0
  unfold maxLen at nl cl pl
  by_cases g0 : z0 < 0
  · have H : Hid (T = -1) := by show T = -1; rw [unhide hE, if_pos g0]
    go_enter Tryz.func8, Tryz.ntmps8
    go_wp2_with fail
    refine (unhide C0 _ (bel1 w _)).mono ?_
    rintro e w1 ⟨rfl, hb1⟩
    have hB := hide ((bel1 w _).trans (hb1.mono (by simp)))
    clear hb1
    go_wp2
    go_ret
    exact ⟨ret_int (unhide H).symm, unhide hB⟩
  have hE : Hid (T = if Nodes.szL cs z0 < 0 then -1 else Pls.szLs ps (Nodes.szL cs z0)) := by show T = _; rw [unhide hE, if_neg g0]
  have C1 := hide (unhide C1 z0 (by omega) (by omega))
  have b1 := unhide B1 z0 (by omega)
  generalize Nodes.szL cs z0 = z1 at hE C1 b1
  by_cases g1 : z1 < 0
  · have H : Hid (T = -1) := by show T = -1; rw [unhide hE, if_pos g1]
    go_enter Tryz.func8, Tryz.ntmps8
    go_wp2_with fail
    refine (unhide C0 _ (bel1 w _)).mono ?_
    rintro e w1 ⟨rfl, hb1⟩
    have hB := hide ((bel1 w _).trans (hb1.mono (by simp)))
    simp only [World.size_alloc] at hb1
    have hx := boxcell hb1
    clear hb1
    go_wp2_with fail
    refine (unhide C1 _ (unhide hB)).mono ?_
    rintro e w2 ⟨rfl, hb2⟩
    have hB2 := hide ((unhide hB).trans (hb2.mono (unhide hB).size))
    clear hb2 hx
    go_wp2
    go_ret
    exact ⟨ret_int (unhide H).symm, unhide hB2⟩
  have hE : Hid (T = Pls.szLs ps z1) := by show T = _; rw [unhide hE, if_neg g1]
  have C2 := hide (unhide C2 z1 (by omega) (by omega))
  have b2 := unhide B2 z1 (by omega)
  generalize Pls.szLs ps z1 = z2 at hE C2 b2
  have hE2 : T = z2 := unhide hE
  subst hE2
  clear hE B1 B2
  by_cases g2 : T < 0
  · obtain rfl : T = -1 := by omega
    go_enter Tryz.func8, Tryz.ntmps8
    go_wp2_with fail
    refine (unhide C0 _ (bel1 w _)).mono ?_
    rintro e w1 ⟨rfl, hb1⟩
    have hB := hide ((bel1 w _).trans (hb1.mono (by simp)))
    simp only [World.size_alloc] at hb1
    have H1 := hide hb1
    have hz1 : w.heap.size + 1 ≤ w1.heap.size := by have := hb1.size; simp at this; omega
    have hx := boxcell hb1
    clear hb1
    go_wp2_with fail
    refine (unhide C1 _ (unhide hB)).mono ?_
    rintro e w2 ⟨rfl, hb2⟩
    have hB2 := hide ((unhide hB).trans (hb2.mono (unhide hB).size))
    have hx2 := boxcell ((unhide H1).trans (hb2.mono hz1))
    clear hb2 hx H1
    go_wp2_with fail
    refine (unhide C2 _ (unhide hB2)).mono ?_
    rintro e w3 ⟨rfl, hb3⟩
    have hB3 := hide ((unhide hB2).trans (hb3.mono (unhide hB2).size))
    clear hb3 hx2
    go_wp2
    go_ret
    exact ⟨rfl, unhide hB3⟩
  · go_enter Tryz.func8, Tryz.ntmps8
    go_wp2_with fail
    refine (unhide C0 _ (bel1 w _)).mono ?_
    rintro e w1 ⟨rfl, hb1⟩
    have hB := hide ((bel1 w _).trans (hb1.mono (by simp)))
    simp only [World.size_alloc] at hb1
    have H1 := hide hb1
    have hz1 : w.heap.size + 1 ≤ w1.heap.size := by have := hb1.size; simp at this; omega
    have hx := boxcell hb1
    clear hb1
    go_wp2_with fail
    refine (unhide C1 _ (unhide hB)).mono ?_
    rintro e w2 ⟨rfl, hb2⟩
    have hB2 := hide ((unhide hB).trans (hb2.mono (unhide hB).size))
    have hx2 := boxcell ((unhide H1).trans (hb2.mono hz1))
    clear hb2 hx H1
    go_wp2_with fail
    refine (unhide C2 _ (unhide hB2)).mono ?_
    rintro e w3 ⟨rfl, hb3⟩
    have hB3 := hide ((unhide hB2).trans (hb3.mono (unhide hB2).size))
    clear hb3 hx2
    go_wp2
    go_ret
    exact ⟨rfl, unhide hB3⟩

/-- A cluster that a call has laid itself, every block apart. -/
structure CR (w : World) (b1 b2 b3 : Nat) (ns cs : List Nodes.D) (L : List Pls.Pl) : Prop where
  n : w.rowIs b1 76 (ns.length * 2) (Nodes.icell ns)
  c : w.rowIs b2 76 (cs.length * 2) (Nodes.icell cs)
  p : Pls.RAt w b3 L
  b12 : b1 < b2
  b23 : b2 < b3
theorem CR.below {w w' : World} {b1 b2 b3 : Nat} {ns cs : List Nodes.D} {L : List Pls.Pl} {B : Nat} (h : CR w b1 b2 b3 ns cs L) (hb : Below B w w') (hB : w.heap.size ≤ B) : CR w' b1 b2 b3 ns cs L :=
  ⟨h.n.of_block (hb.block _ (Nat.lt_of_lt_of_le h.n.lt hB)), h.c.of_block (hb.block _ (Nat.lt_of_lt_of_le h.c.lt hB)), h.p.below hb hB, h.b12, h.b23⟩

set_option maxRecDepth 10000 in
set_option maxHeartbeats 1000000 in
theorem to_any (c : Cl) (w : World) (hc : ClAt w c) (hs : Small c) :
    Calls Tryz.prog 10 #[.agg #[.int .i64 c.now, .int .i64 c.nx, .int .i64 c.lim, .int .i64 c.lost, .slice c.na c.ns.length c.nc, .slice c.ca c.cs.length c.cc, .slice c.pa c.ps.length c.pc]] w fun e w' => ∃ b1 b2 b3 L, e = .returned (.agg #[.int .i64 c.now, .int .i64 c.nx, .int .i64 c.lim, .int .i64 c.lost, .slice (some ⟨b1, 0, none⟩) c.ns.length c.ns.length, .slice (some ⟨b2, 0, none⟩) c.cs.length c.cs.length, .slice (some ⟨b3, 0, none⟩) c.ps.length c.ps.length]) ∧
      w.heap.size ≤ b1 ∧ CR w' b1 b2 b3 c.ns c.cs L ∧ L.map Pls.core = c.ps.map Pls.core ∧ Below w.heap.size w w' := by
  obtain ⟨now, nx, lim, lost, na, nc, ns, ca, cc, cs, pa, pc, ps⟩ := c
  obtain ⟨n1, n2, n3, n4⟩ := hs
  dsimp only at n1 n2 n3 n4 ⊢
  have HC := hide hc
  have HI := hide n4
  clear hc n4
  go_enter Tryz.func10, Tryz.ntmps10
  go_wp2_with fail
  refine (Nodes.to_any na nc ns _ ?_ n1).mono ?_
  · exact (unhide HC).1.below (bel3 w _ _ _) (Nat.le_refl _)
  rintro e w1 ⟨rfl, hrow1, hb1⟩
  obtain ⟨hcw1, hfw1⟩ := bcell hb1 (Nat.le_refl _)
  have hA1 := fun o => hcw1 w.heap.size o (by simp; omega)
  have hO1 := fun o => hcw1 (w.heap.size + 1 + 1) o (by simp)
  have hF1 := fun o => hfw1 (w.heap.size + 1 + 1) o (by simp)
  have hE1 := fun o => hcw1 (w.heap.size + 1) o (by simp)
  have hG1 := fun o => hfw1 (w.heap.size + 1) o (by simp)
  have B1 : Hid (Below w.heap.size w w1) := (bel3 w _ _ _).trans (hb1.mono (by simp; omega))
  have R1 : Hid (w1.rowIs (w.heap.size + 3) 76 (ns.length * 2) (Nodes.icell ns)) := by simp only [World.size_alloc] at hrow1; exact hrow1
  have z1 : w.heap.size + 3 < w1.heap.size := (unhide R1).lt
  clear hrow1 hb1 hcw1 hfw1
  go_wp2_with fail
  have S1 : Hid (Below w.heap.size w (w1.setCell ⟨w.heap.size + 1 + 1, 4, none⟩ (.slice (some ⟨w.heap.size + 1 + 1 + 1, 0, none⟩) ns.length ns.length))) := (unhide B1).setCell (by simp; omega) _
  have R1 : Hid ((w1.setCell ⟨w.heap.size + 1 + 1, 4, none⟩ (.slice (some ⟨w.heap.size + 1 + 1 + 1, 0, none⟩) ns.length ns.length)).rowIs (w.heap.size + 3) 76 (ns.length * 2) (Nodes.icell ns)) := (unhide R1).setOther (by simp) _
  refine (Nodes.to_any ca cc cs _ ((unhide HC).2.1.below (unhide S1) (Nat.le_refl _)) n2).mono ?_
  rintro e w2 ⟨rfl, hrow2, hb2⟩
  have hA2 := fun o => hb2.cell (p := ⟨w.heap.size, o, none⟩) (by simp; omega)
  have hO2 := fun o => hb2.cell (p := ⟨w.heap.size + 1 + 1, o, none⟩) (by simp; omega)
  have hF2 := fun o => hb2.frozen (p := ⟨w.heap.size + 1 + 1, o, none⟩) (by simp; omega)
  have hE2 := fun o => hb2.cell (p := ⟨w.heap.size + 1, o, none⟩) (by simp; omega)
  have hG2 := fun o => hb2.frozen (p := ⟨w.heap.size + 1, o, none⟩) (by simp; omega)
  have B2 : Hid (Below w.heap.size w w2) := (unhide S1).trans (hb2.mono (unhide S1).size)
  have R12 : Hid (w2.rowIs (w.heap.size + 3) 76 (ns.length * 2) (Nodes.icell ns)) := (unhide R1).of_block (hb2.block _ (unhide R1).lt)
  have hs1 : (w1.setCell ⟨w.heap.size + 1 + 1, 4, none⟩ (.slice (some ⟨w.heap.size + 1 + 1 + 1, 0, none⟩) ns.length ns.length)).heap.size = w1.heap.size := by simp
  rw [hs1] at hrow2
  have R2 := hide hrow2
  have z2 : w1.heap.size < w2.heap.size := hrow2.lt
  clear hrow2 hb2 R1 S1 B1 hs1
  generalize hq1 : w1.heap.size = q1 at R2 z1 z2
  go_wp2_with fail
  have S2 : Hid (Below w.heap.size w (w2.setCell ⟨w.heap.size + 1 + 1, 5, none⟩ (.slice (some ⟨q1, 0, none⟩) cs.length cs.length))) := (unhide B2).setCell (by simp; omega) _
  have R12 : Hid ((w2.setCell ⟨w.heap.size + 1 + 1, 5, none⟩ (.slice (some ⟨q1, 0, none⟩) cs.length cs.length)).rowIs (w.heap.size + 3) 76 (ns.length * 2) (Nodes.icell ns)) := (unhide R12).setOther (by simp) _
  have R2 : Hid ((w2.setCell ⟨w.heap.size + 1 + 1, 5, none⟩ (.slice (some ⟨q1, 0, none⟩) cs.length cs.length)).rowIs q1 76 (cs.length * 2) (Nodes.icell cs)) := (unhide R2).setOther (by simp; omega) _
  refine (Pls.tos_any pa pc ps _ ((unhide HC).2.2.below (unhide S2) (Nat.le_refl _)) n3 (unhide HI)).mono ?_
  rintro e w3 ⟨rfl, ⟨L, hL, hR3⟩, hb3⟩
  have hO3 := fun o => hb3.cell (p := ⟨w.heap.size + 1 + 1, o, none⟩) (by simp; omega)
  have hF3 := fun o => hb3.frozen (p := ⟨w.heap.size + 1 + 1, o, none⟩) (by simp; omega)
  have hE3 := fun o => hb3.cell (p := ⟨w.heap.size + 1, o, none⟩) (by simp; omega)
  have hG3 := fun o => hb3.frozen (p := ⟨w.heap.size + 1, o, none⟩) (by simp; omega)
  have B3 : Hid (Below w.heap.size w w3) := (unhide S2).trans (hb3.mono (unhide S2).size)
  have R13 : Hid (w3.rowIs (w.heap.size + 3) 76 (ns.length * 2) (Nodes.icell ns)) := (unhide R12).of_block (hb3.block _ (unhide R12).lt)
  have R23 : Hid (w3.rowIs q1 76 (cs.length * 2) (Nodes.icell cs)) := (unhide R2).of_block (hb3.block _ (unhide R2).lt)
  have hs2 : (w2.setCell ⟨w.heap.size + 1 + 1, 5, none⟩ (.slice (some ⟨q1, 0, none⟩) cs.length cs.length)).heap.size = w2.heap.size := by simp
  rw [hs2] at hR3
  have R3 := hide hR3
  have HL := hide hL
  have z3 : w2.heap.size < w3.heap.size := hR3.lt
  clear hR3 hL hb3 R1 S2 B2 R12 R2 hs2 hA2
  generalize hq2 : w2.heap.size = q2 at R3 z2 z3
  go_wp2
  refine bodyPost_ret (v := .agg #[.int .i64 now, .int .i64 nx, .int .i64 lim, .int .i64 lost, .slice (some ⟨w.heap.size + 3, 0, none⟩) ns.length ns.length, .slice (some ⟨q1, 0, none⟩) cs.length cs.length, .slice (some ⟨q2, 0, none⟩) ps.length ps.length]) (by simp [results, Tryz.results10, go_sem, hE1, hE2, hE3]) rfl ⟨w.heap.size + 3, q1, q2, L, rfl, by omega, ⟨?_, ?_, ?_, by omega, by omega⟩, unhide HL, ?_⟩
  · repeat (refine World.rowIs.setOther ?_ (by first | (simp; done) | (simp; omega)) _)
    exact unhide R13
  · repeat (refine World.rowIs.setOther ?_ (by first | (simp; done) | (simp; omega)) _)
    exact unhide R23
  · repeat (refine Pls.RAt.setOther ?_ (by first | (simp; done) | (simp; omega)) _)
    exact unhide R3
  · repeat (refine Below.setCell ?_ (by first | (simp; done) | (simp; omega)) _)
    exact unhide B3

set_option maxRecDepth 10000 in
set_option maxHeartbeats 1000000 in
/-- Two clusters that are alike. -/
theorem eq_same (c d : Cl) (w : World) (hc : ClAt w c) (hd : ClAt w d) (he : plain c = plain d) (hs : Small c) :
    Calls Tryz.prog 12 #[.agg #[.int .i64 c.now, .int .i64 c.nx, .int .i64 c.lim, .int .i64 c.lost, .slice c.na c.ns.length c.nc, .slice c.ca c.cs.length c.cc, .slice c.pa c.ps.length c.pc], .agg #[.int .i64 d.now, .int .i64 d.nx, .int .i64 d.lim, .int .i64 d.lost, .slice d.na d.ns.length d.nc, .slice d.ca d.cs.length d.cc, .slice d.pa d.ps.length d.pc]] w fun e w' => e = .returned (.bool true) ∧ Below w.heap.size w w' := by
  obtain ⟨now, nx, lim, lost, na, nc, ns, ca, cc, cs, pa, pc, ps⟩ := c
  obtain ⟨now', nx', lim', lost', na', nc', ns', ca', cc', cs', pa', pc', ps'⟩ := d
  simp only [plain, CC.mk.injEq] at he
  obtain ⟨rfl, rfl, rfl, rfl, rfl, rfl, hps⟩ := he
  obtain ⟨n1, n2, n3, n4⟩ := hs
  dsimp only at n1 n2 n3 n4 ⊢
  have hle : ps'.length = ps.length := (Pls.map_len hps).symm
  rw [hle]
  have m1 : ns.length ≤ maxLen := by unfold maxLen; omega
  have m2 : cs.length ≤ maxLen := by unfold maxLen; omega
  have C1 := hide (fun w' (hb : Below w.heap.size w w') => Nodes.eq_same na na' nc nc' ns w' (hc.1.below hb (Nat.le_refl _)) (hd.1.below hb (Nat.le_refl _)) m1)
  have C2 := hide (fun w' (hb : Below w.heap.size w w') => Nodes.eq_same ca ca' cc cc' cs w' (hc.2.1.below hb (Nat.le_refl _)) (hd.2.1.below hb (Nat.le_refl _)) m2)
  have C3 := hide (fun w' (hb : Below w.heap.size w w') => Pls.eqs_same pa pa' pc pc' ps.length ps ps' w' (hc.2.2.below hb (Nat.le_refl _)) (hd.2.2.below hb (Nat.le_refl _)) hps rfl n3 n4)
  clear hc hd hps hle n4 m1 m2
  go_enter Tryz.func12, Tryz.ntmps12
  go_wp2_with fail
  refine (unhide C1 _ (bel2 w _ _)).mono ?_
  rintro e w1 ⟨rfl, hb1⟩
  have B1 := hide ((bel2 w _ _).trans (hb1.mono (by simp; omega)))
  have x1 := fun o => hb1.cell (p := ⟨w.heap.size, o, none⟩) (by simp; omega)
  have y1 := fun o => hb1.cell (p := ⟨w.heap.size + 1, o, none⟩) (by simp)
  have z1 : w.heap.size + 2 ≤ w1.heap.size := by have := hb1.size; simp at this; omega
  clear hb1
  go_wp2_with fail
  refine (unhide C2 _ (unhide B1)).mono ?_
  rintro e w2 ⟨rfl, hb2⟩
  have B2 := hide ((unhide B1).trans (hb2.mono (unhide B1).size))
  have x2 := fun o => (hb2.cell (p := ⟨w.heap.size, o, none⟩) (by show w.heap.size < w1.heap.size; omega)).trans (x1 o)
  have y2 := fun o => (hb2.cell (p := ⟨w.heap.size + 1, o, none⟩) (by show w.heap.size + 1 < w1.heap.size; omega)).trans (y1 o)
  clear hb2 x1 y1
  go_wp2_with fail
  refine (unhide C3 _ (unhide B2)).mono ?_
  rintro e w3 ⟨rfl, hb3⟩
  have B3 := hide ((unhide B2).trans (hb3.mono (unhide B2).size))
  clear hb3 x2 y2
  go_wp2
  go_ret
  exact ⟨rfl, unhide B3⟩
end Clus
end Go.Proofs.YtkodgbalhnbhcaaGreatDoor
