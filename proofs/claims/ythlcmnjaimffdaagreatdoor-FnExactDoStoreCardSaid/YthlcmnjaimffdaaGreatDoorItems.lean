/-
  Contracts of the law files' helpers over stores: szStore, toStore, eqStore.
-/
import Derived.Test.YthlcmnjaimffdaaGreatDoorItemsA
import Derived.Test.YthlcmnjaimffdaaGreatDoorRows
import Derived.Deep.RegionWith
import Derived.BigQuiet
import Derived.Deep.QuietTactic
namespace Go.Proofs.YthlcmnjaimffdaaGreatDoor
namespace Items
open Go.RowKit Base
set_option linter.unusedVariables false
set_option maxHeartbeats 400000 in
theorem szStore_any (lim nx : Int) (a : Option Addr) (cap : Nat) (its : List Itm) (left : Int) (w : World) (hc : ItemsAt w a its)
    (hl : its.length ≤ maxLen) (hs : ∀ x ∈ its, Fits x) (h0 : 0 ≤ left) (h1 : left ≤ 1048576) :
    Calls Tryz.prog 4 #[.agg #[.int .i64 lim, .int .i64 nx, .slice a its.length cap], .int .i64 left] w fun e w' => e = .returned (.int .i64 (szIs its left)) ∧ Below w.heap.size w w' := by
  have hcal := fun o => szItemS_any a cap its left (w.alloc o) (hc.below (bel1 w o) (Nat.le_refl _)) hl hs h0 h1
  have hbd := szIs_bd its left h0
  generalize szIs its left = z at hcal hbd ⊢
  have HC := hide hcal
  clear hcal hs
  by_cases g : z < 0
  · obtain rfl : z = -1 := by omega
    go_enter Tryz.func4, Tryz.ntmps4
    go_wp2_with fail
    refine (unhide HC _).mono ?_
    rintro e w1 ⟨rfl, hb1⟩
    have hb1 := hide ((bel1 w _).trans (hb1.mono (by simp)))
    go_wp2
    go_ret
    exact ⟨rfl, unhide hb1⟩
  · go_enter Tryz.func4, Tryz.ntmps4
    go_wp2_with fail
    refine (unhide HC _).mono ?_
    rintro e w1 ⟨rfl, hb1⟩
    have hb1 := hide ((bel1 w _).trans (hb1.mono (by simp)))
    go_wp2
    go_ret
    exact ⟨rfl, unhide hb1⟩

set_option maxHeartbeats 400000 in
theorem toStore_any (lim nx : Int) (a : Option Addr) (cap : Nat) (its : List Itm) (w : World) (hc : ItemsAt w a its) (hl : its.length ≤ 1048576) :
    Calls Tryz.prog 7 #[.agg #[.int .i64 lim, .int .i64 nx, .slice a its.length cap]] w fun e w' =>
      ∃ b, e = .returned (.agg #[.int .i64 lim, .int .i64 nx, .slice (some ⟨b, 0, none⟩) its.length its.length]) ∧ w.heap.size ≤ b ∧ w'.rowIs b 71 (its.length * 5) (icell its) ∧ Below w.heap.size w w' := by
  have HC := hide hc
  clear hc
  go_enter Tryz.func7, Tryz.ntmps7
  go_wp2_with fail
  refine (toItemS_any a cap its _ ?_ hl).mono ?_
  · exact (unhide HC).below (bel3 w _ _ _) (Nat.le_refl _)
  rintro e w1 ⟨rfl, hrow, hbel⟩
  obtain ⟨hcw, hfw⟩ := bcell hbel (Nat.le_refl _)
  have hrow3 : Hid (w1.rowIs (w.heap.size + 3) 71 (its.length * 5) (icell its)) := by
    simp only [World.size_alloc] at hrow; exact hrow
  have hbel3 : Hid (Below w.heap.size w w1) := (bel3 w _ _ _).trans (hbel.mono (by simp; omega))
  have hz : w.heap.size + 3 < w1.heap.size := (unhide hrow3).lt
  clear hrow hbel
  go_wp2
  refine bodyPost_ret (v := .agg #[.int .i64 lim, .int .i64 nx, .slice (some ⟨w.heap.size + 3, 0, none⟩) its.length its.length]) (by simp [results, Tryz.results7, go_sem, hcw]) rfl ⟨w.heap.size + 3, rfl, by omega, ?_, ?_⟩
  · repeat (refine World.rowIs.setOther ?_ (by first | (simp; done) | (simp; omega)) _)
    exact unhide hrow3
  · repeat (refine Below.setCell ?_ (by first | (simp; done) | (simp; omega)) _)
    exact unhide hbel3

set_option maxHeartbeats 400000 in
theorem eqStore_same (lim nx : Int) (a a' : Option Addr) (cap cap' : Nat) (its : List Itm) (w : World) (hc : ItemsAt w a its) (hc' : ItemsAt w a' its) (hl : its.length ≤ maxLen) :
    Calls Tryz.prog 10 #[.agg #[.int .i64 lim, .int .i64 nx, .slice a its.length cap], .agg #[.int .i64 lim, .int .i64 nx, .slice a' its.length cap']] w fun e w' => e = .returned (.bool true) ∧ Below w.heap.size w w' := by
  have HC := hide hc
  have HC' := hide hc'
  clear hc hc'
  go_enter Tryz.func10, Tryz.ntmps10
  go_wp2_with fail
  refine (eqItemS_same a a' cap cap' its _ ?_ ?_ hl).mono ?_
  · exact (unhide HC).below (bel2 w _ _) (Nat.le_refl _)
  · exact (unhide HC').below (bel2 w _ _) (Nat.le_refl _)
  rintro e w1 ⟨rfl, hb1⟩
  have hb1 := hide ((bel2 w _ _).trans (hb1.mono (by simp; omega)))
  go_wp2
  go_ret
  exact ⟨rfl, unhide hb1⟩
end Items
end Go.Proofs.YthlcmnjaimffdaaGreatDoor
