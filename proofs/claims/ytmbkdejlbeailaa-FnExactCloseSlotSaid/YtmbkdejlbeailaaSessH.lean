/-
  Contracts of the law files' helpers over sessions: szSession, toSession, eqSession.
-/
import Derived.Test.YtmbkdejlbeailaaSlotH
namespace Go.Proofs.Ytmbkdejlbeailaa
namespace Sess
open Go.RowKit Base Slots
set_option linter.unusedVariables false

set_option maxRecDepth 10000 in
set_option maxHeartbeats 400000 in
theorem szSession_any (nx : Int) (a : Option Addr) (cap : Nat) (l : List D) (left : Int) (w : World) (hc : LAt w a l)
    (hl : l.length ≤ maxLen) (hs : ∀ x ∈ l, Fits x) (h0 : 0 ≤ left) (h1 : left ≤ 1048576) :
    Calls Try.prog 8 #[.agg #[.int .i64 nx, .slice a l.length cap], .int .i64 left] w fun e w' => e = .returned (.int .i64 (szL l left)) ∧ Below w.heap.size w w' := by
  have hcal := fun o => sz_any a cap l left (w.alloc o) (hc.below (bel1 w o) (Nat.le_refl _)) hl hs h0 h1
  have hbd := szL_bd l left h0
  generalize szL l left = z at hcal hbd ⊢
  have HC := hide hcal
  clear hcal hs
  by_cases g : z < 0
  · obtain rfl : z = -1 := by omega
    go_enter Try.func8, Try.ntmps8
    go_wp2_with fail
    refine (unhide HC _).mono ?_
    rintro e w1 ⟨rfl, hb1⟩
    have hb1 := hide ((bel1 w _).trans (hb1.mono (by simp)))
    go_wp2
    go_ret
    exact ⟨rfl, unhide hb1⟩
  · go_enter Try.func8, Try.ntmps8
    go_wp2_with fail
    refine (unhide HC _).mono ?_
    rintro e w1 ⟨rfl, hb1⟩
    have hb1 := hide ((bel1 w _).trans (hb1.mono (by simp)))
    go_wp2
    go_ret
    exact ⟨rfl, unhide hb1⟩

set_option maxRecDepth 10000 in
set_option maxHeartbeats 400000 in
theorem toSession_any (nx : Int) (a : Option Addr) (cap : Nat) (l : List D) (w : World) (hc : LAt w a l) (hl : l.length ≤ 1048576) :
    Calls Try.prog 10 #[.agg #[.int .i64 nx, .slice a l.length cap]] w fun e w' =>
      ∃ b, e = .returned (.agg #[.int .i64 nx, .slice (some ⟨b, 0, none⟩) l.length l.length]) ∧ w.heap.size ≤ b ∧ w'.rowIs b 55 (l.length * 3) (icell l) ∧ Below w.heap.size w w' := by
  have HC := hide hc
  clear hc
  go_enter Try.func10, Try.ntmps10
  go_wp2_with fail
  refine (to_any a cap l _ ?_ hl).mono ?_
  · exact (unhide HC).below (bel3 w _ _ _) (Nat.le_refl _)
  rintro e w1 ⟨rfl, hrow, hbel⟩
  obtain ⟨hcw, hfw⟩ := bcell hbel (Nat.le_refl _)
  have hrow3 : Hid (w1.rowIs (w.heap.size + 3) 55 (l.length * 3) (icell l)) := by
    simp only [World.size_alloc] at hrow; exact hrow
  have hbel3 : Hid (Below w.heap.size w w1) := (bel3 w _ _ _).trans (hbel.mono (by simp; omega))
  have hz : w.heap.size + 3 < w1.heap.size := (unhide hrow3).lt
  clear hrow hbel
  go_wp2
  refine bodyPost_ret (v := .agg #[.int .i64 nx, .slice (some ⟨w.heap.size + 3, 0, none⟩) l.length l.length]) (by simp [results, Try.results10, go_sem, hcw]) rfl ⟨w.heap.size + 3, rfl, by omega, ?_, ?_⟩
  · repeat (refine World.rowIs.setOther ?_ (by first | (simp; done) | (simp; omega)) _)
    exact unhide hrow3
  · repeat (refine Below.setCell ?_ (by first | (simp; done) | (simp; omega)) _)
    exact unhide hbel3

set_option maxRecDepth 10000 in
set_option maxHeartbeats 400000 in
theorem eqSession_same (nx : Int) (a a' : Option Addr) (cap cap' : Nat) (l : List D) (w : World) (hc : LAt w a l) (hc' : LAt w a' l) (hl : l.length ≤ maxLen) :
    Calls Try.prog 12 #[.agg #[.int .i64 nx, .slice a l.length cap], .agg #[.int .i64 nx, .slice a' l.length cap']] w fun e w' => e = .returned (.bool true) ∧ Below w.heap.size w w' := by
  have HC := hide hc
  have HC' := hide hc'
  clear hc hc'
  go_enter Try.func12, Try.ntmps12
  go_wp2_with fail
  refine (eq_same a a' cap cap' l _ ?_ ?_ hl).mono ?_
  · exact (unhide HC).below (bel2 w _ _) (Nat.le_refl _)
  · exact (unhide HC').below (bel2 w _ _) (Nat.le_refl _)
  rintro e w1 ⟨rfl, hb1⟩
  have hb1 := hide ((bel2 w _ _).trans (hb1.mono (by simp; omega)))
  go_wp2
  go_ret
  exact ⟨rfl, unhide hb1⟩
end Sess
end Go.Proofs.Ytmbkdejlbeailaa
