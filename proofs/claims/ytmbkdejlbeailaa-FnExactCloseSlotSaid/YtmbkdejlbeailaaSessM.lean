/-
  Contracts of the law files' markSession and heldSession; slots that lie below a mark.
-/
import Derived.Test.YtmbkdejlbeailaaSlotL
import Derived.Test.YtmbkdejlbeailaaSlotP
namespace Go.Proofs.Ytmbkdejlbeailaa
namespace SlotsM
open Go.RowKit Base Marks
set_option linter.unusedVariables false

set_option maxRecDepth 10000 in
set_option maxHeartbeats 400000 in
theorem session_mark (nx : Int) (a : Option Addr) (cap n : Nat) (f : Nat → Value) (r : Option Nat) (k : Int) (w : World) (hr : Ours w a n f r) (hk0 : 0 < k) (hk1 : k ≤ 1000000000000) (hn : n ≤ 1000000000) :
    Calls Try.prog 15 #[.agg #[.int .i64 nx, .slice a n cap], .int .i64 k] w fun e w' => e = .returned (.int .i64 (k + n * 3)) ∧ Ours w' a n (mcell k) r ∧ w.grownBy w' r := by
  have HC := hide (fun o => mark_any a cap n f r k (w.alloc o) (hr.below (bel1 w o) (Nat.le_refl _)) hk0 hk1 hn)
  clear hr
  go_enter Try.func15, Try.ntmps15
  go_wp2_with fail
  refine (unhide HC _).mono ?_
  rintro e w1 ⟨rfl, h1, h2⟩
  have H1 := hide h1
  have H2 := hide (gb_trans (gb_below (r := r) (bel1 w _) (Nat.le_refl _)) h2)
  clear h1 h2
  go_wp2
  go_ret
  exact ⟨rfl, unhide H1, unhide H2⟩
set_option maxRecDepth 10000 in
set_option maxHeartbeats 400000 in
theorem session_held (nx : Int) (a : Option Addr) (cap n : Nat) (r : Option Nat) (k : Int) (w : World) (hr : Ours w a n (mcell k) r) (hk0 : 0 < k) (hk1 : k ≤ 1000000000000) (hn : n ≤ 1000000000) :
    Calls Try.prog 16 #[.agg #[.int .i64 nx, .slice a n cap], .int .i64 k] w fun e w' => e = .returned (.int .i64 (k + n * 3)) ∧ Below w.heap.size w w' := by
  have HC := hide (fun o => held_any a cap n r k (w.alloc o) (hr.below (bel1 w o) (Nat.le_refl _)) hk0 hk1 hn)
  clear hr
  go_enter Try.func16, Try.ntmps16
  go_wp2_with fail
  refine (unhide HC _).mono ?_
  rintro e w1 ⟨rfl, h1⟩
  have H1 := hide ((bel1 w _).trans (h1.mono (by simp)))
  clear h1
  have hnn : ¬ k + (n : Int) * 3 < 0 := by omega
  go_wp2
  go_ret
  exact ⟨rfl, unhide H1⟩
end SlotsM
namespace Slots
open Go.RowKit Base
/-- Slots that lie in a block below B. -/
def LatB (w : World) (B : Nat) (a : Option Addr) (l : List D) : Prop :=
  l ≠ [] → ∃ b off, a = some ⟨b, off, none⟩ ∧ b < B ∧ b < w.heap.size ∧ ∀ i, i < l.length → At w b (off + i * 3) (l.getD i zero)
theorem LatB.of {w : World} {a : Option Addr} {l : List D} (h : LAt w a l) : LatB w w.heap.size a l := fun hne => by
  obtain ⟨b, off, ha, hb, hc⟩ := h hne
  exact ⟨b, off, ha, hb, hb, hc⟩
theorem LatB.lat {w : World} {B : Nat} {a : Option Addr} {l : List D} (h : LatB w B a l) : LAt w a l := fun hne => by
  obtain ⟨b, off, ha, _, hb, hc⟩ := h hne
  exact ⟨b, off, ha, hb, hc⟩
theorem LatB.below {w w' : World} {B C : Nat} {a : Option Addr} {l : List D} (h : LatB w B a l) (hb : Below C w w') (hC : w.heap.size ≤ C) : LatB w' B a l := fun hne => by
  obtain ⟨b, off, ha, hlt, hz, hc⟩ := h hne
  exact ⟨b, off, ha, hlt, Nat.lt_of_lt_of_le hz hb.size, fun i hi => (hc i hi).below hb (Nat.lt_of_lt_of_le hz hC)⟩
theorem LatB.gb {w w' : World} {B : Nat} {a : Option Addr} {l : List D} {r : Option Nat} (h : LatB w B a l) (hg : w.grownBy w' r) (hne : ∀ g, g < B → some g ≠ r) : LatB w' B a l := fun hn => by
  obtain ⟨b, off, ha, hlt, hz, hc⟩ := h hn
  have e := hg.block b hz (hne b hlt)
  have ec : ∀ o, w'.cell? ⟨b, o, none⟩ = w.cell? ⟨b, o, none⟩ := fun o => World.cell?_of_block (a := ⟨b, o, none⟩) e
  refine ⟨b, off, ha, hlt, Nat.lt_of_lt_of_le hz hg.size, fun i hi => ?_⟩
  obtain ⟨h0, h1, h2⟩ := hc i hi
  exact ⟨(ec _).trans h0, (ec _).trans h1, (ec _).trans h2⟩
end Slots
end Go.Proofs.Ytmbkdejlbeailaa
