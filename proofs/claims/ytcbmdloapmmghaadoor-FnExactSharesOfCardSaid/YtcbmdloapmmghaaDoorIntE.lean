/-
  The contract of the law files' eqIntS, for two slices of the same numbers.
-/
import Derived.Test.YtcbmdloapmmghaaDoorSharesP
import Derived.BigQuiet
import Derived.Deep.QuietTactic
namespace Go.Proofs.YtcbmdloapmmghaaDoor
namespace Ints
open Go.RowKit Base Ring
set_option linter.unusedVariables false

/-- A slice of numbers that lies in memory. -/
def NAt (w : World) (a : Option Addr) (l : List Int) : Prop := l ≠ [] → ∃ b off, a = some ⟨b, off, none⟩ ∧ b < w.heap.size ∧ ∀ i, i < l.length → w.cell? ⟨b, off + i, none⟩ = some (.int .i64 (l.getD i 0))
theorem ours_at {w : World} {a : Option Addr} {l : List Int} {r : Option Nat} (h : IntsM.Ours w a l.length (ncell l) r) : NAt w a l := by
  intro hne
  rcases h with ⟨h0, _⟩ | ⟨g, ha, _, hrow⟩
  · exact absurd (List.length_eq_zero_iff.1 h0) hne
  · refine ⟨g, 0, ha, hrow.lt, fun i hi => ?_⟩
    rw [Nat.zero_add, hrow.cell hi]
    rfl

set_option maxRecDepth 10000 in
set_option maxHeartbeats 1000000 in
theorem eq_some (b off cap b' off' cap' : Nat) (l : List Int) (w : World) (hb : b < w.heap.size) (hc : ∀ i, i < l.length → w.cell? ⟨b, off + i, none⟩ = some (.int .i64 (l.getD i 0)))
    (hb' : b' < w.heap.size) (hc' : ∀ i, i < l.length → w.cell? ⟨b', off' + i, none⟩ = some (.int .i64 (l.getD i 0))) (hl : l.length ≤ maxLen) :
    Calls Tryd.prog 27 #[.slice (some ⟨b, off, none⟩) l.length cap, .slice (some ⟨b', off', none⟩) l.length cap'] w fun e w' => e = .returned (.bool true) ∧ Below w.heap.size w w' := by
  unfold maxLen at hl
  have hcs := hide hc
  have hcs' := hide hc'
  clear hc hc'
  go_enter Tryd.func27, Tryd.ntmps27
  go_wp2
  go_loopw [5] (fun i wr => ∃ k : Nat, k ≤ l.length ∧ i = .int .i64 k ∧ Hid (Below w.heap.size w wr)) (fun i _ => l.length - (intOf i).toNat)
  case atStart => exact ⟨0, Nat.zero_le _, rfl, hide (Below.refl _ _)⟩
  case round =>
    obtain ⟨k, hk, rfl, hbel⟩ := hrel
    by_cases hlt : k < l.length
    · have c0 := ((unhide hbel).cell (p := ⟨b, off + k, none⟩) hb).trans (unhide hcs k hlt)
      have c1 := ((unhide hbel).cell (p := ⟨b', off' + k, none⟩) hb').trans (unhide hcs' k hlt)
      generalize l.getD k 0 = x at c0 c1
      have hxx : (x != x) = false := by simp
      have hkl : (k : Int) < (l.length : Int) := by omega
      have hk0 : (0 : Int) ≤ (k : Int) := by omega
      go_wp2
      go_quiet (fail)
      go_wp2
      go_roundw
      case rel => exact ⟨k + 1, by omega, by go_num, hide (bel_draws (unhide hbel) _)⟩
      case measure => simp [intOf]; omega
    · go_wp2
      go_ret
      exact ⟨rfl, unhide hbel⟩

set_option maxRecDepth 10000 in
set_option maxHeartbeats 400000 in
theorem eq_same (a a' : Option Addr) (cap cap' : Nat) (l : List Int) (w : World) (hc : NAt w a l) (hc' : NAt w a' l) (hl : l.length ≤ maxLen) :
    Calls Tryd.prog 27 #[.slice a l.length cap, .slice a' l.length cap'] w fun e w' => e = .returned (.bool true) ∧ Below w.heap.size w w' := by
  by_cases hne : l = []
  · subst hne
    go_enter Tryd.func27, Tryd.ntmps27
    go_wp2
    go_loop [5] (fun i => i = .int .i64 0) (fun _ => 0)
    case atStart => exact rfl
    case round =>
      obtain rfl := hrel
      go_wp2
      go_ret
      exact ⟨rfl, Below.refl _ _⟩
  · obtain ⟨b, off, rfl, hb, hcc⟩ := hc hne
    obtain ⟨b', off', rfl, hb', hcc'⟩ := hc' hne
    exact eq_some b off cap b' off' cap' l w hb hcc hb' hcc' hl
end Ints
end Go.Proofs.YtcbmdloapmmghaaDoor
