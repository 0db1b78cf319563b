/-
  Contracts of the law files' helpers over the struct Point and slices of it: eq (written by a program of mine).
-/
import Derived.Test.YtcbmdloapmmghaaDoorPointP
import Derived.Test.YtcbmdloapmmghaaDoorRows
import Derived.Deep.RegionWith
namespace Go.Proofs.YtcbmdloapmmghaaDoor
namespace Points
open Go.RowKit Base
set_option linter.unusedVariables false

set_option maxRecDepth 10000 in
set_option maxHeartbeats 400000 in
theorem eq1_same (x : D) (w : World) :
    Calls Tryd.prog 37 #[.agg #[.int .u32 x.pos, .string x.name], .agg #[.int .u32 x.pos, .string x.name]] w fun e w' => e = .returned (.bool true) ∧ Below w.heap.size w w' := by
  obtain ⟨pos, name⟩ := x
  go_enter Tryd.func37, Tryd.ntmps37
  go_wp2
  go_ret
  exact ⟨rfl, bel2 w _ _⟩

set_option maxRecDepth 10000 in
set_option maxHeartbeats 1000000 in
theorem eq_some (b off cap b' off' cap' : Nat) (l : List D) (w : World) (hb : b < w.heap.size) (hc : ∀ i, i < l.length → At w b (off + i * 2) (l.getD i zero))
    (hb' : b' < w.heap.size) (hc' : ∀ i, i < l.length → At w b' (off' + i * 2) (l.getD i zero)) (hl : l.length ≤ maxLen) :
    Calls Tryd.prog 11 #[.slice (some ⟨b, off, none⟩) l.length cap, .slice (some ⟨b', off', none⟩) l.length cap'] w fun e w' => e = .returned (.bool true) ∧ Below w.heap.size w w' := by
  unfold maxLen at hl
  have hcs := hide hc
  have hcs' := hide hc'
  clear hc hc'
  go_enter Tryd.func11, Tryd.ntmps11
  go_wp2
  go_loopw [5] (fun i wr => ∃ k : Nat, k ≤ l.length ∧ i = .int .i64 k ∧ Hid (Below w.heap.size w wr)) (fun i _ => l.length - (intOf i).toNat)
  case atStart => exact ⟨0, Nat.zero_le _, rfl, hide (Below.refl _ _)⟩
  case round =>
    obtain ⟨k, hk, rfl, hbel⟩ := hrel
    by_cases hlt : k < l.length
    · obtain ⟨c0, c1⟩ := (unhide hcs k hlt).below (unhide hbel) hb
      obtain ⟨d0, d1⟩ := (unhide hcs' k hlt).below (unhide hbel) hb'
      generalize l.getD k zero = x at c0 c1 d0 d1
      go_wp2
      go_region_with (go_at_call 37; refine (eq1_same x _).mono ?_; rintro e w1 ⟨rfl, hb1⟩; have hb1 := hide hb1)
      all_goals
        go_wp2
        go_roundw
        case rel => exact ⟨k + 1, by omega, by go_num, hide ((unhide hbel).drew.trans ((unhide hb1).mono (unhide hbel).size))⟩
        case measure => simp [intOf]; omega
    · go_wp2
      go_ret
      exact ⟨rfl, unhide hbel⟩

set_option maxRecDepth 10000 in
set_option maxHeartbeats 400000 in
theorem eq_same (a a' : Option Addr) (cap cap' : Nat) (l : List D) (w : World) (hc : LAt w a l) (hc' : LAt w a' l) (hl : l.length ≤ maxLen) :
    Calls Tryd.prog 11 #[.slice a l.length cap, .slice a' l.length cap'] w fun e w' => e = .returned (.bool true) ∧ Below w.heap.size w w' := by
  by_cases hne : l = []
  · subst hne
    go_enter Tryd.func11, Tryd.ntmps11
    go_wp2
    go_loop [5] (fun i => i = .int .i64 0) (fun _ => 0)
    case atStart => exact rfl
    case round =>
      obtain rfl := hrel
      go_wp2
      go_ret
      exact ⟨rfl, Below.refl _ _⟩
  · obtain ⟨b, off, rfl, hb, hcc⟩ := hc hne
    obtain ⟨b', off', rfl, hb', hcc'⟩ := hc' hne
    exact eq_some b off cap b' off' cap' l w hb hcc hb' hcc' hl
end Points
end Go.Proofs.YtcbmdloapmmghaaDoor
