/-
  The law's eqItem and eqItemS.
-/
import Derived.Test.YtghckjmpcokhcaaDoorItemsP
import Derived.Test.YtghckjmpcokhcaaDoorRows
import Derived.Deep.RegionWith
import Derived.BigQuiet
import Derived.Deep.QuietTactic
namespace Go.Proofs.YtghckjmpcokhcaaDoor
namespace Items
open Go.RowKit Base
set_option linter.unusedVariables false
set_option maxHeartbeats 400000 in
theorem eqItem_same (x : Itm) (w : World) :
    Calls Tryd.prog 11 #[.agg #[.string x.key, .int .i64 x.flags, .string x.data, .int .i64 x.upto, .int .i64 x.token], .agg #[.string x.key, .int .i64 x.flags, .string x.data, .int .i64 x.upto, .int .i64 x.token]] w fun e w' =>
      e = .returned (.bool true) ∧ Below w.heap.size w w' := by
  obtain ⟨ky, fl, dt, up, tk⟩ := x
  go_enter Tryd.func11, Tryd.ntmps11
  go_wp2
  go_ret
  exact ⟨rfl, bel2 w _ _⟩

set_option maxHeartbeats 1000000 in
theorem eqItemS_some (b off cap b' off' cap' : Nat) (its : List Itm) (w : World) (hb : b < w.heap.size) (hc : ∀ i, i < its.length → At w b (off + i * 5) (its.getD i zero))
    (hb' : b' < w.heap.size) (hc' : ∀ i, i < its.length → At w b' (off' + i * 5) (its.getD i zero)) (hl : its.length ≤ maxLen) :
    Calls Tryd.prog 6 #[.slice (some ⟨b, off, none⟩) its.length cap, .slice (some ⟨b', off', none⟩) its.length cap'] w fun e w' => e = .returned (.bool true) ∧ Below w.heap.size w w' := by
  unfold maxLen at hl
  have hcs := hide hc
  have hcs' := hide hc'
  clear hc hc'
  go_enter Tryd.func6, Tryd.ntmps6
  go_wp2
  go_loopw [5] (fun i wr => ∃ k : Nat, k ≤ its.length ∧ i = .int .i64 k ∧ Hid (Below w.heap.size w wr)) (fun i _ => its.length - (intOf i).toNat)
  case atStart => exact ⟨0, Nat.zero_le _, rfl, hide (Below.refl _ _)⟩
  case round =>
    obtain ⟨k, hk, rfl, hbel⟩ := hrel
    by_cases hlt : k < its.length
    · obtain ⟨c0, c1, c2, c3, c4⟩ := (unhide hcs k hlt).below (unhide hbel) hb
      obtain ⟨d0, d1, d2, d3, d4⟩ := (unhide hcs' k hlt).below (unhide hbel) hb'
      generalize its.getD k zero = x at c0 c1 c2 c3 c4 d0 d1 d2 d3 d4
      go_wp2
      go_region_with (go_at_call 11; refine (eqItem_same x _).mono ?_; rintro e w1 ⟨rfl, hb1⟩; have hb1 := hide hb1)
      all_goals
        go_wp2
        go_roundw
        case rel => exact ⟨k + 1, by omega, by go_num, hide ((unhide hbel).drew.trans ((unhide hb1).mono (unhide hbel).size))⟩
        case measure => simp [intOf]; omega
    · go_wp2
      go_ret
      exact ⟨rfl, unhide hbel⟩

set_option maxHeartbeats 400000 in
theorem eqItemS_same (a a' : Option Addr) (cap cap' : Nat) (its : List Itm) (w : World) (hc : ItemsAt w a its) (hc' : ItemsAt w a' its) (hl : its.length ≤ maxLen) :
    Calls Tryd.prog 6 #[.slice a its.length cap, .slice a' its.length cap'] w fun e w' => e = .returned (.bool true) ∧ Below w.heap.size w w' := by
  by_cases hne : its = []
  · subst hne
    go_enter Tryd.func6, Tryd.ntmps6
    go_wp2
    go_loop [5] (fun i => i = .int .i64 0) (fun _ => 0)
    case atStart => exact rfl
    case round =>
      obtain rfl := hrel
      go_wp2
      go_ret
      exact ⟨rfl, Below.refl _ _⟩
  · obtain ⟨b, off, rfl, hb, hcc⟩ := hc hne
    obtain ⟨b', off', rfl, hb', hcc'⟩ := hc' hne
    exact eqItemS_some b off cap b' off' cap' its w hb hcc hb' hcc' hl
end Items
end Go.Proofs.YtghckjmpcokhcaaDoor
