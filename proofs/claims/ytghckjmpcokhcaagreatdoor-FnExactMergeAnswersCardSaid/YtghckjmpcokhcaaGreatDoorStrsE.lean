/-
  The contract of the law files' eqStringS.
-/
import Derived.Test.YtghckjmpcokhcaaGreatDoorRows
import Derived.Test.YtghckjmpcokhcaaGreatDoorBase
import Derived.WalkKit
import Derived.ProofKit
import Derived.BigQuiet
import Derived.Deep.QuietTactic
namespace Go.Proofs.YtghckjmpcokhcaaGreatDoor
namespace Strs
open Go.RowKit Base
set_option linter.unusedVariables false

theorem getD_eq {ss tt : List ByteArray} (hn : ss.length = tt.length) (k : Nat) (hlt : k < ss.length) (h : ss.take k = tt.take k) (e : ss.getD k ByteArray.empty = tt.getD k ByteArray.empty) : ss.take (k + 1) = tt.take (k + 1) := by
  rw [List.take_succ_eq_append_getElem hlt, List.take_succ_eq_append_getElem (by omega), h]
  simp [List.getD_eq_getElem?_getD, List.getElem?_eq_getElem hlt, List.getElem?_eq_getElem (show k < tt.length by omega)] at e
  rw [e]

set_option maxHeartbeats 400000 in
theorem eq_some (b off cap : Nat) (ss : List ByteArray) (b' off' cap' : Nat) (tt : List ByteArray) (w : World)
    (hc : ∀ i, i < ss.length → w.cell? ⟨b, off + i, none⟩ = some (.string (ss.getD i ByteArray.empty)))
    (hc' : ∀ i, i < tt.length → w.cell? ⟨b', off' + i, none⟩ = some (.string (tt.getD i ByteArray.empty))) (hl : ss.length ≤ maxLen) (hl' : tt.length ≤ maxLen) :
    Calls Tryz.prog 18 #[.slice (some ⟨b, off, none⟩) ss.length cap, .slice (some ⟨b', off', none⟩) tt.length cap'] w fun e w' =>
      e = .returned (.bool (decide (ss = tt))) ∧ ∃ n, w' = w.drewN n := by
  unfold maxLen at hl hl'
  by_cases hn : ss.length = tt.length
  · have hnb : ((ss.length : Int) != (tt.length : Int)) = false := by rw [hn]; simp
    have HN := hide hn
    clear hn
    have hcs := hide hc
    have hcs' := hide hc'
    clear hc hc'
    go_enter Tryz.func18, Tryz.ntmps18
    go_wp2
    go_loopw [5] (fun i wr => ∃ k n : Nat, k ≤ ss.length ∧ i = .int .i64 k ∧ wr = w.drewN n ∧ Hid (ss.take k = tt.take k)) (fun i _ => ss.length - (intOf i).toNat)
    case atStart => exact ⟨0, 0, Nat.zero_le _, rfl, rfl, hide rfl⟩
    case round =>
      obtain ⟨k, n, hk, rfl, rfl, ht⟩ := hrel
      by_cases hlt : k < ss.length
      · have hlt' : k < tt.length := by have := unhide HN; omega
        have hck := unhide hcs k hlt
        have hck' := unhide hcs' k hlt'
        have hg := hide (getD_eq (unhide HN) k hlt (unhide ht))
        have hne : Hid (ss.getD k ByteArray.empty ≠ tt.getD k ByteArray.empty → decide (ss = tt) = false) := by
          intro h; simp; intro e; exact h (by rw [e])
        generalize ss.getD k ByteArray.empty = s at hck hg hne
        generalize tt.getD k ByteArray.empty = t at hck' hg hne
        by_cases e : s = t
        · subst e
          have hg2 := hide (unhide hg rfl)
          clear hg hne
          go_wp2
          go_quiet (fail)
          go_wp2
          go_roundw
          case rel => exact ⟨k + 1, _, by omega, by go_num, rfl, hg2⟩
          case measure => simp [intOf]; omega
        · have hd := hide (unhide hne e)
          have hnb2 := str_ne e
          clear hg hne
          go_wp2
          go_quiet (fail)
          go_wp2
          go_ret
          exact ⟨ret_bool (unhide hd).symm, _, World.drewN_drewN _ _ _⟩
      · have hd : Hid (decide (ss = tt) = true) := by
          show decide (ss = tt) = true
          have h := unhide ht
          have h2 := unhide HN
          rw [List.take_of_length_le (by omega), List.take_of_length_le (by omega)] at h
          simp [h]
        go_wp2
        go_ret
        exact ⟨ret_bool (unhide hd).symm, _, rfl⟩
  · have hnb : ((ss.length : Int) != (tt.length : Int)) = true := by simp; omega
    have hd : Hid (decide (ss = tt) = false) := by
      show decide (ss = tt) = false
      simp; intro e; exact hn (by rw [e])
    clear hn
    go_enter Tryz.func18, Tryz.ntmps18
    go_wp2
    go_ret
    exact ⟨ret_bool (unhide hd).symm, 0, rfl⟩

set_option maxHeartbeats 400000 in
theorem eq_any (a : Option Addr) (cap : Nat) (ss : List ByteArray) (a' : Option Addr) (cap' : Nat) (tt : List ByteArray) (w : World) (hc : StrsAt w a ss) (hc' : StrsAt w a' tt) (hl : ss.length ≤ maxLen) (hl' : tt.length ≤ maxLen) :
    Calls Tryz.prog 18 #[.slice a ss.length cap, .slice a' tt.length cap'] w fun e w' =>
      e = .returned (.bool (decide (ss = tt))) ∧ ∃ n, w' = w.drewN n := by
  by_cases hne : ss = []
  · subst hne
    by_cases hne' : tt = []
    · subst hne'
      go_enter Tryz.func18, Tryz.ntmps18
      go_wp2
      go_loop [5] (fun i => i = .int .i64 0) (fun _ => 0)
      case atStart => exact rfl
      case round =>
        obtain rfl := hrel
        go_wp2
        go_ret
        exact ⟨ret_bool (by simp), 0, rfl⟩
    · have hnb : ((0 : Int) != (tt.length : Int)) = true := by have := List.length_pos_iff.2 hne'; simp; omega
      have hd : Hid (decide (([] : List ByteArray) = tt) = false) := by
        show decide (([] : List ByteArray) = tt) = false
        simp; intro e; exact hne' e
      clear hne'
      unfold maxLen at hl'
      go_enter Tryz.func18, Tryz.ntmps18
      go_wp2
      go_ret
      exact ⟨ret_bool (unhide hd).symm, 0, rfl⟩
  · obtain ⟨b, off, rfl, _, hcc⟩ := hc hne
    by_cases hne' : tt = []
    · subst hne'
      have hnb : ((ss.length : Int) != 0) = true := by have := List.length_pos_iff.2 hne; simp; omega
      have hd : Hid (decide (ss = ([] : List ByteArray)) = false) := by
        show decide (ss = ([] : List ByteArray)) = false
        simp; exact hne
      clear hne
      unfold maxLen at hl
      go_enter Tryz.func18, Tryz.ntmps18
      go_wp2
      go_ret
      exact ⟨ret_bool (unhide hd).symm, 0, rfl⟩
    · obtain ⟨b', off', rfl, _, hcc'⟩ := hc' hne'
      exact eq_some b off cap ss b' off' cap' tt w hcc hcc' hl hl'
theorem eq_bel (a : Option Addr) (cap : Nat) (ss : List ByteArray) (a' : Option Addr) (cap' : Nat) (w : World) (hc : StrsAt w a ss) (hc' : StrsAt w a' ss) (hl : ss.length ≤ maxLen) :
    Calls Tryz.prog 18 #[.slice a ss.length cap, .slice a' ss.length cap'] w fun e w' => e = .returned (.bool true) ∧ Below w.heap.size w w' :=
  (eq_any a cap ss a' cap' ss w hc hc' hl hl).mono fun e w' ⟨he, n, hw⟩ => ⟨by rw [he]; simp, by rw [hw]; exact bel_draws (Below.refl _ _) n⟩
end Strs
end Go.Proofs.YtghckjmpcokhcaaGreatDoor
