/-
  Contracts of the law files' helpers over slices of strings: szStringS, toStringS, eqStringS, each for every slice of strings (toStringS: of at most 1048576).
-/
import Derived.Test.YtghckjmpcokhcaaGreatDoorRows
import Derived.Test.YtghckjmpcokhcaaGreatDoorBase
import Derived.Test.YtghckjmpcokhcaaGreatDoorStrsE
import Derived.WalkKit
import Derived.ProofKit
import Derived.BigQuiet
import Derived.Deep.QuietTactic
namespace Go.Proofs.YtghckjmpcokhcaaGreatDoor
namespace Strs
open Go.RowKit Base
set_option linter.unusedVariables false

set_option maxHeartbeats 400000 in
theorem sz_some (b off cap : Nat) (ss : List ByteArray) (left : Int) (w : World) (hc : ∀ i, i < ss.length → w.cell? ⟨b, off + i, none⟩ = some (.string (ss.getD i ByteArray.empty)))
    (hl : ss.length ≤ maxLen) (hs : ∀ s ∈ ss, s.size ≤ maxLen) (h0 : 0 ≤ left) (h1 : left ≤ 1048576) :
    Calls Tryz.prog 13 #[.slice (some ⟨b, off, none⟩) ss.length cap, .int .i64 left] w fun e w' => e = .returned (.int .i64 (szS ss left)) ∧ w' = w := by
  unfold maxLen at hl hs
  by_cases g : left - ss.length < 0
  · have H : Hid (szS ss left = -1) := by unfold szS; rw [if_pos g]; exact rfl
    go_enter Tryz.func13, Tryz.ntmps13
    go_wp2
    go_ret
    exact ⟨ret_int (unhide H).symm, rfl⟩
  have HE : Hid (szS ss left = szGo ss (left - ss.length)) := by unfold szS; rw [if_neg g]; exact rfl
  have hcs := hide hc
  clear hc
  have hss := hide hs
  clear hs
  go_enter Tryz.func13, Tryz.ntmps13
  go_wp2
  go_loop [1, 5] (fun l i => ∃ (k : Nat) (z : Int), k ≤ ss.length ∧ 0 ≤ z ∧ z ≤ 1048576 ∧ i = .int .i64 k ∧ l = .int .i64 z ∧ Hid (szGo ss (left - ss.length) = szGo (ss.drop k) z)) (fun _ i => ss.length - (intOf i).toNat)
  case atStart => exact ⟨0, left - ss.length, Nat.zero_le _, by omega, by omega, rfl, rfl, hide (by simp)⟩
  case round =>
    obtain ⟨k, z, hk, hz0, hz1, rfl, rfl, hr⟩ := hrel
    by_cases hlt : k < ss.length
    · have hck := unhide hcs k hlt
      have hsk : (ss.getD k ByteArray.empty).size ≤ 2 ^ 63 - 1 := unhide hss _ (by rw [List.getD_eq_getElem?_getD, List.getElem?_eq_getElem hlt]; simp)
      have hd := szGo_drop ss k hlt z
      generalize ss.getD k ByteArray.empty = s at hck hsk hd
      by_cases g2 : z - s.size < 0
      · have H : Hid (szS ss left = -1) := by show szS ss left = -1; rw [unhide HE, unhide hr, hd, if_pos g2]
        clear hd
        go_wp2
        go_ret
        exact ⟨ret_int (unhide H).symm, rfl⟩
      · have H : Hid (szGo ss (left - ss.length) = szGo (ss.drop (k + 1)) (z - s.size)) := by show szGo ss (left - ss.length) = _; rw [unhide hr, hd, if_neg g2]
        clear hd
        go_wp2
        go_round
        case rel => exact ⟨k + 1, z - s.size, by omega, by omega, by omega, by go_num, rfl, H⟩
        case measure => simp [intOf]; omega
    · have H : Hid (szS ss left = z) := by show szS ss left = z; rw [unhide HE, unhide hr, List.drop_of_length_le (by omega)]; rfl
      go_wp2
      go_ret
      exact ⟨ret_int (unhide H).symm, rfl⟩

theorem sz_any (a : Option Addr) (cap : Nat) (ss : List ByteArray) (left : Int) (w : World) (hc : StrsAt w a ss)
    (hl : ss.length ≤ maxLen) (hs : ∀ s ∈ ss, s.size ≤ maxLen) (h0 : 0 ≤ left) (h1 : left ≤ 1048576) :
    Calls Tryz.prog 13 #[.slice a ss.length cap, .int .i64 left] w fun e w' => e = .returned (.int .i64 (szS ss left)) ∧ w' = w := by
  by_cases hne : ss = []
  · subst hne
    have H : Hid (szS [] left = left) := by show szS [] left = left; unfold szS; rw [if_neg (by simp; omega)]; simp [szGo]
    go_enter Tryz.func13, Tryz.ntmps13
    go_wp2
    go_loop [1, 5] (fun l i => i = .int .i64 0 ∧ l = .int .i64 left) (fun _ _ => 0)
    case atStart => exact ⟨rfl, rfl⟩
    case round =>
      obtain ⟨rfl, rfl⟩ := hrel
      go_wp2
      go_ret
      exact ⟨ret_int (unhide H).symm, rfl⟩
  · obtain ⟨b, off, rfl, _, hcc⟩ := hc hne
    exact sz_some b off cap ss left w hcc hl hs h0 h1

theorem info_str : (Tryz.prog.info? 9).map (fun i => (i.zero, i.size, i.bytes)) = some (some (.string ByteArray.empty), 1, 16) := by kernel_rfl

/-- The row of toStringS behind k rounds. -/
def half (ss : List ByteArray) (k j : Nat) : Value := if j < k then .string (ss.getD j ByteArray.empty) else .string ByteArray.empty
theorem half_step (ss : List ByteArray) (k : Nat) : ∀ i, (if i = k then Value.string (ss.getD k ByteArray.empty) else half ss k i) = half ss (k + 1) i := by
  intro i
  unfold half
  by_cases e : i = k
  · subst e; simp
  · rw [if_neg e]
    by_cases h : i < k
    · rw [if_pos h, if_pos (by omega)]
    · rw [if_neg h, if_neg (by omega)]

set_option maxHeartbeats 400000 in
theorem to_some (b off cap : Nat) (ss : List ByteArray) (w : World) (hb : b < w.heap.size) (hc : ∀ i, i < ss.length → w.cell? ⟨b, off + i, none⟩ = some (.string (ss.getD i ByteArray.empty)))
    (hl : ss.length ≤ 1048576) :
    Calls Tryz.prog 16 #[.slice (some ⟨b, off, none⟩) ss.length cap] w fun e w' =>
      e = .returned (.slice (some ⟨w.heap.size, 0, none⟩) ss.length ss.length) ∧ w'.rowIs w.heap.size 9 ss.length (fun i => .string (ss.getD i ByteArray.empty)) ∧ w'.heap.size = w.heap.size + 1 ∧ Below w.heap.size w w' := by
  have hmk := fun w => run_make_row' (P := Tryz.prog) 24 9 (.string ByteArray.empty) 16 Tryz.underlying24 info_str rfl .i64 .i64 ss.length (by omega) (by omega) w
  have hcs := hide hc
  clear hc
  go_enter Tryz.func16, Tryz.ntmps16
  go_wp2
  go_loopw [4] (fun i wr => ∃ k : Nat, k ≤ ss.length ∧ i = .int .i64 k ∧ Hid (wr.rowIs w.heap.size 9 ss.length (half ss k)) ∧ Hid (wr.heap.size = w.heap.size + 1) ∧ Hid (Below w.heap.size w wr)) (fun i _ => ss.length - (intOf i).toNat)
  case atStart => exact ⟨0, Nat.zero_le _, rfl, hide ((World.rowIs_made w _ _ _).congr (fun i _ => by simp [half])), hide (by simp), hide ((Below.refl _ _).alloc (Nat.le_refl _) _)⟩
  case round =>
    obtain ⟨k, hk, rfl, hrow, hsz, hbel⟩ := hrel
    by_cases hlt : k < ss.length
    · have hck : wr.cell? ⟨b, off + k, none⟩ = some (.string (ss.getD k ByteArray.empty)) := by
        rw [(unhide hbel).cell (p := ⟨b, off + k, none⟩) hb]; exact unhide hcs k hlt
      have hdst := (unhide hrow).cell hlt
      have hfr := (unhide hrow).frozen k
      have hset := hide ((unhide hrow).set k (.string (ss.getD k ByteArray.empty)))
      have hst := hide (half_step ss k)
      have hbel2 := hide ((unhide hbel).setCell (p := ⟨w.heap.size, k, none⟩) (Nat.le_refl _) (.string (ss.getD k ByteArray.empty)))
      generalize ss.getD k ByteArray.empty = s at hck hset hst hbel2
      generalize half ss k k = old at hdst
      go_wp2
      go_roundw
      case rel => exact ⟨k + 1, by omega, by go_num, hide ((unhide hset).congr (fun i _ => unhide hst i)), hide (by simpa [World.setCell] using unhide hsz), hbel2⟩
      case measure => simp [intOf]; omega
    · go_wp2
      go_ret
      exact ⟨rfl, (unhide hrow).congr (fun i hi => by unfold half; rw [if_pos (by omega)]), unhide hsz, unhide hbel⟩

set_option maxHeartbeats 400000 in
theorem to_any (a : Option Addr) (cap : Nat) (ss : List ByteArray) (w : World) (hc : StrsAt w a ss) (hl : ss.length ≤ 1048576) :
    Calls Tryz.prog 16 #[.slice a ss.length cap] w fun e w' =>
      e = .returned (.slice (some ⟨w.heap.size, 0, none⟩) ss.length ss.length) ∧ w'.rowIs w.heap.size 9 ss.length (fun i => .string (ss.getD i ByteArray.empty)) ∧ w'.heap.size = w.heap.size + 1 ∧ Below w.heap.size w w' := by
  by_cases hne : ss = []
  · subst hne
    have hmk : ∀ w, (Instr.makeSlice 24 (.int .i64 0) (.int .i64 0)).run Tryz.prog w = .ok (.slice (some ⟨w.heap.size, 0, none⟩) 0 0) (w.alloc (.cells (madeCells #[.string ByteArray.empty] 0) 9)) :=
      fun w => run_make_row' (P := Tryz.prog) 24 9 (.string ByteArray.empty) 16 Tryz.underlying24 info_str rfl .i64 .i64 0 (by omega) (by omega) w
    go_enter Tryz.func16, Tryz.ntmps16
    go_wp2
    go_loop [4] (fun i => i = .int .i64 0) (fun _ => 0)
    case atStart => exact rfl
    case round =>
      obtain rfl := hrel
      go_wp2
      go_ret
      exact ⟨rfl, (World.rowIs_made w _ _ _).congr (fun i hi => by simp), by simp, (Below.refl _ _).alloc (Nat.le_refl _) _⟩
  · obtain ⟨b, off, rfl, hb, hcc⟩ := hc hne
    exact to_some b off cap ss w hb hcc hl

end Strs
end Go.Proofs.YtghckjmpcokhcaaGreatDoor
/-
  The contracts of the law files' helpers over slices of strings once more, in the form that the laws' walks take.
-/
namespace Go.Proofs.YtghckjmpcokhcaaGreatDoor
namespace Strs
open Go.RowKit Base
set_option linter.unusedVariables false
theorem sz_bel (a : Option Addr) (cap : Nat) (ss : List ByteArray) (left : Int) (w : World) (hc : StrsAt w a ss) (hl : ss.length ≤ maxLen) (hs : ∀ s ∈ ss, s.size ≤ maxLen) (h0 : 0 ≤ left) (h1 : left ≤ 1048576) :
    Calls Tryz.prog 13 #[.slice a ss.length cap, .int .i64 left] w fun e w' => e = .returned (.int .i64 (szS ss left)) ∧ Below w.heap.size w w' :=
  (sz_any a cap ss left w hc hl hs h0 h1).mono fun e w' ⟨he, hw⟩ => ⟨he, by rw [hw]; exact Below.refl _ _⟩
theorem to_bel (a : Option Addr) (cap : Nat) (ss : List ByteArray) (w : World) (hc : StrsAt w a ss) (hl : ss.length ≤ 1048576) :
    Calls Tryz.prog 16 #[.slice a ss.length cap] w fun e w' =>
      e = .returned (.slice (some ⟨w.heap.size, 0, none⟩) ss.length ss.length) ∧ w'.rowIs w.heap.size 9 ss.length (fun i => .string (ss.getD i ByteArray.empty)) ∧ Below w.heap.size w w' :=
  (to_any a cap ss w hc hl).mono fun e w' ⟨he, h1, _, h2⟩ => ⟨he, h1, h2⟩
theorem at_row {w : World} {b : Nat} {t : TypeId} {ss : List ByteArray} (h : w.rowIs b t ss.length (fun i => .string (ss.getD i ByteArray.empty))) (i : Nat) (hi : i < ss.length) : w.cell? ⟨b, 0 + i, none⟩ = some (.string (ss.getD i ByteArray.empty)) := by
  rw [Nat.zero_add]; exact h.cell hi
end Strs
end Go.Proofs.YtghckjmpcokhcaaGreatDoor
