/-
  The contracts of the law files' helpers over slices of strings once more, in the form that the laws' walks take.
-/
import Derived.Test.YtmbkdejlbeailaaStrs
namespace Go.Proofs.Ytmbkdejlbeailaa
namespace Strs
open Go.RowKit Base
set_option linter.unusedVariables false
theorem sz_bel (a : Option Addr) (cap : Nat) (ss : List ByteArray) (left : Int) (w : World) (hc : StrsAt w a ss) (hl : ss.length ≤ maxLen) (hs : ∀ s ∈ ss, s.size ≤ maxLen) (h0 : 0 ≤ left) (h1 : left ≤ 1048576) :
    Calls Try.prog 24 #[.slice a ss.length cap, .int .i64 left] w fun e w' => e = .returned (.int .i64 (szS ss left)) ∧ Below w.heap.size w w' :=
  (sz_any a cap ss left w hc hl hs h0 h1).mono fun e w' ⟨he, hw⟩ => ⟨he, by rw [hw]; exact Below.refl _ _⟩
theorem to_bel (a : Option Addr) (cap : Nat) (ss : List ByteArray) (w : World) (hc : StrsAt w a ss) (hl : ss.length ≤ 1048576) :
    Calls Try.prog 27 #[.slice a ss.length cap] w fun e w' =>
      e = .returned (.slice (some ⟨w.heap.size, 0, none⟩) ss.length ss.length) ∧ w'.rowIs w.heap.size 9 ss.length (fun i => .string (ss.getD i ByteArray.empty)) ∧ Below w.heap.size w w' :=
  (to_any a cap ss w hc hl).mono fun e w' ⟨he, h1, _, h2⟩ => ⟨he, h1, h2⟩
theorem eq_bel (a : Option Addr) (cap : Nat) (ss : List ByteArray) (a' : Option Addr) (cap' : Nat) (w : World) (hc : StrsAt w a ss) (hc' : StrsAt w a' ss) (hl : ss.length ≤ maxLen) :
    Calls Try.prog 29 #[.slice a ss.length cap, .slice a' ss.length cap'] w fun e w' => e = .returned (.bool true) ∧ Below w.heap.size w w' :=
  (eq_any a cap ss a' cap' ss w hc hc' hl hl).mono fun e w' ⟨he, n, hw⟩ => ⟨by rw [he]; simp, by rw [hw]; exact bel_draws (Below.refl _ _) n⟩
theorem at_row {w : World} {b : Nat} {t : TypeId} {ss : List ByteArray} (h : w.rowIs b t ss.length (fun i => .string (ss.getD i ByteArray.empty))) (i : Nat) (hi : i < ss.length) : w.cell? ⟨b, 0 + i, none⟩ = some (.string (ss.getD i ByteArray.empty)) := by
  rw [Nat.zero_add]; exact h.cell hi
end Strs
end Go.Proofs.Ytmbkdejlbeailaa
