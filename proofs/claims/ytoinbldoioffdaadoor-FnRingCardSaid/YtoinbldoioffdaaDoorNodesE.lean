/-
  No nodes at all: both GoodNodes say no, both SharesOf tell nothing.
-/
import Derived.Test.YtoinbldoioffdaaDoorSharesI
import Derived.Test.YtoinbldoioffdaaDoorSharesS
namespace Go.Proofs.YtoinbldoioffdaaDoor
namespace Ring
open Go.RowKit Base KeysS
set_option linter.unusedVariables false

set_option maxRecDepth 10000 in
set_option maxHeartbeats 400000 in
theorem inodes_nil (b : Option Addr) (cb : Nat) (w : World) : Calls Tryd.prog 12 #[.slice b 0 cb] w fun e w' => e = .returned (.bool false) ∧ Below w.heap.size w w' := by
  go_enter Tryd.func12, Tryd.ntmps12
  go_wp2
  go_ret
  exact ⟨rfl, Below.refl _ _⟩
set_option maxRecDepth 10000 in
set_option maxHeartbeats 400000 in
theorem snodes_nil (b : Option Addr) (cb : Nat) (w : World) : Calls Tryd.prog 16 #[.slice b 0 cb] w fun e w' => e = .returned (.bool false) ∧ Below w.heap.size w w' := by
  go_enter Tryd.func16, Tryd.ntmps16
  go_wp2_with fail
  go_loopw [7] (fun iv wr => iv = .int .i64 0 ∧ Hid (Below w.heap.size w wr)) (fun _ _ => 0)
  case atStart => exact ⟨rfl, hide (Below.refl _ _)⟩
  case round =>
    obtain ⟨rfl, hb⟩ := hrel
    go_wp2
    go_ret
    exact ⟨rfl, unhide hb⟩
set_option maxRecDepth 10000 in
set_option maxHeartbeats 400000 in
theorem ishares_nil (b : Option Addr) (cb : Nat) (d : Option Addr) (n cd : Nat) (w : World) : Calls Tryd.prog 5 #[.slice b 0 cb, .slice d n cd] w fun e w' => e = .returned (.tuple #[.slice none 0 0, .bool false]) ∧ Below w.heap.size w w' := by
  have HG := hide (inodes_nil b cb w)
  go_enter Tryd.func5, Tryd.ntmps5
  go_wp2_with fail
  refine (unhide HG).mono ?_
  rintro e w1 ⟨rfl, hb1⟩
  have B1 := hide hb1
  clear hb1
  go_wp2
  go_ret2
  exact ⟨rfl, unhide B1⟩
set_option maxRecDepth 10000 in
set_option maxHeartbeats 400000 in
theorem sshares_nil (b : Option Addr) (cb : Nat) (d : Option Addr) (n cd : Nat) (w : World) : Calls Tryd.prog 6 #[.slice b 0 cb, .slice d n cd] w fun e w' => e = .returned (.tuple #[.slice none 0 0, .bool false]) ∧ Below w.heap.size w w' := by
  have HG := hide (snodes_nil b cb w)
  go_enter Tryd.func6, Tryd.ntmps6
  go_wp2_with fail
  refine (unhide HG).mono ?_
  rintro e w1 ⟨rfl, hb1⟩
  have B1 := hide hb1
  clear hb1
  go_wp2
  go_ret2
  exact ⟨rfl, unhide B1⟩
end Ring
end Go.Proofs.YtoinbldoioffdaaDoor
