/-
  The program's readData, and what it tells, as plain data.
-/
import Derived.Test.YtghckjmpcokhcaaDoorRdI
namespace Go.Proofs.YtghckjmpcokhcaaDoor
namespace Rd
open Go.RowKit Base Items Store GoodKey NumText Sp Count Vals Marks
set_option linter.unusedVariables false

set_option maxRecDepth 10000 in
set_option maxHeartbeats 1000000 in
theorem data_short (s : ByteArray) (n : Nat) (w : World) (hs : s.size ≤ 1048576) (hn : n ≤ 100) (h : s.size < n + 2) : Calls Tryd.prog 29 #[.string s, .int .i64 (n : Int)] w fun e w' => e = .returned (.tuple #[.string ByteArray.empty, .int .i64 0, .int .i64 1]) ∧ Below w.heap.size w w' := by
  have hw : IntKind.i64.wrap ((n : Int) + 2) = (n : Int) + 2 := by rw [IntKind.wrap_i64]; omega
  have h1 : (s.size : Int) < (n : Int) + 2 := by omega
  go_enter Tryd.func29, Tryd.ntmps29
  go_wp2
  go_ret3
  exact ⟨rfl, Below.refl _ _⟩

set_option maxRecDepth 10000 in
set_option maxHeartbeats 1000000 in
theorem data_bad (s : ByteArray) (n : Nat) (w : World) (hs : s.size ≤ 1048576) (hn : n ≤ 100) (h : ¬ s.size < n + 2) (he : s.extract n (n + 2) ≠ Shelf.endS) : Calls Tryd.prog 29 #[.string s, .int .i64 (n : Int)] w fun e w' => e = .returned (.tuple #[.string ByteArray.empty, .int .i64 ((n : Int) + 2), .int .i64 3]) ∧ Below w.heap.size w w' := by
  have hw : IntKind.i64.wrap ((n : Int) + 2) = (n : Int) + 2 := by rw [IntKind.wrap_i64]; omega
  have h1 : ¬ (s.size : Int) < (n : Int) + 2 := by omega
  have h2 : (0 : Int) ≤ (n : Int) := by omega
  have h3 : (n : Int) ≤ (n : Int) + 2 := by omega
  have h4 : (n : Int) + 2 ≤ (s.size : Int) := by omega
  have h5 : ((n : Int) + 2).toNat = n + 2 := by omega
  have he' : ((s.extract n (n + 2)).toList == [13, 10]) = false := by
    have e : ({ data := #[13, 10] } : ByteArray).toList = [13, 10] := by rw [Lib.toList_data]
    rw [← e]; exact str_ne he
  go_enter Tryd.func29, Tryd.ntmps29
  go_wp2
  go_ret3
  exact ⟨rfl, Below.refl _ _⟩

set_option maxRecDepth 10000 in
set_option maxHeartbeats 1000000 in
theorem data_ok (s : ByteArray) (n : Nat) (w : World) (hs : s.size ≤ 1048576) (hn : n ≤ 100) (h : ¬ s.size < n + 2) (he : s.extract n (n + 2) = Shelf.endS) : Calls Tryd.prog 29 #[.string s, .int .i64 (n : Int)] w fun e w' => e = .returned (.tuple #[.string (s.extract 0 n), .int .i64 ((n : Int) + 2), .int .i64 0]) ∧ Below w.heap.size w w' := by
  have hw : IntKind.i64.wrap ((n : Int) + 2) = (n : Int) + 2 := by rw [IntKind.wrap_i64]; omega
  have h1 : ¬ (s.size : Int) < (n : Int) + 2 := by omega
  have h2 : (0 : Int) ≤ (n : Int) := by omega
  have h3 : (n : Int) ≤ (n : Int) + 2 := by omega
  have h4 : (n : Int) + 2 ≤ (s.size : Int) := by omega
  have h5 : ((n : Int) + 2).toNat = n + 2 := by omega
  have h6 : ¬ 100 < (n : Int) := by omega
  have h7 : (n : Int) ≤ (s.size : Int) := by omega
  have he' : ((s.extract n (n + 2)).toList == [13, 10]) = true := by
    have e : ({ data := #[13, 10] } : ByteArray).toList = [13, 10] := by rw [Lib.toList_data]
    rw [← e]; exact str_eq he
  have HC := hide (fun w' => CloneS.clone_any (s.extract 0 n) w' (by simp; omega))
  clear he
  go_enter Tryd.func29, Tryd.ntmps29
  go_wp2_with fail
  refine (unhide HC _).mono ?_
  rintro e w1 ⟨rfl, hb1⟩
  have B1 := hide hb1
  clear hb1
  go_wp2
  go_ret3
  exact ⟨rfl, unhide B1⟩
end Rd
end Go.Proofs.YtghckjmpcokhcaaDoor
