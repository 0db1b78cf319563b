/-
  The contract of the model's l1Kind: the kind of a name by a plain table, for every string.
-/
import Derived.Test.YthlcmnjaimffdaaGreatDoorBase
import Derived.Test.YthlcmnjaimffdaaGreatDoorRows
namespace Go.Proofs.YthlcmnjaimffdaaGreatDoor
namespace Kind
open Go.RowKit Base
set_option linter.unusedVariables false

def kindN (l : List UInt8) : Int :=
  if l = [103, 101, 116] then 1 else
  if l = [103, 101, 116, 115] then 1 else
  if l = [115, 101, 116] then 2 else
  if l = [97, 100, 100] then 2 else
  if l = [114, 101, 112, 108, 97, 99, 101] then 2 else
  if l = [97, 112, 112, 101, 110, 100] then 2 else
  if l = [112, 114, 101, 112, 101, 110, 100] then 2 else
  if l = [99, 97, 115] then 3 else
  if l = [105, 110, 99, 114] then 4 else
  if l = [100, 101, 99, 114] then 4 else
  if l = [116, 111, 117, 99, 104] then 5 else
  if l = [100, 101, 108, 101, 116, 101] then 6 else
  if l = [102, 108, 117, 115, 104, 95, 97, 108, 108] then 7 else
  if l = [118, 101, 114, 115, 105, 111, 110] then 7 else
  if l = [113, 117, 105, 116] then 7 else
  0

theorem kindN_bd (l : List UInt8) : 0 ≤ kindN l ∧ kindN l ≤ 7 := by
  unfold kindN
  repeat' split
  all_goals omega

set_option maxHeartbeats 4000000 in
theorem spec_any (s : ByteArray) (w : World) :
    Calls Tryz.prog 39 #[.string s] w fun e w' => e = .returned (.int .i64 (kindN s.toList)) ∧ w' = w := by
  by_cases h0 : s.toList = [103, 101, 116]
  · have H : Hid (kindN s.toList = 1) := by show kindN s.toList = 1; rw [h0]; decide
    go_enter Tryz.func39, Tryz.ntmps39
    go_wp2
    go_ret
    exact ⟨ret_int (unhide H).symm, rfl⟩
  by_cases h1 : s.toList = [103, 101, 116, 115]
  · have H : Hid (kindN s.toList = 1) := by show kindN s.toList = 1; rw [h1]; decide
    go_enter Tryz.func39, Tryz.ntmps39
    go_wp2
    go_ret
    exact ⟨ret_int (unhide H).symm, rfl⟩
  by_cases h2 : s.toList = [115, 101, 116]
  · have H : Hid (kindN s.toList = 2) := by show kindN s.toList = 2; rw [h2]; decide
    go_enter Tryz.func39, Tryz.ntmps39
    go_wp2
    go_ret
    exact ⟨ret_int (unhide H).symm, rfl⟩
  by_cases h3 : s.toList = [97, 100, 100]
  · have H : Hid (kindN s.toList = 2) := by show kindN s.toList = 2; rw [h3]; decide
    go_enter Tryz.func39, Tryz.ntmps39
    go_wp2
    go_ret
    exact ⟨ret_int (unhide H).symm, rfl⟩
  by_cases h4 : s.toList = [114, 101, 112, 108, 97, 99, 101]
  · have H : Hid (kindN s.toList = 2) := by show kindN s.toList = 2; rw [h4]; decide
    go_enter Tryz.func39, Tryz.ntmps39
    go_wp2
    go_ret
    exact ⟨ret_int (unhide H).symm, rfl⟩
  by_cases h5 : s.toList = [97, 112, 112, 101, 110, 100]
  · have H : Hid (kindN s.toList = 2) := by show kindN s.toList = 2; rw [h5]; decide
    go_enter Tryz.func39, Tryz.ntmps39
    go_wp2
    go_ret
    exact ⟨ret_int (unhide H).symm, rfl⟩
  by_cases h6 : s.toList = [112, 114, 101, 112, 101, 110, 100]
  · have H : Hid (kindN s.toList = 2) := by show kindN s.toList = 2; rw [h6]; decide
    go_enter Tryz.func39, Tryz.ntmps39
    go_wp2
    go_ret
    exact ⟨ret_int (unhide H).symm, rfl⟩
  by_cases h7 : s.toList = [99, 97, 115]
  · have H : Hid (kindN s.toList = 3) := by show kindN s.toList = 3; rw [h7]; decide
    go_enter Tryz.func39, Tryz.ntmps39
    go_wp2
    go_ret
    exact ⟨ret_int (unhide H).symm, rfl⟩
  by_cases h8 : s.toList = [105, 110, 99, 114]
  · have H : Hid (kindN s.toList = 4) := by show kindN s.toList = 4; rw [h8]; decide
    go_enter Tryz.func39, Tryz.ntmps39
    go_wp2
    go_ret
    exact ⟨ret_int (unhide H).symm, rfl⟩
  by_cases h9 : s.toList = [100, 101, 99, 114]
  · have H : Hid (kindN s.toList = 4) := by show kindN s.toList = 4; rw [h9]; decide
    go_enter Tryz.func39, Tryz.ntmps39
    go_wp2
    go_ret
    exact ⟨ret_int (unhide H).symm, rfl⟩
  by_cases h10 : s.toList = [116, 111, 117, 99, 104]
  · have H : Hid (kindN s.toList = 5) := by show kindN s.toList = 5; rw [h10]; decide
    go_enter Tryz.func39, Tryz.ntmps39
    go_wp2
    go_ret
    exact ⟨ret_int (unhide H).symm, rfl⟩
  by_cases h11 : s.toList = [100, 101, 108, 101, 116, 101]
  · have H : Hid (kindN s.toList = 6) := by show kindN s.toList = 6; rw [h11]; decide
    go_enter Tryz.func39, Tryz.ntmps39
    go_wp2
    go_ret
    exact ⟨ret_int (unhide H).symm, rfl⟩
  by_cases h12 : s.toList = [102, 108, 117, 115, 104, 95, 97, 108, 108]
  · have H : Hid (kindN s.toList = 7) := by show kindN s.toList = 7; rw [h12]; decide
    go_enter Tryz.func39, Tryz.ntmps39
    go_wp2
    go_ret
    exact ⟨ret_int (unhide H).symm, rfl⟩
  by_cases h13 : s.toList = [118, 101, 114, 115, 105, 111, 110]
  · have H : Hid (kindN s.toList = 7) := by show kindN s.toList = 7; rw [h13]; decide
    go_enter Tryz.func39, Tryz.ntmps39
    go_wp2
    go_ret
    exact ⟨ret_int (unhide H).symm, rfl⟩
  by_cases h14 : s.toList = [113, 117, 105, 116]
  · have H : Hid (kindN s.toList = 7) := by show kindN s.toList = 7; rw [h14]; decide
    go_enter Tryz.func39, Tryz.ntmps39
    go_wp2
    go_ret
    exact ⟨ret_int (unhide H).symm, rfl⟩
  have H : Hid (kindN s.toList = 0) := by show kindN s.toList = 0; unfold kindN; simp only [h0, h1, h2, h3, h4, h5, h6, h7, h8, h9, h10, h11, h12, h13, h14, if_false]
  have e0 : (s.toList == [103, 101, 116]) = false := beq_eq_false_iff_ne.2 h0
  have e1 : (s.toList == [103, 101, 116, 115]) = false := beq_eq_false_iff_ne.2 h1
  have e2 : (s.toList == [115, 101, 116]) = false := beq_eq_false_iff_ne.2 h2
  have e3 : (s.toList == [97, 100, 100]) = false := beq_eq_false_iff_ne.2 h3
  have e4 : (s.toList == [114, 101, 112, 108, 97, 99, 101]) = false := beq_eq_false_iff_ne.2 h4
  have e5 : (s.toList == [97, 112, 112, 101, 110, 100]) = false := beq_eq_false_iff_ne.2 h5
  have e6 : (s.toList == [112, 114, 101, 112, 101, 110, 100]) = false := beq_eq_false_iff_ne.2 h6
  have e7 : (s.toList == [99, 97, 115]) = false := beq_eq_false_iff_ne.2 h7
  have e8 : (s.toList == [105, 110, 99, 114]) = false := beq_eq_false_iff_ne.2 h8
  have e9 : (s.toList == [100, 101, 99, 114]) = false := beq_eq_false_iff_ne.2 h9
  have e10 : (s.toList == [116, 111, 117, 99, 104]) = false := beq_eq_false_iff_ne.2 h10
  have e11 : (s.toList == [100, 101, 108, 101, 116, 101]) = false := beq_eq_false_iff_ne.2 h11
  have e12 : (s.toList == [102, 108, 117, 115, 104, 95, 97, 108, 108]) = false := beq_eq_false_iff_ne.2 h12
  have e13 : (s.toList == [118, 101, 114, 115, 105, 111, 110]) = false := beq_eq_false_iff_ne.2 h13
  have e14 : (s.toList == [113, 117, 105, 116]) = false := beq_eq_false_iff_ne.2 h14
  clear h0 h1 h2 h3 h4 h5 h6 h7 h8 h9 h10 h11 h12 h13 h14
  go_enter Tryz.func39, Tryz.ntmps39
  go_wp2
  go_ret
  exact ⟨ret_int (unhide H).symm, rfl⟩

end Kind
end Go.Proofs.YthlcmnjaimffdaaGreatDoor
/-
  The contract of the program's kindOf: the kind of a name by the same table as the model's, for every string.
-/
namespace Go.Proofs.YthlcmnjaimffdaaGreatDoor
namespace Kind
open Go.RowKit Base
set_option linter.unusedVariables false

set_option maxHeartbeats 4000000 in
theorem impl_any (s : ByteArray) (w : World) :
    Calls Tryz.prog 48 #[.string s] w fun e w' => e = .returned (.int .i64 (kindN s.toList)) ∧ w' = w := by
  by_cases h0 : s.toList = [103, 101, 116]
  · have H : Hid (kindN s.toList = 1) := by show kindN s.toList = 1; rw [h0]; decide
    go_enter Tryz.func48, Tryz.ntmps48
    go_wp2
    go_ret
    exact ⟨ret_int (unhide H).symm, rfl⟩
  by_cases h1 : s.toList = [103, 101, 116, 115]
  · have H : Hid (kindN s.toList = 1) := by show kindN s.toList = 1; rw [h1]; decide
    go_enter Tryz.func48, Tryz.ntmps48
    go_wp2
    go_ret
    exact ⟨ret_int (unhide H).symm, rfl⟩
  by_cases h2 : s.toList = [115, 101, 116]
  · have H : Hid (kindN s.toList = 2) := by show kindN s.toList = 2; rw [h2]; decide
    go_enter Tryz.func48, Tryz.ntmps48
    go_wp2
    go_ret
    exact ⟨ret_int (unhide H).symm, rfl⟩
  by_cases h3 : s.toList = [97, 100, 100]
  · have H : Hid (kindN s.toList = 2) := by show kindN s.toList = 2; rw [h3]; decide
    go_enter Tryz.func48, Tryz.ntmps48
    go_wp2
    go_ret
    exact ⟨ret_int (unhide H).symm, rfl⟩
  by_cases h4 : s.toList = [114, 101, 112, 108, 97, 99, 101]
  · have H : Hid (kindN s.toList = 2) := by show kindN s.toList = 2; rw [h4]; decide
    go_enter Tryz.func48, Tryz.ntmps48
    go_wp2
    go_ret
    exact ⟨ret_int (unhide H).symm, rfl⟩
  by_cases h5 : s.toList = [97, 112, 112, 101, 110, 100]
  · have H : Hid (kindN s.toList = 2) := by show kindN s.toList = 2; rw [h5]; decide
    go_enter Tryz.func48, Tryz.ntmps48
    go_wp2
    go_ret
    exact ⟨ret_int (unhide H).symm, rfl⟩
  by_cases h6 : s.toList = [112, 114, 101, 112, 101, 110, 100]
  · have H : Hid (kindN s.toList = 2) := by show kindN s.toList = 2; rw [h6]; decide
    go_enter Tryz.func48, Tryz.ntmps48
    go_wp2
    go_ret
    exact ⟨ret_int (unhide H).symm, rfl⟩
  by_cases h7 : s.toList = [99, 97, 115]
  · have H : Hid (kindN s.toList = 3) := by show kindN s.toList = 3; rw [h7]; decide
    go_enter Tryz.func48, Tryz.ntmps48
    go_wp2
    go_ret
    exact ⟨ret_int (unhide H).symm, rfl⟩
  by_cases h8 : s.toList = [105, 110, 99, 114]
  · have H : Hid (kindN s.toList = 4) := by show kindN s.toList = 4; rw [h8]; decide
    go_enter Tryz.func48, Tryz.ntmps48
    go_wp2
    go_ret
    exact ⟨ret_int (unhide H).symm, rfl⟩
  by_cases h9 : s.toList = [100, 101, 99, 114]
  · have H : Hid (kindN s.toList = 4) := by show kindN s.toList = 4; rw [h9]; decide
    go_enter Tryz.func48, Tryz.ntmps48
    go_wp2
    go_ret
    exact ⟨ret_int (unhide H).symm, rfl⟩
  by_cases h10 : s.toList = [116, 111, 117, 99, 104]
  · have H : Hid (kindN s.toList = 5) := by show kindN s.toList = 5; rw [h10]; decide
    go_enter Tryz.func48, Tryz.ntmps48
    go_wp2
    go_ret
    exact ⟨ret_int (unhide H).symm, rfl⟩
  by_cases h11 : s.toList = [100, 101, 108, 101, 116, 101]
  · have H : Hid (kindN s.toList = 6) := by show kindN s.toList = 6; rw [h11]; decide
    go_enter Tryz.func48, Tryz.ntmps48
    go_wp2
    go_ret
    exact ⟨ret_int (unhide H).symm, rfl⟩
  by_cases h12 : s.toList = [102, 108, 117, 115, 104, 95, 97, 108, 108]
  · have H : Hid (kindN s.toList = 7) := by show kindN s.toList = 7; rw [h12]; decide
    go_enter Tryz.func48, Tryz.ntmps48
    go_wp2
    go_ret
    exact ⟨ret_int (unhide H).symm, rfl⟩
  by_cases h13 : s.toList = [118, 101, 114, 115, 105, 111, 110]
  · have H : Hid (kindN s.toList = 7) := by show kindN s.toList = 7; rw [h13]; decide
    go_enter Tryz.func48, Tryz.ntmps48
    go_wp2
    go_ret
    exact ⟨ret_int (unhide H).symm, rfl⟩
  by_cases h14 : s.toList = [113, 117, 105, 116]
  · have H : Hid (kindN s.toList = 7) := by show kindN s.toList = 7; rw [h14]; decide
    go_enter Tryz.func48, Tryz.ntmps48
    go_wp2
    go_ret
    exact ⟨ret_int (unhide H).symm, rfl⟩
  have H : Hid (kindN s.toList = 0) := by show kindN s.toList = 0; unfold kindN; simp only [h0, h1, h2, h3, h4, h5, h6, h7, h8, h9, h10, h11, h12, h13, h14, if_false]
  have e0 : (s.toList == [103, 101, 116]) = false := beq_eq_false_iff_ne.2 h0
  have e1 : (s.toList == [103, 101, 116, 115]) = false := beq_eq_false_iff_ne.2 h1
  have e2 : (s.toList == [115, 101, 116]) = false := beq_eq_false_iff_ne.2 h2
  have e3 : (s.toList == [97, 100, 100]) = false := beq_eq_false_iff_ne.2 h3
  have e4 : (s.toList == [114, 101, 112, 108, 97, 99, 101]) = false := beq_eq_false_iff_ne.2 h4
  have e5 : (s.toList == [97, 112, 112, 101, 110, 100]) = false := beq_eq_false_iff_ne.2 h5
  have e6 : (s.toList == [112, 114, 101, 112, 101, 110, 100]) = false := beq_eq_false_iff_ne.2 h6
  have e7 : (s.toList == [99, 97, 115]) = false := beq_eq_false_iff_ne.2 h7
  have e8 : (s.toList == [105, 110, 99, 114]) = false := beq_eq_false_iff_ne.2 h8
  have e9 : (s.toList == [100, 101, 99, 114]) = false := beq_eq_false_iff_ne.2 h9
  have e10 : (s.toList == [116, 111, 117, 99, 104]) = false := beq_eq_false_iff_ne.2 h10
  have e11 : (s.toList == [100, 101, 108, 101, 116, 101]) = false := beq_eq_false_iff_ne.2 h11
  have e12 : (s.toList == [102, 108, 117, 115, 104, 95, 97, 108, 108]) = false := beq_eq_false_iff_ne.2 h12
  have e13 : (s.toList == [118, 101, 114, 115, 105, 111, 110]) = false := beq_eq_false_iff_ne.2 h13
  have e14 : (s.toList == [113, 117, 105, 116]) = false := beq_eq_false_iff_ne.2 h14
  clear h0 h1 h2 h3 h4 h5 h6 h7 h8 h9 h10 h11 h12 h13 h14
  go_enter Tryz.func48, Tryz.ntmps48
  go_wp2
  go_ret
  exact ⟨ret_int (unhide H).symm, rfl⟩
end Kind
end Go.Proofs.YthlcmnjaimffdaaGreatDoor
