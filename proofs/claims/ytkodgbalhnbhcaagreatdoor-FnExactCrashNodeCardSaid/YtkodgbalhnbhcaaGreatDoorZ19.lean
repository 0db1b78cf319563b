/-
  The contract of the program's HashKey: the model's plain function of the bytes, for every string.
-/
import Derived.Test.YtkodgbalhnbhcaaGreatDoorZ13
import Derived.Test.YtkodgbalhnbhcaaGreatDoorZ2
import Derived.Test.YtkodgbalhnbhcaaGreatDoorRows
import Derived.Lib.BufferWrite
import Derived.Lib.UnsafeStr
import Derived.Laws.CopyOwn
namespace Go.Proofs.YtkodgbalhnbhcaaGreatDoor
namespace Hash
open Go.RowKit Base
set_option linter.unusedVariables false

set_option maxRecDepth 10000 in
set_option maxHeartbeats 400000 in
theorem hash_any (s : ByteArray) (w : World) (hs : s.size ≤ maxLen) :
    Calls Tryz.prog 139 #[.string s] w fun e w' => e = .returned (.int .u32 (hashN s.data.toList)) ∧ w' = w := by
  unfold maxLen at hs
  go_enter Tryz.func139, Tryz.ntmps139
  go_wp2
  go_loop [3, 7] (fun h i => ∃ (k : Nat) (z : Int), k ≤ s.size ∧ 0 ≤ z ∧ z < 4294967296 ∧ i = .int .i64 k ∧ h = .int .u32 z ∧ Hid (z = fold (s.data.toList.take k))) (fun _ i => s.size - (intOf i).toNat)
  case atStart => exact ⟨0, 2166136261, Nat.zero_le _, by omega, by omega, rfl, rfl, hide rfl⟩
  case round =>
    obtain ⟨k, z, hk, hz0, hz1, rfl, rfl, hf⟩ := hrel
    by_cases hlt : k < s.size
    · have HF : Hid (mixB z s[k] = fold (s.data.toList.take (k + 1))) := by show mixB z s[k] = _; rw [fold_step s k hlt, unhide hf]
      have hbd := hide (mixB_bd z s[k])
      go_wp2
      go_round
      case rel => exact ⟨k + 1, mixB z s[k], by omega, (unhide hbd).1, (unhide hbd).2, by go_num, rfl, HF⟩
      case measure => simp [intOf]; omega
    · have HZ : Hid (z = fold s.data.toList) := by show z = fold s.data.toList; rw [unhide hf, List.take_of_length_le (by simp; omega)]
      go_wp2
      go_loop [3, 18] (fun h i => ∃ (k : Nat) (y : Int), k ≤ 3 ∧ 0 ≤ y ∧ y < 4294967296 ∧ i = .int .i64 k ∧ h = .int .u32 y ∧ Hid (y = mixN k z)) (fun _ i => 3 - (intOf i).toNat)
      case atStart => exact ⟨0, z, Nat.zero_le _, hz0, hz1, rfl, rfl, hide rfl⟩
      case round =>
        obtain ⟨j, y, hj, hy0, hy1, rfl, rfl, hm⟩ := hrel
        by_cases hlt2 : j < 3
        · have HM : Hid (mixE y = mixN (j + 1) z) := by show mixE y = mixE (mixN j z); rw [unhide hm]
          have hbd := hide (mixE_bd y)
          go_wp2
          go_round
          case rel => exact ⟨j + 1, mixE y, by omega, (unhide hbd).1, (unhide hbd).2, by go_num, rfl, HM⟩
          case measure => simp [intOf]; omega
        · obtain rfl : j = 3 := by omega
          have HR : Hid (y = hashN s.data.toList) := by show y = mixN 3 (fold s.data.toList); rw [unhide hm, unhide HZ]
          go_wp2
          go_ret
          exact ⟨ret_int (unhide HR), rfl⟩
end Hash
end Go.Proofs.YtkodgbalhnbhcaaGreatDoor
/-
  strings.Clone hands back the text, in new memory.
-/
namespace Go.Proofs.YtkodgbalhnbhcaaGreatDoor
namespace CloneS
open Go.RowKit Base Keep
set_option linter.unusedVariables false

theorem clone_runs (s : ByteArray) (w : World) (h0 : s.size ≠ 0) (hs : s.size ≤ 1048576) : ∃ W2 W3 : World,
    (Builtin.copy_ #[123, 9] 3 #[.slice (some ⟨w.heap.size, 0, none⟩) s.size s.size, .string s]).run Tryz.prog (w.alloc (.cells (madeCells #[.int .u8 0] s.size) 5)) = .ok (.int .i64 s.size) W2 ∧
    (Builtin.unsafeString_ #[171, 3] 9 #[.pointer (some ⟨w.heap.size, 0, none⟩), .int .i64 s.size]).run Tryz.prog W2 = .ok (.string s) W3 ∧ W2.heap.size = w.heap.size + 1 ∧ Below w.heap.size w W3 := by
  have hA : (w.alloc (.cells (madeCells #[.int .u8 0] s.size) 5)).heap[w.heap.size]? = some (.cells (madeCells #[.int .u8 0] s.size) 5 (0, 0)) := heap_alloc_new w _
  have hcp := Lib.run_copy_row_string (P := Tryz.prog) (w.alloc (.cells (madeCells #[.int .u8 0] s.size) 5)) 123 9 3 5 w.heap.size 0 s.size s.size s (madeCells #[.int .u8 0] s.size) 5 Tryz.underlying123 (by kernel_rfl) hA (Nat.le_refl _) (by rw [size_madeCells]; omega)
  have el : s.data.toList.length = s.size := by simp
  have ec : ((madeCells #[Value.int .u8 0] s.size).toList.take 0 ++ Lib.byteCells s.data.toList ++ (madeCells #[Value.int .u8 0] s.size).toList.drop (0 + s.size)) = Lib.byteCells s.data.toList := by
    rw [List.take_zero, List.nil_append, List.drop_eq_nil_of_le (by rw [Array.length_toList, size_madeCells]; omega), List.append_nil]
  rw [ec] at hcp
  have hh := setRow_heap (w.alloc (.cells (madeCells #[.int .u8 0] s.size) 5)) w.heap.size _ (Lib.byteCells s.data.toList).toArray _ _ hA
  have hus := Lib.run_unsafeString_row (P := Tryz.prog) ((w.alloc (.cells (madeCells #[.int .u8 0] s.size) 5)).setRow w.heap.size (Lib.byteCells s.data.toList).toArray) 171 3 9 5 Tryz.underlying171 (by kernel_rfl) w.heap.size s.size
    (by unfold World.shape?; rw [hh]; simp [Lib.byteCells_length]) s.data.toList (by intro e; rw [e] at el; simp at el; omega) (by omega) (by omega)
    (fun j x hj => by
      rw [Go.WideShapes.add_plain, Nat.zero_add, cell_setRow_same _ _ _ _ _ _ _ hA]
      simp [Lib.byteCells, hj])
  rw [el] at hus
  refine ⟨_, _, hcp, hus, by simp, ?_⟩
  exact Lib.below_freeze (below_setRow (bel1 w _) (Nat.le_refl _) _) (Nat.le_refl _) _

set_option maxRecDepth 10000 in
set_option maxHeartbeats 1000000 in
theorem sclone_any (s : ByteArray) (w : World) (hs : s.size ≤ 1048576) : Calls Tryz.prog 106 #[.string s] w fun e w' => e = .returned (.string s) ∧ Below w.heap.size w w' := by
  by_cases h0 : s.size = 0
  · have e0 : s = ByteArray.empty := by
      apply Go.WideShapes.bytes_inj
      have : s.data.toList.length = 0 := by simpa using h0
      rw [List.length_eq_zero_iff.1 this]; rfl
    subst e0
    clear h0 hs
    go_enter Tryz.func106, Tryz.ntmps106
    go_wp2
    go_ret
    exact ⟨rfl, Below.refl _ _⟩
  have h0' : ¬ (s.size : Int) = 0 := by omega
  have hmk := fun w => run_make_rows (P := Tryz.prog) 123 5 (.int .u8 0) 1 1 Tryz.underlying123 (by kernel_rfl) .i64 .i64 s.size (by omega) (by omega) w
  rw [Nat.mul_one] at hmk
  have hmk' : (Instr.makeSlice 123 (.int .i64 s.size) (.int .i64 s.size)).run Tryz.prog w = .ok (.slice (some ⟨w.heap.size, 0, none⟩) s.size s.size) (w.alloc (.cells (madeCells #[.int .u8 0] s.size) 5)) := hmk w
  obtain ⟨W2, W3, hcp, hus, hz, hb⟩ := clone_runs s w h0 hs
  have HB := hide hb
  have hpos : (0 : Int) < s.size := by omega
  clear hmk hb
  go_enter Tryz.func106, Tryz.ntmps106
  go_wp2
  go_ret
  exact ⟨rfl, unhide HB⟩

set_option maxRecDepth 10000 in
set_option maxHeartbeats 1000000 in
theorem clone_any (s : ByteArray) (w : World) (hs : s.size ≤ 1048576) : Calls Tryz.prog 74 #[.string s] w fun e w' => e = .returned (.string s) ∧ Below w.heap.size w w' := by
  go_enter Tryz.func74, Tryz.ntmps74
  go_wp2_with fail
  refine (sclone_any s _ hs).mono ?_
  rintro e w1 ⟨rfl, hb1⟩
  have HB := hide hb1
  clear hb1
  go_wp2
  go_ret
  exact ⟨rfl, unhide HB⟩

end CloneS
end Go.Proofs.YtkodgbalhnbhcaaGreatDoor
