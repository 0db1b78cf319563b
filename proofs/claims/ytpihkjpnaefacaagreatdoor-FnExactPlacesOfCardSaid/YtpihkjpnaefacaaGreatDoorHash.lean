/-
  The contract of the model's l3Hash: a plain function of the bytes, for every string.
-/
import Derived.Test.YtpihkjpnaefacaaGreatDoorBase
import Derived.Test.YtpihkjpnaefacaaGreatDoorRows
namespace Go.Proofs.YtpihkjpnaefacaaGreatDoor
namespace Hash
open Go.RowKit Base
set_option linter.unusedVariables false

def mixB (h : Int) (c : UInt8) : Int := bits BinOp.xor IntKind.u32 h ((c.toNat : Int) % 4294967296) * 16777619 % 4294967296
def mixE (h : Int) : Int := bits BinOp.xor IntKind.u32 h (h / 32768) * 2654435761 % 4294967296
def mixN : Nat → Int → Int
  | 0, h => h
  | n + 1, h => mixE (mixN n h)
def fold (l : List UInt8) : Int := l.foldl mixB 2166136261
def hashN (l : List UInt8) : Int := mixN 3 (fold l)
theorem take_snoc (s : ByteArray) (k : Nat) (h : k < s.size) : s.data.toList.take (k + 1) = s.data.toList.take k ++ [s[k]] := by
  rw [List.take_succ_eq_append_getElem (by simpa using h)]; rfl
theorem fold_step (s : ByteArray) (k : Nat) (h : k < s.size) : fold (s.data.toList.take (k + 1)) = mixB (fold (s.data.toList.take k)) s[k] := by
  rw [take_snoc s k h]; simp [fold]
theorem mixB_bd (h : Int) (c : UInt8) : 0 ≤ mixB h c ∧ mixB h c < 4294967296 := by unfold mixB; omega
theorem mixE_bd (h : Int) : 0 ≤ mixE h ∧ mixE h < 4294967296 := by unfold mixE; omega

set_option maxHeartbeats 400000 in
theorem l3Hash_any (s : ByteArray) (w : World) (hs : s.size ≤ maxLen) :
    Calls Tryz.prog 79 #[.string s] w fun e w' => e = .returned (.int .u32 (hashN s.data.toList)) ∧ w' = w := by
  unfold maxLen at hs
  go_enter Tryz.func79, Tryz.ntmps79
  go_wp2
  go_loop [3, 4] (fun h i => ∃ (k : Nat) (z : Int), k ≤ s.size ∧ 0 ≤ z ∧ z < 4294967296 ∧ i = .int .i64 k ∧ h = .int .u32 z ∧ Hid (z = fold (s.data.toList.take k))) (fun _ i => s.size - (intOf i).toNat)
  case atStart => exact ⟨0, 2166136261, Nat.zero_le _, by omega, by omega, rfl, rfl, hide rfl⟩
  case round =>
    obtain ⟨k, z, hk, hz0, hz1, rfl, rfl, hf⟩ := hrel
    by_cases hlt : k < s.size
    · have HF : Hid (mixB z s[k] = fold (s.data.toList.take (k + 1))) := by show mixB z s[k] = _; rw [fold_step s k hlt, unhide hf]
      have hbd := hide (mixB_bd z s[k])
      go_wp2
      go_round
      case rel => exact ⟨k + 1, mixB z s[k], by omega, (unhide hbd).1, (unhide hbd).2, by go_num, rfl, HF⟩
      case measure => simp [intOf]; omega
    · have HZ : Hid (z = fold s.data.toList) := by show z = fold s.data.toList; rw [unhide hf, List.take_of_length_le (by simp; omega)]
      go_wp2
      go_loop [3, 5] (fun h i => ∃ (k : Nat) (y : Int), k ≤ 3 ∧ 0 ≤ y ∧ y < 4294967296 ∧ i = .int .i64 k ∧ h = .int .u32 y ∧ Hid (y = mixN k z)) (fun _ i => 3 - (intOf i).toNat)
      case atStart => exact ⟨0, z, Nat.zero_le _, hz0, hz1, rfl, rfl, hide rfl⟩
      case round =>
        obtain ⟨j, y, hj, hy0, hy1, rfl, rfl, hm⟩ := hrel
        by_cases hlt2 : j < 3
        · have HM : Hid (mixE y = mixN (j + 1) z) := by show mixE y = mixE (mixN j z); rw [unhide hm]
          have hbd := hide (mixE_bd y)
          go_wp2
          go_round
          case rel => exact ⟨j + 1, mixE y, by omega, (unhide hbd).1, (unhide hbd).2, by go_num, rfl, HM⟩
          case measure => simp [intOf]; omega
        · obtain rfl : j = 3 := by omega
          have HR : Hid (y = hashN s.data.toList) := by show y = mixN 3 (fold s.data.toList); rw [unhide hm, unhide HZ]
          go_wp2
          go_ret
          exact ⟨ret_int (unhide HR), rfl⟩

end Hash
end Go.Proofs.YtpihkjpnaefacaaGreatDoor
