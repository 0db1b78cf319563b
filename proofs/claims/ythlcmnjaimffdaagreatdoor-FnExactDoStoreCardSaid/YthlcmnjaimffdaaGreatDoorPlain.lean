/-
  The contract of the model's l1In; what a good key is, as a plain function of its bytes.
-/
import Derived.Test.YthlcmnjaimffdaaGreatDoorRows
import Derived.Test.YthlcmnjaimffdaaGreatDoorBase
namespace Go.Proofs.YthlcmnjaimffdaaGreatDoor
namespace GoodKey
open Go.RowKit Base
set_option linter.unusedVariables false

def okb (c : UInt8) : Bool := decide (33 ≤ c.toNat) && decide (c.toNat ≤ 126)
def inB (n lo hi : Int) : Bool := decide (lo ≤ n) && decide (n ≤ hi)
def gk (l : List UInt8) : Bool := inB l.length 1 30 && l.all okb

theorem take_snoc (s : ByteArray) (k : Nat) (h : k < s.size) : s.data.toList.take (k + 1) = s.data.toList.take k ++ [s[k]] := by
  rw [List.take_succ_eq_append_getElem (by simpa using h)]; rfl
theorem all_snoc (s : ByteArray) (k : Nat) (h : k < s.size) (ha : (s.data.toList.take k).all okb = true) (h1 : ¬ (s[k].toNat : Int) < 33) (h2 : ¬ 126 < (s[k].toNat : Int)) :
    (s.data.toList.take (k + 1)).all okb = true := by
  rw [take_snoc s k h, List.all_append, ha]
  simp [okb]; omega
theorem gk_bad (s : ByteArray) (k : Nat) (h : k < s.size) (hb : (s[k].toNat : Int) < 33 ∨ 126 < (s[k].toNat : Int)) : gk s.data.toList = false := by
  have hm : s[k] ∈ s.data.toList := by
    have e : s[k] = s.data.toList[k]'(by simpa using h) := rfl
    rw [e]; exact List.getElem_mem _
  have ho : okb s[k] = false := by simp [okb]; omega
  have ha : s.data.toList.all okb = false := by
    rw [List.all_eq_false]; exact ⟨_, hm, by simp [ho]⟩
  simp [gk, ha]
theorem gk_all (s : ByteArray) (k : Nat) (hk : k ≤ s.size) (h : ¬ k < s.size) (ha : (s.data.toList.take k).all okb = true) : inB s.size 1 30 = gk s.data.toList := by
  have e : s.data.toList.take k = s.data.toList := List.take_of_length_le (by simp; omega)
  rw [e] at ha
  have el : s.data.toList.length = s.size := by simp
  simp [gk, ha, el]
theorem gk_len (s : ByteArray) (h : (s.size : Int) < 1 ∨ 30 < (s.size : Int)) : gk s.data.toList = false := by
  have el : s.data.toList.length = s.size := by simp
  have e : inB s.size 1 30 = false := by simp [inB]; omega
  simp [gk, el, e]
theorem inB_true (s : ByteArray) (h1 : ¬ (s.size : Int) < 1) (h2 : ¬ 30 < (s.size : Int)) : inB s.size 1 30 = true := by simp [inB]; omega

set_option maxHeartbeats 400000 in
theorem l1In_any (n lo hi : Int) (w : World) :
    Calls Tryz.prog 36 #[.int .i64 n, .int .i64 lo, .int .i64 hi] w fun e w' => e = .returned (.bool (inB n lo hi)) ∧ w' = w := by
  by_cases h : lo ≤ n
  · go_enter Tryz.func36, Tryz.ntmps36
    go_wp2
    go_ret
    exact ⟨ret_bool (by simp [inB, h]), rfl⟩
  · go_enter Tryz.func36, Tryz.ntmps36
    go_wp2
    go_ret
    exact ⟨ret_bool (by rw [inB, decide_eq_false (by omega)]; rfl), rfl⟩

end GoodKey
end Go.Proofs.YthlcmnjaimffdaaGreatDoor
/-
  The contract of the model's GoodKey: it answers by a plain function of the bytes, for every string.
-/
namespace Go.Proofs.YthlcmnjaimffdaaGreatDoor
namespace GoodKey
open Go.RowKit Base
set_option linter.unusedVariables false

set_option maxHeartbeats 400000 in
theorem spec_any (s : ByteArray) (w : World) (hs : s.size ≤ maxLen) :
    Calls Tryz.prog 40 #[.string s] w fun e w' => e = .returned (.bool (gk s.data.toList)) ∧ w' = w := by
  unfold maxLen at hs
  go_enter Tryz.func40, Tryz.ntmps40
  go_wp2
  go_loop [3] (fun i => ∃ k : Nat, k ≤ s.size ∧ i = .int .i64 k ∧ Hid ((s.data.toList.take k).all okb = true)) (fun i => s.size - (intOf i).toNat)
  case atStart => exact ⟨0, Nat.zero_le _, rfl, hide rfl⟩
  case round =>
    obtain ⟨k, hk, rfl, ha⟩ := hrel
    by_cases hlt : k < s.size
    · by_cases h1 : (s[k].toNat : Int) < 33
      · have H := hide (gk_bad s k hlt (.inl h1))
        go_wp2
        go_ret
        exact ⟨ret_bool (unhide H).symm, rfl⟩
      · by_cases h2 : 126 < (s[k].toNat : Int)
        · have H := hide (gk_bad s k hlt (.inr h2))
          go_wp2
          go_ret
          exact ⟨ret_bool (unhide H).symm, rfl⟩
        · have H := hide (all_snoc s k hlt (unhide ha) h1 h2)
          go_wp2
          go_round
          case rel => exact ⟨k + 1, by omega, by go_num, H⟩
          case measure => simp [intOf]; omega
    · have H := hide (gk_all s k hk hlt (unhide ha))
      go_wp2_with (go_at_call 36; refine (l1In_any _ _ _ _).mono ?_; rintro e w' ⟨rfl, rfl⟩)
      go_ret
      exact ⟨ret_bool (unhide H), rfl⟩

end GoodKey
end Go.Proofs.YthlcmnjaimffdaaGreatDoor
/-
  The contract of the program's GoodKey: it answers by the same plain function of the bytes as the model's, for every string.
-/
namespace Go.Proofs.YthlcmnjaimffdaaGreatDoor
namespace GoodKey
open Go.RowKit Base
set_option linter.unusedVariables false

set_option maxHeartbeats 400000 in
theorem impl_any (s : ByteArray) (w : World) (hs : s.size ≤ maxLen) :
    Calls Tryz.prog 69 #[.string s] w fun e w' => e = .returned (.bool (gk s.data.toList)) ∧ w' = w := by
  unfold maxLen at hs
  by_cases g1 : (s.size : Int) < 1
  · have H := hide (gk_len s (.inl g1))
    go_enter Tryz.func69, Tryz.ntmps69
    go_wp2
    go_ret
    exact ⟨ret_bool (unhide H).symm, rfl⟩
  by_cases g2 : 30 < (s.size : Int)
  · have H := hide (gk_len s (.inr g2))
    go_enter Tryz.func69, Tryz.ntmps69
    go_wp2
    go_ret
    exact ⟨ret_bool (unhide H).symm, rfl⟩
  have HT := hide (inB_true s g1 g2)
  go_enter Tryz.func69, Tryz.ntmps69
  go_wp2
  go_loop [14] (fun i => ∃ k : Nat, k ≤ s.size ∧ i = .int .i64 k ∧ Hid ((s.data.toList.take k).all okb = true)) (fun i => s.size - (intOf i).toNat)
  case atStart => exact ⟨0, Nat.zero_le _, rfl, hide rfl⟩
  case round =>
    obtain ⟨k, hk, rfl, ha⟩ := hrel
    by_cases hlt : k < s.size
    · by_cases h1 : (s[k].toNat : Int) < 33
      · have H := hide (gk_bad s k hlt (.inl h1))
        go_wp2
        go_ret
        exact ⟨ret_bool (unhide H).symm, rfl⟩
      · by_cases h2 : 126 < (s[k].toNat : Int)
        · have H := hide (gk_bad s k hlt (.inr h2))
          go_wp2
          go_ret
          exact ⟨ret_bool (unhide H).symm, rfl⟩
        · have H := hide (all_snoc s k hlt (unhide ha) h1 h2)
          go_wp2
          go_round
          case rel => exact ⟨k + 1, by omega, by go_num, H⟩
          case measure => simp [intOf]; omega
    · have H := hide (gk_all s k hk hlt (unhide ha))
      go_wp2
      go_ret
      exact ⟨ret_bool (by rw [← unhide H]; exact (unhide HT).symm), rfl⟩

end GoodKey
end Go.Proofs.YthlcmnjaimffdaaGreatDoor
/-
  The contract of the model's l1Number, for every int.
-/
namespace Go.Proofs.YthlcmnjaimffdaaGreatDoor
namespace Num
open Go.RowKit Base GoodKey

set_option maxHeartbeats 400000 in
theorem number_any (n : Int) (w : World) :
    Calls Tryz.prog 41 #[.int .i64 n] w fun e w' => e = .returned (.bool (inB n 0 1000000000)) ∧ w' = w := by
  go_enter Tryz.func41, Tryz.ntmps41
  go_wp2_with (go_at_call 36; refine (l1In_any _ _ _ _).mono ?_; rintro e w' ⟨rfl, rfl⟩)
  go_ret
  exact ⟨rfl, rfl⟩
end Num
end Go.Proofs.YthlcmnjaimffdaaGreatDoor
