/-
  The contract of the program's GoodKey: it answers by the same plain function of the bytes as the model's, for every string.
-/
import Derived.Test.YtghckjmpcokhcaaGreatDoorKeyZ
namespace Go.Proofs.YtghckjmpcokhcaaGreatDoor
namespace GoodKey
open Go.RowKit Base
set_option linter.unusedVariables false

set_option maxHeartbeats 400000 in
theorem impl_any (s : ByteArray) (w : World) (hs : s.size ≤ maxLen) :
    Calls Tryz.prog 50 #[.string s] w fun e w' => e = .returned (.bool (gk s.data.toList)) ∧ w' = w := by
  unfold maxLen at hs
  by_cases g1 : (s.size : Int) < 1
  · have H := hide (gk_len s (.inl g1))
    go_enter Tryz.func50, Tryz.ntmps50
    go_wp2
    go_ret
    exact ⟨ret_bool (unhide H).symm, rfl⟩
  by_cases g2 : 30 < (s.size : Int)
  · have H := hide (gk_len s (.inr g2))
    go_enter Tryz.func50, Tryz.ntmps50
    go_wp2
    go_ret
    exact ⟨ret_bool (unhide H).symm, rfl⟩
  have HT := hide (inB_true s g1 g2)
  go_enter Tryz.func50, Tryz.ntmps50
  go_wp2
  go_loop [14] (fun i => ∃ k : Nat, k ≤ s.size ∧ i = .int .i64 k ∧ Hid ((s.data.toList.take k).all okb = true)) (fun i => s.size - (intOf i).toNat)
  case atStart => exact ⟨0, Nat.zero_le _, rfl, hide rfl⟩
  case round =>
    obtain ⟨k, hk, rfl, ha⟩ := hrel
    by_cases hlt : k < s.size
    · by_cases h1 : (s[k].toNat : Int) < 33
      · have H := hide (gk_bad s k hlt (.inl h1))
        go_wp2
        go_ret
        exact ⟨ret_bool (unhide H).symm, rfl⟩
      · by_cases h2 : 126 < (s[k].toNat : Int)
        · have H := hide (gk_bad s k hlt (.inr h2))
          go_wp2
          go_ret
          exact ⟨ret_bool (unhide H).symm, rfl⟩
        · have H := hide (all_snoc s k hlt (unhide ha) h1 h2)
          go_wp2
          go_round
          case rel => exact ⟨k + 1, by omega, by go_num, H⟩
          case measure => simp [intOf]; omega
    · have H := hide (gk_all s k hk hlt (unhide ha))
      go_wp2
      go_ret
      exact ⟨ret_bool (by rw [← unhide H]; exact (unhide HT).symm), rfl⟩

end GoodKey
end Go.Proofs.YtghckjmpcokhcaaGreatDoor
