/-
  Lists of good keys, as plain data. No Go function is spoken of here.
-/
import Derived.Test.YtoinbldoioffdaaDoorInS
namespace Go.Proofs.YtoinbldoioffdaaDoor
namespace GoodCmd
open Go.RowKit Base GoodKey
def gkb (s : ByteArray) : Bool := gk s.data.toList
theorem all_step (ks : List ByteArray) (k : Nat) (h : k < ks.length) (ha : (ks.take k).all gkb = true) (hg : gkb (ks.getD k ByteArray.empty) = true) : (ks.take (k + 1)).all gkb = true := by
  rw [List.take_succ_eq_append_getElem h, List.all_append, ha]
  simp [List.getD_eq_getElem?_getD, List.getElem?_eq_getElem h] at hg
  simp [hg]
theorem all_bad (ks : List ByteArray) (k : Nat) (h : k < ks.length) (hg : gkb (ks.getD k ByteArray.empty) = false) : ks.all gkb = false := by
  rw [List.all_eq_false]
  refine ⟨ks[k], List.getElem_mem _, ?_⟩
  simp [List.getD_eq_getElem?_getD, List.getElem?_eq_getElem h] at hg
  simp [hg]
theorem all_whole (ks : List ByteArray) (k : Nat) (hk : k ≤ ks.length) (h : ¬ k < ks.length) (ha : (ks.take k).all gkb = true) : ks.all gkb = true := by
  rw [List.take_of_length_le (by omega)] at ha
  exact ha
end GoodCmd
end Go.Proofs.YtoinbldoioffdaaDoor
/-
  The contract of the model's GoodKey: it answers by a plain function of the bytes, for every string.
-/
namespace Go.Proofs.YtoinbldoioffdaaDoor
namespace GoodKey
open Go.RowKit Base
set_option linter.unusedVariables false

set_option maxHeartbeats 400000 in
theorem spec_any (s : ByteArray) (w : World) (hs : s.size ≤ maxLen) :
    Calls Tryd.prog 37 #[.string s] w fun e w' => e = .returned (.bool (gk s.data.toList)) ∧ w' = w := by
  unfold maxLen at hs
  go_enter Tryd.func37, Tryd.ntmps37
  go_wp2
  go_loop [3] (fun i => ∃ k : Nat, k ≤ s.size ∧ i = .int .i64 k ∧ Hid ((s.data.toList.take k).all okb = true)) (fun i => s.size - (intOf i).toNat)
  case atStart => exact ⟨0, Nat.zero_le _, rfl, hide rfl⟩
  case round =>
    obtain ⟨k, hk, rfl, ha⟩ := hrel
    by_cases hlt : k < s.size
    · by_cases h1 : (s[k].toNat : Int) < 33
      · have H := hide (gk_bad s k hlt (.inl h1))
        go_wp2
        go_ret
        exact ⟨ret_bool (unhide H).symm, rfl⟩
      · by_cases h2 : 126 < (s[k].toNat : Int)
        · have H := hide (gk_bad s k hlt (.inr h2))
          go_wp2
          go_ret
          exact ⟨ret_bool (unhide H).symm, rfl⟩
        · have H := hide (all_snoc s k hlt (unhide ha) h1 h2)
          go_wp2
          go_round
          case rel => exact ⟨k + 1, by omega, by go_num, H⟩
          case measure => simp [intOf]; omega
    · have H := hide (gk_all s k hk hlt (unhide ha))
      go_wp2_with (go_at_call 36; refine (l1In_any _ _ _ _).mono ?_; rintro e w' ⟨rfl, rfl⟩)
      go_ret
      exact ⟨ret_bool (unhide H), rfl⟩

end GoodKey
end Go.Proofs.YtoinbldoioffdaaDoor
