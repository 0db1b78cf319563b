/-
  The model's l1Read: a number from its digits, -1 where it is none.
-/
import Derived.Test.YteiecijgmdbajaaDoorRnP
import Derived.Test.YteiecijgmdbajaaDoorNum
namespace Go.Proofs.YteiecijgmdbajaaDoor
namespace Rn
open Go.RowKit Base GoodKey NumText Sp Count
set_option linter.unusedVariables false

set_option maxRecDepth 10000 in
set_option maxHeartbeats 1000000 in
theorem l1Read_any (s : ByteArray) (w : World) (hs : s.size ≤ 1048576) :
    Calls Tryd.prog 15 #[.string s] w fun e w' => e = .returned (.int .i64 (mrd s.data.toList)) ∧ w' = w := by
  cases g1 : inB s.size 1 10
  · have H := hide (mrd_1 g1)
    go_enter Tryd.func15, Tryd.ntmps15
    go_wp2_with (go_at_call 27; refine (l1In_any _ _ _ _).mono ?_; rintro e w1 ⟨rfl, rfl⟩)
    go_ret
    exact ⟨ret_int (unhide H).symm, rfl⟩
  have hb : 1 ≤ s.size ∧ s.size ≤ 10 := by simp [inB] at g1; omega
  obtain ⟨hb1, hb2⟩ := hb
  have hpos : 0 < s.size := by omega
  by_cases g2 : firstB s.data.toList = true
  · have H := hide (mrd_2 g2)
    have h1 : 1 < s.size := by
      rcases Nat.lt_or_ge 1 s.size with h | h
      · exact h
      · rw [first_one2 s h] at g2; simp at g2
    have h2 : ((s[0].toNat : Int) == 48) = true := by rw [first_of2 s h1] at g2; simp at g2 ⊢; omega
    have h3 : 1 < (s.size : Int) := by omega
    clear g2
    go_enter Tryd.func15, Tryd.ntmps15
    go_wp2_with (go_at_call 27; refine (l1In_any _ _ _ _).mono ?_; rintro e w1 ⟨rfl, rfl⟩)
    go_ret
    exact ⟨ret_int (unhide H).symm, rfl⟩
  have hcase : ((s[0].toNat : Int) == 48) = false ∨ (((s[0].toNat : Int) == 48) = true ∧ ¬ 1 < (s.size : Int)) := by
    cases e : ((s[0].toNat : Int) == 48)
    · exact .inl rfl
    · right
      refine ⟨rfl, fun h => g2 ?_⟩
      rw [first_of2 s (by omega)]
      simp at e ⊢
      omega
  have HC := hide (fun h => @mrd_5 s g1 g2 h)
  clear g2
  rcases hcase with e0 | ⟨e0, e1⟩
  all_goals
    go_enter Tryd.func15, Tryd.ntmps15
    go_wp2_with (go_at_call 27; refine (l1In_any _ _ _ _).mono ?_; rintro e w1 ⟨rfl, rfl⟩)
    go_loop [3, 4] (fun n i => ∃ (k : Nat) (z : Int), k ≤ s.size ∧ 0 ≤ z ∧ z < 1000000000000000000 ∧ i = .int .i64 k ∧ n = .int .i64 z ∧ Hid (z = val (s.data.toList.take k)) ∧ Hid ((s.data.toList.take k).all digB = true)) (fun _ i => s.size - (intOf i).toNat)
    case atStart => exact ⟨0, 0, Nat.zero_le _, by omega, by omega, rfl, rfl, hide rfl, hide rfl⟩
    case round =>
      obtain ⟨k, z, hk, hz0, hz1, rfl, rfl, hv, ha⟩ := hrel
      by_cases hlt : k < s.size
      · have hz17 : z < 100000000000000000 := by
          have h := (val_17 _ (unhide ha) (by rw [List.length_take]; omega)).2
          rw [← unhide hv] at h
          exact h
        by_cases d1 : (s[k].toNat : Int) < 48
        · have H := hide (mrd_4 (all_bad s k hlt (.inl d1)))
          go_wp2
          go_ret
          exact ⟨ret_int (unhide H).symm, rfl⟩
        by_cases d2 : 57 < (s[k].toNat : Int)
        · have H := hide (mrd_4 (all_bad s k hlt (.inr d2)))
          go_wp2
          go_ret
          exact ⟨ret_int (unhide H).symm, rfl⟩
        have HA := hide (all_step s k hlt (unhide ha) d1 d2)
        have HV : Hid (10 * z + ((s[k].toNat : Int) - 48) = val (s.data.toList.take (k + 1))) := by show 10 * z + _ = _; rw [val_step s k hlt, unhide hv]
        go_wp2
        go_round
        case rel => exact ⟨k + 1, 10 * z + ((s[k].toNat : Int) - 48), by omega, by omega, by omega, by go_num, rfl, HV, HA⟩
        case measure => simp [intOf]; omega
      · have ek : s.data.toList.take k = s.data.toList := List.take_of_length_le (by simp; omega)
        have H5 := unhide HC (by rw [← ek]; exact unhide ha)
        have hvz : val s.data.toList = z := by rw [unhide hv, ek]
        rw [hvz] at H5
        clear hvz ek
        cases hq : inB z 0 1000000000
        · rw [hq] at H5
          have H : Hid (mrd s.data.toList = -1) := H5
          clear H5
          go_wp2_with (go_at_call 28; refine (Num.number_any _ _).mono ?_; rintro e w1 ⟨rfl, rfl⟩)
          go_ret
          exact ⟨ret_int (unhide H).symm, rfl⟩
        · rw [hq] at H5
          have H : Hid (mrd s.data.toList = z) := H5
          clear H5
          go_wp2_with (go_at_call 28; refine (Num.number_any _ _).mono ?_; rintro e w1 ⟨rfl, rfl⟩)
          go_ret
          exact ⟨ret_int (unhide H).symm, rfl⟩

end Rn
end Go.Proofs.YteiecijgmdbajaaDoor
