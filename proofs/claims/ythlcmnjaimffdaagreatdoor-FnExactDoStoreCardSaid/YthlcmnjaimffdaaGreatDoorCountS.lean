/-
  The contract of the model's CountText: it answers by the plain function countB, for every text, number and direction.
-/
import Derived.Test.YthlcmnjaimffdaaGreatDoorCounts
import Derived.Test.YthlcmnjaimffdaaGreatDoorPlain
import Derived.Test.YthlcmnjaimffdaaGreatDoorRows
namespace Go.Proofs.YthlcmnjaimffdaaGreatDoor
namespace Count
open Go.RowKit Base GoodKey NumText
set_option linter.unusedVariables false

theorem first_of (s : ByteArray) (h : 1 < s.size) : firstB s.data.toList = (s[0].toNat == 48) := by
  have e : ∃ a b l, s.data.toList = a :: b :: l := by
    have hl : s.data.toList.length = s.size := by simp
    match hh : s.data.toList, hl with
    | [], hl => simp at hl; omega
    | [a], hl => simp at hl; omega
    | a :: b :: l, _ => exact ⟨a, b, l, rfl⟩
  obtain ⟨a, b, l, e⟩ := e
  have e0 : s[0] = a := by
    have e1 : s[0] = s.data.toList[0]'(by simp; omega) := rfl
    rw [e1]; simp [e]
  rw [e, e0]; rfl
theorem first_one (s : ByteArray) (h : s.size ≤ 1) : firstB s.data.toList = false := by
  have hl : s.data.toList.length = s.size := by simp
  match hh : s.data.toList, hl with
  | [], hl => rfl
  | [a], hl => rfl
  | a :: b :: l, hl => simp at hl; omega

theorem none_1 {s : ByteArray} {m : Int} {down : Bool} (g : inB s.size 1 18 = false) : countB s.data.toList m down = none := by
  have el : s.data.toList.length = s.size := by simp
  simp [countB, el, g]
theorem none_2 {s : ByteArray} {m : Int} {down : Bool} (g : firstB s.data.toList = true) : countB s.data.toList m down = none := by
  simp [countB, g]
theorem none_3 {s : ByteArray} {m : Int} {down : Bool} (g : inB m 0 1000000000 = false) : countB s.data.toList m down = none := by
  simp [countB, g]
theorem none_4 {s : ByteArray} {m : Int} {down : Bool} (g : s.data.toList.all digB = false) : countB s.data.toList m down = none := by
  unfold countB
  rw [g]
  simp
theorem count_5 {s : ByteArray} {m : Int} {down : Bool} (g1 : inB s.size 1 18 = true) (g2 : ¬ firstB s.data.toList = true) (g3 : inB m 0 1000000000 = true) (g4 : s.data.toList.all digB = true) :
    countB s.data.toList m down = if 18 < (txt (res (val s.data.toList) m down).toNat).size then none else some (txt (res (val s.data.toList) m down).toNat) := by
  have el : s.data.toList.length = s.size := by simp
  unfold countB
  rw [el, if_pos g1, if_neg g2, if_pos g3, if_pos g4]

set_option maxHeartbeats 1000000 in
theorem spec_any (s : ByteArray) (m : Int) (down : Bool) (w : World) (hs : s.size ≤ maxLen) :
    Calls Tryz.prog 85 #[.string s, .int .i64 m, .bool down] w fun e w' => e = .returned (countV (countB s.data.toList m down)) ∧ Below w.heap.size w w' := by
  unfold maxLen at hs
  cases g1 : inB s.size 1 18
  · have H := hide (none_1 (m := m) (down := down) g1)
    go_enter Tryz.func85, Tryz.ntmps85
    go_wp2_with (go_at_call 36; refine (l1In_any _ _ _ _).mono ?_; rintro e w1 ⟨rfl, rfl⟩)
    go_ret2
    exact ⟨ret_count (unhide H).symm, Below.refl _ _⟩
  have hb : 1 ≤ s.size ∧ s.size ≤ 18 := by simp [inB] at g1; omega
  obtain ⟨hb1, hb2⟩ := hb
  have hpos : 0 < s.size := by omega
  by_cases g2 : firstB s.data.toList = true
  · have H := hide (none_2 (m := m) (down := down) g2)
    have h1 : 1 < s.size := by
      rcases Nat.lt_or_ge 1 s.size with h | h
      · exact h
      · rw [first_one s h] at g2; simp at g2
    have h2 : ((s[0].toNat : Int) == 48) = true := by rw [first_of s h1] at g2; simp at g2 ⊢; omega
    have h3 : 1 < (s.size : Int) := by omega
    clear g2
    go_enter Tryz.func85, Tryz.ntmps85
    go_wp2_with (go_at_call 36; refine (l1In_any _ _ _ _).mono ?_; rintro e w1 ⟨rfl, rfl⟩)
    go_ret2
    exact ⟨ret_count (unhide H).symm, Below.refl _ _⟩
  have hcase : ((s[0].toNat : Int) == 48) = false ∨ (((s[0].toNat : Int) == 48) = true ∧ ¬ 1 < (s.size : Int)) := by
    cases e : ((s[0].toNat : Int) == 48)
    · exact .inl rfl
    · right
      refine ⟨rfl, fun h => g2 ?_⟩
      rw [first_of s (by omega)]
      simp at e ⊢
      omega
  have G2 := hide g2
  clear g2
  rcases hcase with e0 | ⟨e0, e1⟩
  all_goals
    cases g3 : inB m 0 1000000000
    · have H := hide (none_3 (s := s) (down := down) g3)
      go_enter Tryz.func85, Tryz.ntmps85
      go_wp2_with (first | (go_at_call 36; refine (l1In_any _ _ _ _).mono ?_; rintro e w1 ⟨rfl, rfl⟩) | (go_at_call 41; refine (Num.number_any _ _).mono ?_; rintro e w1 ⟨rfl, rfl⟩))
      go_ret2
      exact ⟨ret_count (unhide H).symm, Below.refl _ _⟩
    have hm : 0 ≤ m ∧ m ≤ 1000000000 := by simp [inB] at g3; omega
    obtain ⟨hm0, hm1⟩ := hm
    have HC := hide (fun h => @count_5 s m down g1 (unhide G2) g3 h)
    go_enter Tryz.func85, Tryz.ntmps85
    go_wp2_with (first | (go_at_call 36; refine (l1In_any _ _ _ _).mono ?_; rintro e w1 ⟨rfl, rfl⟩) | (go_at_call 41; refine (Num.number_any _ _).mono ?_; rintro e w1 ⟨rfl, rfl⟩))
    go_loop [8, 9] (fun n i => ∃ (k : Nat) (z : Int), k ≤ s.size ∧ 0 ≤ z ∧ z < 1000000000000000000 ∧ i = .int .i64 k ∧ n = .int .i64 z ∧ Hid (z = val (s.data.toList.take k)) ∧ Hid ((s.data.toList.take k).all digB = true)) (fun _ i => s.size - (intOf i).toNat)
    case atStart => exact ⟨0, 0, Nat.zero_le _, by omega, by omega, rfl, rfl, hide rfl, hide rfl⟩
    case round =>
      obtain ⟨k, z, hk, hz0, hz1, rfl, rfl, hv, ha⟩ := hrel
      by_cases hlt : k < s.size
      · have hz17 : z < 100000000000000000 := by
          have h := (val_17 _ (unhide ha) (by rw [List.length_take]; omega)).2
          rw [← unhide hv] at h
          exact h
        by_cases d1 : (s[k].toNat : Int) < 48
        · have H := hide (none_4 (m := m) (down := down) (all_bad s k hlt (.inl d1)))
          go_wp2
          go_ret2
          exact ⟨ret_count (unhide H).symm, Below.refl _ _⟩
        by_cases d2 : 57 < (s[k].toNat : Int)
        · have H := hide (none_4 (m := m) (down := down) (all_bad s k hlt (.inr d2)))
          go_wp2
          go_ret2
          exact ⟨ret_count (unhide H).symm, Below.refl _ _⟩
        have HA := hide (all_step s k hlt (unhide ha) d1 d2)
        have HV : Hid (10 * z + ((s[k].toNat : Int) - 48) = val (s.data.toList.take (k + 1))) := by show 10 * z + _ = _; rw [val_step s k hlt, unhide hv]
        go_wp2
        go_round
        case rel => exact ⟨k + 1, 10 * z + ((s[k].toNat : Int) - 48), by omega, by omega, by omega, by go_num, rfl, HV, HA⟩
        case measure => simp [intOf]; omega
      · have ek : s.data.toList.take k = s.data.toList := List.take_of_length_le (by simp; omega)
        have H5 := unhide HC (by rw [← ek]; exact unhide ha)
        have hvz : val s.data.toList = z := by rw [unhide hv, ek]
        rw [hvz] at H5
        have HR : Hid (countB s.data.toList m down = if 18 < (txt (res z m down).toNat).size then none else some (txt (res z m down).toNat)) := H5
        clear H5 hvz ek
        have hrb : 0 ≤ res z m down ∧ res z m down < 9223372036854775808 := by unfold res; repeat' split; all_goals omega
        obtain ⟨hr0, hr1⟩ := hrb
        have hnum := fun w => num_any (res z m down) w hr0 hr1
        have hneg : Hid (res z m down = if (if down then z - m else z + m) < 0 then 0 else (if down then z - m else z + m)) := rfl
        generalize res z m down = r at HR hnum hneg hr0 hr1
        have HN := hide hnum
        clear hnum
        cases down
        · have hnn : ¬ z + m < 0 := by omega
          obtain rfl : r = z + m := by have := unhide hneg; simpa [hnn] using this
          by_cases g6 : 18 < ((txt (z + m).toNat).size : Int)
          · have H : Hid (countB s.data.toList m false = none) := by show countB s.data.toList m false = none; rw [unhide HR, if_pos (by omega)]
            go_wp2_with fail
            refine (unhide HN _).mono ?_
            rintro e w1 ⟨rfl, hb1⟩
            have hb1 := hide hb1
            go_wp2
            go_ret2
            exact ⟨ret_count (unhide H).symm, unhide hb1⟩
          · have H : Hid (countB s.data.toList m false = some (txt (z + m).toNat)) := by show countB s.data.toList m false = _; rw [unhide HR, if_neg (by omega)]
            go_wp2_with fail
            refine (unhide HN _).mono ?_
            rintro e w1 ⟨rfl, hb1⟩
            have hb1 := hide hb1
            go_wp2
            go_ret2
            exact ⟨ret_count (unhide H).symm, unhide hb1⟩
        · by_cases hnn : z - m < 0
          · obtain rfl : r = 0 := by have := unhide hneg; simpa [hnn] using this
            have H : Hid (countB s.data.toList m true = some (txt 0)) := by
              show countB s.data.toList m true = _; rw [unhide HR, if_neg (by rw [show (0 : Int).toNat = 0 from rfl, txt_0]; omega)]; rfl
            go_wp2_with fail
            refine (unhide HN _).mono ?_
            rintro e w1 ⟨rfl, hb1⟩
            have hb1 := hide hb1
            have g6 : ¬ 18 < ((txt 0).size : Int) := by rw [txt_0]; omega
            go_wp2
            go_ret2
            exact ⟨ret_count (unhide H).symm, unhide hb1⟩
          · obtain rfl : r = z - m := by have := unhide hneg; simpa [hnn] using this
            by_cases g6 : 18 < ((txt (z - m).toNat).size : Int)
            · have H : Hid (countB s.data.toList m true = none) := by show countB s.data.toList m true = none; rw [unhide HR, if_pos (by omega)]
              go_wp2_with fail
              refine (unhide HN _).mono ?_
              rintro e w1 ⟨rfl, hb1⟩
              have hb1 := hide hb1
              go_wp2
              go_ret2
              exact ⟨ret_count (unhide H).symm, unhide hb1⟩
            · have H : Hid (countB s.data.toList m true = some (txt (z - m).toNat)) := by show countB s.data.toList m true = _; rw [unhide HR, if_neg (by omega)]
              go_wp2_with fail
              refine (unhide HN _).mono ?_
              rintro e w1 ⟨rfl, hb1⟩
              have hb1 := hide hb1
              go_wp2
              go_ret2
              exact ⟨ret_count (unhide H).symm, unhide hb1⟩
end Count
end Go.Proofs.YthlcmnjaimffdaaGreatDoor
