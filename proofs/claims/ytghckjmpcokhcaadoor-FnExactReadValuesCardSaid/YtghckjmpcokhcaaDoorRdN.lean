/-
  The model's l1Read and l1Split: a number from its digits, -1 where it is none; the words between blanks.
-/
import Derived.Test.YtghckjmpcokhcaaDoorRdQ
import Derived.Test.YtghckjmpcokhcaaDoorNum
import Derived.Test.YtghckjmpcokhcaaDoorStringW
import Derived.Maps.AppendAt
namespace Go.Proofs.YtghckjmpcokhcaaDoor
namespace Rd
open Go.RowKit Base Items Store GoodKey NumText Sp Count Vals
set_option linter.unusedVariables false

theorem first_of2 (s : ByteArray) (h : 1 < s.size) : firstB s.data.toList = (s[0].toNat == 48) := by
  have e : ∃ a b l, s.data.toList = a :: b :: l := by
    have hl : s.data.toList.length = s.size := by simp
    match hh : s.data.toList, hl with
    | [], hl => simp at hl; omega
    | [a], hl => simp at hl; omega
    | a :: b :: l, _ => exact ⟨a, b, l, rfl⟩
  obtain ⟨a, b, l, e⟩ := e
  have e0 : s[0] = a := by
    have e1 : s[0] = s.data.toList[0]'(by simp; omega) := rfl
    rw [e1]; simp [e]
  rw [e, e0]; rfl
theorem first_one2 (s : ByteArray) (h : s.size ≤ 1) : firstB s.data.toList = false := by
  have hl : s.data.toList.length = s.size := by simp
  match hh : s.data.toList, hl with
  | [], hl => rfl
  | [a], hl => rfl
  | a :: b :: l, hl => simp at hl; omega

/-- What l1Read tells. -/
def mrd (l : List UInt8) : Int := if inB l.length 1 10 = true then if firstB l = true then -1 else if l.all digB = true then if inB (val l) 0 1000000000 = true then val l else -1 else -1 else -1
theorem mrd_bd (l : List UInt8) : -1 ≤ mrd l ∧ mrd l ≤ 1000000000 := by
  unfold mrd
  repeat' split
  all_goals first | omega | (rename_i h; simp [inB] at h; omega)
theorem mrd_dec {n : Nat} (h : n ≤ 1000000000) : mrd (Lib.decDigits n) = n := by
  obtain ⟨h1, h2, h3, h4, h5⟩ := dec_props n
  have hp := plain_dec (n := n) (by omega)
  unfold plainB at hp
  simp only [Bool.and_eq_true, Bool.not_eq_true'] at hp
  have hl : (Lib.decDigits n).length ≤ 10 := by
    have hb := Lib.decDigits_length n
    by_cases h0 : 1 ≤ n
    · have := nDigits_low n h0
      have hlt : Lib.nDigits n - 1 < 10 := by
        apply Nat.lt_of_not_le
        intro hge
        have : 10 ^ 10 ≤ 10 ^ (Lib.nDigits n - 1) := Nat.pow_le_pow_right (by omega) hge
        have e : (10 : Nat) ^ 10 = 10000000000 := by decide
        omega
      omega
    · have : n = 0 := by omega
      subst this
      rw [Lib.decDigits_one (by omega)]; simp
  have hl1 : 1 ≤ (Lib.decDigits n).length := List.length_pos_iff.2 h3
  unfold mrd
  rw [if_pos (by simp [inB]; omega), if_neg (by rw [hp.1.2]; simp), if_pos h1, h2, if_pos (by simp [inB]; omega)]
theorem mrd_1 {s : ByteArray} (g : inB s.size 1 10 = false) : mrd s.data.toList = -1 := by
  have el : s.data.toList.length = s.size := by simp
  unfold mrd; rw [el, g]; simp
theorem mrd_2 {s : ByteArray} (g : firstB s.data.toList = true) : mrd s.data.toList = -1 := by
  unfold mrd; rw [g]; simp
theorem mrd_4 {s : ByteArray} (g : s.data.toList.all digB = false) : mrd s.data.toList = -1 := by
  unfold mrd; rw [g]; simp
theorem mrd_5 {s : ByteArray} (g1 : inB s.size 1 10 = true) (g2 : ¬ firstB s.data.toList = true) (g4 : s.data.toList.all digB = true) : mrd s.data.toList = if inB (val s.data.toList) 0 1000000000 = true then val s.data.toList else -1 := by
  have el : s.data.toList.length = s.size := by simp
  unfold mrd; rw [el, if_pos g1, if_neg g2, if_pos g4]

set_option maxRecDepth 10000 in
set_option maxHeartbeats 1000000 in
theorem l1Read_any (s : ByteArray) (w : World) (hs : s.size ≤ 1048576) :
    Calls Tryd.prog 14 #[.string s] w fun e w' => e = .returned (.int .i64 (mrd s.data.toList)) ∧ w' = w := by
  cases g1 : inB s.size 1 10
  · have H := hide (mrd_1 g1)
    go_enter Tryd.func14, Tryd.ntmps14
    go_wp2_with (go_at_call 15; refine (l1In_any _ _ _ _).mono ?_; rintro e w1 ⟨rfl, rfl⟩)
    go_ret
    exact ⟨ret_int (unhide H).symm, rfl⟩
  have hb : 1 ≤ s.size ∧ s.size ≤ 10 := by simp [inB] at g1; omega
  obtain ⟨hb1, hb2⟩ := hb
  have hpos : 0 < s.size := by omega
  by_cases g2 : firstB s.data.toList = true
  · have H := hide (mrd_2 g2)
    have h1 : 1 < s.size := by
      rcases Nat.lt_or_ge 1 s.size with h | h
      · exact h
      · rw [first_one2 s h] at g2; simp at g2
    have h2 : ((s[0].toNat : Int) == 48) = true := by rw [first_of2 s h1] at g2; simp at g2 ⊢; omega
    have h3 : 1 < (s.size : Int) := by omega
    clear g2
    go_enter Tryd.func14, Tryd.ntmps14
    go_wp2_with (go_at_call 15; refine (l1In_any _ _ _ _).mono ?_; rintro e w1 ⟨rfl, rfl⟩)
    go_ret
    exact ⟨ret_int (unhide H).symm, rfl⟩
  have hcase : ((s[0].toNat : Int) == 48) = false ∨ (((s[0].toNat : Int) == 48) = true ∧ ¬ 1 < (s.size : Int)) := by
    cases e : ((s[0].toNat : Int) == 48)
    · exact .inl rfl
    · right
      refine ⟨rfl, fun h => g2 ?_⟩
      rw [first_of2 s (by omega)]
      simp at e ⊢
      omega
  have HC := hide (fun h => @mrd_5 s g1 g2 h)
  clear g2
  rcases hcase with e0 | ⟨e0, e1⟩
  all_goals
    go_enter Tryd.func14, Tryd.ntmps14
    go_wp2_with (go_at_call 15; refine (l1In_any _ _ _ _).mono ?_; rintro e w1 ⟨rfl, rfl⟩)
    go_loop [3, 4] (fun n i => ∃ (k : Nat) (z : Int), k ≤ s.size ∧ 0 ≤ z ∧ z < 1000000000000000000 ∧ i = .int .i64 k ∧ n = .int .i64 z ∧ Hid (z = val (s.data.toList.take k)) ∧ Hid ((s.data.toList.take k).all digB = true)) (fun _ i => s.size - (intOf i).toNat)
    case atStart => exact ⟨0, 0, Nat.zero_le _, by omega, by omega, rfl, rfl, hide rfl, hide rfl⟩
    case round =>
      obtain ⟨k, z, hk, hz0, hz1, rfl, rfl, hv, ha⟩ := hrel
      by_cases hlt : k < s.size
      · have hz17 : z < 100000000000000000 := by
          have h := (val_17 _ (unhide ha) (by rw [List.length_take]; omega)).2
          rw [← unhide hv] at h
          exact h
        by_cases d1 : (s[k].toNat : Int) < 48
        · have H := hide (mrd_4 (all_bad s k hlt (.inl d1)))
          go_wp2
          go_ret
          exact ⟨ret_int (unhide H).symm, rfl⟩
        by_cases d2 : 57 < (s[k].toNat : Int)
        · have H := hide (mrd_4 (all_bad s k hlt (.inr d2)))
          go_wp2
          go_ret
          exact ⟨ret_int (unhide H).symm, rfl⟩
        have HA := hide (all_step s k hlt (unhide ha) d1 d2)
        have HV : Hid (10 * z + ((s[k].toNat : Int) - 48) = val (s.data.toList.take (k + 1))) := by show 10 * z + _ = _; rw [val_step s k hlt, unhide hv]
        go_wp2
        go_round
        case rel => exact ⟨k + 1, 10 * z + ((s[k].toNat : Int) - 48), by omega, by omega, by omega, by go_num, rfl, HV, HA⟩
        case measure => simp [intOf]; omega
      · have ek : s.data.toList.take k = s.data.toList := List.take_of_length_le (by simp; omega)
        have H5 := unhide HC (by rw [← ek]; exact unhide ha)
        have hvz : val s.data.toList = z := by rw [unhide hv, ek]
        rw [hvz] at H5
        clear hvz ek
        cases hq : inB z 0 1000000000
        · rw [hq] at H5
          have H : Hid (mrd s.data.toList = -1) := H5
          clear H5
          go_wp2_with (go_at_call 19; refine (Num.number_any _ _).mono ?_; rintro e w1 ⟨rfl, rfl⟩)
          go_ret
          exact ⟨ret_int (unhide H).symm, rfl⟩
        · rw [hq] at H5
          have H : Hid (mrd s.data.toList = z) := H5
          clear H5
          go_wp2_with (go_at_call 19; refine (Num.number_any _ _).mono ?_; rintro e w1 ⟨rfl, rfl⟩)
          go_ret
          exact ⟨ret_int (unhide H).symm, rfl⟩

/-- How far a line has been split. -/
def SpTo (l : List UInt8) (ws : List ByteArray) (a i : Nat) : Prop :=
  (i ≤ l.length ∧ a ≤ i ∧ sp l = ws.map bl ++ sp (l.drop a) ∧ 32 ∉ (l.drop a).take (i - a)) ∨ (i = l.length + 1 ∧ sp l = ws.map bl)
theorem spto_start (l : List UInt8) : SpTo l [] 0 0 := .inl ⟨Nat.zero_le _, Nat.le_refl _, by simp, by simp⟩
theorem spto_skip {l : List UInt8} {ws : List ByteArray} {a i : Nat} (h : SpTo l ws a i) (hi : i < l.length) (hc : l[i] ≠ 32) : SpTo l ws a (i + 1) := by
  rcases h with ⟨h1, h2, h3, h4⟩ | ⟨h1, _⟩
  · refine .inl ⟨by omega, by omega, h3, ?_⟩
    have e : (l.drop a).take (i + 1 - a) = (l.drop a).take (i - a) ++ [l[i]] := by
      rw [show i + 1 - a = (i - a) + 1 by omega, List.take_succ_eq_append_getElem (by rw [List.length_drop]; omega)]
      congr 2
      rw [List.getElem_drop]
      congr 1; omega
    rw [e]
    simp only [List.mem_append, List.mem_singleton, not_or]
    exact ⟨h4, fun e => hc e.symm⟩
  · omega
theorem spto_cut {s : ByteArray} {ws : List ByteArray} {a i : Nat} (h : SpTo (bl s) ws a i) (hi : i < (bl s).length) (hc : (bl s)[i] = 32) : SpTo (bl s) (ws ++ [s.extract a i]) (i + 1) (i + 1) := by
  rcases h with ⟨h1, h2, h3, h4⟩ | ⟨h1, _⟩
  · refine .inl ⟨by omega, Nat.le_refl _, ?_, by simp⟩
    have e : (bl s).drop a = ((bl s).drop a).take (i - a) ++ 32 :: (bl s).drop (i + 1) := by
      conv => lhs; rw [← List.take_append_drop (i - a) ((bl s).drop a)]
      rw [List.drop_drop, show a + (i - a) = i by omega, List.drop_eq_getElem_cons hi, hc]
    rw [h3, e, sp_cons h4, List.map_append]
    simp [ext_bl]
  · omega
theorem spto_end {s : ByteArray} {ws : List ByteArray} {a : Nat} (h : SpTo (bl s) ws a (bl s).length) : SpTo (bl s) (ws ++ [s.extract a (bl s).length]) ((bl s).length + 1) ((bl s).length + 1) := by
  rcases h with ⟨h1, h2, h3, h4⟩ | ⟨h1, _⟩
  · refine .inr ⟨rfl, ?_⟩
    have e : ((bl s).drop a).take ((bl s).length - a) = (bl s).drop a := List.take_of_length_le (by rw [List.length_drop]; exact Nat.le_refl _)
    rw [e] at h4
    rw [h3, sp_word h4, List.map_append]
    simp only [List.map_cons, List.map_nil, ext_bl, e]
  · omega
end Rd
end Go.Proofs.YtghckjmpcokhcaaDoor
