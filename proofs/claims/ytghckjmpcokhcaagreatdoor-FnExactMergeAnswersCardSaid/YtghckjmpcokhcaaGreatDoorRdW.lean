/-
  The contract of the model's l1Number, for every int.
-/
import Derived.Test.YtghckjmpcokhcaaGreatDoorNodesZ
import Derived.Test.YtghckjmpcokhcaaGreatDoorRdY
import Derived.Test.YtghckjmpcokhcaaGreatDoorStrY
import Derived.Maps.AppendAt
import Derived.Test.YtghckjmpcokhcaaGreatDoorPartZ
namespace Go.Proofs.YtghckjmpcokhcaaGreatDoor
namespace Num
open Go.RowKit Base GoodKey

set_option maxHeartbeats 400000 in
theorem number_any (n : Int) (w : World) :
    Calls Tryz.prog 92 #[.int .i64 n] w fun e w' => e = .returned (.bool (inB n 0 1000000000)) ∧ w' = w := by
  go_enter Tryz.func92, Tryz.ntmps92
  go_wp2_with (go_at_call 58; refine (l1In_any _ _ _ _).mono ?_; rintro e w' ⟨rfl, rfl⟩)
  go_ret
  exact ⟨rfl, rfl⟩
end Num
end Go.Proofs.YtghckjmpcokhcaaGreatDoor
/-
  The model's l1Read and l1Split: a number from its digits, -1 where it is none; the words between blanks.
-/
namespace Go.Proofs.YtghckjmpcokhcaaGreatDoor
namespace Rd
open Go.RowKit Base Items Store GoodKey NumText Sp Count Vals
set_option linter.unusedVariables false

theorem first_of2 (s : ByteArray) (h : 1 < s.size) : firstB s.data.toList = (s[0].toNat == 48) := by
  have e : ∃ a b l, s.data.toList = a :: b :: l := by
    have hl : s.data.toList.length = s.size := by simp
    match hh : s.data.toList, hl with
    | [], hl => simp at hl; omega
    | [a], hl => simp at hl; omega
    | a :: b :: l, _ => exact ⟨a, b, l, rfl⟩
  obtain ⟨a, b, l, e⟩ := e
  have e0 : s[0] = a := by
    have e1 : s[0] = s.data.toList[0]'(by simp; omega) := rfl
    rw [e1]; simp [e]
  rw [e, e0]; rfl
theorem first_one2 (s : ByteArray) (h : s.size ≤ 1) : firstB s.data.toList = false := by
  have hl : s.data.toList.length = s.size := by simp
  match hh : s.data.toList, hl with
  | [], hl => rfl
  | [a], hl => rfl
  | a :: b :: l, hl => simp at hl; omega

/-- What l1Read tells. -/
def mrd (l : List UInt8) : Int := if inB l.length 1 10 = true then if firstB l = true then -1 else if l.all digB = true then if inB (val l) 0 1000000000 = true then val l else -1 else -1 else -1
theorem mrd_bd (l : List UInt8) : -1 ≤ mrd l ∧ mrd l ≤ 1000000000 := by
  unfold mrd
  repeat' split
  all_goals first | omega | (rename_i h; simp [inB] at h; omega)
theorem mrd_dec {n : Nat} (h : n ≤ 1000000000) : mrd (Lib.decDigits n) = n := by
  obtain ⟨h1, h2, h3, h4, h5⟩ := dec_props n
  have hp := plain_dec (n := n) (by omega)
  unfold plainB at hp
  simp only [Bool.and_eq_true, Bool.not_eq_true'] at hp
  have hl : (Lib.decDigits n).length ≤ 10 := by
    have hb := Lib.decDigits_length n
    by_cases h0 : 1 ≤ n
    · have := nDigits_low n h0
      have hlt : Lib.nDigits n - 1 < 10 := by
        apply Nat.lt_of_not_le
        intro hge
        have : 10 ^ 10 ≤ 10 ^ (Lib.nDigits n - 1) := Nat.pow_le_pow_right (by omega) hge
        have e : (10 : Nat) ^ 10 = 10000000000 := by decide
        omega
      omega
    · have : n = 0 := by omega
      subst this
      rw [Lib.decDigits_one (by omega)]; simp
  have hl1 : 1 ≤ (Lib.decDigits n).length := List.length_pos_iff.2 h3
  unfold mrd
  rw [if_pos (by simp [inB]; omega), if_neg (by rw [hp.1.2]; simp), if_pos h1, h2, if_pos (by simp [inB]; omega)]
theorem mrd_1 {s : ByteArray} (g : inB s.size 1 10 = false) : mrd s.data.toList = -1 := by
  have el : s.data.toList.length = s.size := by simp
  unfold mrd; rw [el, g]; simp
theorem mrd_2 {s : ByteArray} (g : firstB s.data.toList = true) : mrd s.data.toList = -1 := by
  unfold mrd; rw [g]; simp
theorem mrd_4 {s : ByteArray} (g : s.data.toList.all digB = false) : mrd s.data.toList = -1 := by
  unfold mrd; rw [g]; simp
theorem mrd_5 {s : ByteArray} (g1 : inB s.size 1 10 = true) (g2 : ¬ firstB s.data.toList = true) (g4 : s.data.toList.all digB = true) : mrd s.data.toList = if inB (val s.data.toList) 0 1000000000 = true then val s.data.toList else -1 := by
  have el : s.data.toList.length = s.size := by simp
  unfold mrd; rw [el, if_pos g1, if_neg g2, if_pos g4]

set_option maxRecDepth 10000 in
set_option maxHeartbeats 1000000 in
theorem l1Read_any (s : ByteArray) (w : World) (hs : s.size ≤ 1048576) :
    Calls Tryz.prog 69 #[.string s] w fun e w' => e = .returned (.int .i64 (mrd s.data.toList)) ∧ w' = w := by
  cases g1 : inB s.size 1 10
  · have H := hide (mrd_1 g1)
    go_enter Tryz.func69, Tryz.ntmps69
    go_wp2_with (go_at_call 58; refine (l1In_any _ _ _ _).mono ?_; rintro e w1 ⟨rfl, rfl⟩)
    go_ret
    exact ⟨ret_int (unhide H).symm, rfl⟩
  have hb : 1 ≤ s.size ∧ s.size ≤ 10 := by simp [inB] at g1; omega
  obtain ⟨hb1, hb2⟩ := hb
  have hpos : 0 < s.size := by omega
  by_cases g2 : firstB s.data.toList = true
  · have H := hide (mrd_2 g2)
    have h1 : 1 < s.size := by
      rcases Nat.lt_or_ge 1 s.size with h | h
      · exact h
      · rw [first_one2 s h] at g2; simp at g2
    have h2 : ((s[0].toNat : Int) == 48) = true := by rw [first_of2 s h1] at g2; simp at g2 ⊢; omega
    have h3 : 1 < (s.size : Int) := by omega
    clear g2
    go_enter Tryz.func69, Tryz.ntmps69
    go_wp2_with (go_at_call 58; refine (l1In_any _ _ _ _).mono ?_; rintro e w1 ⟨rfl, rfl⟩)
    go_ret
    exact ⟨ret_int (unhide H).symm, rfl⟩
  have hcase : ((s[0].toNat : Int) == 48) = false ∨ (((s[0].toNat : Int) == 48) = true ∧ ¬ 1 < (s.size : Int)) := by
    cases e : ((s[0].toNat : Int) == 48)
    · exact .inl rfl
    · right
      refine ⟨rfl, fun h => g2 ?_⟩
      rw [first_of2 s (by omega)]
      simp at e ⊢
      omega
  have HC := hide (fun h => @mrd_5 s g1 g2 h)
  clear g2
  rcases hcase with e0 | ⟨e0, e1⟩
  all_goals
    go_enter Tryz.func69, Tryz.ntmps69
    go_wp2_with (go_at_call 58; refine (l1In_any _ _ _ _).mono ?_; rintro e w1 ⟨rfl, rfl⟩)
    go_loop [3, 4] (fun n i => ∃ (k : Nat) (z : Int), k ≤ s.size ∧ 0 ≤ z ∧ z < 1000000000000000000 ∧ i = .int .i64 k ∧ n = .int .i64 z ∧ Hid (z = val (s.data.toList.take k)) ∧ Hid ((s.data.toList.take k).all digB = true)) (fun _ i => s.size - (intOf i).toNat)
    case atStart => exact ⟨0, 0, Nat.zero_le _, by omega, by omega, rfl, rfl, hide rfl, hide rfl⟩
    case round =>
      obtain ⟨k, z, hk, hz0, hz1, rfl, rfl, hv, ha⟩ := hrel
      by_cases hlt : k < s.size
      · have hz17 : z < 100000000000000000 := by
          have h := (val_17 _ (unhide ha) (by rw [List.length_take]; omega)).2
          rw [← unhide hv] at h
          exact h
        by_cases d1 : (s[k].toNat : Int) < 48
        · have H := hide (mrd_4 (all_bad s k hlt (.inl d1)))
          go_wp2
          go_ret
          exact ⟨ret_int (unhide H).symm, rfl⟩
        by_cases d2 : 57 < (s[k].toNat : Int)
        · have H := hide (mrd_4 (all_bad s k hlt (.inr d2)))
          go_wp2
          go_ret
          exact ⟨ret_int (unhide H).symm, rfl⟩
        have HA := hide (all_step s k hlt (unhide ha) d1 d2)
        have HV : Hid (10 * z + ((s[k].toNat : Int) - 48) = val (s.data.toList.take (k + 1))) := by show 10 * z + _ = _; rw [val_step s k hlt, unhide hv]
        go_wp2
        go_round
        case rel => exact ⟨k + 1, 10 * z + ((s[k].toNat : Int) - 48), by omega, by omega, by omega, by go_num, rfl, HV, HA⟩
        case measure => simp [intOf]; omega
      · have ek : s.data.toList.take k = s.data.toList := List.take_of_length_le (by simp; omega)
        have H5 := unhide HC (by rw [← ek]; exact unhide ha)
        have hvz : val s.data.toList = z := by rw [unhide hv, ek]
        rw [hvz] at H5
        clear hvz ek
        cases hq : inB z 0 1000000000
        · rw [hq] at H5
          have H : Hid (mrd s.data.toList = -1) := H5
          clear H5
          go_wp2_with (go_at_call 92; refine (Num.number_any _ _).mono ?_; rintro e w1 ⟨rfl, rfl⟩)
          go_ret
          exact ⟨ret_int (unhide H).symm, rfl⟩
        · rw [hq] at H5
          have H : Hid (mrd s.data.toList = z) := H5
          clear H5
          go_wp2_with (go_at_call 92; refine (Num.number_any _ _).mono ?_; rintro e w1 ⟨rfl, rfl⟩)
          go_ret
          exact ⟨ret_int (unhide H).symm, rfl⟩

/-- How far a line has been split. -/
def SpTo (l : List UInt8) (ws : List ByteArray) (a i : Nat) : Prop :=
  (i ≤ l.length ∧ a ≤ i ∧ sp l = ws.map bl ++ sp (l.drop a) ∧ 32 ∉ (l.drop a).take (i - a)) ∨ (i = l.length + 1 ∧ sp l = ws.map bl)
theorem spto_start (l : List UInt8) : SpTo l [] 0 0 := .inl ⟨Nat.zero_le _, Nat.le_refl _, by simp, by simp⟩
theorem spto_skip {l : List UInt8} {ws : List ByteArray} {a i : Nat} (h : SpTo l ws a i) (hi : i < l.length) (hc : l[i] ≠ 32) : SpTo l ws a (i + 1) := by
  rcases h with ⟨h1, h2, h3, h4⟩ | ⟨h1, _⟩
  · refine .inl ⟨by omega, by omega, h3, ?_⟩
    have e : (l.drop a).take (i + 1 - a) = (l.drop a).take (i - a) ++ [l[i]] := by
      rw [show i + 1 - a = (i - a) + 1 by omega, List.take_succ_eq_append_getElem (by rw [List.length_drop]; omega)]
      congr 2
      rw [List.getElem_drop]
      congr 1; omega
    rw [e]
    simp only [List.mem_append, List.mem_singleton, not_or]
    exact ⟨h4, fun e => hc e.symm⟩
  · omega
theorem spto_cut {s : ByteArray} {ws : List ByteArray} {a i : Nat} (h : SpTo (bl s) ws a i) (hi : i < (bl s).length) (hc : (bl s)[i] = 32) : SpTo (bl s) (ws ++ [s.extract a i]) (i + 1) (i + 1) := by
  rcases h with ⟨h1, h2, h3, h4⟩ | ⟨h1, _⟩
  · refine .inl ⟨by omega, Nat.le_refl _, ?_, by simp⟩
    have e : (bl s).drop a = ((bl s).drop a).take (i - a) ++ 32 :: (bl s).drop (i + 1) := by
      conv => lhs; rw [← List.take_append_drop (i - a) ((bl s).drop a)]
      rw [List.drop_drop, show a + (i - a) = i by omega, List.drop_eq_getElem_cons hi, hc]
    rw [h3, e, sp_cons h4, List.map_append]
    simp [ext_bl]
  · omega
theorem spto_end {s : ByteArray} {ws : List ByteArray} {a : Nat} (h : SpTo (bl s) ws a (bl s).length) : SpTo (bl s) (ws ++ [s.extract a (bl s).length]) ((bl s).length + 1) ((bl s).length + 1) := by
  rcases h with ⟨h1, h2, h3, h4⟩ | ⟨h1, _⟩
  · refine .inr ⟨rfl, ?_⟩
    have e : ((bl s).drop a).take ((bl s).length - a) = (bl s).drop a := List.take_of_length_le (by rw [List.length_drop]; exact Nat.le_refl _)
    rw [e] at h4
    rw [h3, sp_word h4, List.map_append]
    simp only [List.map_cons, List.map_nil, ext_bl, e]
  · omega
end Rd
end Go.Proofs.YtghckjmpcokhcaaGreatDoor
/-
  The model's l1Split: the words between blanks, in a row of the call's own.
-/
namespace Go.Proofs.YtghckjmpcokhcaaGreatDoor
namespace Rd
open Go.RowKit Base Items Store GoodKey NumText Sp Count Vals Marks OwnR
set_option linter.unusedVariables false

theorem spto_le {l : List UInt8} {ws : List ByteArray} {a i : Nat} (h : SpTo l ws a i) (hi : i ≤ l.length) : a ≤ i := by
  rcases h with ⟨_, h2, _⟩ | ⟨h1, _⟩
  · exact h2
  · omega
theorem byte_at (s : ByteArray) (i : Nat) (h : i < s.size) : (bl s)[i]'(by rw [bl_len]; exact h) = s[i] := rfl
theorem byte_32 {c : UInt8} : ((c.toNat : Int) == 32) = decide (c = 32) := by
  have h : c = 32 ↔ c.toNat = 32 := ⟨fun h => by rw [h]; rfl, fun h => UInt8.toNat_inj.1 (by rw [h]; rfl)⟩
  by_cases e : c = 32
  · rw [e]; rfl
  · have : ¬ c.toNat = 32 := fun q => e (h.2 q)
    rw [decide_eq_false e]
    simp only [beq_eq_false_iff_ne, ne_eq]
    omega

set_option maxRecDepth 10000 in
set_option maxHeartbeats 2000000 in
theorem l1Split_any (s : ByteArray) (w : World) (hs : s.size ≤ 1048576) :
    Calls Tryz.prog 68 #[.string s, .int .u8 32] w fun e w' => ∃ g c ws, e = .returned (.slice (some ⟨g, 0, none⟩) ws.length c) ∧ ws.map bl = sp (bl s) ∧ RowAt w' g 9 ws.length (StringsW.scell ws) ∧ w.heap.size ≤ g ∧ Below w.heap.size w w' := by
  obtain ⟨i0, hi, hz0, hz1, hz2⟩ := StrR.info_ex
  have HI := hide hi
  have HZ0 := hide hz0
  have HZ1 := hide hz1
  have HZ2 := hide hz2
  have hbl := bl_len s
  have HB := hide hbl
  clear hi hz0 hz1 hz2 hbl
  go_enter Tryz.func68, Tryz.ntmps68
  go_wp2
  go_loopw [5, 6, 7] (fun v av iv wr => ∃ (i a : Nat) (ws : List ByteArray), i ≤ s.size + 1 ∧ ws.length ≤ i ∧ av = .int .i64 (a : Int) ∧ iv = .int .i64 (i : Int) ∧ Hid (SpTo (bl s) ws a i) ∧ Hid (wr.ownsRow w.heap.size 9 1 v ws.length (StringsW.flat ws)) ∧ Hid (Below w.heap.size w wr)) (fun _ _ iv _ => s.size + 1 - (intOf iv).toNat)
  case atStart => exact ⟨0, 0, [], Nat.zero_le _, Nat.le_refl _, rfl, rfl, hide (spto_start _), hide (World.ownsRow_nil _ _ _ _), hide (Below.refl _ _)⟩
  case round =>
    obtain ⟨i, a, ws, hi, hwl, rfl, rfl, hsp, hown, hbel⟩ := hrel
    have hzr := (unhide hbel).size
    by_cases hle : i ≤ s.size
    · have hai := spto_le (unhide hsp) (by rw [unhide HB]; exact hle)
      have hai' : (a : Int) ≤ (i : Int) := by omega
      have hi' : (i : Int) ≤ (s.size : Int) := by omega
      by_cases hlt : i < s.size
      · have hne : ¬ (i : Int) = (s.size : Int) := by omega
        have hne' : ((i : Int) == (s.size : Int)) = false := by simp; omega
        have hbt := byte_at s i hlt
        have hb32 := @byte_32 s[i]
        by_cases hc : s[i] = 32
        · have HN := hide (spto_cut (unhide hsp) (by rw [unhide HB]; exact hlt) (hbt.trans hc))
          rw [decide_eq_true hc] at hb32
          clear hc hbt
          go_wp2_with (at_builtin; go_loud (refine wpList_append_own _ rfl _ _ 24 rfl w.heap.size 9 i0 _ 1 16 Tryz.underlying24 (unhide HI) (unhide HZ0) (unhide HZ1) (unhide HZ2) rfl (by decide) _ _ _ rfl ((unhide hown).alloc _) ⟨wr.heap.size, 0, none⟩ 1 1 [.string (s.extract a i)] rfl rfl (cell_one_new _ _ _) (StringsW.news_one _) ?c3 ?c4 ?c5 ?_))
          case c3 => unfold maxLen; omega
          case c4 => omega
          case c5 => simp; omega
          intro v' we hown' hgrow _
          have O4 : Hid (we.ownsRow w.heap.size 9 1 v' (ws ++ [s.extract a i]).length (StringsW.flat (ws ++ [s.extract a i]))) := StringsW.own_snoc hown' rfl
          have C4 := hide (((unhide hbel).alloc hzr _).grown hgrow (by simp; omega) (own_block (unhide hown)))
          clear hown' hgrow
          go_wp2
          go_roundw
          case rel => exact ⟨i + 1, i + 1, _, by omega, by rw [List.length_append]; simp; omega, by go_num, by go_num, HN, O4, C4⟩
          case measure => simp [intOf]; omega
        · have HN := hide (spto_skip (unhide hsp) (by rw [unhide HB]; exact hlt) (fun e => hc (hbt.symm.trans e)))
          rw [decide_eq_false hc] at hb32
          clear hc hbt
          go_wp2
          go_roundw
          case rel => exact ⟨i + 1, a, ws, by omega, by omega, rfl, by go_num, HN, hown, hbel⟩
          case measure => simp [intOf]; omega
      · obtain rfl : i = s.size := by omega
        have HN : Hid (SpTo (bl s) (ws ++ [s.extract a s.size]) (s.size + 1) (s.size + 1)) := by
          have := spto_end (s := s) (ws := ws) (a := a) (by rw [unhide HB]; exact unhide hsp)
          rw [unhide HB] at this; exact this
        go_wp2_with (at_builtin; go_loud (refine wpList_append_own _ rfl _ _ 24 rfl w.heap.size 9 i0 _ 1 16 Tryz.underlying24 (unhide HI) (unhide HZ0) (unhide HZ1) (unhide HZ2) rfl (by decide) _ _ _ rfl ((unhide hown).alloc _) ⟨wr.heap.size, 0, none⟩ 1 1 [.string (s.extract a s.size)] rfl rfl (cell_one_new _ _ _) (StringsW.news_one _) ?c3 ?c4 ?c5 ?_))
        case c3 => unfold maxLen; omega
        case c4 => omega
        case c5 => simp; omega
        intro v' we hown' hgrow _
        have O4 : Hid (we.ownsRow w.heap.size 9 1 v' (ws ++ [s.extract a s.size]).length (StringsW.flat (ws ++ [s.extract a s.size]))) := StringsW.own_snoc hown' rfl
        have C4 := hide (((unhide hbel).alloc hzr _).grown hgrow (by simp; omega) (own_block (unhide hown)))
        clear hown' hgrow
        go_wp2
        go_roundw
        case rel => exact ⟨s.size + 1, s.size + 1, _, by omega, by rw [List.length_append]; simp; omega, by go_num, by go_num, HN, O4, C4⟩
        case measure => simp [intOf]
    · have HN : Hid (sp (bl s) = ws.map bl) := by
        rcases unhide hsp with ⟨h1, _⟩ | ⟨_, h2⟩
        · rw [unhide HB] at h1; omega
        · exact h2
      have hpos : 0 < ws.length := by
        have h1 := sp_ne (bl s)
        rw [unhide HN] at h1
        apply Nat.pos_of_ne_zero
        intro e
        exact h1 (by rw [List.length_eq_zero_iff.1 e]; rfl)
      obtain ⟨g, c, rfl, hgB, hgc, hgl⟩ := own_some (unhide hown) hpos
      have hrow := hide (StrR.own_row (unhide hown)).2
      go_wp2
      go_ret
      exact ⟨g, c, ws, rfl, (unhide HN).symm, unhide hrow, hgB, unhide hbel⟩
end Rd
end Go.Proofs.YtghckjmpcokhcaaGreatDoor
