/-
  The model's l1Split: the words between blanks, in a row of the call's own.
-/
import Derived.Test.YtghckjmpcokhcaaDoorRdN
import Derived.Test.YtghckjmpcokhcaaDoorStrR
namespace Go.Proofs.YtghckjmpcokhcaaDoor
namespace Rd
open Go.RowKit Base Items Store GoodKey NumText Sp Count Vals Marks OwnR
set_option linter.unusedVariables false

theorem spto_le {l : List UInt8} {ws : List ByteArray} {a i : Nat} (h : SpTo l ws a i) (hi : i ≤ l.length) : a ≤ i := by
  rcases h with ⟨_, h2, _⟩ | ⟨h1, _⟩
  · exact h2
  · omega
theorem byte_at (s : ByteArray) (i : Nat) (h : i < s.size) : (bl s)[i]'(by rw [bl_len]; exact h) = s[i] := rfl
theorem byte_32 {c : UInt8} : ((c.toNat : Int) == 32) = decide (c = 32) := by
  have h : c = 32 ↔ c.toNat = 32 := ⟨fun h => by rw [h]; rfl, fun h => UInt8.toNat_inj.1 (by rw [h]; rfl)⟩
  by_cases e : c = 32
  · rw [e]; rfl
  · have : ¬ c.toNat = 32 := fun q => e (h.2 q)
    rw [decide_eq_false e]
    simp only [beq_eq_false_iff_ne, ne_eq]
    omega

set_option maxRecDepth 10000 in
set_option maxHeartbeats 2000000 in
theorem l1Split_any (s : ByteArray) (w : World) (hs : s.size ≤ 1048576) :
    Calls Tryd.prog 13 #[.string s, .int .u8 32] w fun e w' => ∃ g c ws, e = .returned (.slice (some ⟨g, 0, none⟩) ws.length c) ∧ ws.map bl = sp (bl s) ∧ RowAt w' g 9 ws.length (StringsW.scell ws) ∧ w.heap.size ≤ g ∧ Below w.heap.size w w' := by
  obtain ⟨i0, hi, hz0, hz1, hz2⟩ := StrR.info_ex
  have HI := hide hi
  have HZ0 := hide hz0
  have HZ1 := hide hz1
  have HZ2 := hide hz2
  have hbl := bl_len s
  have HB := hide hbl
  clear hi hz0 hz1 hz2 hbl
  go_enter Tryd.func13, Tryd.ntmps13
  go_wp2
  go_loopw [5, 6, 7] (fun v av iv wr => ∃ (i a : Nat) (ws : List ByteArray), i ≤ s.size + 1 ∧ ws.length ≤ i ∧ av = .int .i64 (a : Int) ∧ iv = .int .i64 (i : Int) ∧ Hid (SpTo (bl s) ws a i) ∧ Hid (wr.ownsRow w.heap.size 9 1 v ws.length (StringsW.flat ws)) ∧ Hid (Below w.heap.size w wr)) (fun _ _ iv _ => s.size + 1 - (intOf iv).toNat)
  case atStart => exact ⟨0, 0, [], Nat.zero_le _, Nat.le_refl _, rfl, rfl, hide (spto_start _), hide (World.ownsRow_nil _ _ _ _), hide (Below.refl _ _)⟩
  case round =>
    obtain ⟨i, a, ws, hi, hwl, rfl, rfl, hsp, hown, hbel⟩ := hrel
    have hzr := (unhide hbel).size
    by_cases hle : i ≤ s.size
    · have hai := spto_le (unhide hsp) (by rw [unhide HB]; exact hle)
      have hai' : (a : Int) ≤ (i : Int) := by omega
      have hi' : (i : Int) ≤ (s.size : Int) := by omega
      by_cases hlt : i < s.size
      · have hne : ¬ (i : Int) = (s.size : Int) := by omega
        have hne' : ((i : Int) == (s.size : Int)) = false := by simp; omega
        have hbt := byte_at s i hlt
        have hb32 := @byte_32 s[i]
        by_cases hc : s[i] = 32
        · have HN := hide (spto_cut (unhide hsp) (by rw [unhide HB]; exact hlt) (hbt.trans hc))
          rw [decide_eq_true hc] at hb32
          clear hc hbt
          go_wp2_with (at_builtin; go_loud (refine wpList_append_own _ rfl _ _ 34 rfl w.heap.size 9 i0 _ 1 16 Tryd.underlying34 (unhide HI) (unhide HZ0) (unhide HZ1) (unhide HZ2) rfl (by decide) _ _ _ rfl ((unhide hown).alloc _) ⟨wr.heap.size, 0, none⟩ 1 1 [.string (s.extract a i)] rfl rfl (cell_one_new _ _ _) (StringsW.news_one _) ?c3 ?c4 ?c5 ?_))
          case c3 => unfold maxLen; omega
          case c4 => omega
          case c5 => simp; omega
          intro v' we hown' hgrow _
          have O4 : Hid (we.ownsRow w.heap.size 9 1 v' (ws ++ [s.extract a i]).length (StringsW.flat (ws ++ [s.extract a i]))) := StringsW.own_snoc hown' rfl
          have C4 := hide (((unhide hbel).alloc hzr _).grown hgrow (by simp; omega) (own_block (unhide hown)))
          clear hown' hgrow
          go_wp2
          go_roundw
          case rel => exact ⟨i + 1, i + 1, _, by omega, by rw [List.length_append]; simp; omega, by go_num, by go_num, HN, O4, C4⟩
          case measure => simp [intOf]; omega
        · have HN := hide (spto_skip (unhide hsp) (by rw [unhide HB]; exact hlt) (fun e => hc (hbt.symm.trans e)))
          rw [decide_eq_false hc] at hb32
          clear hc hbt
          go_wp2
          go_roundw
          case rel => exact ⟨i + 1, a, ws, by omega, by omega, rfl, by go_num, HN, hown, hbel⟩
          case measure => simp [intOf]; omega
      · obtain rfl : i = s.size := by omega
        have HN : Hid (SpTo (bl s) (ws ++ [s.extract a s.size]) (s.size + 1) (s.size + 1)) := by
          have := spto_end (s := s) (ws := ws) (a := a) (by rw [unhide HB]; exact unhide hsp)
          rw [unhide HB] at this; exact this
        go_wp2_with (at_builtin; go_loud (refine wpList_append_own _ rfl _ _ 34 rfl w.heap.size 9 i0 _ 1 16 Tryd.underlying34 (unhide HI) (unhide HZ0) (unhide HZ1) (unhide HZ2) rfl (by decide) _ _ _ rfl ((unhide hown).alloc _) ⟨wr.heap.size, 0, none⟩ 1 1 [.string (s.extract a s.size)] rfl rfl (cell_one_new _ _ _) (StringsW.news_one _) ?c3 ?c4 ?c5 ?_))
        case c3 => unfold maxLen; omega
        case c4 => omega
        case c5 => simp; omega
        intro v' we hown' hgrow _
        have O4 : Hid (we.ownsRow w.heap.size 9 1 v' (ws ++ [s.extract a s.size]).length (StringsW.flat (ws ++ [s.extract a s.size]))) := StringsW.own_snoc hown' rfl
        have C4 := hide (((unhide hbel).alloc hzr _).grown hgrow (by simp; omega) (own_block (unhide hown)))
        clear hown' hgrow
        go_wp2
        go_roundw
        case rel => exact ⟨s.size + 1, s.size + 1, _, by omega, by rw [List.length_append]; simp; omega, by go_num, by go_num, HN, O4, C4⟩
        case measure => simp [intOf]
    · have HN : Hid (sp (bl s) = ws.map bl) := by
        rcases unhide hsp with ⟨h1, _⟩ | ⟨_, h2⟩
        · rw [unhide HB] at h1; omega
        · exact h2
      have hpos : 0 < ws.length := by
        have h1 := sp_ne (bl s)
        rw [unhide HN] at h1
        apply Nat.pos_of_ne_zero
        intro e
        exact h1 (by rw [List.length_eq_zero_iff.1 e]; rfl)
      obtain ⟨g, c, rfl, hgB, hgc, hgl⟩ := own_some (unhide hown) hpos
      have hrow := hide (StrR.own_row (unhide hown)).2
      go_wp2
      go_ret
      exact ⟨g, c, ws, rfl, (unhide HN).symm, unhide hrow, hgB, unhide hbel⟩
end Rd
end Go.Proofs.YtghckjmpcokhcaaDoor
