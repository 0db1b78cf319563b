/-
  The contract of the model's GoodSession: the plain function, for every session whose slots lie in memory.
-/
import Derived.Test.YtmbkdejlbeailaaSessP
import Derived.BigQuiet
import Derived.Deep.QuietTactic
import Derived.WalkLawsBesides
namespace Go.Proofs.Ytmbkdejlbeailaa
namespace Sess
open Go.RowKit Base GoodKey Slots
set_option linter.unusedVariables false

set_option maxRecDepth 10000 in
set_option maxHeartbeats 4000000 in
theorem spec_some (nx : Int) (b off cap : Nat) (l : List D) (w : World) (hb : b < w.heap.size) (hc : ∀ i, i < l.length → At w b (off + i * 3) (l.getD i zero))
    (hl : l.length ≤ maxLen) (hcap : l.length ≤ cap) :
    Calls Try.prog 9 #[.agg #[.int .i64 nx, .slice (some ⟨b, off, none⟩) l.length cap]] w fun e w' => e = .returned (.bool (gsB nx l)) ∧ Below w.heap.size w w' := by
  unfold maxLen at hl
  have hcs := hide hc
  clear hc
  by_cases g1 : inB nx 0 1000000 = true
  case neg =>
    have H := hide (gs_1 (l := l) g1)
    have g1' : inB nx 0 1000000 = false := Bool.eq_false_iff.2 g1
    clear g1
    go_enter Try.func9, Try.ntmps9
    go_wp2_with (go_at_call 31; refine (l1In_any _ _ _ _).mono ?_; rintro e w1 ⟨rfl, rfl⟩)
    go_ret
    exact ⟨ret_bool (unhide H).symm, bel1 w _⟩
  by_cases g3 : 30 < (l.length : Int)
  · have H := hide (gs_2 (nx := nx) g3)
    go_enter Try.func9, Try.ntmps9
    go_wp2_with (go_at_call 31; refine (l1In_any _ _ _ _).mono ?_; rintro e w1 ⟨rfl, rfl⟩)
    go_ret
    exact ⟨ret_bool (unhide H).symm, bel1 w _⟩
  have HG := hide (fun h => @gs_4 nx l g1 g3 h)
  have hn0 : 0 ≤ nx ∧ nx ≤ 1000000 := by simp only [inB, Bool.and_eq_true, decide_eq_true_eq] at g1; omega
  have hnw : IntKind.i64.wrap (nx - 1) = nx - 1 := by rw [IntKind.wrap_i64]; omega
  go_enter Try.func9, Try.ntmps9
  go_wp2_with (go_at_call 31; refine (l1In_any _ _ _ _).mono ?_; rintro e w1 ⟨rfl, rfl⟩)
  clear g1
  go_loopw [18] (fun i wr => ∃ (k : Nat), k ≤ l.length ∧ i = .int .i64 k ∧ Hid (goodTo nx l k = true) ∧ Hid (0 < k → headB l = true) ∧ Hid (Below (w.heap.size + 1) (w.alloc (.cells #[.int .i64 nx, .slice (some ⟨b, off, none⟩) l.length cap] 29)) wr)) (fun i _ => l.length - (intOf i).toNat)
  case atStart => exact ⟨0, Nat.zero_le _, rfl, hide rfl, hide (fun h => absurd h (by omega)), hide (Below.refl _ _)⟩
  case round =>
    obtain ⟨k, hk, rfl, hgo, hhd, hbel⟩ := hrel
    obtain ⟨wo, rfl⟩ : ∃ wo : World, wo = wr := ⟨_, rfl⟩
    have hB : Hid (Below w.heap.size w wo) := (bel1 w _).trans ((unhide hbel).mono (by omega))
    have hbox := boxcell (unhide hbel)
    have hzw : w.heap.size + 1 ≤ wo.heap.size := by have := (unhide hbel).size; simp at this; omega
    have hbw : b < wo.heap.size := Nat.lt_of_lt_of_le hb (by omega)
    have hxw : w.heap.size < wo.heap.size := by omega
    by_cases hlt : k < l.length
    · obtain ⟨c0, c1, c2⟩ := (unhide hcs k hlt).below (unhide hB) hb
      have hls := least_0 k (unhide hgo)
      have hbad := hide (@gs_3 nx l k hlt)
      have hgs := hide (@goodTo_step nx l k (unhide hgo))
      have s1 := hide (@step_1 nx l k)
      have s2 := hide (@step_2 nx l k)
      have s3 := hide (@step_3 nx l k)
      have s4 := hide (@step_4 nx l k)
      have t1 := hide (@slot_1 (l.getD k zero))
      have t2 := hide (@slot_2 (l.getD k zero))
      have hprev : Hid (∀ j, k = j + 1 → wo.cell? ⟨b, off + j * 3, none⟩ = some (.int .i64 (leastAt l k - 1))) := fun j h => by
        subst h
        rw [((unhide hcs j (by omega)).below (unhide hB) hb).1]
        show _ = some (Value.int .i64 ((l.getD j zero).id + 1 - 1))
        rw [Int.add_sub_cancel]
      have hz0 : Hid (k = 0 → leastAt l k = 0) := fun h => by subst h; rfl
      have hd0 : Hid (k = 0 → headB l = !(l.getD k zero).done) := fun h => by subst h; exact head_1 (by omega)
      have hin := fun w => l1In_any (l.getD k zero).id 0 (nx - 1) w
      generalize l.getD k zero = x at c0 c1 c2 s1 s2 s3 s4 t1 t2 hin hd0
      obtain ⟨xi, xd, xa⟩ := x
      dsimp only at c0 c1 c2 s1 s2 s3 s4 t1 t2 hin hd0
      generalize leastAt l k = le at hls s1 s4 hprev hz0
      cases g5 : inB xi 0 (nx - 1)
      · have H : Hid (gsB nx l = false) := by
          refine unhide hbad ?_
          by_cases q : xi < 0
          · exact unhide s1 (by omega)
          · refine unhide s2 ?_
            simp [inB] at g5
            have := g5 (by omega)
            omega
        rw [g5] at hin
        have HN := hide hin
        clear s1 s2 s3 s4 t1 t2 hbad hgs hprev hin g5 hz0 hd0
        go_wp2
        go_quiet ((go_at_call 31; exact Calls.quiet_of_same (unhide HN _)))
        go_wp2
        go_ret
        exact ⟨ret_bool (unhide H).symm, bel_draws ((unhide hB).alloc (by omega) _) _⟩
      have gx : 0 ≤ xi ∧ ¬ nx ≤ xi := by simp only [inB, Bool.and_eq_true, decide_eq_true_eq] at g5; omega
      rw [g5] at hin
      have HN := hide hin
      clear hin g5 s2
      by_cases h0 : 0 < k
      · obtain ⟨j, rfl⟩ : ∃ j, k = j + 1 := ⟨k - 1, by omega⟩
        have p0 := unhide hprev j rfl
        have hkp : decide (0 < ((j + 1 : Nat) : Int)) = true := by simp
        have hkp' : decide ((0 : Int) < (j : Int) + 1) = true := decide_eq_true (by omega)
        have hk0 : (((j + 1 : Nat) : Int) == 0) = false := beq_eq_false_iff_ne.2 (by omega)
        have hk0' : (((j : Int) + 1) == 0) = false := beq_eq_false_iff_ne.2 (by omega)
        have hwj : IntKind.i64.wrap (j : Int) = (j : Int) := by rw [IntKind.wrap_i64]; omega
        have hjl : (j : Int) < (l.length : Int) := by omega
        have hj0 : (0 : Int) ≤ (j : Int) := by omega
        clear hprev hz0 hd0
        by_cases h1 : xi < le
        · have H := hide (unhide hbad (unhide s1 h1))
          have h1' : decide (xi ≤ le - 1) = true := decide_eq_true (by omega)
          clear s1 s3 s4 t1 t2 hbad hgs
          go_wp2
          go_quiet ((go_at_call 31; exact Calls.quiet_of_same (unhide HN _)))
          go_wp2
          go_ret
          exact ⟨ret_bool (unhide H).symm, bel_draws ((unhide hB).alloc (by omega) _) _⟩
        have h1' : decide (xi ≤ le - 1) = false := decide_eq_false (by omega)
        have S4 := hide (unhide s4 h1 gx.2)
        clear s1 s4
        by_cases h2 : 3000 < (xa.size : Int)
        · have H := hide (unhide hbad (unhide s3 (unhide t1 h2)))
          have h2' : decide (3000 < (xa.size : Int)) = true := decide_eq_true h2
          clear S4 s3 t1 t2 hbad hgs
          go_wp2
          go_quiet ((go_at_call 31; exact Calls.quiet_of_same (unhide HN _)))
          go_wp2
          go_ret
          exact ⟨ret_bool (unhide H).symm, bel_draws ((unhide hB).alloc (by omega) _) _⟩
        have h2' : decide (3000 < (xa.size : Int)) = false := decide_eq_false h2
        have T2 := unhide t2 h2
        clear t1 t2
        cases xd
        · cases he : xa.toList.isEmpty
          · have H := hide (unhide hbad (unhide s3 (by rw [T2, he]; rfl)))
            clear S4 s3 T2 hbad hgs
            go_wp2
            go_quiet ((go_at_call 31; exact Calls.quiet_of_same (unhide HN _)))
            go_wp2
            go_ret
            exact ⟨ret_bool (unhide H).symm, bel_draws ((unhide hB).alloc (by omega) _) _⟩
          · have H := hide (unhide hgs (unhide S4 (by rw [T2, he]; rfl)))
            clear S4 s3 T2 hbad hgs
            go_wp2
            go_quiet ((go_at_call 31; exact Calls.quiet_of_same (unhide HN _)))
            go_wp2
            go_roundw
            case rel => exact ⟨j + 1 + 1, by omega, by go_num, H, hide (fun _ => unhide hhd (by omega)), hide (bel_draws ((unhide hbel).alloc (by omega) _) _)⟩
            case measure => simp [intOf]; omega
        · have H := hide (unhide hgs (unhide S4 (by rw [T2]; rfl)))
          clear S4 s3 T2 hbad hgs
          go_wp2
          go_quiet ((go_at_call 31; exact Calls.quiet_of_same (unhide HN _)))
          go_wp2
          go_roundw
          case rel => exact ⟨j + 1 + 1, by omega, by go_num, H, hide (fun _ => unhide hhd (by omega)), hide (bel_draws ((unhide hbel).alloc (by omega) _) _)⟩
          case measure => simp [intOf]; omega
      · obtain rfl : k = 0 := by omega
        rw [Nat.zero_mul, Nat.add_zero] at c0 c1 c2
        have e0 := unhide hz0 rfl
        have ed := unhide hd0 rfl
        subst e0
        have S4 := hide (unhide s4 (by omega) gx.2)
        clear s1 s4 hprev hz0 hd0
        cases xd
        · by_cases h2 : 3000 < (xa.size : Int)
          · have H := hide (unhide hbad (unhide s3 (unhide t1 h2)))
            have h2' : decide (3000 < (xa.size : Int)) = true := decide_eq_true h2
            clear S4 s3 t1 t2 hbad hgs ed
            go_wp2
            go_quiet ((go_at_call 31; exact Calls.quiet_of_same (unhide HN _)))
            go_wp2
            go_ret
            exact ⟨ret_bool (unhide H).symm, bel_draws ((unhide hB).alloc (by omega) _) _⟩
          have h2' : decide (3000 < (xa.size : Int)) = false := decide_eq_false h2
          have T2 := unhide t2 h2
          clear t1 t2
          cases he : xa.toList.isEmpty
          · have H := hide (unhide hbad (unhide s3 (by rw [T2, he]; rfl)))
            clear S4 s3 T2 hbad hgs ed
            go_wp2
            go_quiet ((go_at_call 31; exact Calls.quiet_of_same (unhide HN _)))
            go_wp2
            go_ret
            exact ⟨ret_bool (unhide H).symm, bel_draws ((unhide hB).alloc (by omega) _) _⟩
          · have H := hide (unhide hgs (unhide S4 (by rw [T2, he]; rfl)))
            have ED := hide ed
            clear S4 s3 T2 hbad hgs ed
            go_wp2
            go_quiet ((go_at_call 31; exact Calls.quiet_of_same (unhide HN _)))
            go_wp2
            go_roundw
            case rel => exact ⟨0 + 1, by omega, by go_num, H, hide (fun _ => unhide ED), hide (bel_draws ((unhide hbel).alloc (by omega) _) _)⟩
            case measure => simp [intOf]; omega
        · have H := hide (@gs_head nx l (by rw [ed]; rfl))
          clear S4 s3 t1 t2 hbad hgs ed
          go_wp2
          go_quiet ((go_at_call 31; exact Calls.quiet_of_same (unhide HN _)))
          go_wp2
          go_ret
          exact ⟨ret_bool (unhide H).symm, bel_draws ((unhide hB).alloc (by omega) _) _⟩
    · obtain rfl : k = l.length := by omega
      have H : Hid (gsB nx l = true) := by
        refine (unhide HG (unhide hgo)).trans ?_
        by_cases h0 : l.length = 0
        · exact head_0 h0
        · exact unhide hhd (by omega)
      go_wp2
      go_ret
      exact ⟨ret_bool (unhide H).symm, unhide hB⟩
end Sess
end Go.Proofs.Ytmbkdejlbeailaa
