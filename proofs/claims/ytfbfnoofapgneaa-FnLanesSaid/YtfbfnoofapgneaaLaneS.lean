/-
  Contracts of the model's l2Now and GoodLane: the plain functions, for every lane whose waits lie in memory.
-/
import Derived.Test.YtfbfnoofapgneaaLaneP
import Derived.Test.YtfbfnoofapgneaaRows
import Derived.BigQuiet
import Derived.Deep.QuietTactic
import Derived.WalkLawsBesides
namespace Go.Proofs.Ytfbfnoofapgneaa
namespace Lanes
open Go.RowKit Base GoodKey Waits
set_option linter.unusedVariables false

set_option maxRecDepth 10000 in
set_option maxHeartbeats 400000 in
theorem l2Now_any (n : Int) (w : World) :
    Calls Try.prog 16 #[.int .i64 n] w fun e w' => e = .returned (.bool (inB n 0 1000000000)) ∧ w' = w := by
  go_enter Try.func16, Try.ntmps16
  go_wp2_with (go_at_call 17; refine (l1In_any _ _ _ _).mono ?_; rintro e w' ⟨rfl, rfl⟩)
  go_ret
  exact ⟨rfl, rfl⟩

set_option maxRecDepth 10000 in
set_option maxHeartbeats 2000000 in
theorem spec_some (ep fa : Int) (b off cap : Nat) (l : List D) (w : World) (hb : b < w.heap.size) (hc : ∀ i, i < l.length → At w b (off + i * 2) (l.getD i zero))
    (hl : l.length ≤ maxLen) (hcap : l.length ≤ cap) :
    Calls Try.prog 7 #[.agg #[.int .i64 ep, .int .i64 fa, .slice (some ⟨b, off, none⟩) l.length cap]] w fun e w' => e = .returned (.bool (glB ep fa l)) ∧ Below w.heap.size w w' := by
  unfold maxLen at hl
  have hcs := hide hc
  clear hc
  by_cases g1 : inB ep 1 1000000 = true
  case neg =>
    have H := hide (gl_1 (fa := fa) (l := l) g1)
    have g1' : inB ep 1 1000000 = false := Bool.eq_false_iff.2 g1
    clear g1
    go_enter Try.func7, Try.ntmps7
    go_wp2_with (go_at_call 17; refine (l1In_any _ _ _ _).mono ?_; rintro e w1 ⟨rfl, rfl⟩)
    go_ret
    exact ⟨ret_bool (unhide H).symm, bel1 w _⟩
  by_cases g2 : inB fa 0 1000000 = true
  case neg =>
    have H := hide (gl_2 (ep := ep) (l := l) g2)
    have g2' : inB fa 0 1000000 = false := Bool.eq_false_iff.2 g2
    clear g2
    go_enter Try.func7, Try.ntmps7
    go_wp2_with (go_at_call 17; refine (l1In_any _ _ _ _).mono ?_; rintro e w1 ⟨rfl, rfl⟩)
    go_ret
    exact ⟨ret_bool (unhide H).symm, bel1 w _⟩
  by_cases g3 : 20 < (l.length : Int)
  · have H := hide (gl_3 (ep := ep) (fa := fa) g3)
    go_enter Try.func7, Try.ntmps7
    go_wp2_with (go_at_call 17; refine (l1In_any _ _ _ _).mono ?_; rintro e w1 ⟨rfl, rfl⟩)
    go_ret
    exact ⟨ret_bool (unhide H).symm, bel1 w _⟩
  have HG := hide (fun h => @gl_5 ep fa l g1 g2 g3 h)
  go_enter Try.func7, Try.ntmps7
  go_wp2_with (go_at_call 17; refine (l1In_any _ _ _ _).mono ?_; rintro e w1 ⟨rfl, rfl⟩)
  clear g1 g2
  go_loopw [26] (fun i wr => ∃ (k : Nat), k ≤ l.length ∧ i = .int .i64 k ∧ Hid (goodTo l k = true) ∧ Hid (Below (w.heap.size + 1) (w.alloc (.cells #[.int .i64 ep, .int .i64 fa, .slice (some ⟨b, off, none⟩) l.length cap] 25)) wr)) (fun i _ => l.length - (intOf i).toNat)
  case atStart => exact ⟨0, Nat.zero_le _, rfl, hide rfl, hide (Below.refl _ _)⟩
  case round =>
    obtain ⟨k, hk, rfl, hgo, hbel⟩ := hrel
    obtain ⟨wo, rfl⟩ : ∃ wo : World, wo = wr := ⟨_, rfl⟩
    have hB : Hid (Below w.heap.size w wo) := (bel1 w _).trans ((unhide hbel).mono (by omega))
    have hbox := boxcell (unhide hbel)
    have hzw : w.heap.size + 1 ≤ wo.heap.size := by have := (unhide hbel).size; simp at this; omega
    have hbw : b < wo.heap.size := Nat.lt_of_lt_of_le hb (by omega)
    have hxw : w.heap.size < wo.heap.size := by omega
    by_cases hlt : k < l.length
    · obtain ⟨c0, c1⟩ := (unhide hcs k hlt).below (unhide hB) hb
      have s1 := hide (@step_1 l k)
      have s2 := hide (@step_2 l k)
      have s3 := hide (@step_3 l k hk)
      have s4 := hide (@step_4 l k)
      have s5 := hide (@step_5 l k hk)
      have hbad := hide (@gl_4 ep fa l k hlt)
      have hgs := hide (@goodTo_step l k (unhide hgo))
      have hprev : Hid (0 < k → wo.cell? ⟨b, off + (k - 1) * 2 + 1, none⟩ = some (.int .i64 (l.getD (k - 1) zero).since)) := fun h => ((unhide hcs (k - 1) (by omega)).below (unhide hB) hb).2
      generalize l.getD k zero = x at c0 c1 s1 s2 s3 s4 s5
      generalize (l.getD (k - 1) zero).since = ps at hprev s3 s5
      by_cases g4 : x.id < 0
      · have H := hide (unhide hbad (unhide s1 g4))
        clear s1 s2 s3 s4 s5 hbad hgs hprev
        go_wp2
        go_quiet (fail)
        go_wp2
        go_ret
        exact ⟨ret_bool (unhide H).symm, bel_draws ((unhide hB).alloc (by omega) _) _⟩
      have g4' : decide (x.id < 0) = false := decide_eq_false g4
      have hnow := fun w => l2Now_any x.since w
      cases g5 : inB x.since 0 1000000000
      · have H := hide (unhide hbad (unhide s2 g5))
        rw [g5] at hnow
        have HN := hide hnow
        clear s1 s2 s3 s4 s5 hbad hgs hprev hnow g5
        go_wp2
        go_quiet ((go_at_call 16; exact Calls.quiet_of_same (unhide HN _)))
        go_wp2
        go_ret
        exact ⟨ret_bool (unhide H).symm, bel_draws ((unhide hB).alloc (by omega) _) _⟩
      rw [g5] at hnow
      have HN := hide hnow
      have s5' := hide (unhide s5 g4 g5)
      clear hnow g5 s1 s2 s5
      by_cases h0 : 0 < k
      · obtain ⟨j, rfl⟩ : ∃ j, k = j + 1 := ⟨k - 1, by omega⟩
        have p0 := unhide hprev h0
        rw [Nat.add_sub_cancel] at p0
        have hkp : decide (0 < ((j + 1 : Nat) : Int)) = true := by simp
        have hwj : IntKind.i64.wrap (j : Int) = (j : Int) := by rw [IntKind.wrap_i64]; omega
        have hjl : (j : Int) < (l.length : Int) := by omega
        have hj0 : (0 : Int) ≤ (j : Int) := by omega
        clear hprev
        by_cases h1 : x.since < ps
        · have H := hide (unhide hbad (unhide s3 h0 h1))
          have h1' : decide (x.since < ps) = true := decide_eq_true h1
          clear s3 s4 s5' hbad hgs
          go_wp2
          go_quiet ((go_at_call 16; exact Calls.quiet_of_same (unhide HN _)))
          go_wp2
          go_ret
          exact ⟨ret_bool (unhide H).symm, bel_draws ((unhide hB).alloc (by omega) _) _⟩
        have h1' : decide (x.since < ps) = false := decide_eq_false h1
        have H5 := hide (fun h => unhide hgs (unhide s5' (fun _ => h1) h))
        have H4 := hide (fun h => unhide hbad (unhide s4 h))
        clear s3 s4 s5' hbad hgs
        go_wp2
        go_quiet ((go_at_call 16; exact Calls.quiet_of_same (unhide HN _)))
        go_wp2_with fail
        have hB1 : Hid (Below (w.heap.size + 1) (w.alloc (.cells #[.int .i64 ep, .int .i64 fa, .slice (some ⟨b, off, none⟩) l.length cap] 25)) ((wo.alloc (.cells #[.int .i64 x.id, .int .i64 x.since] 36)).drewN nq)) := bel_draws ((unhide hbel).alloc (by omega) _) nq
        have hx1 : ∀ o, ((wo.alloc (.cells #[.int .i64 x.id, .int .i64 x.since] 36)).drewN nq).cell? ⟨wo.heap.size, o, none⟩ = (wo.alloc (.cells #[.int .i64 x.id, .int .i64 x.since] 36)).cell? ⟨wo.heap.size, o, none⟩ := fun o => rfl
        have hz1 : wo.heap.size + 1 ≤ ((wo.alloc (.cells #[.int .i64 x.id, .int .i64 x.since] 36)).drewN nq).heap.size := by show wo.heap.size + 1 ≤ (wo.alloc (.cells #[.int .i64 x.id, .int .i64 x.since] 36)).heap.size; simp
        generalize (wo.alloc (.cells #[.int .i64 x.id, .int .i64 x.since] 36)).drewN nq = w1 at hB1 hx1 hz1 ⊢
        go_loopw [61] (fun i wi => ∃ (m : Nat), m ≤ j + 1 ∧ i = .int .i64 m ∧ Hid (freshB x.id (l.take m) = true) ∧ Hid (Below w1.heap.size w1 wi)) (fun i _ => j + 1 - (intOf i).toNat)
        case atStart => exact ⟨0, Nat.zero_le _, rfl, hide (fresh_0 _ _), hide (Below.refl _ _)⟩
        case round =>
          obtain ⟨m, hm, rfl, hfr, hbi⟩ := hrel
          have hxi : ∀ o, wr.cell? ⟨wo.heap.size, o, none⟩ = (wo.alloc (.cells #[.int .i64 x.id, .int .i64 x.since] 36)).cell? ⟨wo.heap.size, o, none⟩ := fun o => ((unhide hbi).cell (p := ⟨wo.heap.size, o, none⟩) (by simp; omega)).trans (hx1 o)
          have hBi := hide ((unhide hB1).trans ((unhide hbi).mono (by omega)))
          have hzi : wo.heap.size < wr.heap.size := by have := (unhide hbi).size; omega
          have hzj : w.heap.size ≤ wr.heap.size := by omega
          by_cases hjk : m < j + 1
          · have hml : m < l.length := by omega
            obtain ⟨d0, d1⟩ := (unhide hcs m hml).below (((bel1 w _).trans ((unhide hBi).mono (by omega)))) hb
            have hf1 := hide (@fresh_step x.id l m hml (unhide hfr))
            have hf2 := hide (@fresh_bad x.id l m (j + 1) hjk hk)
            generalize l.getD m zero = o at d0 d1 hf1 hf2
            clear hx1 hB1
            cases e1 : (o.id == x.id)
            · have H := hide (unhide hf1 e1)
              clear hf1 hf2 H4 H5
              go_wp2
              go_roundw
              case rel => exact ⟨m + 1, by omega, by go_num, H, hide ((unhide hbi).alloc (unhide hbi).size _)⟩
              case measure => simp [intOf]; omega
            · have H := hide (unhide H4 (unhide hf2 e1))
              clear hf1 hf2 H4 H5
              go_wp2
              go_ret
              exact ⟨ret_bool (unhide H).symm, ((bel1 w _).trans ((unhide hBi).mono (by omega))).alloc hzj _⟩
          · obtain rfl : m = j + 1 := by omega
            have H := hide (unhide H5 (unhide hfr))
            clear H4 H5 hx1 hB1
            go_wp2
            go_roundw
            case rel => exact ⟨j + 1 + 1, by omega, by go_num, H, hBi⟩
            case measure => simp [intOf]; omega
      · obtain rfl : k = 0 := by omega
        have H5 := hide (unhide hgs (unhide s5' (fun h => absurd h (by omega)) (fresh_0 _ _)))
        rw [Nat.zero_mul, Nat.add_zero] at c0 c1
        clear s3 s4 s5' hbad hgs hprev
        go_wp2
        go_quiet ((go_at_call 16; exact Calls.quiet_of_same (unhide HN _)))
        go_wp2_with fail
        have hB1 : Hid (Below (w.heap.size + 1) (w.alloc (.cells #[.int .i64 ep, .int .i64 fa, .slice (some ⟨b, off, none⟩) l.length cap] 25)) ((wo.alloc (.cells #[.int .i64 x.id, .int .i64 x.since] 36)).drewN nq)) := bel_draws ((unhide hbel).alloc (by omega) _) nq
        have hx1 : ∀ o, ((wo.alloc (.cells #[.int .i64 x.id, .int .i64 x.since] 36)).drewN nq).cell? ⟨wo.heap.size, o, none⟩ = (wo.alloc (.cells #[.int .i64 x.id, .int .i64 x.since] 36)).cell? ⟨wo.heap.size, o, none⟩ := fun o => rfl
        have hz1 : wo.heap.size + 1 ≤ ((wo.alloc (.cells #[.int .i64 x.id, .int .i64 x.since] 36)).drewN nq).heap.size := by show wo.heap.size + 1 ≤ (wo.alloc (.cells #[.int .i64 x.id, .int .i64 x.since] 36)).heap.size; simp
        generalize (wo.alloc (.cells #[.int .i64 x.id, .int .i64 x.since] 36)).drewN nq = w1 at hB1 hx1 hz1 ⊢
        go_loopw [61] (fun i wi => i = .int .i64 0 ∧ Hid (Below w1.heap.size w1 wi)) (fun i _ => 0)
        case atStart => exact ⟨rfl, hide (Below.refl _ _)⟩
        case round =>
          obtain ⟨rfl, hbi⟩ := hrel
          have hBi := hide ((unhide hB1).trans ((unhide hbi).mono (by omega)))
          clear hx1 hB1
          go_wp2
          go_roundw
          case rel => exact ⟨0 + 1, by omega, by go_num, H5, hBi⟩
          case measure => simp [intOf]; omega
    · obtain rfl : k = l.length := by omega
      have H := hide (unhide HG (unhide hgo))
      go_wp2
      go_ret
      exact ⟨ret_bool (unhide H).symm, unhide hB⟩
end Lanes
end Go.Proofs.Ytfbfnoofapgneaa
