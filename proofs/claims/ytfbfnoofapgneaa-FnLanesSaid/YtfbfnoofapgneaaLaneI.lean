/-
  Contracts of the program's goodNow, mayWait and GoodLane: the plain functions, for every lane whose waits lie in memory.
-/
import Derived.Test.YtfbfnoofapgneaaLaneP
import Derived.Test.YtfbfnoofapgneaaRows
import Derived.BigQuiet
import Derived.Deep.QuietTactic
import Derived.Deep.RegionWith
import Derived.WalkLawsBesides
namespace Go.Proofs.Ytfbfnoofapgneaa
namespace Lanes
open Go.RowKit Base GoodKey Waits
set_option linter.unusedVariables false

set_option maxRecDepth 10000 in
set_option maxHeartbeats 400000 in
theorem goodNow_any (n : Int) (w : World) : Calls Try.prog 23 #[.int .i64 n] w fun e w' => e = .returned (.bool (inB n 0 1000000000)) ∧ w' = w := by
  go_enter Try.func23, Try.ntmps23
  go_wp2
  all_goals
    go_ret
    refine ⟨ret_bool ?_, rfl⟩
    simp [inB]
    try omega

set_option maxRecDepth 10000 in
set_option maxHeartbeats 2000000 in
theorem mayWait_any (a : Option Addr) (cap : Nat) (l : List D) (x : D) (w : World) (hc : LAt w a l) (hl : l.length ≤ 1048576) :
    Calls Try.prog 14 #[.slice a l.length cap, .agg #[.int .i64 x.id, .int .i64 x.since]] w fun e w' => e = .returned (.bool (mayB l x)) ∧ Below w.heap.size w w' := by
  have hnow := fun w => goodNow_any x.since w
  have m1 := hide (@may_1 l x)
  have m2 := hide (@may_2 l x)
  have m3 := hide (@may_3 l x)
  have m4 := hide (fun j hj => @may_4 l x j hj)
  have m5 := hide (@may_5 l x)
  have hfr0 := hide (fresh_0 x.id l)
  have hf1 := hide (fun j hj => @fresh_step x.id l j hj)
  have HC := hide hc
  clear hc
  generalize mayB l x = r at m1 m2 m3 m4 m5 ⊢
  obtain ⟨xi, xs⟩ := x
  dsimp only at hnow m1 m2 m3 m4 m5 hfr0 hf1 ⊢
  by_cases g1 : xi < 0
  · obtain rfl : r = false := unhide m1 g1
    have g1' : decide (xi < 0) = true := decide_eq_true g1
    clear m1 m2 m3 m4 m5 hfr0 hf1 hnow
    go_enter Try.func14, Try.ntmps14
    go_wp2
    go_ret
    exact ⟨rfl, bel1 w _⟩
  have g1' : decide (xi < 0) = false := decide_eq_false g1
  cases g2 : inB xs 0 1000000000
  · obtain rfl : r = false := unhide m2 g2
    rw [g2] at hnow
    have HN := hide hnow
    clear m1 m2 m3 m4 m5 hfr0 hf1 hnow g2
    go_enter Try.func14, Try.ntmps14
    go_wp2_with (go_at_call 23; refine (unhide HN _).mono ?_; rintro e w1 ⟨rfl, rfl⟩)
    go_ret
    exact ⟨rfl, bel1 w _⟩
  rw [g2] at hnow
  have HN := hide hnow
  have M5 := hide (unhide m5 g1 g2)
  clear m1 m2 hnow g2 m5
  by_cases h0 : l = []
  · subst h0
    obtain rfl : r = true := unhide M5 (fun h => absurd h (by simp)) (unhide hfr0)
    clear M5 m3 m4 hfr0 hf1 HC
    have e0 : ([] : List D).length = 0 := rfl
    rw [e0]
    go_enter Try.func14, Try.ntmps14
    go_wp2_with (go_at_call 23; refine (unhide HN _).mono ?_; rintro e w1 ⟨rfl, rfl⟩)
    go_quiet (fail)
    go_wp2
    go_loopw [33] (fun i wi => i = .int .i64 0 ∧ Hid (Below w.heap.size w wi)) (fun i _ => 0)
    case atStart => exact ⟨rfl, hide (bel_draws (bel1 w _) _)⟩
    case round =>
      obtain ⟨rfl, hbi⟩ := hrel
      go_wp2
      go_ret
      exact ⟨rfl, unhide hbi⟩
  obtain ⟨b, off, rfl, hb, hcc⟩ := unhide HC h0
  have HCC := hide hcc
  clear HC hcc
  have hpos : 0 < l.length := List.length_pos_iff.2 h0
  have m3' := hide (unhide m3 hpos)
  have M5' := hide (fun h => unhide M5 (fun _ => h))
  have pc : Hid (w.cell? ⟨b, off + (l.length - 1) * 2 + 1, none⟩ = some (.int .i64 (l.getD (l.length - 1) zero).since)) := (unhide HCC (l.length - 1) (by omega)).2
  generalize (l.getD (l.length - 1) zero).since = ps at m3' M5' pc
  obtain ⟨q, hq⟩ : ∃ q, l.length = q + 1 := ⟨l.length - 1, by omega⟩
  have HCC' := hide (fun i (hi : i < q + 1) => unhide HCC i (by omega))
  have m4' := hide (fun i (hi : i < q + 1) => unhide m4 i (by omega))
  have hf1' := hide (fun i (hi : i < q + 1) => unhide hf1 i (by omega))
  have M6 : Hid (¬ xs < ps → freshB xi (l.take (q + 1)) = true → r = true) := fun h1 h2 => unhide M5' h1 (by rw [hq]; exact h2)
  rw [hq] at pc hl ⊢
  have e1 : q + 1 - 1 = q := by omega
  rw [e1] at pc
  have pq := unhide pc
  clear hq HCC m4 hf1 M5 M5' m3 h0 hpos e1 pc
  have hqp : decide (0 < ((q + 1 : Nat) : Int)) = true := by simp
  have hwq : IntKind.i64.wrap (q : Int) = (q : Int) := by rw [IntKind.wrap_i64]; omega
  have hq0 : (0 : Int) ≤ (q : Int) := by omega
  have hq1 : (q : Int) < ((q + 1 : Nat) : Int) := by omega
  by_cases g3 : xs < ps
  · obtain rfl : r = false := unhide m3' g3
    have g3' : decide (xs < ps) = true := decide_eq_true g3
    clear m3' M6 m4' hf1' hfr0 HCC'
    go_enter Try.func14, Try.ntmps14
    go_wp2_with (go_at_call 23; refine (unhide HN _).mono ?_; rintro e w1 ⟨rfl, rfl⟩)
    go_quiet (fail)
    go_wp2
    go_ret
    exact ⟨rfl, bel_draws (bel1 w _) _⟩
  have g3' : decide (xs < ps) = false := decide_eq_false g3
  have M7 := hide (unhide M6 g3)
  clear m3' M6
  go_enter Try.func14, Try.ntmps14
  go_wp2_with (go_at_call 23; refine (unhide HN _).mono ?_; rintro e w1 ⟨rfl, rfl⟩)
  go_quiet (fail)
  go_wp2
  go_loopw [33] (fun i wi => ∃ (m : Nat), m ≤ q + 1 ∧ i = .int .i64 m ∧ Hid (freshB xi (l.take m) = true) ∧ Hid (Below (w.heap.size + 1) (w.alloc (.cells #[.int .i64 xi, .int .i64 xs] 36)) wi)) (fun i _ => q + 1 - (intOf i).toNat)
  case atStart => exact ⟨0, Nat.zero_le _, rfl, hfr0, hide (bel_draws (Below.refl _ _) _)⟩
  case round =>
    obtain ⟨m, hm, rfl, hfr, hbi⟩ := hrel
    have hxi := boxcell (unhide hbi)
    have hB : Hid (Below w.heap.size w wr) := (bel1 w _).trans ((unhide hbi).mono (by omega))
    have hzi : w.heap.size < wr.heap.size := by have := (unhide hbi).size; simp at this; omega
    by_cases hjk : m < q + 1
    · obtain ⟨d0, d1⟩ := (unhide HCC' m hjk).below (unhide hB) hb
      have f1 := hide (unhide hf1' m hjk (unhide hfr))
      have f2 := hide (unhide m4' m hjk)
      generalize l.getD m zero = o at d0 d1 f1 f2
      clear pq
      cases e1 : (o.id == xi)
      · have H := hide (unhide f1 e1)
        clear f1 f2 M7 m4' hf1'
        go_wp2
        go_roundw
        case rel => exact ⟨m + 1, by omega, by go_num, H, hide ((unhide hbi).alloc (by omega) _)⟩
        case measure => simp [intOf]; omega
      · obtain rfl : r = false := unhide f2 e1
        clear f1 f2 M7 m4' hf1'
        go_wp2
        go_ret
        exact ⟨rfl, (unhide hB).alloc (by omega) _⟩
    · obtain rfl : m = q + 1 := by omega
      obtain rfl : r = true := unhide M7 (unhide hfr)
      clear M7 m4' hf1' pq
      go_wp2
      go_ret
      exact ⟨rfl, unhide hB⟩

theorem lat_take {w : World} {b off : Nat} {l : List D} (hb : b < w.heap.size) (hc : ∀ i, i < l.length → At w b (off + i * 2) (l.getD i zero)) (k : Nat) (hk : k ≤ l.length) : LAt w (some ⟨b, off, none⟩) (l.take k) := by
  intro hne
  refine ⟨b, off, rfl, hb, fun i hi => ?_⟩
  rw [len_take l k hk] at hi
  rw [take_getD l k i hi]
  exact hc i (by omega)

set_option maxRecDepth 10000 in
set_option maxHeartbeats 2000000 in
theorem impl_some (ep fa : Int) (b off cap : Nat) (l : List D) (w : World) (hb : b < w.heap.size) (hc : ∀ i, i < l.length → At w b (off + i * 2) (l.getD i zero))
    (hl : l.length ≤ 1048576) (hcap : l.length ≤ cap) :
    Calls Try.prog 10 #[.agg #[.int .i64 ep, .int .i64 fa, .slice (some ⟨b, off, none⟩) l.length cap]] w fun e w' => e = .returned (.bool (glB ep fa l)) ∧ Below w.heap.size w w' := by
  have hcs := hide hc
  clear hc
  by_cases g1 : ep < 1
  · have H := hide (gl_1 (fa := fa) (l := l) (show ¬ inB ep 1 1000000 = true by simp [inB]; omega))
    have g1' : decide (ep < 1) = true := decide_eq_true g1
    go_enter Try.func10, Try.ntmps10
    go_wp2
    go_ret
    exact ⟨ret_bool (unhide H).symm, bel1 w _⟩
  have g1' : decide (ep < 1) = false := decide_eq_false g1
  by_cases g2 : 1000000 < ep
  · have H := hide (gl_1 (fa := fa) (l := l) (show ¬ inB ep 1 1000000 = true by simp [inB]; omega))
    have g2' : decide (1000000 < ep) = true := decide_eq_true g2
    go_enter Try.func10, Try.ntmps10
    go_wp2
    go_ret
    exact ⟨ret_bool (unhide H).symm, bel1 w _⟩
  have g2' : decide (1000000 < ep) = false := decide_eq_false g2
  by_cases g3 : fa < 0
  · have H := hide (gl_2 (ep := ep) (l := l) (show ¬ inB fa 0 1000000 = true by simp [inB]; omega))
    have g3' : decide (fa < 0) = true := decide_eq_true g3
    go_enter Try.func10, Try.ntmps10
    go_wp2
    go_ret
    exact ⟨ret_bool (unhide H).symm, bel1 w _⟩
  have g3' : decide (fa < 0) = false := decide_eq_false g3
  by_cases g4 : 1000000 < fa
  · have H := hide (gl_2 (ep := ep) (l := l) (show ¬ inB fa 0 1000000 = true by simp [inB]; omega))
    have g4' : decide (1000000 < fa) = true := decide_eq_true g4
    go_enter Try.func10, Try.ntmps10
    go_wp2
    go_ret
    exact ⟨ret_bool (unhide H).symm, bel1 w _⟩
  have g4' : decide (1000000 < fa) = false := decide_eq_false g4
  by_cases g5 : 20 < (l.length : Int)
  · have H := hide (gl_3 (ep := ep) (fa := fa) g5)
    go_enter Try.func10, Try.ntmps10
    go_wp2
    go_ret
    exact ⟨ret_bool (unhide H).symm, bel1 w _⟩
  have HG := hide (fun h => @gl_5 ep fa l (show inB ep 1 1000000 = true by simp [inB]; omega) (show inB fa 0 1000000 = true by simp [inB]; omega) g5 h)
  go_enter Try.func10, Try.ntmps10
  go_wp2
  clear g1 g1' g2 g2' g3 g3' g4 g4'
  go_loopw [30] (fun i wr => ∃ (k : Nat), k ≤ l.length ∧ i = .int .i64 k ∧ Hid (goodTo l k = true) ∧ Hid (Below (w.heap.size + 1) (w.alloc (.cells #[.int .i64 ep, .int .i64 fa, .slice (some ⟨b, off, none⟩) l.length cap] 25)) wr)) (fun i _ => l.length - (intOf i).toNat)
  case atStart => exact ⟨0, Nat.zero_le _, rfl, hide rfl, hide (Below.refl _ _)⟩
  case round =>
    obtain ⟨k, hk, rfl, hgo, hbel⟩ := hrel
    have hB : Hid (Below w.heap.size w wr) := (bel1 w _).trans ((unhide hbel).mono (by omega))
    have hbox := boxcell (unhide hbel)
    have hzw : w.heap.size < wr.heap.size := by have := (unhide hbel).size; simp at this; omega
    by_cases hlt : k < l.length
    · obtain ⟨c0, c1⟩ := (unhide hcs k hlt).below (unhide hB) hb
      have hbad := hide (@gl_4 ep fa l k hlt)
      have hgs := hide (@goodTo_step l k (unhide hgo))
      have hst : Hid (stepB l k = mayB (l.take k) (l.getD k zero)) := rfl
      have HM := hide (fun w' (h : Below w.heap.size w w') => mayWait_any (some ⟨b, off, none⟩) cap (l.take k) (l.getD k zero) w' ((lat_take hb (unhide hcs) k hk).below h (Nat.le_refl _)) (by rw [len_take l k hk]; omega))
      rw [len_take l k hk, ← unhide hst] at HM
      clear hst
      generalize l.getD k zero = x at c0 c1 HM
      have hBn := hide (fun o n => bel_draws ((unhide hB).alloc (show w.heap.size ≤ wr.heap.size by omega) o) n)
      have hBm := hide (fun o n => bel_draws ((unhide hbel).alloc (show w.heap.size + 1 ≤ wr.heap.size by omega) o) n)
      generalize hsb : stepB l k = sb at hbad hgs HM
      cases sb
      · have H := hide (unhide hbad rfl)
        clear hsb hbad hgs
        go_wp2
        go_region_with (go_at_call 14; refine (unhide HM _ ((unhide hB).alloc (by omega) _).drew).mono ?_; rintro e w1 ⟨rfl, hb1⟩; have hb1 := hide hb1)
        all_goals
          go_wp2
          go_ret
          exact ⟨ret_bool (unhide H).symm, (((unhide hB).alloc (by omega) _).drew).trans ((unhide hb1).mono (by simp; omega))⟩
      · have H := hide (unhide hgs rfl)
        clear hsb hbad hgs
        go_wp2
        go_region_with (go_at_call 14; refine (unhide HM _ ((unhide hB).alloc (by omega) _).drew).mono ?_; rintro e w1 ⟨rfl, hb1⟩; have hb1 := hide hb1)
        all_goals
          go_wp2
          go_roundw
          case rel => exact ⟨k + 1, by omega, by go_num, H, hide ((((unhide hbel).alloc (by omega) _).drew).trans ((unhide hb1).mono (by simp; omega)))⟩
          case measure => simp [intOf]; omega
    · obtain rfl : k = l.length := by omega
      have H := hide (unhide HG (unhide hgo))
      go_wp2
      go_ret
      exact ⟨ret_bool (unhide H).symm, unhide hB⟩
end Lanes
end Go.Proofs.Ytfbfnoofapgneaa
