/-
  Contracts of the program's goodSlot and GoodSession: the plain functions, for every session whose slots lie in memory.
-/
import Derived.Test.YtmbkdejlbeailaaSessP
import Derived.Test.YtmbkdejlbeailaaRows
import Derived.BigQuiet
import Derived.Deep.QuietTactic
import Derived.Deep.RegionWith
import Derived.WalkLawsBesides
namespace Go.Proofs.Ytmbkdejlbeailaa
namespace Sess
open Go.RowKit Base GoodKey Slots
set_option linter.unusedVariables false

set_option maxRecDepth 10000 in
set_option maxHeartbeats 400000 in
theorem goodSlot_any (x : D) (w : World) :
    Calls Try.prog 33 #[.agg #[.int .i64 x.id, .bool x.done, .string x.answer]] w fun e w' => e = .returned (.bool (slotB x)) ∧ Below w.heap.size w w' := by
  obtain ⟨xi, xd, xa⟩ := x
  dsimp only
  by_cases g1 : 3000 < (xa.size : Int)
  · have H := hide (@slot_1 ⟨xi, xd, xa⟩ g1)
    have g1' : decide ((xa.size : Int) ≤ 3000) = false := decide_eq_false (by omega)
    go_enter Try.func33, Try.ntmps33
    go_wp2
    go_ret
    exact ⟨ret_bool (unhide H).symm, bel1 w _⟩
  have H := hide (@slot_2 ⟨xi, xd, xa⟩ g1)
  have g1' : decide ((xa.size : Int) ≤ 3000) = true := decide_eq_true (by omega)
  cases xd
  · go_enter Try.func33, Try.ntmps33
    go_wp2
    go_ret
    exact ⟨ret_bool (by rw [unhide H]; rfl), bel1 w _⟩
  · go_enter Try.func33, Try.ntmps33
    go_wp2
    go_ret
    exact ⟨ret_bool (by rw [unhide H]; rfl), bel1 w _⟩

set_option maxRecDepth 10000 in
set_option maxHeartbeats 2000000 in
theorem impl_some (nx : Int) (b off cap : Nat) (l : List D) (w : World) (hb : b < w.heap.size) (hc : ∀ i, i < l.length → At w b (off + i * 3) (l.getD i zero))
    (hl : l.length ≤ 1048576) (hcap : l.length ≤ cap) :
    Calls Try.prog 11 #[.agg #[.int .i64 nx, .slice (some ⟨b, off, none⟩) l.length cap]] w fun e w' => e = .returned (.bool (gsB nx l)) ∧ Below w.heap.size w w' := by
  have hcs := hide hc
  clear hc
  by_cases g1 : nx < 0
  · have H := hide (gs_1 (l := l) (show ¬ inB nx 0 1000000 = true by simp [inB]; omega))
    have g1' : decide (nx < 0) = true := decide_eq_true g1
    go_enter Try.func11, Try.ntmps11
    go_wp2
    go_ret
    exact ⟨ret_bool (unhide H).symm, bel1 w _⟩
  have g1' : decide (nx < 0) = false := decide_eq_false g1
  by_cases g2 : 1000000 < nx
  · have H := hide (gs_1 (l := l) (show ¬ inB nx 0 1000000 = true by simp [inB]; omega))
    have g2' : decide (1000000 < nx) = true := decide_eq_true g2
    go_enter Try.func11, Try.ntmps11
    go_wp2
    go_ret
    exact ⟨ret_bool (unhide H).symm, bel1 w _⟩
  have g2' : decide (1000000 < nx) = false := decide_eq_false g2
  by_cases g3 : 30 < (l.length : Int)
  · have H := hide (gs_2 (nx := nx) g3)
    go_enter Try.func11, Try.ntmps11
    go_wp2
    go_ret
    exact ⟨ret_bool (unhide H).symm, bel1 w _⟩
  have HG := hide (fun h => @gs_4 nx l (show inB nx 0 1000000 = true by simp [inB]; omega) g3 h)
  have g3' : ¬ 30 < l.length := by omega
  go_enter Try.func11, Try.ntmps11
  go_wp2
  go_loopw [3, 23] (fun lv i wr => ∃ (k : Nat) (le : Int), k ≤ l.length ∧ 0 ≤ le ∧ le ≤ 1000000 ∧ lv = .int .i64 le ∧ i = .int .i64 k ∧ Hid (le = leastAt l k) ∧ Hid (goodTo nx l k = true) ∧ Hid (Below (w.heap.size + 1) (w.alloc (.cells #[.int .i64 nx, .slice (some ⟨b, off, none⟩) l.length cap] 29)) wr)) (fun _ i _ => l.length - (intOf i).toNat)
  case atStart => exact ⟨0, 0, Nat.zero_le _, by omega, by omega, rfl, rfl, hide rfl, hide rfl, hide (Below.refl _ _)⟩
  case round =>
    obtain ⟨k, le, hk, hle0, hle1, rfl, rfl, hle, hgo, hbel⟩ := hrel
    have hB : Hid (Below w.heap.size w wr) := (bel1 w _).trans ((unhide hbel).mono (by omega))
    have hbox := boxcell (unhide hbel)
    have hzw : w.heap.size < wr.heap.size := by have := (unhide hbel).size; simp at this; omega
    have hbw : b < wr.heap.size := by omega
    by_cases hlt : k < l.length
    · obtain ⟨c0, c1, c2⟩ := (unhide hcs k hlt).below (unhide hB) hb
      have hbad := hide (@gs_3 nx l k hlt)
      have hgs := hide (@goodTo_step nx l k (unhide hgo))
      have s1 := hide (@step_1 nx l k)
      have s2 := hide (@step_2 nx l k)
      have s3 := hide (@step_3 nx l k)
      have s4 := hide (@step_4 nx l k)
      have hnext : Hid (leastAt l (k + 1) = (l.getD k zero).id + 1) := rfl
      rw [← unhide hle] at s1 s4
      have HM := hide (fun w' => goodSlot_any (l.getD k zero) w')
      generalize l.getD k zero = x at c0 c1 c2 HM s1 s2 s3 s4 hnext
      have hBm := hide (fun o => (unhide hbel).alloc (show w.heap.size + 1 ≤ wr.heap.size by omega) o)
      by_cases q1 : x.id < le
      · have H := hide (unhide hbad (unhide s1 q1))
        have q1' : decide (x.id < le) = true := decide_eq_true q1
        clear s1 s2 s3 s4 hbad hgs hnext hle
        go_wp2
        go_ret
        exact ⟨ret_bool (unhide H).symm, (unhide hB).alloc (by omega) _⟩
      have q1' : decide (x.id < le) = false := decide_eq_false q1
      by_cases q2 : nx ≤ x.id
      · have H := hide (unhide hbad (unhide s2 q2))
        have q2' : decide (nx ≤ x.id) = true := decide_eq_true q2
        clear s1 s2 s3 s4 hbad hgs hnext hle
        go_wp2
        go_ret
        exact ⟨ret_bool (unhide H).symm, (unhide hB).alloc (by omega) _⟩
      have q2' : decide (nx ≤ x.id) = false := decide_eq_false q2
      have S4 := hide (unhide s4 q1 q2)
      clear s1 s2 s4
      generalize slotB x = sb at S4 s3 HM
      cases sb
      · have H := hide (unhide hbad (unhide s3 rfl))
        clear S4 s3 hbad hgs hnext hle
        go_wp2_with fail
        refine (unhide HM _).mono ?_
        rintro e w1 ⟨rfl, hb1⟩
        have hb1 := hide hb1
        go_wp2
        go_ret
        exact ⟨ret_bool (unhide H).symm, ((unhide hB).alloc (by omega) _).trans ((unhide hb1).mono (by simp; omega))⟩
      · have H := hide (unhide hgs (unhide S4 rfl))
        clear S4 s3 hbad hgs
        go_wp2_with fail
        refine (unhide HM _).mono ?_
        rintro e w1 ⟨rfl, hb1⟩
        have hx1 := fun o => hb1.cell (p := ⟨wr.heap.size, o, none⟩) (by simp)
        have hb1 := hide hb1
        go_wp2
        go_roundw
        case rel => exact ⟨k + 1, x.id + 1, by omega, by omega, by omega, by go_num, by go_num, hide (unhide hnext).symm, H, hide ((unhide hBm _).trans ((unhide hb1).mono (by simp; omega)))⟩
        case measure => simp [intOf]; omega
    · obtain rfl : k = l.length := by omega
      have HE := unhide HG (unhide hgo)
      by_cases h0 : l.length = 0
      · have H := hide (HE.trans (head_0 h0))
        have h0' : decide ((l.length : Int) = 0) = true := decide_eq_true (by omega)
        have h0'' : (l.length : Int) = 0 := by omega
        clear HE
        go_wp2
        go_ret
        exact ⟨ret_bool (unhide H).symm, unhide hB⟩
      · have H := hide (HE.trans (head_1 h0))
        have h0' : decide ((l.length : Int) = 0) = false := decide_eq_false (by omega)
        have h0'' : ¬ (l.length : Int) = 0 := by omega
        have h0p : (0 : Int) < (l.length : Int) := by omega
        obtain ⟨c0, c1, c2⟩ := (unhide hcs 0 (by omega)).below (unhide hB) hb
        rw [Nat.zero_mul, Nat.add_zero] at c0 c1 c2
        generalize l.getD 0 zero = x at c0 c1 c2 H
        clear HE
        go_wp2
        go_ret
        exact ⟨ret_bool (by rw [unhide H, show ((l.length : Int) == 0) = false by simpa using h0'']; rfl), unhide hB⟩
end Sess
end Go.Proofs.Ytmbkdejlbeailaa
