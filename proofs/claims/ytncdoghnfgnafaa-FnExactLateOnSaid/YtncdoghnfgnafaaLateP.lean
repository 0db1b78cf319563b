/-
  LateOn: what it tells, as a plain function; the model's and the program's.
-/
import Derived.Test.YtncdoghnfgnafaaLaneS
import Derived.Test.YtncdoghnfgnafaaLaneI
namespace Go.Proofs.Ytncdoghnfgnafaa
namespace Lanes
open Go.RowKit Base GoodKey Waits
set_option linter.unusedVariables false

def lateOk (ep fa : Int) (l : List D) (now most : Int) : Bool := glB ep fa l && inB now 0 1000000000 && inB most 0 1000000000
def lateB (ep fa : Int) (l : List D) (now most : Int) : Bool := lateOk ep fa l now most && decide (0 < l.length) && decide (most < now - (l.getD 0 zero).since)
theorem late_1 {ep fa : Int} {l : List D} {now most : Int} (h : glB ep fa l = false) : lateB ep fa l now most = false ∧ lateOk ep fa l now most = false := by simp [lateB, lateOk, h]
theorem late_2 {ep fa : Int} {l : List D} {now most : Int} (h : inB now 0 1000000000 = false) : lateB ep fa l now most = false ∧ lateOk ep fa l now most = false := by simp [lateB, lateOk, h]
theorem late_3 {ep fa : Int} {l : List D} {now most : Int} (h : inB most 0 1000000000 = false) : lateB ep fa l now most = false ∧ lateOk ep fa l now most = false := by simp [lateB, lateOk, h]
theorem late_4 {ep fa : Int} {l : List D} {now most : Int} (h1 : glB ep fa l = true) (h2 : inB now 0 1000000000 = true) (h3 : inB most 0 1000000000 = true) (h0 : l.length = 0) : lateB ep fa l now most = false ∧ lateOk ep fa l now most = true := by simp [lateB, lateOk, h1, h2, h3, h0]
theorem late_5 {ep fa : Int} {l : List D} {now most : Int} (h1 : glB ep fa l = true) (h2 : inB now 0 1000000000 = true) (h3 : inB most 0 1000000000 = true) (h0 : 0 < l.length) : lateB ep fa l now most = decide (most < now - (l.getD 0 zero).since) ∧ lateOk ep fa l now most = true := by
  unfold lateB lateOk
  rw [h1, h2, h3, decide_eq_true h0]
  simp
theorem late_sub {ep fa : Int} {l : List D} {now : Int} (h1 : glB ep fa l = true) (h2 : inB now 0 1000000000 = true) (h0 : 0 < l.length) : IntKind.i64.wrap (now - (l.getD 0 zero).since) = now - (l.getD 0 zero).since := by
  have h := good_wait h1 h0
  simp only [inB, Bool.and_eq_true, decide_eq_true_eq] at h2
  rw [IntKind.wrap_i64]; omega

set_option maxRecDepth 10000 in
set_option maxHeartbeats 1000000 in
theorem lateS_some (ep fa : Int) (b off cap : Nat) (l : List D) (now most : Int) (w : World) (hb : b < w.heap.size) (hc : ∀ i, i < l.length → At w b (off + i * 2) (l.getD i zero))
    (hl : l.length ≤ 1048576) (hcap : l.length ≤ cap) :
    Calls Try.prog 25 #[.agg #[.int .i64 ep, .int .i64 fa, .slice (some ⟨b, off, none⟩) l.length cap], .int .i64 now, .int .i64 most] w fun e w' =>
      e = .returned (.tuple #[.bool (lateB ep fa l now most), .bool (lateOk ep fa l now most)]) ∧ Below w.heap.size w w' := by
  have hgood := fun w' (hb' : Below w.heap.size w w') => spec_some ep fa b off cap l w' (Nat.lt_of_lt_of_le hb hb'.size) (fun i hi => (hc i hi).below hb' hb) (by unfold maxLen; omega) hcap
  have hn1 := fun w => l2Now_any now w
  have hn2 := fun w => l2Now_any most w
  have L1 := hide (@late_1 ep fa l now most)
  have L2 := hide (@late_2 ep fa l now most)
  have L3 := hide (@late_3 ep fa l now most)
  have L4 := hide (@late_4 ep fa l now most)
  have L5 := hide (@late_5 ep fa l now most)
  have HC := hide hc
  have hw0 := fun h1 (h2 : inB now 0 1000000000 = true) (h0 : 0 < l.length) => @late_sub ep fa l now h1 h2 h0
  have HW := hide hw0
  clear hc hw0
  generalize lateB ep fa l now most = lt at L1 L2 L3 L4 L5 ⊢
  generalize lateOk ep fa l now most = ok at L1 L2 L3 L4 L5 ⊢
  cases g1 : glB ep fa l
  · obtain ⟨rfl, rfl⟩ := unhide L1 g1
    rw [g1] at hgood
    have HG := hide hgood
    clear hgood g1 L1 L2 L3 L4 L5 hn1 hn2 HW
    go_enter Try.func25, Try.ntmps25
    go_wp2_with fail
    refine (unhide HG _ (bel1 w _)).mono ?_
    rintro e w1 ⟨rfl, hb1⟩
    have hb1 := hide ((bel1 w _).trans (hb1.mono (by simp)))
    go_wp2
    go_ret2
    exact ⟨rfl, unhide hb1⟩
  rw [g1] at hgood
  have HG := hide hgood
  have G1 := hide g1
  clear hgood g1 L1
  cases g2 : inB now 0 1000000000
  · obtain ⟨rfl, rfl⟩ := unhide L2 g2
    rw [g2] at hn1
    have HN1 := hide hn1
    clear g2 L2 L3 L4 L5 hn1 hn2 HW
    go_enter Try.func25, Try.ntmps25
    go_wp2_with fail
    refine (unhide HG _ (bel1 w _)).mono ?_
    rintro e w1 ⟨rfl, hb1⟩
    have hb1 := hide ((bel1 w _).trans (hb1.mono (by simp)))
    go_wp2_with (go_at_call 34; refine (unhide HN1 _).mono ?_; rintro e w2 ⟨rfl, rfl⟩)
    go_ret2
    exact ⟨rfl, unhide hb1⟩
  rw [g2] at hn1
  have HN1 := hide hn1
  have G2 := hide g2
  clear g2 L2 hn1
  cases g3 : inB most 0 1000000000
  · obtain ⟨rfl, rfl⟩ := unhide L3 g3
    rw [g3] at hn2
    have HN2 := hide hn2
    clear g3 L3 L4 L5 hn2 HW
    go_enter Try.func25, Try.ntmps25
    go_wp2_with fail
    refine (unhide HG _ (bel1 w _)).mono ?_
    rintro e w1 ⟨rfl, hb1⟩
    have hb1 := hide ((bel1 w _).trans (hb1.mono (by simp)))
    go_wp2_with fail
    refine (unhide HN1 _).mono ?_
    rintro e w2 ⟨rfl, rfl⟩
    go_wp2_with fail
    refine (unhide HN2 _).mono ?_
    rintro e w2 ⟨rfl, rfl⟩
    go_wp2
    go_ret2
    exact ⟨rfl, unhide hb1⟩
  rw [g3] at hn2
  have HN2 := hide hn2
  have G3 := hide g3
  clear g3 L3 hn2
  by_cases h0 : l.length = 0
  · obtain ⟨rfl, rfl⟩ := unhide L4 (unhide G1) (unhide G2) (unhide G3) h0
    clear L4 L5 HW
    rw [h0] at HG ⊢
    go_enter Try.func25, Try.ntmps25
    go_wp2_with fail
    refine (unhide HG _ (bel1 w _)).mono ?_
    rintro e w1 ⟨rfl, hb1⟩
    simp only [World.size_alloc] at hb1
    have hx1 := boxcell hb1
    have hb1 := hide ((bel1 w _).trans (hb1.mono (by simp)))
    go_wp2_with fail
    refine (unhide HN1 _).mono ?_
    rintro e w2 ⟨rfl, rfl⟩
    go_wp2_with fail
    refine (unhide HN2 _).mono ?_
    rintro e w2 ⟨rfl, rfl⟩
    go_wp2
    go_ret2
    exact ⟨rfl, unhide hb1⟩
  have h1 : 0 < l.length := by omega
  obtain ⟨e5, rfl⟩ := unhide L5 (unhide G1) (unhide G2) (unhide G3) h1
  have E5 := hide e5
  have HC0 := hide (unhide HC 0 h1)
  have hsub := unhide HW (unhide G1) (unhide G2) h1
  clear L4 L5 e5 HW HC
  generalize l.getD 0 zero = x at E5 HC0 hsub
  have hlp : decide (0 < (l.length : Int)) = true := by simp; omega
  clear h0
  go_enter Try.func25, Try.ntmps25
  go_wp2_with fail
  refine (unhide HG _ (bel1 w _)).mono ?_
  rintro e w1 ⟨rfl, hb1⟩
  simp only [World.size_alloc] at hb1
  have hx1 := boxcell hb1
  have hb1 := hide ((bel1 w _).trans (hb1.mono (by simp)))
  obtain ⟨c0, c1⟩ := (unhide HC0).below (unhide hb1) hb
  rw [Nat.zero_mul, Nat.add_zero] at c0 c1
  go_wp2_with fail
  refine (unhide HN1 _).mono ?_
  rintro e w2 ⟨rfl, rfl⟩
  go_wp2_with fail
  refine (unhide HN2 _).mono ?_
  rintro e w2 ⟨rfl, rfl⟩
  go_wp2
  go_ret2
  exact ⟨(by rw [unhide E5] : Ending.returned (.tuple #[.bool (decide (most < now - x.since)), .bool true]) = .returned (.tuple #[.bool lt, .bool true])), unhide hb1⟩

set_option maxRecDepth 10000 in
set_option maxHeartbeats 1000000 in
theorem lateI_some (ep fa : Int) (b off cap : Nat) (l : List D) (now most : Int) (w : World) (hb : b < w.heap.size) (hc : ∀ i, i < l.length → At w b (off + i * 2) (l.getD i zero))
    (hl : l.length ≤ 1048576) (hcap : l.length ≤ cap) :
    Calls Try.prog 26 #[.agg #[.int .i64 ep, .int .i64 fa, .slice (some ⟨b, off, none⟩) l.length cap], .int .i64 now, .int .i64 most] w fun e w' =>
      e = .returned (.tuple #[.bool (lateB ep fa l now most), .bool (lateOk ep fa l now most)]) ∧ Below w.heap.size w w' := by
  have hgood := fun w' (hb' : Below w.heap.size w w') => impl_some ep fa b off cap l w' (Nat.lt_of_lt_of_le hb hb'.size) (fun i hi => (hc i hi).below hb' hb) hl hcap
  have hn1 := fun w => goodNow_any now w
  have hn2 := fun w => goodNow_any most w
  have L1 := hide (@late_1 ep fa l now most)
  have L2 := hide (@late_2 ep fa l now most)
  have L3 := hide (@late_3 ep fa l now most)
  have L4 := hide (@late_4 ep fa l now most)
  have L5 := hide (@late_5 ep fa l now most)
  have HC := hide hc
  have hw0 := fun h1 (h2 : inB now 0 1000000000 = true) (h0 : 0 < l.length) => @late_sub ep fa l now h1 h2 h0
  have HW := hide hw0
  clear hc hw0
  generalize lateB ep fa l now most = lt at L1 L2 L3 L4 L5 ⊢
  generalize lateOk ep fa l now most = ok at L1 L2 L3 L4 L5 ⊢
  cases g1 : glB ep fa l
  · obtain ⟨rfl, rfl⟩ := unhide L1 g1
    rw [g1] at hgood
    have HG := hide hgood
    clear hgood g1 L1 L2 L3 L4 L5 hn1 hn2 HW
    go_enter Try.func26, Try.ntmps26
    go_wp2_with fail
    refine (unhide HG _ (bel1 w _)).mono ?_
    rintro e w1 ⟨rfl, hb1⟩
    have hb1 := hide ((bel1 w _).trans (hb1.mono (by simp)))
    go_wp2
    go_ret2
    exact ⟨rfl, unhide hb1⟩
  rw [g1] at hgood
  have HG := hide hgood
  have G1 := hide g1
  clear hgood g1 L1
  cases g2 : inB now 0 1000000000
  · obtain ⟨rfl, rfl⟩ := unhide L2 g2
    rw [g2] at hn1
    have HN1 := hide hn1
    clear g2 L2 L3 L4 L5 hn1 hn2 HW
    go_enter Try.func26, Try.ntmps26
    go_wp2_with fail
    refine (unhide HG _ (bel1 w _)).mono ?_
    rintro e w1 ⟨rfl, hb1⟩
    have hb1 := hide ((bel1 w _).trans (hb1.mono (by simp)))
    go_wp2_with (go_at_call 42; refine (unhide HN1 _).mono ?_; rintro e w2 ⟨rfl, rfl⟩)
    go_ret2
    exact ⟨rfl, unhide hb1⟩
  rw [g2] at hn1
  have HN1 := hide hn1
  have G2 := hide g2
  clear g2 L2 hn1
  cases g3 : inB most 0 1000000000
  · obtain ⟨rfl, rfl⟩ := unhide L3 g3
    rw [g3] at hn2
    have HN2 := hide hn2
    clear g3 L3 L4 L5 hn2 HW
    go_enter Try.func26, Try.ntmps26
    go_wp2_with fail
    refine (unhide HG _ (bel1 w _)).mono ?_
    rintro e w1 ⟨rfl, hb1⟩
    have hb1 := hide ((bel1 w _).trans (hb1.mono (by simp)))
    go_wp2_with fail
    refine (unhide HN1 _).mono ?_
    rintro e w2 ⟨rfl, rfl⟩
    go_wp2_with fail
    refine (unhide HN2 _).mono ?_
    rintro e w2 ⟨rfl, rfl⟩
    go_wp2
    go_ret2
    exact ⟨rfl, unhide hb1⟩
  rw [g3] at hn2
  have HN2 := hide hn2
  have G3 := hide g3
  clear g3 L3 hn2
  by_cases h0 : l.length = 0
  · obtain ⟨rfl, rfl⟩ := unhide L4 (unhide G1) (unhide G2) (unhide G3) h0
    clear L4 L5 HW
    rw [h0] at HG ⊢
    go_enter Try.func26, Try.ntmps26
    go_wp2_with fail
    refine (unhide HG _ (bel1 w _)).mono ?_
    rintro e w1 ⟨rfl, hb1⟩
    simp only [World.size_alloc] at hb1
    have hx1 := boxcell hb1
    have hb1 := hide ((bel1 w _).trans (hb1.mono (by simp)))
    go_wp2_with fail
    refine (unhide HN1 _).mono ?_
    rintro e w2 ⟨rfl, rfl⟩
    go_wp2_with fail
    refine (unhide HN2 _).mono ?_
    rintro e w2 ⟨rfl, rfl⟩
    go_wp2
    go_ret2
    exact ⟨rfl, unhide hb1⟩
  have h1 : 0 < l.length := by omega
  obtain ⟨e5, rfl⟩ := unhide L5 (unhide G1) (unhide G2) (unhide G3) h1
  have E5 := hide e5
  have HC0 := hide (unhide HC 0 h1)
  have hsub := unhide HW (unhide G1) (unhide G2) h1
  clear L4 L5 e5 HW HC
  generalize l.getD 0 zero = x at E5 HC0 hsub
  have hlp : decide (0 < (l.length : Int)) = true := by simp; omega
  clear h0
  go_enter Try.func26, Try.ntmps26
  go_wp2_with fail
  refine (unhide HG _ (bel1 w _)).mono ?_
  rintro e w1 ⟨rfl, hb1⟩
  simp only [World.size_alloc] at hb1
  have hx1 := boxcell hb1
  have hb1 := hide ((bel1 w _).trans (hb1.mono (by simp)))
  obtain ⟨c0, c1⟩ := (unhide HC0).below (unhide hb1) hb
  rw [Nat.zero_mul, Nat.add_zero] at c0 c1
  go_wp2_with fail
  refine (unhide HN1 _).mono ?_
  rintro e w2 ⟨rfl, rfl⟩
  go_wp2_with fail
  refine (unhide HN2 _).mono ?_
  rintro e w2 ⟨rfl, rfl⟩
  go_wp2
  go_ret2
  exact ⟨(by rw [unhide E5] : Ending.returned (.tuple #[.bool (decide (most < now - x.since)), .bool true]) = .returned (.tuple #[.bool lt, .bool true])), unhide hb1⟩
end Lanes
end Go.Proofs.Ytncdoghnfgnafaa
