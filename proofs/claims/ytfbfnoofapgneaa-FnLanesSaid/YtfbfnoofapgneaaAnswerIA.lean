/-
  The program's AnswerOn: the plain outcome, for every lane, wherever its waits lie.
-/
import Derived.Deep.DeepCutAuto
import Derived.Outline
import Derived.Test.YtfbfnoofapgneaaLaneN
namespace Go.Proofs.Ytfbfnoofapgneaa
namespace Lanes
open Go.RowKit Base GoodKey Waits Marks OwnR WaitsW
set_option linter.unusedVariables false

set_option maxRecDepth 10000 in
set_option maxHeartbeats 2000000 in
theorem answerI_any (ep fa : Int) (a : Option Addr) (cap : Nat) (l : List D) (at_ : Int) (w : World) (hc : LAt w a l)
    (hl : l.length ≤ 1048576) (hcap : l.length ≤ cap) :
    Calls Try.prog 8 #[.agg #[.int .i64 ep, .int .i64 fa, .slice a l.length cap], .int .i64 at_] w (AnswerFull (answerR ep fa l at_) w) := by
  have hgood := fun w' (hb' : Below w.heap.size w w') => goodI_any ep fa a cap l w' (hc.below hb' (Nat.le_refl _)) hl hcap
  have hcp := fun hl' w' (hb' : Below w.heap.size w w') => copyI_any ep fa a cap l w' (hc.below hb' (Nat.le_refl _)) hl'
  have HCP0 := hide hcp
  clear hc hcp
  cases g1 : glB ep fa l
  · rw [answer_1 g1]
    rw [g1] at hgood
    have HG := hide hgood
    clear hgood g1 HCP0
    go_enter Try.func8, Try.ntmps8
    go_wp2_with fail
    refine (unhide HG _ (bel2 w _ _)).mono ?_
    rintro e w1 ⟨rfl, hb1⟩
    simp only [World.size_alloc] at hb1
    have X1 := hide ((bl_new w ep fa _).below hb1 (Nat.le_refl _))
    have B1 := hide ((bel2 w _ _).trans (hb1.mono (by omega)))
    have z1 : w.heap.size + 2 ≤ w1.heap.size := (unhide X1).2.2.2.2
    clear hb1
    obtain ⟨⟨x0, x1, x2⟩, ⟨y0, y1, y2⟩, f0, f1, -⟩ := unhide X1
    go_wp2
    refine bodyPost_ret (v := .tuple #[.agg #[.int .i64 0, .int .i64 0, .slice none 0 0], .int .i64 0, .int .i64 1]) (by simp [results, Try.results8, go_sem, y0, y1, y2]) rfl ⟨none, 0, rfl, full_none ?_⟩
    repeat (refine Below.setCell ?_ (by first | (simp; done) | (simp; omega)) _)
    exact unhide B1
  have hl20 := glB_len g1
  have HCP := hide (unhide HCP0 (by omega))
  have G1 := hide g1
  rw [g1] at hgood
  have HG := hide hgood
  clear hgood g1 HCP0
  by_cases g2 : at_ = ep
  case neg =>
    rw [answer_2 (unhide G1) g2]
    have q1 : (at_ != ep) = true := by simp [g2]
    have q2 : (at_ == ep) = false := by simp [g2]
    have q3 : decide (at_ = ep) = false := by simp [g2]
    clear g2
    go_enter Try.func8, Try.ntmps8
    go_wp2_with fail
    refine (unhide HG _ (bel2 w _ _)).mono ?_
    rintro e w1 ⟨rfl, hb1⟩
    simp only [World.size_alloc] at hb1
    have X1 := hide ((bl_new w ep fa _).below hb1 (Nat.le_refl _))
    have B1 := hide ((bel2 w _ _).trans (hb1.mono (by omega)))
    have z1 : w.heap.size + 2 ≤ w1.heap.size := (unhide X1).2.2.2.2
    clear hb1
    obtain ⟨⟨x0, x1, x2⟩, ⟨y0, y1, y2⟩, f0, f1, -⟩ := unhide X1
    go_wp2_with fail
    refine (unhide HCP _ (unhide B1)).mono ?_
    rintro e w2 ⟨a2, c2, rfl, ho2, hb2⟩
    have X2 := hide ((unhide X1).below hb2 z1)
    have B2 := hide ((unhide B1).trans (hb2.mono (by omega)))
    have O2 := hide ho2
    have z2 : w1.heap.size ≤ w2.heap.size := hb2.size
    have zx : w.heap.size < w2.heap.size := by omega
    have zy : w.heap.size + 1 < w2.heap.size := by omega
    clear hb2 ho2 x0 x1 x2 y0 y1 y2 f0 f1 X1 B1
    obtain ⟨⟨x0, x1, x2⟩, ⟨y0, y1, y2⟩, f0, f1, -⟩ := unhide X2
    have X3 := hide ((((unhide X2).set0 ep).set1 fa).set2 (.slice a2 l.length c2))
    have O3 := hide ((((unhide O2).set (p := ⟨w.heap.size, 0, none⟩) (show w.heap.size < w1.heap.size by omega) (.int .i64 ep)).set (p := ⟨w.heap.size, 1, none⟩) (show w.heap.size < w1.heap.size by omega) (.int .i64 fa)).set (p := ⟨w.heap.size, 2, none⟩) (show w.heap.size < w1.heap.size by omega) (.slice a2 l.length c2))
    have B3 := hide ((((unhide B2).setCell (p := ⟨w.heap.size, 0, none⟩) (Nat.le_refl _) (.int .i64 ep)).setCell (p := ⟨w.heap.size, 1, none⟩) (Nat.le_refl _) (.int .i64 fa)).setCell (p := ⟨w.heap.size, 2, none⟩) (Nat.le_refl _) (.slice a2 l.length c2))
    have z3 : w1.heap.size ≤ (((w2.setCell ⟨w.heap.size, 0, none⟩ (.int .i64 ep)).setCell ⟨w.heap.size, 1, none⟩ (.int .i64 fa)).setCell ⟨w.heap.size, 2, none⟩ (.slice a2 l.length c2)).heap.size := by simpa [World.setCell] using z2
    have e3 : (((w2.setCell ⟨w.heap.size, 0, none⟩ (.int .i64 ep)).setCell ⟨w.heap.size, 1, none⟩ (.int .i64 fa)).setCell ⟨w.heap.size, 2, none⟩ (.slice a2 l.length c2)).heap.size = w2.heap.size := by simp [World.setCell]
    go_wp2
    refine bodyPost_ret (v := .tuple #[.agg #[.int .i64 ep, .int .i64 fa, .slice a2 l.length c2], .int .i64 0, .int .i64 3]) (by simp [results, Try.results8, go_sem, y0, y1, y2]) rfl ⟨a2, c2, rfl, Own.full (B := w1.heap.size) (cap := c2) ?_ (by omega) ?_⟩
    · repeat (refine Own.set ?_ (by first | (simp; done) | (simp; omega)) _)
      exact unhide O2
    · repeat (refine Below.setCell ?_ (by first | (simp; done) | (simp; omega)) _)
      exact unhide B2
  subst g2
  have q1 : (at_ != at_) = false := by simp
  by_cases g3 : l.length = 0
  · rw [answer_3 (unhide G1) g3]
    have hlz : decide ((l.length : Int) = 0) = true := by rw [g3]; rfl
    have hlz' : ((l.length : Int) == 0) = true := by rw [g3]; rfl
    have G3 := hide g3
    clear g3
    go_enter Try.func8, Try.ntmps8
    go_wp2_with fail
    refine (unhide HG _ (bel2 w _ _)).mono ?_
    rintro e w1 ⟨rfl, hb1⟩
    simp only [World.size_alloc] at hb1
    have X1 := hide ((bl_new w at_ fa _).below hb1 (Nat.le_refl _))
    have B1 := hide ((bel2 w _ _).trans (hb1.mono (by omega)))
    have z1 : w.heap.size + 2 ≤ w1.heap.size := (unhide X1).2.2.2.2
    clear hb1
    obtain ⟨⟨x0, x1, x2⟩, ⟨y0, y1, y2⟩, f0, f1, -⟩ := unhide X1
    go_wp2_with fail
    refine (unhide HCP _ (unhide B1)).mono ?_
    rintro e w2 ⟨a2, c2, rfl, ho2, hb2⟩
    have X2 := hide ((unhide X1).below hb2 z1)
    have B2 := hide ((unhide B1).trans (hb2.mono (by omega)))
    have O2 := hide ho2
    have z2 : w1.heap.size ≤ w2.heap.size := hb2.size
    have zx : w.heap.size < w2.heap.size := by omega
    have zy : w.heap.size + 1 < w2.heap.size := by omega
    clear hb2 ho2 x0 x1 x2 y0 y1 y2 f0 f1 X1 B1
    obtain ⟨⟨x0, x1, x2⟩, ⟨y0, y1, y2⟩, f0, f1, -⟩ := unhide X2
    have X3 := hide ((((unhide X2).set0 at_).set1 fa).set2 (.slice a2 l.length c2))
    have O3 := hide ((((unhide O2).set (p := ⟨w.heap.size, 0, none⟩) (show w.heap.size < w1.heap.size by omega) (.int .i64 at_)).set (p := ⟨w.heap.size, 1, none⟩) (show w.heap.size < w1.heap.size by omega) (.int .i64 fa)).set (p := ⟨w.heap.size, 2, none⟩) (show w.heap.size < w1.heap.size by omega) (.slice a2 l.length c2))
    have B3 := hide ((((unhide B2).setCell (p := ⟨w.heap.size, 0, none⟩) (Nat.le_refl _) (.int .i64 at_)).setCell (p := ⟨w.heap.size, 1, none⟩) (Nat.le_refl _) (.int .i64 fa)).setCell (p := ⟨w.heap.size, 2, none⟩) (Nat.le_refl _) (.slice a2 l.length c2))
    have z3 : w1.heap.size ≤ (((w2.setCell ⟨w.heap.size, 0, none⟩ (.int .i64 at_)).setCell ⟨w.heap.size, 1, none⟩ (.int .i64 fa)).setCell ⟨w.heap.size, 2, none⟩ (.slice a2 l.length c2)).heap.size := by simpa [World.setCell] using z2
    have e3 : (((w2.setCell ⟨w.heap.size, 0, none⟩ (.int .i64 at_)).setCell ⟨w.heap.size, 1, none⟩ (.int .i64 fa)).setCell ⟨w.heap.size, 2, none⟩ (.slice a2 l.length c2)).heap.size = w2.heap.size := by simp [World.setCell]
    go_wp2
    refine bodyPost_ret (v := .tuple #[.agg #[.int .i64 at_, .int .i64 fa, .slice a2 l.length c2], .int .i64 0, .int .i64 4]) (by simp [results, Try.results8, go_sem, y0, y1, y2]) rfl ⟨a2, c2, rfl, Own.full (B := w1.heap.size) (cap := c2) ?_ (by omega) ?_⟩
    · repeat (refine Own.set ?_ (by first | (simp; done) | (simp; omega)) _)
      exact unhide O2
    · repeat (refine Below.setCell ?_ (by first | (simp; done) | (simp; omega)) _)
      exact unhide B2
  rw [answer_4 (unhide G1) g3]
  have h0 : 0 < l.length := by omega
  have hlz : decide ((l.length : Int) = 0) = false := decide_eq_false (by omega)
  have hlz' : ((l.length : Int) == 0) = false := by rw [beq_eq_false_iff_ne]; omega
  have hdl : Hid ((l.drop 1).length = l.length - 1) := List.length_drop
  generalize hx : l.getD 0 zero = x
  have HX := hide hx
  clear g3 hx
  go_enter Try.func8, Try.ntmps8
  go_wp2_with fail
  refine (unhide HG _ (bel2 w _ _)).mono ?_
  rintro e w1 ⟨rfl, hb1⟩
  simp only [World.size_alloc] at hb1
  have X1 := hide ((bl_new w at_ fa _).below hb1 (Nat.le_refl _))
  have B1 := hide ((bel2 w _ _).trans (hb1.mono (by omega)))
  have z1 : w.heap.size + 2 ≤ w1.heap.size := (unhide X1).2.2.2.2
  clear hb1
  obtain ⟨⟨x0, x1, x2⟩, ⟨y0, y1, y2⟩, f0, f1, -⟩ := unhide X1
  go_wp2_with fail
  refine (unhide HCP _ (unhide B1)).mono ?_
  rintro e w2 ⟨a2, c2, rfl, ho2, hb2⟩
  have X2 := hide ((unhide X1).below hb2 z1)
  have B2 := hide ((unhide B1).trans (hb2.mono (by omega)))
  have O2 := hide ho2
  have z2 : w1.heap.size ≤ w2.heap.size := hb2.size
  have zx : w.heap.size < w2.heap.size := by omega
  have zy : w.heap.size + 1 < w2.heap.size := by omega
  clear hb2 ho2 x0 x1 x2 y0 y1 y2 f0 f1 X1 B1
  obtain ⟨g, o2, ha, hg2, hcc⟩ := (unhide O2).at (fun e => by rw [e] at h0; simp at h0)
  obtain ⟨g', cap', hv', hg', hcap', hlt'⟩ := own_some (unhide O2) h0
  simp only [Value.slice.injEq] at hv'
  obtain ⟨rfl, -, rfl⟩ := hv'
  obtain ⟨c0, c1⟩ := hcc 0 h0
  simp only [Option.some.injEq, Addr.mk.injEq, and_true] at ha
  obtain ⟨rfl, rfl⟩ := ha
  rw [unhide HX] at c0 c1
  simp only [Nat.zero_mul, Nat.zero_add, Nat.add_zero] at c0 c1
  have n1 : ¬ g' = w.heap.size := by omega
  have n2 : ¬ w.heap.size = g' := by omega
  have n3 : ¬ g' = w.heap.size + 1 := by omega
  have n4 : ¬ w.heap.size + 1 = g' := by omega
  have hsl := fun w => slice_one g' l.length c2 (by omega) w
  have D2 := hide (fun w' (O : Own w' w1.heap.size (some ⟨g', 0, none⟩) l c2) (Bw : Below w.heap.size w w') => full_rest O h0 (w0 := w) (by omega) Bw)
  clear hcc hg' hcap' hg2
  obtain ⟨⟨x0, x1, x2⟩, ⟨y0, y1, y2⟩, f0, f1, -⟩ := unhide X2
  generalize hta : tadr g' c2 = ta at hsl D2
  generalize hn1 : l.length - 1 = n1 at hsl hdl
  generalize c2 - 1 = cc at hsl D2
  clear hta hn1
  have HE : Hid (Ending.returned (.tuple #[.agg #[.int .i64 at_, .int .i64 0, .slice (some ta) n1 cc], .int .i64 x.id, .int .i64 0]) = .returned (.tuple #[.agg #[.int .i64 at_, .int .i64 0, .slice (some ta) (l.drop 1).length cc], .int .i64 x.id, .int .i64 0])) := by
    show _ = _
    rw [unhide hdl]
  go_upto_region 11 with fail
  have X9 := hide ((((((unhide X2).set0 at_).set1 fa).set2 (.slice (some ⟨g', 0, none⟩) l.length c2)).set2 (.slice (some ta) n1 cc)).set1 0)
  have O9 : Hid (Own (((((w2.setCell ⟨w.heap.size, 0, none⟩ (.int .i64 at_)).setCell ⟨w.heap.size, 1, none⟩ (.int .i64 fa)).setCell ⟨w.heap.size, 2, none⟩ (.slice (some ⟨g', 0, none⟩) l.length c2)).setCell ⟨w.heap.size, 2, none⟩ (.slice (some ta) n1 cc)).setCell ⟨w.heap.size, 1, none⟩ (.int .i64 0)) w1.heap.size (some ⟨g', 0, none⟩) l c2) := by
    show Own _ _ _ _ _
    repeat (refine Own.set ?_ (show w.heap.size < w1.heap.size by omega) _)
    exact unhide O2
  have B9 : Hid (Below w.heap.size w (((((w2.setCell ⟨w.heap.size, 0, none⟩ (.int .i64 at_)).setCell ⟨w.heap.size, 1, none⟩ (.int .i64 fa)).setCell ⟨w.heap.size, 2, none⟩ (.slice (some ⟨g', 0, none⟩) l.length c2)).setCell ⟨w.heap.size, 2, none⟩ (.slice (some ta) n1 cc)).setCell ⟨w.heap.size, 1, none⟩ (.int .i64 0))) := by
    show Below _ _ _
    repeat (refine Below.setCell ?_ (by first | (simp; done) | (simp; omega)) _)
    exact unhide B2
  generalize ((((w2.setCell ⟨w.heap.size, 0, none⟩ (.int .i64 at_)).setCell ⟨w.heap.size, 1, none⟩ (.int .i64 fa)).setCell ⟨w.heap.size, 2, none⟩ (.slice (some ⟨g', 0, none⟩) l.length c2)).setCell ⟨w.heap.size, 2, none⟩ (.slice (some ta) n1 cc)).setCell ⟨w.heap.size, 1, none⟩ (.int .i64 0) = w9 at X9 O9 B9 ⊢
  clear x0 x1 x2 y0 y1 y2 f0 f1 c0 c1 hsl
  obtain ⟨⟨x0, x1, x2⟩, ⟨y0, y1, y2⟩, f0, f1, -⟩ := unhide X9
  go_wp2
  refine bodyPost_ret (v := .tuple #[.agg #[.int .i64 at_, .int .i64 0, .slice (some ta) n1 cc], .int .i64 x.id, .int .i64 0]) (by simp [results, Try.results8, go_sem, y0, y1, y2]) rfl ?_
  refine ⟨some ta, cc, unhide HE, ?_⟩
  refine unhide D2 _ ?_ ?_
  · repeat (refine Own.set ?_ (by first | (simp; done) | (simp; omega)) _)
    exact unhide O9
  · repeat (refine Below.setCell ?_ (by first | (simp; done) | (simp; omega)) _)
    exact unhide B9
end Lanes
end Go.Proofs.Ytfbfnoofapgneaa
