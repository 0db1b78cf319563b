/-
  The model's SendOn: the plain outcome, for every lane, wherever its waits lie.
-/
import Derived.Test.YtfbfnoofapgneaaLaneN
namespace Go.Proofs.Ytfbfnoofapgneaa
namespace Lanes
open Go.RowKit Base GoodKey Waits Marks OwnR WaitsW
set_option linter.unusedVariables false

set_option maxRecDepth 10000 in
set_option maxHeartbeats 2000000 in
theorem sendS_any (ep fa : Int) (a : Option Addr) (cap : Nat) (l : List D) (id now : Int) (w : World) (hc : LAt w a l)
    (hl : l.length ≤ 1048576) (hcap : l.length ≤ cap) :
    Calls Try.prog 6 #[.agg #[.int .i64 ep, .int .i64 fa, .slice a l.length cap], .int .i64 id, .int .i64 now] w (SendFull (sendR ep fa l ⟨id, now⟩) w) := by
  have hgood := fun w' (hb' : Below w.heap.size w w') => goodS_any ep fa a cap l w' (hc.below hb' (Nat.le_refl _)) hl hcap
  have hcp := fun hl' w' (hb' : Below w.heap.size w w') => ownS_any ep fa a cap l w' (hc.below hb' (Nat.le_refl _)) hl'
  have hnow := fun w => l2Now_any now w
  have HCP0 := hide hcp
  clear hc hcp
  cases g1 : glB ep fa l
  · rw [send_1 g1]
    rw [g1] at hgood
    have HG := hide hgood
    clear hgood g1 hnow HCP0
    go_enter Try.func6, Try.ntmps6
    go_wp2_with fail
    refine (unhide HG _ (bel2 w _ _)).mono ?_
    rintro e w1 ⟨rfl, hb1⟩
    simp only [World.size_alloc] at hb1
    have X1 := hide ((bl_new w ep fa _).below hb1 (Nat.le_refl _))
    have B1 := hide ((bel2 w _ _).trans (hb1.mono (by omega)))
    have z1 : w.heap.size + 2 ≤ w1.heap.size := (unhide X1).2.2.2.2
    clear hb1
    obtain ⟨⟨x0, x1, x2⟩, ⟨y0, y1, y2⟩, f0, f1, -⟩ := unhide X1
    go_wp2
    refine bodyPost_ret (v := .tuple #[.agg #[.int .i64 0, .int .i64 0, .slice none 0 0], .int .i64 1]) (by simp [results, Try.results6, go_sem, y0, y1, y2]) rfl ⟨none, 0, rfl, full_none ?_⟩
    repeat (refine Below.setCell ?_ (by first | (simp; done) | (simp; omega)) _)
    exact unhide B1
  have hl20 := glB_len g1
  have HCP := hide (unhide HCP0 (by omega))
  have HL := hide (fun k hk => good_last g1 k hk)
  have S2 := hide (@send_2 ep fa l ⟨id, now⟩ g1)
  have S3 := hide (@send_3 ep fa l ⟨id, now⟩ g1)
  have S4 := hide (@send_4 ep fa l ⟨id, now⟩ g1)
  have m1 := hide (@may_1 l ⟨id, now⟩)
  have m2 := hide (@may_2 l ⟨id, now⟩)
  have m3 := hide (@may_3 l ⟨id, now⟩)
  have m4 := hide (fun j hj => @may_4 l ⟨id, now⟩ j hj)
  have m5 := hide (@may_5 l ⟨id, now⟩)
  dsimp only at m1 m2 m3 m4 m5
  generalize sendR ep fa l ⟨id, now⟩ = T at S2 S3 S4 ⊢
  generalize mayB l ⟨id, now⟩ = r at S2 S3 S4 m1 m2 m3 m4 m5
  rw [g1] at hgood
  have HG := hide hgood
  clear hgood g1 HCP0
  by_cases h1 : id < 0
  · obtain rfl := unhide S2 (unhide m1 h1)
    have h1' : decide (id < 0) = true := decide_eq_true h1
    clear m1 m2 m3 m4 m5 S2 S3 S4 hnow HL
    go_enter Try.func6, Try.ntmps6
    go_wp2_with fail
    refine (unhide HG _ (bel2 w _ _)).mono ?_
    rintro e w1 ⟨rfl, hb1⟩
    simp only [World.size_alloc] at hb1
    have X1 := hide ((bl_new w ep fa _).below hb1 (Nat.le_refl _))
    have B1 := hide ((bel2 w _ _).trans (hb1.mono (by omega)))
    have z1 : w.heap.size + 2 ≤ w1.heap.size := (unhide X1).2.2.2.2
    clear hb1
    obtain ⟨⟨x0, x1, x2⟩, ⟨y0, y1, y2⟩, f0, f1, -⟩ := unhide X1
    go_wp2_with fail
    refine (unhide HCP _ (unhide B1)).mono ?_
    rintro e w2 ⟨a2, c2, rfl, ho2, hb2⟩
    have X2 := hide ((unhide X1).below hb2 z1)
    have B2 := hide ((unhide B1).trans (hb2.mono (by omega)))
    have O2 := hide ho2
    have z2 : w1.heap.size ≤ w2.heap.size := hb2.size
    have zx : w.heap.size < w2.heap.size := by omega
    have zy : w.heap.size + 1 < w2.heap.size := by omega
    clear hb2 ho2 x0 x1 x2 y0 y1 y2 f0 f1 X1 B1
    obtain ⟨⟨x0, x1, x2⟩, ⟨y0, y1, y2⟩, f0, f1, -⟩ := unhide X2
    have X3 := hide ((((unhide X2).set0 ep).set1 fa).set2 (.slice a2 l.length c2))
    have O3 := hide ((((unhide O2).set (p := ⟨w.heap.size, 0, none⟩) (show w.heap.size < w1.heap.size by omega) (.int .i64 ep)).set (p := ⟨w.heap.size, 1, none⟩) (show w.heap.size < w1.heap.size by omega) (.int .i64 fa)).set (p := ⟨w.heap.size, 2, none⟩) (show w.heap.size < w1.heap.size by omega) (.slice a2 l.length c2))
    have B3 := hide ((((unhide B2).setCell (p := ⟨w.heap.size, 0, none⟩) (Nat.le_refl _) (.int .i64 ep)).setCell (p := ⟨w.heap.size, 1, none⟩) (Nat.le_refl _) (.int .i64 fa)).setCell (p := ⟨w.heap.size, 2, none⟩) (Nat.le_refl _) (.slice a2 l.length c2))
    have z3 : w1.heap.size ≤ (((w2.setCell ⟨w.heap.size, 0, none⟩ (.int .i64 ep)).setCell ⟨w.heap.size, 1, none⟩ (.int .i64 fa)).setCell ⟨w.heap.size, 2, none⟩ (.slice a2 l.length c2)).heap.size := by simpa [World.setCell] using z2
    have e3 : (((w2.setCell ⟨w.heap.size, 0, none⟩ (.int .i64 ep)).setCell ⟨w.heap.size, 1, none⟩ (.int .i64 fa)).setCell ⟨w.heap.size, 2, none⟩ (.slice a2 l.length c2)).heap.size = w2.heap.size := by simp [World.setCell]
    go_wp2
    refine bodyPost_ret (v := .tuple #[.agg #[.int .i64 ep, .int .i64 fa, .slice a2 l.length c2], .int .i64 1]) (by simp [results, Try.results6, go_sem, y0, y1, y2]) rfl ⟨a2, c2, rfl, Own.full (B := w1.heap.size) (cap := c2) ?_ (by omega) ?_⟩
    · repeat (refine Own.set ?_ (by first | (simp; done) | (simp; omega)) _)
      exact unhide O2
    · repeat (refine Below.setCell ?_ (by first | (simp; done) | (simp; omega)) _)
      exact unhide B2
  have h1' : decide (id < 0) = false := decide_eq_false h1
  cases h2 : inB now 0 1000000000
  · obtain rfl := unhide S2 (unhide m2 h2)
    rw [h2] at hnow
    have HN := hide hnow
    clear m1 m2 m3 m4 m5 S2 S3 S4 hnow HL h2
    go_enter Try.func6, Try.ntmps6
    go_wp2_with fail
    refine (unhide HG _ (bel2 w _ _)).mono ?_
    rintro e w1 ⟨rfl, hb1⟩
    simp only [World.size_alloc] at hb1
    have X1 := hide ((bl_new w ep fa _).below hb1 (Nat.le_refl _))
    have B1 := hide ((bel2 w _ _).trans (hb1.mono (by omega)))
    have z1 : w.heap.size + 2 ≤ w1.heap.size := (unhide X1).2.2.2.2
    clear hb1
    obtain ⟨⟨x0, x1, x2⟩, ⟨y0, y1, y2⟩, f0, f1, -⟩ := unhide X1
    go_wp2_with fail
    refine (unhide HCP _ (unhide B1)).mono ?_
    rintro e w2 ⟨a2, c2, rfl, ho2, hb2⟩
    have X2 := hide ((unhide X1).below hb2 z1)
    have B2 := hide ((unhide B1).trans (hb2.mono (by omega)))
    have O2 := hide ho2
    have z2 : w1.heap.size ≤ w2.heap.size := hb2.size
    have zx : w.heap.size < w2.heap.size := by omega
    have zy : w.heap.size + 1 < w2.heap.size := by omega
    clear hb2 ho2 x0 x1 x2 y0 y1 y2 f0 f1 X1 B1
    obtain ⟨⟨x0, x1, x2⟩, ⟨y0, y1, y2⟩, f0, f1, -⟩ := unhide X2
    have X3 := hide ((((unhide X2).set0 ep).set1 fa).set2 (.slice a2 l.length c2))
    have O3 := hide ((((unhide O2).set (p := ⟨w.heap.size, 0, none⟩) (show w.heap.size < w1.heap.size by omega) (.int .i64 ep)).set (p := ⟨w.heap.size, 1, none⟩) (show w.heap.size < w1.heap.size by omega) (.int .i64 fa)).set (p := ⟨w.heap.size, 2, none⟩) (show w.heap.size < w1.heap.size by omega) (.slice a2 l.length c2))
    have B3 := hide ((((unhide B2).setCell (p := ⟨w.heap.size, 0, none⟩) (Nat.le_refl _) (.int .i64 ep)).setCell (p := ⟨w.heap.size, 1, none⟩) (Nat.le_refl _) (.int .i64 fa)).setCell (p := ⟨w.heap.size, 2, none⟩) (Nat.le_refl _) (.slice a2 l.length c2))
    have z3 : w1.heap.size ≤ (((w2.setCell ⟨w.heap.size, 0, none⟩ (.int .i64 ep)).setCell ⟨w.heap.size, 1, none⟩ (.int .i64 fa)).setCell ⟨w.heap.size, 2, none⟩ (.slice a2 l.length c2)).heap.size := by simpa [World.setCell] using z2
    have e3 : (((w2.setCell ⟨w.heap.size, 0, none⟩ (.int .i64 ep)).setCell ⟨w.heap.size, 1, none⟩ (.int .i64 fa)).setCell ⟨w.heap.size, 2, none⟩ (.slice a2 l.length c2)).heap.size = w2.heap.size := by simp [World.setCell]
    go_wp2_with fail
    refine (unhide HN _).mono ?_
    rintro e wn ⟨rfl, rfl⟩
    go_wp2
    refine bodyPost_ret (v := .tuple #[.agg #[.int .i64 ep, .int .i64 fa, .slice a2 l.length c2], .int .i64 1]) (by simp [results, Try.results6, go_sem, y0, y1, y2]) rfl ⟨a2, c2, rfl, Own.full (B := w1.heap.size) (cap := c2) ?_ (by omega) ?_⟩
    · repeat (refine Own.set ?_ (by first | (simp; done) | (simp; omega)) _)
      exact unhide O2
    · repeat (refine Below.setCell ?_ (by first | (simp; done) | (simp; omega)) _)
      exact unhide B2
  rw [h2] at hnow
  have HN := hide hnow
  have M5 := hide (unhide m5 h1 h2)
  have hf0 := hide (fresh_0 id l)
  have hf1 := hide (fun j hj => @fresh_step id l j hj)
  have M3 : Hid (∀ k, k < l.length → now < (l.getD k zero).since → r = false) := fun k hk h => unhide m3 (by omega) (by have := unhide HL k hk; omega)
  obtain ⟨i0, hi, hz0, hz1, hz2⟩ := info_ex
  have HI := hide hi
  have HZ0 := hide hz0
  have HZ1 := hide hz1
  have HZ2 := hide hz2
  clear hi hz0 hz1 hz2 m1 m2 m3 m5 hnow HL h2
  go_enter Try.func6, Try.ntmps6
  go_wp2_with fail
  refine (unhide HG _ (bel2 w _ _)).mono ?_
  rintro e w1 ⟨rfl, hb1⟩
  simp only [World.size_alloc] at hb1
  have X1 := hide ((bl_new w ep fa _).below hb1 (Nat.le_refl _))
  have B1 := hide ((bel2 w _ _).trans (hb1.mono (by omega)))
  have z1 : w.heap.size + 2 ≤ w1.heap.size := (unhide X1).2.2.2.2
  clear hb1
  obtain ⟨⟨x0, x1, x2⟩, ⟨y0, y1, y2⟩, f0, f1, -⟩ := unhide X1
  go_wp2_with fail
  refine (unhide HCP _ (unhide B1)).mono ?_
  rintro e w2 ⟨a2, c2, rfl, ho2, hb2⟩
  have X2 := hide ((unhide X1).below hb2 z1)
  have B2 := hide ((unhide B1).trans (hb2.mono (by omega)))
  have O2 := hide ho2
  have z2 : w1.heap.size ≤ w2.heap.size := hb2.size
  have zx : w.heap.size < w2.heap.size := by omega
  have zy : w.heap.size + 1 < w2.heap.size := by omega
  clear hb2 ho2 x0 x1 x2 y0 y1 y2 f0 f1 X1 B1
  obtain ⟨⟨x0, x1, x2⟩, ⟨y0, y1, y2⟩, f0, f1, -⟩ := unhide X2
  have X3 := hide ((((unhide X2).set0 ep).set1 fa).set2 (.slice a2 l.length c2))
  have O3 := hide ((((unhide O2).set (p := ⟨w.heap.size, 0, none⟩) (show w.heap.size < w1.heap.size by omega) (.int .i64 ep)).set (p := ⟨w.heap.size, 1, none⟩) (show w.heap.size < w1.heap.size by omega) (.int .i64 fa)).set (p := ⟨w.heap.size, 2, none⟩) (show w.heap.size < w1.heap.size by omega) (.slice a2 l.length c2))
  have B3 := hide ((((unhide B2).setCell (p := ⟨w.heap.size, 0, none⟩) (Nat.le_refl _) (.int .i64 ep)).setCell (p := ⟨w.heap.size, 1, none⟩) (Nat.le_refl _) (.int .i64 fa)).setCell (p := ⟨w.heap.size, 2, none⟩) (Nat.le_refl _) (.slice a2 l.length c2))
  have z3 : w1.heap.size ≤ (((w2.setCell ⟨w.heap.size, 0, none⟩ (.int .i64 ep)).setCell ⟨w.heap.size, 1, none⟩ (.int .i64 fa)).setCell ⟨w.heap.size, 2, none⟩ (.slice a2 l.length c2)).heap.size := by simpa [World.setCell] using z2
  have e3 : (((w2.setCell ⟨w.heap.size, 0, none⟩ (.int .i64 ep)).setCell ⟨w.heap.size, 1, none⟩ (.int .i64 fa)).setCell ⟨w.heap.size, 2, none⟩ (.slice a2 l.length c2)).heap.size = w2.heap.size := by simp [World.setCell]
  go_wp2_with fail
  refine (unhide HN _).mono ?_
  rintro e wn ⟨rfl, rfl⟩
  go_wp2_with fail
  generalize ((w2.setCell ⟨w.heap.size, 0, none⟩ (.int .i64 ep)).setCell ⟨w.heap.size, 1, none⟩ (.int .i64 fa)).setCell ⟨w.heap.size, 2, none⟩ (.slice a2 l.length c2) = w3 at X3 O3 B3 z3 e3 ⊢
  try rw [← e3]
  clear x0 x1 x2 y0 y1 y2 f0 f1 X2 O2 B2 z2 zx zy e3
  go_loopw [27] (fun i wr => ∃ (k : Nat), k ≤ l.length ∧ i = .int .i64 k ∧ Hid (freshB id (l.take k) = true) ∧ Hid (∀ j, j < k → (l.getD j zero).since ≤ now) ∧ Hid (Below w3.heap.size w3 wr)) (fun i _ => l.length - (intOf i).toNat)
  case atStart => exact ⟨0, Nat.zero_le _, rfl, hf0, hide (fun j hj => absurd hj (by omega)), hide (Below.refl _ _)⟩
  case round =>
    obtain ⟨k, hk, rfl, hfr, hle, hbr⟩ := hrel
    have XR := hide ((unhide X3).below (unhide hbr) (by omega))
    have OR := hide ((unhide O3).below (unhide hbr) (Nat.le_refl _))
    have BR := hide ((unhide B3).trans ((unhide hbr).mono (by omega)))
    have zr : w1.heap.size ≤ wr.heap.size := by have := (unhide hbr).size; omega
    have zx : w.heap.size < wr.heap.size := by omega
    have zy : w.heap.size + 1 < wr.heap.size := by omega
    obtain ⟨⟨x0, x1, x2⟩, ⟨y0, y1, y2⟩, f0, f1, -⟩ := unhide XR
    by_cases hlt : k < l.length
    · obtain ⟨g, o, ha, hg, hcc⟩ := (unhide OR).at (fun e => by rw [e] at hlt; simp at hlt)
      obtain ⟨c0, c1⟩ := hcc k hlt
      have H4 := hide (unhide m4 k hlt)
      have H3 := hide (unhide M3 k hlt)
      have H1 := hide (unhide hf1 k hlt (unhide hfr))
      have HLE : Hid ((l.getD k zero).since ≤ now → ∀ j, j < k + 1 → (l.getD j zero).since ≤ now) := fun h j hj => by
        by_cases e : j = k
        · rw [e]; exact h
        · exact unhide hle j (by omega)
      subst ha
      clear hcc
      generalize l.getD k zero = x at c0 c1 H4 H3 H1 HLE
      cases e1 : (x.id == id)
      · by_cases e2 : now < x.since
        · obtain rfl := unhide S2 (unhide H3 e2)
          have e2' : decide (now < x.since) = true := decide_eq_true e2
          clear H4 H3 H1 HLE M3 M5 S2 S3 S4 m4 hf1
          go_wp2
          refine bodyPost_ret (v := .tuple #[.agg #[.int .i64 ep, .int .i64 fa, .slice (some ⟨g, o, none⟩) l.length c2], .int .i64 1]) (by simp [results, Try.results6, go_sem, y0, y1, y2, zy]) rfl ⟨some ⟨g, o, none⟩, c2, rfl, Own.full (B := w1.heap.size) (cap := c2) ?_ (by omega) ?_⟩
          · refine Own.below ?_ (bel1 _ _) (Nat.le_refl _)
            repeat (refine Own.set ?_ (by first | (simp; done) | (simp; omega)) _)
            exact unhide OR
          · refine Below.alloc ?_ (by simp [World.setCell]; omega) _
            repeat (refine Below.setCell ?_ (by first | (simp; done) | (simp; omega)) _)
            exact unhide BR
        · have e2' : decide (now < x.since) = false := decide_eq_false e2
          have HF := hide (unhide H1 e1)
          have HE := hide (unhide HLE (by omega))
          clear H4 H3 H1 HLE
          go_wp2
          go_roundw
          case rel => exact ⟨k + 1, by omega, by go_num, HF, HE, hide ((unhide hbr).alloc (unhide hbr).size _)⟩
          case measure => simp [intOf]; omega
      · obtain rfl := unhide S2 (unhide H4 e1)
        clear H4 H3 H1 HLE M3 M5 S2 S3 S4 m4 hf1
        go_wp2
        refine bodyPost_ret (v := .tuple #[.agg #[.int .i64 ep, .int .i64 fa, .slice (some ⟨g, o, none⟩) l.length c2], .int .i64 1]) (by simp [results, Try.results6, go_sem, y0, y1, y2, zy]) rfl ⟨some ⟨g, o, none⟩, c2, rfl, Own.full (B := w1.heap.size) (cap := c2) ?_ (by omega) ?_⟩
        · refine Own.below ?_ (bel1 _ _) (Nat.le_refl _)
          repeat (refine Own.set ?_ (by first | (simp; done) | (simp; omega)) _)
          exact unhide OR
        · refine Below.alloc ?_ (by simp [World.setCell]; omega) _
          repeat (refine Below.setCell ?_ (by first | (simp; done) | (simp; omega)) _)
          exact unhide BR
    · obtain rfl : k = l.length := by omega
      have hr := unhide M5 (fun h => by have := unhide hle (l.length - 1) (by omega); omega) (unhide hfr)
      by_cases g3 : l.length = 20
      · obtain rfl := unhide S3 hr g3
        have hlz : decide ((l.length : Int) = 20) = true := by rw [g3]; rfl
        have hlz' : ((l.length : Int) == 20) = true := by rw [g3]; rfl
        have G3 := hide g3
        clear g3 hr M3 M5 S2 S3 S4 m4 hf1
        go_wp2
        refine bodyPost_ret (v := .tuple #[.agg #[.int .i64 ep, .int .i64 fa, .slice a2 l.length c2], .int .i64 2]) (by simp [results, Try.results6, go_sem, y0, y1, y2]) rfl ⟨a2, c2, rfl, Own.full (B := w1.heap.size) (cap := c2) ?_ (by omega) ?_⟩
        · repeat (refine Own.set ?_ (by first | (simp; done) | (simp; omega)) _)
          exact unhide OR
        · repeat (refine Below.setCell ?_ (by first | (simp; done) | (simp; omega)) _)
          exact unhide BR
      · obtain rfl := unhide S4 hr g3
        have hlz : decide ((l.length : Int) = 20) = false := by simp; omega
        have hlz' : ((l.length : Int) == 20) = false := by simp; omega
        clear g3 hr M3 M5 S2 S3 S4 m4 hf1
        go_wp2_with (at_builtin; go_loud (refine wpList_append_own _ rfl _ _ 23 rfl w1.heap.size 36 i0 _ 2 16 Try.underlying23 (unhide HI) (unhide HZ0) (unhide HZ1) (unhide HZ2) rfl (by decide) _ _ _ rfl ((unhide OR).alloc _) ⟨wr.heap.size, 0, none⟩ 1 1 (cellsOf ⟨id, now⟩) rfl rfl ?c1 ?c2 ?c3 ?c4 ?c5 ?_))
        case c1 => exact news_cells wr ⟨id, now⟩ _
        case c2 => exact news_one ⟨id, now⟩
        case c3 => unfold maxLen; omega
        case c4 => omega
        case c5 => simp; omega
        intro v' w6 hown' hgrow _
        have O6 := hide (own_snoc (kept' := l ++ [⟨id, now⟩]) hown' rfl)
        obtain ⟨a6, c6, hv6⟩ := own_form (unhide O6)
        subst hv6
        have X6 := hide (((unhide XR).below (bel1 wr _) (by omega)).gb hgrow (fun g e => by have := own_block (unhide OR) g e; omega))
        have B6 := hide (((unhide BR).alloc (by omega) _).grown hgrow (by simp; omega) (fun g e => by have := own_block (unhide OR) g e; omega))
        clear hown' hgrow x0 x1 x2 y0 y1 y2 f0 f1
        obtain ⟨⟨x0, x1, x2⟩, ⟨y0, y1, y2⟩, f0, f1, z6⟩ := unhide X6
        go_wp2
        refine bodyPost_ret (v := .tuple #[.agg #[.int .i64 ep, .int .i64 fa, .slice a6 (l ++ [(⟨id, now⟩ : D)]).length c6], .int .i64 0]) (by simp [results, Try.results6, go_sem, y0, y1, y2]) rfl ⟨a6, c6, rfl, Own.full (B := w1.heap.size) (cap := c6) ?_ (by omega) ?_⟩
        · repeat (refine Own.set ?_ (by first | (simp; done) | (simp; omega)) _)
          exact unhide O6
        · repeat (refine Below.setCell ?_ (by first | (simp; done) | (simp; omega)) _)
          exact unhide B6
end Lanes
end Go.Proofs.Ytfbfnoofapgneaa
