/-
  The program's SendOn: the plain outcome, for every lane, wherever its waits lie.
-/
import Derived.Test.YtfbfnoofapgneaaLaneN
namespace Go.Proofs.Ytfbfnoofapgneaa
namespace Lanes
open Go.RowKit Base GoodKey Waits Marks OwnR WaitsW
set_option linter.unusedVariables false

set_option maxRecDepth 10000 in
set_option maxHeartbeats 2000000 in
theorem sendI_any (ep fa : Int) (a : Option Addr) (cap : Nat) (l : List D) (id now : Int) (w : World) (hc : LAt w a l)
    (hl : l.length ≤ 1048576) (hcap : l.length ≤ cap) :
    Calls Try.prog 5 #[.agg #[.int .i64 ep, .int .i64 fa, .slice a l.length cap], .int .i64 id, .int .i64 now] w (SendFull (sendR ep fa l ⟨id, now⟩) w) := by
  have hgood := fun w' (hb' : Below w.heap.size w w') => goodI_any ep fa a cap l w' (hc.below hb' (Nat.le_refl _)) hl hcap
  have hcp := fun hl' w' (hb' : Below w.heap.size w w') => copyI_any ep fa a cap l w' (hc.below hb' (Nat.le_refl _)) hl'
  have hmw := fun w' a c (h : LAt w' a l) => mayWait_any a c l ⟨id, now⟩ w' h hl
  dsimp only at hmw
  have HCP0 := hide hcp
  clear hc hcp
  cases g1 : glB ep fa l
  · rw [send_1 g1]
    rw [g1] at hgood
    have HG := hide hgood
    clear hgood g1 hmw HCP0
    go_enter Try.func5, Try.ntmps5
    go_wp2_with fail
    refine (unhide HG _ (bel2 w _ _)).mono ?_
    rintro e w1 ⟨rfl, hb1⟩
    simp only [World.size_alloc] at hb1
    have X1 := hide ((bl_new w ep fa _).below hb1 (Nat.le_refl _))
    have B1 := hide ((bel2 w _ _).trans (hb1.mono (by omega)))
    have z1 : w.heap.size + 2 ≤ w1.heap.size := (unhide X1).2.2.2.2
    clear hb1
    obtain ⟨⟨x0, x1, x2⟩, ⟨y0, y1, y2⟩, f0, f1, -⟩ := unhide X1
    go_wp2
    refine bodyPost_ret (v := .tuple #[.agg #[.int .i64 0, .int .i64 0, .slice none 0 0], .int .i64 1]) (by simp [results, Try.results5, go_sem, y0, y1, y2]) rfl ⟨none, 0, rfl, full_none ?_⟩
    repeat (refine Below.setCell ?_ (by first | (simp; done) | (simp; omega)) _)
    exact unhide B1
  have hl20 := glB_len g1
  have HCP := hide (unhide HCP0 (by omega))
  have G1 := hide g1
  rw [g1] at hgood
  have HG := hide hgood
  clear hgood g1 HCP0
  cases g2 : mayB l ⟨id, now⟩
  · rw [send_2 (unhide G1) g2]
    rw [g2] at hmw
    have HMW := hide hmw
    clear hmw g2
    go_enter Try.func5, Try.ntmps5
    go_wp2_with fail
    refine (unhide HG _ (bel2 w _ _)).mono ?_
    rintro e w1 ⟨rfl, hb1⟩
    simp only [World.size_alloc] at hb1
    have X1 := hide ((bl_new w ep fa _).below hb1 (Nat.le_refl _))
    have B1 := hide ((bel2 w _ _).trans (hb1.mono (by omega)))
    have z1 : w.heap.size + 2 ≤ w1.heap.size := (unhide X1).2.2.2.2
    clear hb1
    obtain ⟨⟨x0, x1, x2⟩, ⟨y0, y1, y2⟩, f0, f1, -⟩ := unhide X1
    go_wp2_with fail
    refine (unhide HCP _ (unhide B1)).mono ?_
    rintro e w2 ⟨a2, c2, rfl, ho2, hb2⟩
    have X2 := hide ((unhide X1).below hb2 z1)
    have B2 := hide ((unhide B1).trans (hb2.mono (by omega)))
    have O2 := hide ho2
    have z2 : w1.heap.size ≤ w2.heap.size := hb2.size
    have zx : w.heap.size < w2.heap.size := by omega
    have zy : w.heap.size + 1 < w2.heap.size := by omega
    clear hb2 ho2 x0 x1 x2 y0 y1 y2 f0 f1 X1 B1
    obtain ⟨⟨x0, x1, x2⟩, ⟨y0, y1, y2⟩, f0, f1, -⟩ := unhide X2
    have X3 := hide ((((unhide X2).set0 ep).set1 fa).set2 (.slice a2 l.length c2))
    have O3 := hide ((((unhide O2).set (p := ⟨w.heap.size, 0, none⟩) (show w.heap.size < w1.heap.size by omega) (.int .i64 ep)).set (p := ⟨w.heap.size, 1, none⟩) (show w.heap.size < w1.heap.size by omega) (.int .i64 fa)).set (p := ⟨w.heap.size, 2, none⟩) (show w.heap.size < w1.heap.size by omega) (.slice a2 l.length c2))
    have B3 := hide ((((unhide B2).setCell (p := ⟨w.heap.size, 0, none⟩) (Nat.le_refl _) (.int .i64 ep)).setCell (p := ⟨w.heap.size, 1, none⟩) (Nat.le_refl _) (.int .i64 fa)).setCell (p := ⟨w.heap.size, 2, none⟩) (Nat.le_refl _) (.slice a2 l.length c2))
    have z3 : w1.heap.size ≤ (((w2.setCell ⟨w.heap.size, 0, none⟩ (.int .i64 ep)).setCell ⟨w.heap.size, 1, none⟩ (.int .i64 fa)).setCell ⟨w.heap.size, 2, none⟩ (.slice a2 l.length c2)).heap.size := by simpa [World.setCell] using z2
    have e3 : (((w2.setCell ⟨w.heap.size, 0, none⟩ (.int .i64 ep)).setCell ⟨w.heap.size, 1, none⟩ (.int .i64 fa)).setCell ⟨w.heap.size, 2, none⟩ (.slice a2 l.length c2)).heap.size = w2.heap.size := by simp [World.setCell]
    go_wp2_with fail
    generalize ((w2.setCell ⟨w.heap.size, 0, none⟩ (.int .i64 ep)).setCell ⟨w.heap.size, 1, none⟩ (.int .i64 fa)).setCell ⟨w.heap.size, 2, none⟩ (.slice a2 l.length c2) = w3 at X3 O3 B3 z3 e3 ⊢
    try rw [← e3]
    clear x0 x1 x2 y0 y1 y2 f0 f1 X2 O2 B2 z2 zx zy e3
    have X4 := hide ((unhide X3).below (bel1 w3 (.cells #[.int .i64 id, .int .i64 now] 36)) (by omega))
    have O4 := hide ((unhide O3).below (bel1 w3 (.cells #[.int .i64 id, .int .i64 now] 36)) (Nat.le_refl _))
    have B4 := hide ((unhide B3).alloc (show w.heap.size ≤ w3.heap.size by omega) (.cells #[.int .i64 id, .int .i64 now] 36))
    clear X3 O3 B3
    refine (unhide HMW _ _ _ (unhide O4).at).mono ?_
    rintro e w5 ⟨rfl, hb5⟩
    have X5 := hide ((unhide X4).below hb5 (by simp; omega))
    have O5 := hide ((unhide O4).below hb5 (Nat.le_refl _))
    have B5 := hide ((unhide B4).trans (hb5.mono (by simp; omega)))
    have hx5 := fun o => hb5.cell (p := ⟨w3.heap.size, o, none⟩) (by simp)
    have z5 : w3.heap.size + 1 ≤ w5.heap.size := by have := hb5.size; simp at this; omega
    clear hb5 X4 O4 B4
    obtain ⟨⟨x0, x1, x2⟩, ⟨y0, y1, y2⟩, f0, f1, -⟩ := unhide X5
    go_wp2
    refine bodyPost_ret (v := .tuple #[.agg #[.int .i64 ep, .int .i64 fa, .slice a2 l.length c2], .int .i64 1]) (by simp [results, Try.results5, go_sem, y0, y1, y2]) rfl ⟨a2, c2, rfl, Own.full (B := w1.heap.size) (cap := c2) ?_ (by omega) ?_⟩
    · repeat (refine Own.set ?_ (by first | (simp; done) | (simp; omega)) _)
      exact unhide O5
    · repeat (refine Below.setCell ?_ (by first | (simp; done) | (simp; omega)) _)
      exact unhide B5
  have G2 := hide g2
  rw [g2] at hmw
  have HMW := hide hmw
  clear hmw g2
  by_cases g3 : l.length = 20
  · rw [send_3 (unhide G1) (unhide G2) g3]
    have hlz : decide ((l.length : Int) = 20) = true := by rw [g3]; rfl
    have hlz' : ((l.length : Int) == 20) = true := by rw [g3]; rfl
    have G3 := hide g3
    clear g3
    go_enter Try.func5, Try.ntmps5
    go_wp2_with fail
    refine (unhide HG _ (bel2 w _ _)).mono ?_
    rintro e w1 ⟨rfl, hb1⟩
    simp only [World.size_alloc] at hb1
    have X1 := hide ((bl_new w ep fa _).below hb1 (Nat.le_refl _))
    have B1 := hide ((bel2 w _ _).trans (hb1.mono (by omega)))
    have z1 : w.heap.size + 2 ≤ w1.heap.size := (unhide X1).2.2.2.2
    clear hb1
    obtain ⟨⟨x0, x1, x2⟩, ⟨y0, y1, y2⟩, f0, f1, -⟩ := unhide X1
    go_wp2_with fail
    refine (unhide HCP _ (unhide B1)).mono ?_
    rintro e w2 ⟨a2, c2, rfl, ho2, hb2⟩
    have X2 := hide ((unhide X1).below hb2 z1)
    have B2 := hide ((unhide B1).trans (hb2.mono (by omega)))
    have O2 := hide ho2
    have z2 : w1.heap.size ≤ w2.heap.size := hb2.size
    have zx : w.heap.size < w2.heap.size := by omega
    have zy : w.heap.size + 1 < w2.heap.size := by omega
    clear hb2 ho2 x0 x1 x2 y0 y1 y2 f0 f1 X1 B1
    obtain ⟨⟨x0, x1, x2⟩, ⟨y0, y1, y2⟩, f0, f1, -⟩ := unhide X2
    have X3 := hide ((((unhide X2).set0 ep).set1 fa).set2 (.slice a2 l.length c2))
    have O3 := hide ((((unhide O2).set (p := ⟨w.heap.size, 0, none⟩) (show w.heap.size < w1.heap.size by omega) (.int .i64 ep)).set (p := ⟨w.heap.size, 1, none⟩) (show w.heap.size < w1.heap.size by omega) (.int .i64 fa)).set (p := ⟨w.heap.size, 2, none⟩) (show w.heap.size < w1.heap.size by omega) (.slice a2 l.length c2))
    have B3 := hide ((((unhide B2).setCell (p := ⟨w.heap.size, 0, none⟩) (Nat.le_refl _) (.int .i64 ep)).setCell (p := ⟨w.heap.size, 1, none⟩) (Nat.le_refl _) (.int .i64 fa)).setCell (p := ⟨w.heap.size, 2, none⟩) (Nat.le_refl _) (.slice a2 l.length c2))
    have z3 : w1.heap.size ≤ (((w2.setCell ⟨w.heap.size, 0, none⟩ (.int .i64 ep)).setCell ⟨w.heap.size, 1, none⟩ (.int .i64 fa)).setCell ⟨w.heap.size, 2, none⟩ (.slice a2 l.length c2)).heap.size := by simpa [World.setCell] using z2
    have e3 : (((w2.setCell ⟨w.heap.size, 0, none⟩ (.int .i64 ep)).setCell ⟨w.heap.size, 1, none⟩ (.int .i64 fa)).setCell ⟨w.heap.size, 2, none⟩ (.slice a2 l.length c2)).heap.size = w2.heap.size := by simp [World.setCell]
    go_wp2_with fail
    generalize ((w2.setCell ⟨w.heap.size, 0, none⟩ (.int .i64 ep)).setCell ⟨w.heap.size, 1, none⟩ (.int .i64 fa)).setCell ⟨w.heap.size, 2, none⟩ (.slice a2 l.length c2) = w3 at X3 O3 B3 z3 e3 ⊢
    try rw [← e3]
    clear x0 x1 x2 y0 y1 y2 f0 f1 X2 O2 B2 z2 zx zy e3
    have X4 := hide ((unhide X3).below (bel1 w3 (.cells #[.int .i64 id, .int .i64 now] 36)) (by omega))
    have O4 := hide ((unhide O3).below (bel1 w3 (.cells #[.int .i64 id, .int .i64 now] 36)) (Nat.le_refl _))
    have B4 := hide ((unhide B3).alloc (show w.heap.size ≤ w3.heap.size by omega) (.cells #[.int .i64 id, .int .i64 now] 36))
    clear X3 O3 B3
    refine (unhide HMW _ _ _ (unhide O4).at).mono ?_
    rintro e w5 ⟨rfl, hb5⟩
    have X5 := hide ((unhide X4).below hb5 (by simp; omega))
    have O5 := hide ((unhide O4).below hb5 (Nat.le_refl _))
    have B5 := hide ((unhide B4).trans (hb5.mono (by simp; omega)))
    have hx5 := fun o => hb5.cell (p := ⟨w3.heap.size, o, none⟩) (by simp)
    have z5 : w3.heap.size + 1 ≤ w5.heap.size := by have := hb5.size; simp at this; omega
    clear hb5 X4 O4 B4
    obtain ⟨⟨x0, x1, x2⟩, ⟨y0, y1, y2⟩, f0, f1, -⟩ := unhide X5
    go_wp2
    refine bodyPost_ret (v := .tuple #[.agg #[.int .i64 ep, .int .i64 fa, .slice a2 l.length c2], .int .i64 2]) (by simp [results, Try.results5, go_sem, y0, y1, y2]) rfl ⟨a2, c2, rfl, Own.full (B := w1.heap.size) (cap := c2) ?_ (by omega) ?_⟩
    · repeat (refine Own.set ?_ (by first | (simp; done) | (simp; omega)) _)
      exact unhide O5
    · repeat (refine Below.setCell ?_ (by first | (simp; done) | (simp; omega)) _)
      exact unhide B5
  rw [send_4 (unhide G1) (unhide G2) g3]
  have hlz : decide ((l.length : Int) = 20) = false := by simp; omega
  have hlz' : ((l.length : Int) == 20) = false := by simp; omega
  obtain ⟨i0, hi, hz0, hz1, hz2⟩ := info_ex
  have HI := hide hi
  have HZ0 := hide hz0
  have HZ1 := hide hz1
  have HZ2 := hide hz2
  clear g3 hi hz0 hz1 hz2
  go_enter Try.func5, Try.ntmps5
  go_wp2_with fail
  refine (unhide HG _ (bel2 w _ _)).mono ?_
  rintro e w1 ⟨rfl, hb1⟩
  simp only [World.size_alloc] at hb1
  have X1 := hide ((bl_new w ep fa _).below hb1 (Nat.le_refl _))
  have B1 := hide ((bel2 w _ _).trans (hb1.mono (by omega)))
  have z1 : w.heap.size + 2 ≤ w1.heap.size := (unhide X1).2.2.2.2
  clear hb1
  obtain ⟨⟨x0, x1, x2⟩, ⟨y0, y1, y2⟩, f0, f1, -⟩ := unhide X1
  go_wp2_with fail
  refine (unhide HCP _ (unhide B1)).mono ?_
  rintro e w2 ⟨a2, c2, rfl, ho2, hb2⟩
  have X2 := hide ((unhide X1).below hb2 z1)
  have B2 := hide ((unhide B1).trans (hb2.mono (by omega)))
  have O2 := hide ho2
  have z2 : w1.heap.size ≤ w2.heap.size := hb2.size
  have zx : w.heap.size < w2.heap.size := by omega
  have zy : w.heap.size + 1 < w2.heap.size := by omega
  clear hb2 ho2 x0 x1 x2 y0 y1 y2 f0 f1 X1 B1
  obtain ⟨⟨x0, x1, x2⟩, ⟨y0, y1, y2⟩, f0, f1, -⟩ := unhide X2
  have X3 := hide ((((unhide X2).set0 ep).set1 fa).set2 (.slice a2 l.length c2))
  have O3 := hide ((((unhide O2).set (p := ⟨w.heap.size, 0, none⟩) (show w.heap.size < w1.heap.size by omega) (.int .i64 ep)).set (p := ⟨w.heap.size, 1, none⟩) (show w.heap.size < w1.heap.size by omega) (.int .i64 fa)).set (p := ⟨w.heap.size, 2, none⟩) (show w.heap.size < w1.heap.size by omega) (.slice a2 l.length c2))
  have B3 := hide ((((unhide B2).setCell (p := ⟨w.heap.size, 0, none⟩) (Nat.le_refl _) (.int .i64 ep)).setCell (p := ⟨w.heap.size, 1, none⟩) (Nat.le_refl _) (.int .i64 fa)).setCell (p := ⟨w.heap.size, 2, none⟩) (Nat.le_refl _) (.slice a2 l.length c2))
  have z3 : w1.heap.size ≤ (((w2.setCell ⟨w.heap.size, 0, none⟩ (.int .i64 ep)).setCell ⟨w.heap.size, 1, none⟩ (.int .i64 fa)).setCell ⟨w.heap.size, 2, none⟩ (.slice a2 l.length c2)).heap.size := by simpa [World.setCell] using z2
  have e3 : (((w2.setCell ⟨w.heap.size, 0, none⟩ (.int .i64 ep)).setCell ⟨w.heap.size, 1, none⟩ (.int .i64 fa)).setCell ⟨w.heap.size, 2, none⟩ (.slice a2 l.length c2)).heap.size = w2.heap.size := by simp [World.setCell]
  go_wp2_with fail
  generalize ((w2.setCell ⟨w.heap.size, 0, none⟩ (.int .i64 ep)).setCell ⟨w.heap.size, 1, none⟩ (.int .i64 fa)).setCell ⟨w.heap.size, 2, none⟩ (.slice a2 l.length c2) = w3 at X3 O3 B3 z3 e3 ⊢
  try rw [← e3]
  clear x0 x1 x2 y0 y1 y2 f0 f1 X2 O2 B2 z2 zx zy e3
  have X4 := hide ((unhide X3).below (bel1 w3 (.cells #[.int .i64 id, .int .i64 now] 36)) (by omega))
  have O4 := hide ((unhide O3).below (bel1 w3 (.cells #[.int .i64 id, .int .i64 now] 36)) (Nat.le_refl _))
  have B4 := hide ((unhide B3).alloc (show w.heap.size ≤ w3.heap.size by omega) (.cells #[.int .i64 id, .int .i64 now] 36))
  clear X3 O3 B3
  refine (unhide HMW _ _ _ (unhide O4).at).mono ?_
  rintro e w5 ⟨rfl, hb5⟩
  have X5 := hide ((unhide X4).below hb5 (by simp; omega))
  have O5 := hide ((unhide O4).below hb5 (Nat.le_refl _))
  have B5 := hide ((unhide B4).trans (hb5.mono (by simp; omega)))
  have hx5 := fun o => hb5.cell (p := ⟨w3.heap.size, o, none⟩) (by simp)
  have z5 : w3.heap.size + 1 ≤ w5.heap.size := by have := hb5.size; simp at this; omega
  clear hb5 X4 O4 B4
  obtain ⟨⟨x0, x1, x2⟩, ⟨y0, y1, y2⟩, f0, f1, -⟩ := unhide X5
  go_wp2_with (at_builtin; go_loud (refine wpList_append_own _ rfl _ _ 23 rfl w1.heap.size 36 i0 _ 2 16 Try.underlying23 (unhide HI) (unhide HZ0) (unhide HZ1) (unhide HZ2) rfl (by decide) _ _ _ rfl ((unhide O5).alloc _) ⟨w5.heap.size, 0, none⟩ 1 1 (cellsOf ⟨id, now⟩) rfl rfl ?c1 ?c2 ?c3 ?c4 ?c5 ?_))
  case c1 => exact news_cells w5 ⟨id, now⟩ _
  case c2 => exact news_one ⟨id, now⟩
  case c3 => unfold maxLen; omega
  case c4 => omega
  case c5 => simp; omega
  intro v' w6 hown' hgrow _
  have O6 := hide (own_snoc (kept' := l ++ [⟨id, now⟩]) hown' rfl)
  obtain ⟨a6, c6, hv6⟩ := own_form (unhide O6)
  subst hv6
  have X6 := hide (((unhide X5).below (bel1 w5 _) (by omega)).gb hgrow (fun g e => by have := own_block (unhide O5) g e; omega))
  have B6 := hide (((unhide B5).alloc (by omega) _).grown hgrow (by simp; omega) (fun g e => by have := own_block (unhide O5) g e; omega))
  clear hown' hgrow x0 x1 x2 y0 y1 y2 f0 f1
  obtain ⟨⟨x0, x1, x2⟩, ⟨y0, y1, y2⟩, f0, f1, z6⟩ := unhide X6
  go_wp2
  refine bodyPost_ret (v := .tuple #[.agg #[.int .i64 ep, .int .i64 fa, .slice a6 (l ++ [(⟨id, now⟩ : D)]).length c6], .int .i64 0]) (by simp [results, Try.results5, go_sem, y0, y1, y2]) rfl ⟨a6, c6, rfl, Own.full (B := w1.heap.size) (cap := c6) ?_ (by omega) ?_⟩
  · repeat (refine Own.set ?_ (by first | (simp; done) | (simp; omega)) _)
    exact unhide O6
  · repeat (refine Below.setCell ?_ (by first | (simp; done) | (simp; omega)) _)
    exact unhide B6
end Lanes
end Go.Proofs.Ytfbfnoofapgneaa
