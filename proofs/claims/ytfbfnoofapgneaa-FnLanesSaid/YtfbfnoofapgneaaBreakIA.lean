/-
  The program's BreakLane: the plain outcome, for every lane, wherever its waits lie.
-/
import Derived.Test.YtfbfnoofapgneaaBreakP
import Derived.Test.YtfbfnoofapgneaaLaneN
namespace Go.Proofs.Ytfbfnoofapgneaa
namespace Lanes
open Go.RowKit Base GoodKey Waits Marks OwnR WaitsW
set_option linter.unusedVariables false

set_option maxRecDepth 10000 in
set_option maxHeartbeats 2000000 in
theorem breakI_any (ep fa : Int) (a : Option Addr) (cap : Nat) (l : List D) (w : World) (hc : LAt w a l)
    (hl : l.length ≤ 1048576) (hcap : l.length ≤ cap) :
    Calls Try.prog 9 #[.agg #[.int .i64 ep, .int .i64 fa, .slice a l.length cap]] w (BreakEnd (breakR ep fa l) w) := by
  have hgood := fun w' (hb' : Below w.heap.size w w') => goodI_any ep fa a cap l w' (hc.below hb' (Nat.le_refl _)) hl hcap
  have hcp := fun hl' w' (hb' : Below w.heap.size w w') => copyI_any ep fa a cap l w' (hc.below hb' (Nat.le_refl _)) hl'
  have HCP0 := hide hcp
  have HC := hide hc
  clear hc hcp
  cases g1 : glB ep fa l
  · rw [break_1 g1]
    rw [g1] at hgood
    have HG := hide hgood
    clear hgood g1 HCP0 HC
    go_enter Try.func9, Try.ntmps9
    go_wp2_with fail
    refine (unhide HG _ (bel2 w _ _)).mono ?_
    rintro e w1 ⟨rfl, hb1⟩
    simp only [World.size_alloc] at hb1
    have X1 := hide ((bl_new w ep fa _).below hb1 (Nat.le_refl _))
    have B1 := hide ((bel2 w _ _).trans (hb1.mono (by omega)))
    have z1 : w.heap.size + 2 ≤ w1.heap.size := (unhide X1).2.2.2.2
    clear hb1
    obtain ⟨⟨x0, x1, x2⟩, ⟨y0, y1, y2⟩, f0, f1, -⟩ := unhide X1
    go_wp2
    refine bodyPost_ret (v := .tuple #[.agg #[.int .i64 0, .int .i64 0, .slice none 0 0], .slice none 0 0, .int .i64 1]) (by simp [results, Try.results9, go_sem, y0, y1, y2]) rfl ⟨none, 0, none, 0, rfl, none, none, .inl ⟨rfl, rfl⟩, .inl ⟨rfl, rfl⟩, (fun g e => by simp at e), (fun g e => by simp at e), .inl rfl, ?_⟩
    repeat (refine Below.setCell ?_ (by first | (simp; done) | (simp; omega)) _)
    exact unhide B1
  have hl20 := glB_len g1
  have hef := glB_ep g1
  have HCP := hide (unhide HCP0 (by omega))
  have G1 := hide g1
  rw [g1] at hgood
  have HG := hide hgood
  clear hgood g1 HCP0
  by_cases g2 : ep = 1000000
  · rw [break_2 (unhide G1) g2]
    have q1 : (ep == 1000000) = true := by simp [g2]
    have q3 : decide (ep = 1000000) = true := by simp [g2]
    have G2 := hide g2
    clear g2 hef HC
    go_enter Try.func9, Try.ntmps9
    go_wp2_with fail
    refine (unhide HG _ (bel2 w _ _)).mono ?_
    rintro e w1 ⟨rfl, hb1⟩
    simp only [World.size_alloc] at hb1
    have X1 := hide ((bl_new w ep fa _).below hb1 (Nat.le_refl _))
    have B1 := hide ((bel2 w _ _).trans (hb1.mono (by omega)))
    have z1 : w.heap.size + 2 ≤ w1.heap.size := (unhide X1).2.2.2.2
    clear hb1
    obtain ⟨⟨x0, x1, x2⟩, ⟨y0, y1, y2⟩, f0, f1, -⟩ := unhide X1
    go_wp2_with fail
    refine (unhide HCP _ (unhide B1)).mono ?_
    rintro e w2 ⟨a2, c2, rfl, ho2, hb2⟩
    have X2 := hide ((unhide X1).below hb2 z1)
    have B2 := hide ((unhide B1).trans (hb2.mono (by omega)))
    have O2 := hide ho2
    have z2 : w1.heap.size ≤ w2.heap.size := hb2.size
    clear hb2 ho2 x0 x1 x2 y0 y1 y2 f0 f1 X1 B1
    obtain ⟨⟨x0, x1, x2⟩, ⟨y0, y1, y2⟩, f0, f1, -⟩ := unhide X2
    have HL : Hid (∀ w' : World, Own w' w1.heap.size a2 l c2 → ∃ r, WaitsM.Ours w' a2 l.length (icell l) r ∧ ∀ g, r = some g → w.heap.size ≤ g) := fun w' O => by
      obtain ⟨r, h1, h2⟩ := own_ours O
      exact ⟨r, h1, fun g e => by have := h2 g e; omega⟩
    go_wp2
    refine bodyPost_ret (v := .tuple #[.agg #[.int .i64 ep, .int .i64 fa, .slice a2 l.length c2], .slice none 0 0, .int .i64 2]) (by simp [results, Try.results9, go_sem, y0, y1, y2]) rfl ?_
    obtain ⟨r, h1, h2⟩ := unhide HL (((w2.setCell ⟨w.heap.size + 1, 0, none⟩ (.int .i64 ep)).setCell ⟨w.heap.size + 1, 1, none⟩ (.int .i64 fa)).setCell ⟨w.heap.size + 1, 2, none⟩ (.slice a2 l.length c2)) (by
      repeat (refine Own.set ?_ (by first | (simp; done) | (simp; omega)) _)
      exact unhide O2)
    refine ⟨a2, c2, none, 0, rfl, r, none, h1, .inl ⟨rfl, rfl⟩, h2, (fun g e => by simp at e), .inr rfl, ?_⟩
    repeat (refine Below.setCell ?_ (by first | (simp; done) | (simp; omega)) _)
    exact unhide B2
  rw [break_3 (unhide G1) g2]
  have q1 : (ep == 1000000) = false := by simp [g2]
  have q3 : decide (ep = 1000000) = false := by simp [g2]
  have hw1 : IntKind.i64.wrap (ep + 1) = ep + 1 := by rw [IntKind.wrap_i64]; omega
  have hw2 : IntKind.i64.wrap (fa + 1) = fa + 1 := by rw [IntKind.wrap_i64]; omega
  have HIL := hide (ids_len l)
  clear g2
  have hmk := fun w => run_make_row' (P := Try.prog) 32 3 (.int .i64 0) 8 Try.underlying32 Ints.info rfl .i64 .i64 l.length (by omega) (by omega) w
  go_enter Try.func9, Try.ntmps9
  go_wp2_with fail
  refine (unhide HG _ (bel2 w _ _)).mono ?_
  rintro e w1 ⟨rfl, hb1⟩
  simp only [World.size_alloc] at hb1
  have X1 := hide ((bl_new w ep fa _).below hb1 (Nat.le_refl _))
  have B1 := hide ((bel2 w _ _).trans (hb1.mono (by omega)))
  have z1 : w.heap.size + 2 ≤ w1.heap.size := (unhide X1).2.2.2.2
  clear hb1
  obtain ⟨⟨x0, x1, x2⟩, ⟨y0, y1, y2⟩, f0, f1, -⟩ := unhide X1
  have zx1 : w.heap.size < w1.heap.size := by omega
  have zy1 : w.heap.size + 1 < w1.heap.size := by omega
  go_wp2_with fail
  have R1 : Hid ((w1.alloc (.cells (madeCells #[.int .i64 0] l.length) 3)).rowIs w1.heap.size 3 l.length (halfI l 0)) :=
    (rowIs_mades w1 #[.int .i64 0] l.length 3 (fun _ => .int .i64 0) (fun i => by simp [Nat.mod_one])).congr (fun i _ => by simp [halfI])
  go_loopw [24] (fun i wr => ∃ (k : Nat), k ≤ l.length ∧ i = .int .i64 k ∧ Hid (wr.rowIs w1.heap.size 3 l.length (halfI l k)) ∧ Hid (Below w1.heap.size w1 wr)) (fun i _ => l.length - (intOf i).toNat)
  case atStart => exact ⟨0, Nat.zero_le _, rfl, R1, hide (bel1 w1 _)⟩
  case round =>
    obtain ⟨k, hk, rfl, hrow, hbr⟩ := hrel
    clear x0 x1 x2 y0 y1 y2 f0 f1
    have XR := hide ((unhide X1).below (unhide hbr) z1)
    have BR := hide ((unhide B1).trans ((unhide hbr).mono (by omega)))
    have zr : w1.heap.size < wr.heap.size := (unhide hrow).lt
    have zx : w.heap.size < wr.heap.size := by omega
    have zy : w.heap.size + 1 < wr.heap.size := by omega
    obtain ⟨⟨x0, x1, x2⟩, ⟨y0, y1, y2⟩, f0, f1, -⟩ := unhide XR
    by_cases hlt : k < l.length
    · obtain ⟨b, off, hab, hb, hcc⟩ := unhide HC (by intro h; simp [h] at hlt)
      subst hab
      obtain ⟨c0, c1⟩ := (hcc k hlt).below (unhide BR) hb
      clear hcc
      have hst := hide (fun j => halfI_step l k j hlt)
      have d0 := (unhide hrow).cell (i := k) hlt
      have fz := (unhide hrow).frozen k
      generalize halfI l k k = o0 at d0
      generalize l.getD k zero = x at c0 c1 hst
      have row2 := hide ((unhide hrow).set k (.int .i64 x.id))
      have hk0 : (0 : Int) ≤ (k : Int) := by omega
      have hkl : (k : Int) < (l.length : Int) := by omega
      go_wp2
      go_roundw
      case rel =>
        refine ⟨k + 1, by omega, by go_num, hide (World.rowIs.congr (World.rowIs.alloc (unhide row2) _) (fun i _ => unhide hst i)), hide ?_⟩
        show Below w1.heap.size w1 _
        refine Below.alloc (Below.setCell (unhide hbr) (by first | (simp; done) | (simp; omega)) _) (by simp [World.setCell]; omega) _
      case measure => simp [intOf]; omega
    · obtain rfl : k = l.length := by omega
      have HQ : Hid (∃ q, IntsM.Ours wr (some ⟨w1.heap.size, 0, none⟩) (idsOf l).length (Ints.ncell (idsOf l)) q ∧ ∀ g, q = some g → g = w1.heap.size) := by
        refine ⟨some w1.heap.size, ?_, fun g e => by simp at e; omega⟩
        rw [unhide HIL]
        exact IntsM.Ours.row ((unhide hrow).congr (fun i hi => by unfold halfI; rw [if_pos hi]))
      clear hrow
      have hup : IntKind.i64.wrap (fa + 1) = fa + 1 := hw2
      by_cases g4 : fa < 1000000
      · have U : Hid (upB fa = fa + 1) := by show upB fa = fa + 1; unfold upB; rw [if_pos g4]
        have mm1 : min (fa + 1) 1000000 = fa + 1 := by omega
        have HE : Hid (Ending.returned (.tuple #[.agg #[.int .i64 (ep + 1), .int .i64 (fa + 1), .slice none 0 0], .slice (some ⟨w1.heap.size, 0, none⟩) l.length l.length, .int .i64 0]) = .returned (.tuple #[.agg #[.int .i64 (ep + 1), .int .i64 (upB fa), .slice none 0 0], .slice (some ⟨w1.heap.size, 0, none⟩) (idsOf l).length l.length, .int .i64 0])) := by
          show _ = _
          rw [unhide HIL, unhide U]
        go_wp2
        refine bodyPost_ret (v := .tuple #[.agg #[.int .i64 (ep + 1), .int .i64 (fa + 1), .slice none 0 0], .slice (some ⟨w1.heap.size, 0, none⟩) l.length l.length, .int .i64 0]) (by simp [results, Try.results9, go_sem, y0, y1, y2]) rfl ?_
        obtain ⟨q, h1, h2⟩ := unhide HQ
        refine ⟨none, 0, some ⟨w1.heap.size, 0, none⟩, l.length, unhide HE, none, q, .inl ⟨rfl, rfl⟩, ?_, (fun g e => by simp at e), (fun g e => by have := h2 g e; omega), .inl rfl, ?_⟩
        · exact h1.gb (gb_set (gb_set (gb_set (gb_refl wr (some (w.heap.size + 1))) _ _) _ _) _ _) (fun g e he => by have := h2 g e; simp at he; omega)
        · repeat (refine Below.setCell ?_ (by first | (simp; done) | (simp; omega)) _)
          exact unhide BR
      · have U : Hid (upB fa = 1000000) := by show upB fa = 1000000; unfold upB; rw [if_neg g4]; omega
        have mm1 : min (fa + 1) 1000000 = 1000000 := by omega
        have HE : Hid (Ending.returned (.tuple #[.agg #[.int .i64 (ep + 1), .int .i64 1000000, .slice none 0 0], .slice (some ⟨w1.heap.size, 0, none⟩) l.length l.length, .int .i64 0]) = .returned (.tuple #[.agg #[.int .i64 (ep + 1), .int .i64 (upB fa), .slice none 0 0], .slice (some ⟨w1.heap.size, 0, none⟩) (idsOf l).length l.length, .int .i64 0])) := by
          show _ = _
          rw [unhide HIL, unhide U]
        go_wp2
        refine bodyPost_ret (v := .tuple #[.agg #[.int .i64 (ep + 1), .int .i64 1000000, .slice none 0 0], .slice (some ⟨w1.heap.size, 0, none⟩) l.length l.length, .int .i64 0]) (by simp [results, Try.results9, go_sem, y0, y1, y2]) rfl ?_
        obtain ⟨q, h1, h2⟩ := unhide HQ
        refine ⟨none, 0, some ⟨w1.heap.size, 0, none⟩, l.length, unhide HE, none, q, .inl ⟨rfl, rfl⟩, ?_, (fun g e => by simp at e), (fun g e => by have := h2 g e; omega), .inl rfl, ?_⟩
        · exact h1.gb (gb_set (gb_set (gb_set (gb_refl wr (some (w.heap.size + 1))) _ _) _ _) _ _) (fun g e he => by have := h2 g e; simp at he; omega)
        · repeat (refine Below.setCell ?_ (by first | (simp; done) | (simp; omega)) _)
          exact unhide BR
end Lanes
end Go.Proofs.Ytfbfnoofapgneaa
