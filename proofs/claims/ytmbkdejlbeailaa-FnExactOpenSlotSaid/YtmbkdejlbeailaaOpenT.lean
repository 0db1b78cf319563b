/-
  The model's OpenSlot: the plain outcome, for every session whose slots lie in memory.
-/
import Derived.Test.YtmbkdejlbeailaaSessR
import Derived.Test.YtmbkdejlbeailaaSessS
import Derived.Test.YtmbkdejlbeailaaOpenS
namespace Go.Proofs.Ytmbkdejlbeailaa
namespace Sess
open Go.RowKit Base Slots Marks Rnd
set_option linter.unusedVariables false

set_option maxRecDepth 10000 in
set_option maxHeartbeats 2000000 in
theorem openS_some (nx : Int) (b off cap : Nat) (l : List D) (w : World) (hb : b < w.heap.size) (hc : ∀ i, i < l.length → At w b (off + i * 3) (l.getD i zero)) (hl : l.length ≤ 1048576) (hcap : l.length ≤ cap) :
    Calls Try.prog 13 #[.agg #[.int .i64 nx, .slice (some ⟨b, off, none⟩) l.length cap]] w (OpenLies (openR nx l) w) := by
  have hgood := fun w' (hb' : Below w.heap.size w w') => spec_some nx b off cap l w' (Nat.lt_of_lt_of_le hb hb'.size) (fun i hi => (hc i hi).below hb' hb) (by unfold maxLen; omega) hcap
  have hsrc : Src w (some ⟨b, off, none⟩) l.length cap l := .inr ⟨b, off, rfl, hb, rfl, hc⟩
  have HSRC := hide (fun w' (hb' : Below w.heap.size w w') => hsrc.below hb' (Nat.le_refl _))
  clear hc hsrc
  cases g1 : gsB nx l
  · rw [open_1 g1]
    rw [g1] at hgood
    have HG := hide hgood
    clear hgood g1 HSRC
    go_enter Try.func13, Try.ntmps13
    go_wp2_with fail
    refine (unhide HG _ (bel2 w _ _)).mono ?_
    rintro e w1 ⟨rfl, hb1⟩
    simp only [World.size_alloc] at hb1
    have Y1 := hide ((bx_new (w.alloc (.cells #[.int .i64 nx, .slice (some ⟨b, off, none⟩) l.length cap] 29)) 0 (.slice none 0 0)).below hb1 (by simp))
    have B1 := hide ((bel2 w _ _).trans (hb1.mono (by omega)))
    clear hb1
    rw [World.size_alloc] at Y1
    obtain ⟨y0, y1, yf, yz⟩ := unhide Y1
    go_wp2
    refine bodyPost_ret (v := .tuple #[.agg #[.int .i64 0, .slice none 0 0], .int .i64 0, .bool false]) (by simp [results, Try.results13, go_sem, y0, y1]) rfl ⟨none, 0, rfl, fun h => absurd rfl h, ?_⟩
    repeat (refine Below.setCell ?_ (by first | (simp; done) | (simp; omega)) _)
    exact unhide B1
  obtain ⟨hn0, hn1, hl30⟩ := gs_nx g1
  have G1 := hide g1
  rw [g1] at hgood
  have HG := hide hgood
  clear hgood g1
  by_cases g2 : l.length = 30 ∨ nx = 1000000
  · rw [open_2 (unhide G1) g2]
    by_cases g3 : l.length = 30
    all_goals
      first
        | (have q3 : ((l.length : Int) == 30) = true := (by rw [g3]; rfl); have q4 : decide ((l.length : Int) = 30) = true := (by rw [g3]; rfl))
        | (have q3 : ((l.length : Int) == 30) = false := beq_eq_false_iff_ne.2 (by omega); have q4 : nx = 1000000 := (by omega); have q5 : (nx == 1000000) = true := (by rw [q4]; rfl); clear q4)
      clear g2 g3
      go_enter Try.func13, Try.ntmps13
      go_wp2_with fail
      refine (unhide HG _ (bel2 w _ _)).mono ?_
      rintro e w1 ⟨rfl, hb1⟩
      simp only [World.size_alloc] at hb1
      have Y1 := hide ((bx_new (w.alloc (.cells #[.int .i64 nx, .slice (some ⟨b, off, none⟩) l.length cap] 29)) 0 (.slice none 0 0)).below hb1 (by simp))
      have X1 := hide (((bx_new w nx (.slice (some ⟨b, off, none⟩) l.length cap)).below (bel1 _ _) (by simp)).below hb1 (by omega))
      have B1 := hide ((bel2 w _ _).trans (hb1.mono (by omega)))
      clear hb1
      rw [World.size_alloc] at Y1
      obtain ⟨x0, x1, xf, xz⟩ := unhide X1
      obtain ⟨y0, y1, yf, yz⟩ := unhide Y1
      go_wp2
      refine bodyPost_ret (v := .tuple #[.agg #[.int .i64 0, .slice none 0 0], .int .i64 0, .bool false]) (by simp [results, Try.results13, go_sem, y0, y1]) rfl ⟨none, 0, rfl, fun h => absurd rfl h, ?_⟩
      repeat (refine Below.setCell ?_ (by first | (simp; done) | (simp; omega)) _)
      exact unhide B1
  rw [open_3 (unhide G1) g2]
  have hl29 : l.length < 30 := by omega
  have hnx : nx < 1000000 := by omega
  have q3 : ((l.length : Int) == 30) = false := beq_eq_false_iff_ne.2 (by omega)
  have q5 : (nx == 1000000) = false := beq_eq_false_iff_ne.2 (by omega)
  clear g2
  obtain ⟨L, hL⟩ : ∃ L, L = l ++ [(⟨nx, false, ByteArray.empty⟩ : D)] := ⟨_, rfl⟩
  have hLn : l.length + 1 = L.length := by rw [hL]; simp
  have HO := hide (fun w' h => l5Open_any nx (some ⟨b, off, none⟩) l.length cap l w' h (by omega) hn0 hn1)
  rw [← hL, hLn] at HO
  rw [← hL]
  clear hL hLn
  go_enter Try.func13, Try.ntmps13
  go_wp2_with fail
  refine (unhide HG _ (bel2 w _ _)).mono ?_
  rintro e w1 ⟨rfl, hb1⟩
  simp only [World.size_alloc] at hb1
  have Y1 := hide ((bx_new (w.alloc (.cells #[.int .i64 nx, .slice (some ⟨b, off, none⟩) l.length cap] 29)) 0 (.slice none 0 0)).below hb1 (by simp))
  have X1 := hide (((bx_new w nx (.slice (some ⟨b, off, none⟩) l.length cap)).below (bel1 _ _) (by simp)).below hb1 (by omega))
  have B1 := hide ((bel2 w _ _).trans (hb1.mono (by omega)))
  clear hb1
  rw [World.size_alloc] at Y1
  obtain ⟨x0, x1, xf, xz⟩ := unhide X1
  go_wp2_with fail
  refine (unhide HO _ (unhide HSRC _ (unhide B1))).mono ?_
  rintro e w2 ⟨g, c, rfl, ho2, hb2⟩
  have O2 := hide ho2
  have Y2 := hide ((unhide Y1).below hb2 (unhide Y1).2.2.2)
  have B2 := hide ((unhide B1).trans (hb2.mono (unhide B1).size))
  have zB := (unhide Y1).2.2.2
  clear hb2 ho2 x0 x1 xf xz X1 Y1 B1
  obtain ⟨y0, y1, yf, yz⟩ := unhide Y2
  have rr0 : (((w2.setCell ⟨w.heap.size + 1, 0, none⟩ (.int .i64 (nx + 1))).setCell ⟨w.heap.size + 1, 1, none⟩ (.slice (some ⟨g, 0, none⟩) L.length c)).alloc (.cells #[.int .i64 (nx + 1), .slice (some ⟨g, 0, none⟩) L.length c] 29)).cell? ⟨w.heap.size + 1, 0, none⟩ = some (.int .i64 (nx + 1)) := by go_simp
  have rr1 : (((w2.setCell ⟨w.heap.size + 1, 0, none⟩ (.int .i64 (nx + 1))).setCell ⟨w.heap.size + 1, 1, none⟩ (.slice (some ⟨g, 0, none⟩) L.length c)).alloc (.cells #[.int .i64 (nx + 1), .slice (some ⟨g, 0, none⟩) L.length c] 29)).cell? ⟨w.heap.size + 1, 1, none⟩ = some (.slice (some ⟨g, 0, none⟩) L.length c) := by go_simp
  go_wp2
  refine bodyPost_ret (v := .tuple #[.agg #[.int .i64 (nx + 1), .slice (some ⟨g, 0, none⟩) L.length c], .int .i64 nx, .bool true]) (by simp [results, Try.results13, go_sem, rr0, rr1]) rfl ⟨some ⟨g, 0, none⟩, c, rfl, OwnV.at (B := w1.heap.size) (cap := c) ?_, ?_⟩
  · repeat (first | refine OwnV.set ?_ (by first | (simp; done) | (simp; omega)) _ | refine OwnV.below ?_ (bel1 _ _) (Nat.le_refl _))
    exact unhide O2
  · repeat (first | refine Below.setCell ?_ (by first | (simp; done) | (simp; omega)) _ | refine Below.alloc ?_ (by first | (simp; done) | (simp; omega)) _)
    exact unhide B2
end Sess
end Go.Proofs.Ytmbkdejlbeailaa
