/-
  The model's CloseSlot: the plain outcome, for every session whose slots lie in memory.
-/
import Derived.Test.YtmbkdejlbeailaaSessR
import Derived.Test.YtmbkdejlbeailaaSessS
import Derived.Test.YtmbkdejlbeailaaCloseL
namespace Go.Proofs.Ytmbkdejlbeailaa
namespace Sess
open Go.RowKit Base Slots Marks Rnd
set_option linter.unusedVariables false

theorem rst_lat {w : World} {g o c : Nat} {l : List D} (h : Rst w g o c l) : LAt w (some ⟨g, o, none⟩) l := fun _ => ⟨g, o, rfl, h.1, h.2.2⟩

set_option maxRecDepth 10000 in
set_option maxHeartbeats 2000000 in
theorem closeS_some (nx : Int) (b off cap : Nat) (l : List D) (id : Int) (ans : ByteArray) (w : World) (hb : b < w.heap.size) (hc : ∀ i, i < l.length → At w b (off + i * 3) (l.getD i zero)) (hl : l.length ≤ 1048576) (hcap : l.length ≤ cap) :
    Calls Try.prog 17 #[.agg #[.int .i64 nx, .slice (some ⟨b, off, none⟩) l.length cap], .int .i64 id, .string ans] w (CloseLies (closeR nx l id ans) w) := by
  have hgood := fun w' (hb' : Below w.heap.size w w') => spec_some nx b off cap l w' (Nat.lt_of_lt_of_le hb hb'.size) (fun i hi => (hc i hi).below hb' hb) (by unfold maxLen; omega) hcap
  have hsrc : Src w (some ⟨b, off, none⟩) l.length cap l := .inr ⟨b, off, rfl, hb, rfl, hc⟩
  have HSRC := hide (fun w' (hb' : Below w.heap.size w w') => hsrc.below hb' (Nat.le_refl _))
  clear hc hsrc
  cases g1 : gsB nx l
  · rw [close_1 g1]
    rw [g1] at hgood
    have HG := hide hgood
    clear hgood g1 HSRC
    go_enter Try.func17, Try.ntmps17
    go_wp2_with fail
    refine (unhide HG _ (bel2 w _ _)).mono ?_
    rintro e w1 ⟨rfl, hb1⟩
    simp only [World.size_alloc] at hb1
    have Y1 := hide ((bx_new (w.alloc (.cells #[.int .i64 nx, .slice (some ⟨b, off, none⟩) l.length cap] 29)) 0 (.slice none 0 0)).below hb1 (by simp))
    have B1 := hide ((bel2 w _ _).trans (hb1.mono (by omega)))
    clear hb1
    rw [World.size_alloc] at Y1
    obtain ⟨y0, y1, yf, yz⟩ := unhide Y1
    go_wp2
    refine bodyPost_ret (v := .tuple #[.agg #[.int .i64 0, .slice none 0 0], .string ByteArray.empty, .bool false]) (by simp [results, Try.results17, go_sem, y0, y1]; rfl) rfl ⟨none, 0, rfl, fun h => absurd rfl h, ?_⟩
    repeat (refine Below.setCell ?_ (by first | (simp; done) | (simp; omega)) _)
    exact unhide B1
  obtain ⟨hn0, hn1, hl30⟩ := gs_nx g1
  have HSM := hide (good_small g1)
  have G1 := hide g1
  rw [g1] at hgood
  have HG := hide hgood
  clear hgood g1
  by_cases g2 : 3000 < (ans.size : Int)
  · rw [close_2 (by omega)]
    have g2' : decide (3000 < (ans.size : Int)) = true := decide_eq_true g2
    go_enter Try.func17, Try.ntmps17
    go_wp2_with fail
    refine (unhide HG _ (bel2 w _ _)).mono ?_
    rintro e w1 ⟨rfl, hb1⟩
    simp only [World.size_alloc] at hb1
    have Y1 := hide ((bx_new (w.alloc (.cells #[.int .i64 nx, .slice (some ⟨b, off, none⟩) l.length cap] 29)) 0 (.slice none 0 0)).below hb1 (by simp))
    have B1 := hide ((bel2 w _ _).trans (hb1.mono (by omega)))
    clear hb1
    rw [World.size_alloc] at Y1
    obtain ⟨y0, y1, yf, yz⟩ := unhide Y1
    go_wp2
    refine bodyPost_ret (v := .tuple #[.agg #[.int .i64 0, .slice none 0 0], .string ByteArray.empty, .bool false]) (by simp [results, Try.results17, go_sem, y0, y1]; rfl) rfl ⟨none, 0, rfl, fun h => absurd rfl h, ?_⟩
    repeat (refine Below.setCell ?_ (by first | (simp; done) | (simp; omega)) _)
    exact unhide B1
  have g2' : decide (3000 < (ans.size : Int)) = false := decide_eq_false g2
  have HO := fun w' h => l5Close_any nx (some ⟨b, off, none⟩) l.length cap l id ans w' h (by omega) (unhide HSM) (by omega)
  cases g3 : anyB l id
  · rw [close_2 (by rw [g3]; simp)]
    rw [g3] at HO
    have HOO := hide HO
    clear HO g3
    go_enter Try.func17, Try.ntmps17
    go_wp2_with fail
    refine (unhide HG _ (bel2 w _ _)).mono ?_
    rintro e w1 ⟨rfl, hb1⟩
    simp only [World.size_alloc] at hb1
    have Y1 := hide ((bx_new (w.alloc (.cells #[.int .i64 nx, .slice (some ⟨b, off, none⟩) l.length cap] 29)) 0 (.slice none 0 0)).below hb1 (by simp))
    have X1 := hide (((bx_new w nx (.slice (some ⟨b, off, none⟩) l.length cap)).below (bel1 _ _) (by simp)).below hb1 (by omega))
    have B1 := hide ((bel2 w _ _).trans (hb1.mono (by omega)))
    clear hb1
    rw [World.size_alloc] at Y1
    obtain ⟨x0, x1, xf, xz⟩ := unhide X1
    go_wp2_with fail
    refine (unhide HOO _ (unhide HSRC _ (unhide B1))).mono ?_
    rintro e w2 ⟨g, o, c, rfl, hT2, hg2, hb2⟩
    have Y2 := hide ((unhide Y1).below hb2 (unhide Y1).2.2.2)
    have B2 := hide ((unhide B1).trans (hb2.mono (unhide B1).size))
    clear hb2 hT2 x0 x1 xf xz X1 Y1 B1
    generalize popL (closeL l id ans) = L
    generalize popS (closeL l id ans) = t
    obtain ⟨y0, y1, yf, yz⟩ := unhide Y2
    have rr0 : (((w2.setCell ⟨w.heap.size + 1, 0, none⟩ (.int .i64 0)).setCell ⟨w.heap.size + 1, 1, none⟩ (.slice none 0 0)).alloc (.cells #[.int .i64 nx, .slice (some ⟨g, o, none⟩) L.length c] 29)).cell? ⟨w.heap.size + 1, 0, none⟩ = some (.int .i64 0) := by go_simp
    have rr1 : (((w2.setCell ⟨w.heap.size + 1, 0, none⟩ (.int .i64 0)).setCell ⟨w.heap.size + 1, 1, none⟩ (.slice none 0 0)).alloc (.cells #[.int .i64 nx, .slice (some ⟨g, o, none⟩) L.length c] 29)).cell? ⟨w.heap.size + 1, 1, none⟩ = some (.slice none 0 0) := by go_simp
    go_wp2
    refine bodyPost_ret (v := .tuple #[.agg #[.int .i64 0, .slice none 0 0], .string ByteArray.empty, .bool false]) (by simp [results, Try.results17, go_sem, rr0, rr1]; rfl) rfl ⟨none, 0, rfl, fun h => absurd rfl h, ?_⟩
    repeat (first | refine Below.setCell ?_ (by first | (simp; done) | (simp; omega)) _ | refine Below.alloc ?_ (by first | (simp; done) | (simp; omega) | (have := (unhide B2).size; simp; omega)) _)
    exact unhide B2
  rw [close_3 (unhide G1) (by omega) g3]
  rw [g3] at HO
  clear g3
  generalize popL (closeL l id ans) = L at HO ⊢
  generalize popS (closeL l id ans) = t at HO ⊢
  have HOO := hide HO
  clear HO
  go_enter Try.func17, Try.ntmps17
  go_wp2_with fail
  refine (unhide HG _ (bel2 w _ _)).mono ?_
  rintro e w1 ⟨rfl, hb1⟩
  simp only [World.size_alloc] at hb1
  have Y1 := hide ((bx_new (w.alloc (.cells #[.int .i64 nx, .slice (some ⟨b, off, none⟩) l.length cap] 29)) 0 (.slice none 0 0)).below hb1 (by simp))
  have X1 := hide (((bx_new w nx (.slice (some ⟨b, off, none⟩) l.length cap)).below (bel1 _ _) (by simp)).below hb1 (by omega))
  have B1 := hide ((bel2 w _ _).trans (hb1.mono (by omega)))
  clear hb1
  rw [World.size_alloc] at Y1
  obtain ⟨x0, x1, xf, xz⟩ := unhide X1
  go_wp2_with fail
  refine (unhide HOO _ (unhide HSRC _ (unhide B1))).mono ?_
  rintro e w2 ⟨g, o, c, rfl, hT2, hg2, hb2⟩
  have T2 := hide hT2
  have Y2 := hide ((unhide Y1).below hb2 (unhide Y1).2.2.2)
  have B2 := hide ((unhide B1).trans (hb2.mono (unhide B1).size))
  have zY := (unhide Y1).2.2.2
  clear hb2 hT2 x0 x1 xf xz X1 Y1 B1
  obtain ⟨y0, y1, yf, yz⟩ := unhide Y2
  have rr0 : (((w2.setCell ⟨w.heap.size + 1, 0, none⟩ (.int .i64 nx)).setCell ⟨w.heap.size + 1, 1, none⟩ (.slice (some ⟨g, o, none⟩) L.length c)).alloc (.cells #[.int .i64 nx, .slice (some ⟨g, o, none⟩) L.length c] 29)).cell? ⟨w.heap.size + 1, 0, none⟩ = some (.int .i64 nx) := by go_simp
  have rr1 : (((w2.setCell ⟨w.heap.size + 1, 0, none⟩ (.int .i64 nx)).setCell ⟨w.heap.size + 1, 1, none⟩ (.slice (some ⟨g, o, none⟩) L.length c)).alloc (.cells #[.int .i64 nx, .slice (some ⟨g, o, none⟩) L.length c] 29)).cell? ⟨w.heap.size + 1, 1, none⟩ = some (.slice (some ⟨g, o, none⟩) L.length c) := by go_simp
  have hne : ¬ g = w.heap.size + 1 := by omega
  have T3 := hide (((unhide T2).of_block (w' := (w2.setCell ⟨w.heap.size + 1, 0, none⟩ (.int .i64 nx)).setCell ⟨w.heap.size + 1, 1, none⟩ (.slice (some ⟨g, o, none⟩) L.length c)) (by rw [Below.heap_setCell _ _ _ _ (by simpa using hne), Below.heap_setCell _ _ _ _ (by simpa using hne)]) (by simp [World.setCell])))
  have T4 := hide ((unhide T3).of_block (w' := ((w2.setCell ⟨w.heap.size + 1, 0, none⟩ (.int .i64 nx)).setCell ⟨w.heap.size + 1, 1, none⟩ (.slice (some ⟨g, o, none⟩) L.length c)).alloc (.cells #[.int .i64 nx, .slice (some ⟨g, o, none⟩) L.length c] 29)) ((bel1 _ _).block g (unhide T3).1) (by simp))
  go_wp2
  refine bodyPost_ret (v := .tuple #[.agg #[.int .i64 nx, .slice (some ⟨g, o, none⟩) L.length c], .string t, .bool true]) (by simp [results, Try.results17, go_sem, rr0, rr1]) rfl ⟨some ⟨g, o, none⟩, c, rfl, rst_lat (unhide T4), ?_⟩
  repeat (first | refine Below.setCell ?_ (by first | (simp; done) | (simp; omega)) _ | refine Below.alloc ?_ (by first | (simp; done) | (simp; omega)) _)
  exact unhide B2
end Sess
end Go.Proofs.Ytmbkdejlbeailaa
