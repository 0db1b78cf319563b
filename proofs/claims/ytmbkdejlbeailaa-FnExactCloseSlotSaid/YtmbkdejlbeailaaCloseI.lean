/-
  The program's CloseSlot: the plain outcome, for every session whose slots lie in memory.
-/
import Derived.Test.YtmbkdejlbeailaaSessR
import Derived.Test.YtmbkdejlbeailaaSessI
import Derived.Test.YtmbkdejlbeailaaRndO
import Derived.Test.YtmbkdejlbeailaaRndS
import Derived.Test.YtmbkdejlbeailaaRndF
namespace Go.Proofs.Ytmbkdejlbeailaa
namespace Sess
open Go.RowKit Base Slots Marks Rnd
set_option linter.unusedVariables false

set_option maxRecDepth 10000 in
set_option maxHeartbeats 2000000 in
theorem closeI_some (nx : Int) (b off cap : Nat) (l : List D) (id : Int) (ans : ByteArray) (w : World) (hb : b < w.heap.size) (hc : ∀ i, i < l.length → At w b (off + i * 3) (l.getD i zero)) (hl : l.length ≤ 1048576) (hcap : l.length ≤ cap) :
    Calls Try.prog 18 #[.agg #[.int .i64 nx, .slice (some ⟨b, off, none⟩) l.length cap], .int .i64 id, .string ans] w (CloseEnd (closeR nx l id ans) w) := by
  have hgood := fun w' (hb' : Below w.heap.size w w') => impl_some nx b off cap l w' (Nat.lt_of_lt_of_le hb hb'.size) (fun i hi => (hc i hi).below hb' hb) hl hcap
  have hrnd := fun hl' w' (hb' : Below w.heap.size w w') => roundOf_some nx b off cap l w' (Nat.lt_of_lt_of_le hb hb'.size) (fun i hi => (hc i hi).below hb' hb) hl' hcap
  have HRN := hide hrnd
  clear hc hrnd
  cases g1 : gsB nx l
  · rw [close_1 g1]
    rw [g1] at hgood
    have HG := hide hgood
    clear hgood g1 HRN
    go_enter Try.func18, Try.ntmps18
    go_wp2_with fail
    refine (unhide HG _ (bel2 w _ _)).mono ?_
    rintro e w1 ⟨rfl, hb1⟩
    simp only [World.size_alloc] at hb1
    have Y1 := hide ((bx_new (w.alloc (.cells #[.int .i64 nx, .slice (some ⟨b, off, none⟩) l.length cap] 29)) 0 (.slice none 0 0)).below hb1 (by simp))
    have B1 := hide ((bel2 w _ _).trans (hb1.mono (by omega)))
    clear hb1
    rw [World.size_alloc] at Y1
    obtain ⟨y0, y1, yf, yz⟩ := unhide Y1
    go_wp2
    refine bodyPost_ret (v := .tuple #[.agg #[.int .i64 0, .slice none 0 0], .string ByteArray.empty, .bool false]) (by simp [results, Try.results18, go_sem, y0, y1]; rfl) rfl ⟨none, 0, rfl, left_none ?_⟩
    repeat (refine Below.setCell ?_ (by first | (simp; done) | (simp; omega)) _)
    exact unhide B1
  obtain ⟨hn0, hn1, hl30⟩ := gs_nx g1
  have HSM := hide (good_small g1)
  have HRI := hide (good_rising g1)
  have G1 := hide g1
  rw [g1] at hgood
  have HG := hide hgood
  clear hgood g1
  by_cases g2 : ans.size ≤ 3000 ∧ anyB l id = true
  case neg =>
    rw [close_2 g2]
    have hF : Hid (finR l id ans = ⟨l, ByteArray.empty, false⟩) := by show finR l id ans = _; unfold finR; rw [if_neg g2]
    clear g2
    go_enter Try.func18, Try.ntmps18
    go_wp2_with fail
    refine (unhide HG _ (bel2 w _ _)).mono ?_
    rintro e w1 ⟨rfl, hb1⟩
    simp only [World.size_alloc] at hb1
    have Y1 := hide ((bx_new (w.alloc (.cells #[.int .i64 nx, .slice (some ⟨b, off, none⟩) l.length cap] 29)) 0 (.slice none 0 0)).below hb1 (by simp))
    have X1 := hide (((bx_new w nx (.slice (some ⟨b, off, none⟩) l.length cap)).below (bel1 _ _) (by simp)).below hb1 (by omega))
    have B1 := hide ((bel2 w _ _).trans (hb1.mono (by omega)))
    clear hb1
    rw [World.size_alloc] at Y1
    obtain ⟨x0, x1, xf, xz⟩ := unhide X1
    have yz1 := (unhide Y1).2.2.2
    go_wp2_with fail
    refine (unhide HRN hl30 _ (unhide B1)).mono ?_
    rintro e w2 ⟨g, rfl, hg, hR2, hb2⟩
    have R2 := hide hR2
    have Y2 := hide ((unhide Y1).below hb2 yz1)
    have B2 := hide ((unhide B1).trans (hb2.mono (unhide B1).size))
    clear hb2 hR2 x0 x1 xf xz
    go_wp2_with fail
    refine (finish_any g 0 nx l id ans _ (unhide R2) (unhide HRI) (unhide HSM)).mono ?_
    rw [unhide hF]
    rintro e w3 ⟨rfl, _, hg3⟩
    dsimp only
    have Y3 := hide ((unhide Y2).gb hg3 (by simp; omega))
    have B3 := hide (below_gb (unhide B2) hg3 (unhide B2).size (by omega))
    clear hg3
    obtain ⟨y0, y1, yf, yz⟩ := unhide Y3
    go_wp2
    refine bodyPost_ret (v := .tuple #[.agg #[.int .i64 0, .slice none 0 0], .string ByteArray.empty, .bool false]) (by simp [results, Try.results18, go_sem, y0, y1]; rfl) rfl ⟨none, 0, rfl, left_none ?_⟩
    repeat (refine Below.setCell ?_ (by first | (simp; done) | (simp; omega)) _)
    exact unhide B3
  rw [close_3 (unhide G1) g2.1 g2.2]
  have hF : finR l id ans = ⟨popL (closeL l id ans), popS (closeL l id ans), true⟩ := by unfold finR; rw [if_pos g2]
  have HSM2 := hide (pop_small (close_small (unhide HSM) id (ans := ans) g2.1))
  generalize popL (closeL l id ans) = L at hF HSM2 ⊢
  generalize popS (closeL l id ans) = t at hF ⊢
  have HF := hide hF
  clear g2 hF
  go_enter Try.func18, Try.ntmps18
  go_wp2_with fail
  refine (unhide HG _ (bel2 w _ _)).mono ?_
  rintro e w1 ⟨rfl, hb1⟩
  simp only [World.size_alloc] at hb1
  have Y1 := hide ((bx_new (w.alloc (.cells #[.int .i64 nx, .slice (some ⟨b, off, none⟩) l.length cap] 29)) 0 (.slice none 0 0)).below hb1 (by simp))
  have X1 := hide (((bx_new w nx (.slice (some ⟨b, off, none⟩) l.length cap)).below (bel1 _ _) (by simp)).below hb1 (by omega))
  have B1 := hide ((bel2 w _ _).trans (hb1.mono (by omega)))
  clear hb1
  rw [World.size_alloc] at Y1
  obtain ⟨x0, x1, xf, xz⟩ := unhide X1
  have yz1 := (unhide Y1).2.2.2
  go_wp2_with fail
  refine (unhide HRN hl30 _ (unhide B1)).mono ?_
  rintro e w2 ⟨g, rfl, hg, hR2, hb2⟩
  have R2 := hide hR2
  have Y2 := hide ((unhide Y1).below hb2 yz1)
  have B2 := hide ((unhide B1).trans (hb2.mono (unhide B1).size))
  have hz2 : w1.heap.size ≤ w2.heap.size := hb2.size
  clear hb2 hR2 x0 x1 xf xz X1 Y1 B1
  go_wp2_with fail
  refine (finish_any g 0 nx l id ans _ (unhide R2) (unhide HRI) (unhide HSM)).mono ?_
  rw [unhide HF]
  rintro e w3 ⟨rfl, ⟨fi3, hR3⟩, hg3⟩
  dsimp only at hR3 ⊢
  have R3 := hide hR3
  have Y3 := hide ((unhide Y2).gb hg3 (by simp; omega))
  have B3 := hide (below_gb (unhide B2) hg3 (unhide B2).size (by omega))
  have hz3 : w2.heap.size ≤ w3.heap.size := hg3.size
  clear hg3 hR3 Y2 B2 R2
  go_wp2_with fail
  refine (session_any g fi3 nx L _ (unhide R3) (unhide HSM2)).mono ?_
  rintro e w4 ⟨a4, c4, rfl, ho4, hb4⟩
  have O4 := hide ho4
  have Y4 := hide ((unhide Y3).below hb4 (by omega))
  have B4 := hide ((unhide B3).trans (hb4.mono (unhide B3).size))
  clear hb4 ho4 Y3 B3
  obtain ⟨y0, y1, yf, yz⟩ := unhide Y4
  go_wp2
  refine bodyPost_ret (v := .tuple #[.agg #[.int .i64 nx, .slice a4 L.length c4], .string t, .bool true]) (by simp [results, Try.results18, go_sem, y0, y1]) rfl ⟨a4, c4, rfl, OwnV.left (B := w3.heap.size) (cap := c4) ?_ (by omega) ?_⟩
  · repeat (refine OwnV.set ?_ (by first | (simp; done) | (simp; omega)) _)
    exact unhide O4
  · repeat (refine Below.setCell ?_ (by first | (simp; done) | (simp; omega)) _)
    exact unhide B4
end Sess
end Go.Proofs.Ytmbkdejlbeailaa
