/-
  The program's isMoving and ringsOf.
-/
import Derived.Test.YthgcfklfpllgnaaDoorZ9
import Derived.Test.YthgcfklfpllgnaaDoorZ23
import Derived.Test.YthgcfklfpllgnaaDoorZ22
namespace Go.Proofs.YthgcfklfpllgnaaDoor
namespace Clus
open Go.RowKit Base GoodKey Marks
set_option linter.unusedVariables false

set_option maxRecDepth 10000 in
set_option maxHeartbeats 1000000 in
theorem moving_any (now nx lim lost : Int) (b1 b2 b3 : Nat) (ns cs : List Nodes.D) (L : List Pls.Pl) (w : World) :
    Calls Tryd.prog 49 #[.agg #[.int .i64 now, .int .i64 nx, .int .i64 lim, .int .i64 lost, .slice (some ⟨b1, 0, none⟩) ns.length ns.length, .slice (some ⟨b2, 0, none⟩) cs.length cs.length, .slice (some ⟨b3, 0, none⟩) L.length L.length]] w fun e w' => e = .returned (.bool (decide (0 < (cs.length : Int)))) ∧ Below w.heap.size w w' := by
  go_enter Tryd.func49, Tryd.ntmps49
  go_wp2
  go_ret
  exact ⟨ret_bool (by first | rfl | simp), bel1 w _⟩

set_option maxRecDepth 10000 in
set_option maxHeartbeats 2000000 in
theorem rings_any (now nx lim lost : Int) (b1 b2 b3 : Nat) (ns cs : List Nodes.D) (L : List Pls.Pl) (w : World) (hR : CR w b1 b2 b3 ns cs L) (h1 : NodesM.gnB ns = true) (h2 : cs = [] ∨ NodesM.gnB cs = true) (hv : Ring.Vars w) :
    Calls Tryd.prog 39 #[.agg #[.int .i64 now, .int .i64 nx, .int .i64 lim, .int .i64 lost, .slice (some ⟨b1, 0, none⟩) ns.length ns.length, .slice (some ⟨b2, 0, none⟩) cs.length cs.length, .slice (some ⟨b3, 0, none⟩) L.length L.length]] w fun e w' => ∃ g1 c1 g2 c2, e = .returned (.tuple #[.slice (some ⟨g1, 0, none⟩) (Ring.points ns).length c1, .slice (some ⟨g2, 0, none⟩) (Ring.points (goal ns cs)).length c2]) ∧
      RowAt w' g1 113 ((Ring.points ns).length * 2) (Points.icell (Ring.ring (Ring.points ns))) ∧ RowAt w' g2 113 ((Ring.points (goal ns cs)).length * 2) (Points.icell (Ring.ring (Ring.points (goal ns cs)))) ∧ Below w.heap.size w w' := by
  have HV := hide hv
  have RN := hide (fun w' (hb : Below w.heap.size w w') => Ring.ringOf_some b1 0 ns.length ns w' (hR.below hb (Nat.le_refl _)).n.lt (Nodes.at_row (hR.below hb (Nat.le_refl _)).n) h1 (hv.below hb))
  have HM := hide (fun w' => moving_any now nx lim lost b1 b2 b3 ns cs L w')
  rcases h2 with h2 | h2
  · have hcp : decide (0 < (cs.length : Int)) = false := by rw [h2]; rfl
    have eg : goal ns cs = ns := by rw [h2]; rfl
    rw [eg]
    rw [hcp] at HM
    clear hR h1 h2 hv eg hcp
    generalize (Ring.points ns).length = n at RN ⊢
    generalize Points.icell (Ring.ring (Ring.points ns)) = F at RN ⊢
    go_enter Tryd.func39, Tryd.ntmps39
    go_wp2_with fail
    refine (unhide RN _ (bel1 w _)).mono ?_
    rintro e w1 ⟨g1, c1, rfl, -, hr1, hb1⟩
    simp only [World.size_alloc] at hb1
    have B1 := hide ((bel1 w _).trans (hb1.mono (by omega)))
    have hx := boxcell hb1
    have R1 := hide hr1
    clear hb1 hr1
    go_wp2_with fail
    refine (unhide HM _).mono ?_
    rintro e w2 ⟨rfl, hb2⟩
    have B2 := hide ((unhide B1).trans (hb2.mono (unhide B1).size))
    have R2 := hide ((unhide R1).below hb2 (unhide R1).lt)
    clear hb2 hx R1
    go_wp2
    go_ret2
    exact ⟨g1, c1, g1, c1, rfl, unhide R2, unhide R2, unhide B2⟩
  · have hne : 0 < cs.length := List.length_pos_iff.2 (fun e => by rw [e] at h2; simp [NodesM.gnB, inB] at h2)
    have hcp : decide (0 < (cs.length : Int)) = true := by simp; omega
    have eg : goal ns cs = cs := by unfold goal; cases cs; simp at hne; rfl
    rw [eg]
    rw [hcp] at HM
    have RC := hide (fun w' (hb : Below w.heap.size w w') => Ring.ringOf_some b2 0 cs.length cs w' (hR.below hb (Nat.le_refl _)).c.lt (Nodes.at_row (hR.below hb (Nat.le_refl _)).c) h2 (hv.below hb))
    clear hR h1 h2 hv eg hcp hne
    generalize (Ring.points ns).length = n at RN ⊢
    generalize Points.icell (Ring.ring (Ring.points ns)) = F at RN ⊢
    generalize (Ring.points cs).length = m at RC ⊢
    generalize Points.icell (Ring.ring (Ring.points cs)) = G at RC ⊢
    go_enter Tryd.func39, Tryd.ntmps39
    go_wp2_with fail
    refine (unhide RN _ (bel1 w _)).mono ?_
    rintro e w1 ⟨g1, c1, rfl, -, hr1, hb1⟩
    simp only [World.size_alloc] at hb1
    have X1 := hide hb1
    have hz1 : w.heap.size + 1 ≤ w1.heap.size := by have := hb1.size; simp at this; omega
    have B1 := hide ((bel1 w _).trans (hb1.mono (by omega)))
    have hx := boxcell hb1
    have R1 := hide hr1
    clear hb1 hr1
    go_wp2_with fail
    refine (unhide HM _).mono ?_
    rintro e w2 ⟨rfl, hb2⟩
    have B2 := hide ((unhide B1).trans (hb2.mono (unhide B1).size))
    have X2 := hide ((unhide X1).trans (hb2.mono hz1))
    have hx2 := boxcell (unhide X2)
    have R2 := hide ((unhide R1).below hb2 (unhide R1).lt)
    clear hb2 hx R1 X1
    go_wp2_with fail
    refine (unhide RC _ (unhide B2)).mono ?_
    rintro e w3 ⟨g2, c2, rfl, -, hr3, hb3⟩
    have B3 := hide ((unhide B2).trans (hb3.mono (unhide B2).size))
    have R3 := hide ((unhide R2).below hb3 (unhide R2).lt)
    have S3 := hide hr3
    clear hb3 hr3 hx2 R2
    go_wp2
    go_ret2
    exact ⟨g1, c1, g2, c2, rfl, unhide R3, unhide S3, unhide B3⟩
end Clus
end Go.Proofs.YthgcfklfpllgnaaDoor
