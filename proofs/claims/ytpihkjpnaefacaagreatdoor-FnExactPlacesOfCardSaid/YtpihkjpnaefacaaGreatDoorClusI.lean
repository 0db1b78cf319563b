/-
  The program's GoodCluster: it answers by the plain function, for every cluster that a call has laid itself.
-/
import Derived.Test.YtpihkjpnaefacaaGreatDoorClusB
import Derived.Test.YtpihkjpnaefacaaGreatDoorKeepZ
namespace Go.Proofs.YtpihkjpnaefacaaGreatDoor
namespace Clus
open Go.RowKit Base GoodKey Items Store Plc Marks
set_option linter.unusedVariables false

theorem gnow_any (n : Int) (w : World) : Calls Tryz.prog 39 #[.int .i64 n] w fun e w' => e = .returned (.bool (inB n 0 1000000000)) ∧ w' = w := by
  go_enter Tryz.func39, Tryz.ntmps39
  go_wp2
  all_goals
    go_ret
    refine ⟨ret_bool ?_, rfl⟩
    simp [inB]; omega
theorem gnext_any (n : Int) (w : World) : Calls Tryz.prog 40 #[.int .i64 n] w fun e w' => e = .returned (.bool (inB n 1 1000000000)) ∧ w' = w := by
  go_enter Tryz.func40, Tryz.ntmps40
  go_wp2
  all_goals
    go_ret
    refine ⟨ret_bool ?_, rfl⟩
    simp [inB]; omega
theorem glimit_any (n : Int) (w : World) : Calls Tryz.prog 41 #[.int .i64 n] w fun e w' => e = .returned (.bool (inB n 0 10000)) ∧ w' = w := by
  go_enter Tryz.func41, Tryz.ntmps41
  go_wp2
  all_goals
    go_ret
    refine ⟨ret_bool ?_, rfl⟩
    simp [inB]; omega
theorem inodes_row (b : Nat) (l : List Nodes.D) (t : TypeId) (w : World) (h : w.rowIs b t (l.length * 2) (Nodes.icell l)) (hl : l.length ≤ maxLen) (hf : ∀ x ∈ l, Nodes.Fits x) :
    Calls Tryz.prog 42 #[.slice (some ⟨b, 0, none⟩) l.length l.length] w fun e w' => e = .returned (.bool (NodesM.gnB l)) ∧ Below w.heap.size w w' :=
  NodesM.inodes_some b 0 l.length l w h.lt (Nodes.at_row h) hl hf
theorem places_use {c : CC} {L : List Pls.Pl} (hL : c.ps = L.map Pls.core) (h : placesB c = true) (hn : c.ns.length ≤ 8) (hc : c.cs.length ≤ 8) : L.length ≤ 16 ∧ ∀ k, k < L.length → gsB (L.getD k Pls.zeroL).lim (L.getD k Pls.zeroL).nx (L.getD k Pls.zeroL).its = true := by
  unfold placesB at h
  rw [Bool.and_eq_true, decide_eq_true_eq, List.all_eq_true] at h
  have hlen : c.ps.length = L.length := by rw [hL]; simp
  have h1 := insAll_len (c.ns.map (·.name) ++ c.cs.map (·.name))
  rw [List.length_append, List.length_map, List.length_map] at h1
  have h2 : (names c).length = L.length := h.1.trans hlen
  have h3 : (names c).length ≤ c.ns.length + c.cs.length := h1
  refine ⟨by omega, fun k hk => ?_⟩
  exact ((pl_iff hL).1 (h.2 k (by simpa [hlen] using hk))).2.1

set_option maxRecDepth 10000 in
set_option maxHeartbeats 4000000 in
theorem good_impl (now nx lim lost : Int) (b1 b2 b3 : Nat) (ns cs : List Nodes.D) (L : List Pls.Pl) (w : World) (hR : CR w b1 b2 b3 ns cs L) (ln : ns.length ≤ 1048576) (fn : ∀ x ∈ ns, Nodes.Fits x) (lc : cs.length ≤ 1048576) (fc : ∀ x ∈ cs, Nodes.Fits x) (lp : L.length ≤ 1048576) (fp : ∀ x ∈ L, Pls.Fits x) (hv : Ring.Vars w) :
    Calls Tryz.prog 11 #[.agg #[.int .i64 now, .int .i64 nx, .int .i64 lim, .int .i64 lost, .slice (some ⟨b1, 0, none⟩) ns.length ns.length, .slice (some ⟨b2, 0, none⟩) cs.length cs.length, .slice (some ⟨b3, 0, none⟩) L.length L.length]] w fun e w' => e = .returned (.bool (gcB ⟨now, nx, lim, lost, ns, cs, L.map Pls.core⟩)) ∧ Below w.heap.size w w' := by
  obtain ⟨C, hC⟩ : ∃ C : CC, C = ⟨now, nx, lim, lost, ns, cs, L.map Pls.core⟩ := ⟨_, rfl⟩
  rw [← hC]
  have hCL : C.ps = L.map Pls.core := by rw [hC]
  have hEQ := gc_eq C
  have mn : ns.length ≤ maxLen := by unfold maxLen; omega
  have mc : cs.length ≤ maxLen := by unfold maxLen; omega
  have GN := hide (fun w' (hb : Below w.heap.size w w') => inodes_row b1 ns 90 w' (hR.below hb (Nat.le_refl _)).n mn fn)
  have GC := hide (fun w' (hb : Below w.heap.size w w') => inodes_row b2 cs 90 w' (hR.below hb (Nat.le_refl _)).c mc fc)
  have HM := hide (fun w' => moving_any now nx lim lost b1 b2 b3 ns cs L w')
  cases hh : headB C
  · have H := hide (gc_head hh)
    have hno : Hid (¬ (inB now 0 1000000000 = true ∧ inB nx 1 1000000000 = true ∧ inB lim 0 10000 = true ∧ (0 ≤ lost ∧ lost ≤ 1000000) ∧ NodesM.gnB ns = true ∧ (cs = [] ∨ NodesM.gnB cs = true))) := fun e => by
      have := (head_iff C).2 (by rw [hC]; exact ⟨e.1, e.2.1, e.2.2.1, by simp [inB]; omega, e.2.2.2.2⟩)
      rw [hh] at this; cases this
    rw [unhide H]
    clear hh H hCL hC fn fc fp hR mn mc hEQ hv
    have hE : Hid (cs.length = 0 → cs = []) := fun h => List.length_eq_zero_iff.1 h
    generalize NodesM.gnB ns = gn at GN hno
    generalize NodesM.gnB cs = gc at GC hno
    have hl3 : lost < 0 ∨ 1000000 < lost ∨ (0 ≤ lost ∧ lost ≤ 1000000) := by omega
    rcases hl3 with hl3 | hl3 | hl3
    all_goals
      go_enter Tryz.func11, Tryz.ntmps11
      go_wp2_with (first | (go_at_call 39; refine (gnow_any _ _).mono ?_; rintro e w' ⟨rfl, rfl⟩) | (go_at_call 40; refine (gnext_any _ _).mono ?_; rintro e w' ⟨rfl, rfl⟩) | (go_at_call 41; refine (glimit_any _ _).mono ?_; rintro e w' ⟨rfl, rfl⟩) | fail)
      all_goals try (go_ret; exact ⟨rfl, bel1 w _⟩)
    refine (unhide GN _ (bel1 w _)).mono ?_
    rintro e w1 ⟨rfl, hb1⟩
    have B1 := hide ((bel1 w _).trans (hb1.mono (by simp)))
    simp only [World.size_alloc] at hb1
    have X1 := hide hb1
    have hz1 : w.heap.size + 1 ≤ w1.heap.size := by have := hb1.size; simp at this; omega
    have hx := boxcell hb1
    clear hb1
    cases gn
    · go_wp2
      go_ret
      exact ⟨rfl, unhide B1⟩
    by_cases hcz : cs.length = 0
    · exact absurd ⟨by assumption, by assumption, by assumption, ⟨by omega, by omega⟩, by first | trivial | rfl, .inl (unhide hE hcz)⟩ (unhide hno)
    have hcp : decide (0 < (cs.length : Int)) = true := by simp; omega
    rw [hcp] at HM
    clear hcp
    go_wp2_with fail
    refine (unhide HM _).mono ?_
    rintro e w2 ⟨rfl, hb2⟩
    have B2 := hide ((unhide B1).trans (hb2.mono (unhide B1).size))
    have hx2 := boxcell ((unhide X1).trans (hb2.mono hz1))
    clear hb2 hx
    go_wp2_with fail
    refine (unhide GC _ (unhide B2)).mono ?_
    rintro e w3 ⟨rfl, hb3⟩
    have B3 := hide ((unhide B2).trans (hb3.mono (unhide B2).size))
    clear hb3 hx2
    cases gc
    · go_wp2
      go_ret
      exact ⟨rfl, unhide B3⟩
    · exact absurd ⟨by assumption, by assumption, by assumption, ⟨by omega, by omega⟩, by first | trivial | rfl, by first | exact .inr rfl | (right; trivial) | trivial⟩ (unhide hno)
  obtain ⟨g1, g2, g3, g4, g5, g6⟩ : inB now 0 1000000000 = true ∧ inB nx 1 1000000000 = true ∧ inB lim 0 10000 = true ∧ inB lost 0 1000000 = true ∧ NodesM.gnB ns = true ∧ (cs = [] ∨ NodesM.gnB cs = true) := by
    have := (head_iff C).1 hh
    rw [hC] at this
    exact this
  have g4' : 0 ≤ lost ∧ lost ≤ 1000000 := by simp [inB] at g4; omega
  have hn8 := Ring.good_len g5
  have hc8 : cs.length ≤ 8 := by
    rcases g6 with e | e
    · rw [e]; simp
    · exact (Ring.good_len e).2
  have HPI := hide (fun w' (hb : Below w.heap.size w w') => places_impl now nx lim lost b1 b2 b3 ns cs L w' (hR.below hb (Nat.le_refl _)) hn8.2 hc8 (by omega) lp fp)
  have HKI := hide (fun w' (hb : Below w.heap.size w w') (h16 : L.length ≤ 16) hgs => keep_impl now nx lim lost b1 b2 b3 ns cs L w' (hR.below hb (Nat.le_refl _)) g5 g6 h16 fp hgs (hv.below hb))
  rw [← hC] at HPI HKI
  have HUSE := hide (fun h => @places_use C L hCL h (by rw [hC]; exact hn8.2) (by rw [hC]; exact hc8))
  rw [hh, Bool.true_and] at hEQ
  have HEQ := hide hEQ
  rw [g5] at GN
  clear hEQ hh hCL fn fc fp mn mc hC hR hv g4 g5
  generalize placesB C = pB at HPI HEQ HUSE
  generalize keepB C = kB at HKI HEQ
  rcases g6 with g6 | g6
  · have hcp : decide (0 < (cs.length : Int)) = false := by rw [g6]; rfl
    rw [hcp] at HM
    clear hcp g6
    go_enter Tryz.func11, Tryz.ntmps11
    go_wp2_with (first | (go_at_call 39; refine (gnow_any _ _).mono ?_; rintro e w' ⟨rfl, rfl⟩) | (go_at_call 40; refine (gnext_any _ _).mono ?_; rintro e w' ⟨rfl, rfl⟩) | (go_at_call 41; refine (glimit_any _ _).mono ?_; rintro e w' ⟨rfl, rfl⟩) | fail)
    refine (unhide GN _ (bel1 w _)).mono ?_
    rintro e w1 ⟨rfl, hb1⟩
    have B1 := hide ((bel1 w _).trans (hb1.mono (by simp)))
    simp only [World.size_alloc] at hb1
    have X1 := hide hb1
    have hz1 : w.heap.size + 1 ≤ w1.heap.size := by have := hb1.size; simp at this; omega
    have hx1 := boxcell hb1
    clear hb1
    go_wp2_with fail
    refine (unhide HM _).mono ?_
    rintro e w2 ⟨rfl, hb2⟩
    have B2 := hide ((unhide B1).trans (hb2.mono (unhide B1).size))
    have X2 := hide ((unhide X1).trans (hb2.mono hz1))
    have hz2 : w.heap.size + 1 ≤ w2.heap.size := by have := hb2.size; omega
    have hx2 := boxcell (unhide X2)
    clear hb2 hx1 X1
    go_wp2_with fail
    refine (unhide HPI _ (unhide B2)).mono ?_
    rintro e w4 ⟨rfl, hb4⟩
    have B4 := hide ((unhide B2).trans (hb4.mono (unhide B2).size))
    have hx4 := boxcell ((unhide X2).trans (hb4.mono hz2))
    clear hb4 hx2
    cases pB
    · have H : Hid (gcB C = false) := unhide HEQ
      go_wp2
      go_ret
      exact ⟨ret_bool (unhide H).symm, unhide B4⟩
    have HU := hide (unhide HUSE rfl)
    have HKI := hide (unhide HKI w4 (unhide B4) (unhide HU).1 (unhide HU).2)
    have H : Hid (gcB C = kB) := hide (by rw [unhide HEQ]; rfl)
    clear HU HUSE HEQ
    cases kB
    all_goals
      go_wp2_with fail
      refine (unhide HKI).mono ?_
      rintro e w5 ⟨rfl, hb5⟩
      have B5 := hide ((unhide B4).trans (hb5.mono (unhide B4).size))
      clear hb5 hx4
      go_wp2
      go_ret
      exact ⟨ret_bool (unhide H).symm, unhide B5⟩
  · have hcp : decide (0 < (cs.length : Int)) = true := by
      have : 0 < cs.length := List.length_pos_iff.2 (fun e => by rw [e] at g6; simp [NodesM.gnB, inB] at g6)
      simp; omega
    rw [g6] at GC
    rw [hcp] at HM
    clear hcp g6
    go_enter Tryz.func11, Tryz.ntmps11
    go_wp2_with (first | (go_at_call 39; refine (gnow_any _ _).mono ?_; rintro e w' ⟨rfl, rfl⟩) | (go_at_call 40; refine (gnext_any _ _).mono ?_; rintro e w' ⟨rfl, rfl⟩) | (go_at_call 41; refine (glimit_any _ _).mono ?_; rintro e w' ⟨rfl, rfl⟩) | fail)
    refine (unhide GN _ (bel1 w _)).mono ?_
    rintro e w1 ⟨rfl, hb1⟩
    have B1 := hide ((bel1 w _).trans (hb1.mono (by simp)))
    simp only [World.size_alloc] at hb1
    have X1 := hide hb1
    have hz1 : w.heap.size + 1 ≤ w1.heap.size := by have := hb1.size; simp at this; omega
    have hx1 := boxcell hb1
    clear hb1
    go_wp2_with fail
    refine (unhide HM _).mono ?_
    rintro e w2 ⟨rfl, hb2⟩
    have B2 := hide ((unhide B1).trans (hb2.mono (unhide B1).size))
    have X2 := hide ((unhide X1).trans (hb2.mono hz1))
    have hz2 : w.heap.size + 1 ≤ w2.heap.size := by have := hb2.size; omega
    have hx2 := boxcell (unhide X2)
    clear hb2 hx1 X1
    go_wp2_with fail
    refine (unhide GC _ (unhide B2)).mono ?_
    rintro e w3 ⟨rfl, hb3⟩
    have B3 := hide ((unhide B2).trans (hb3.mono (unhide B2).size))
    have X3 := hide ((unhide X2).trans (hb3.mono hz2))
    have hz3 : w.heap.size + 1 ≤ w3.heap.size := by have := hb3.size; omega
    have hx3 := boxcell (unhide X3)
    clear hb3 hx2 X2
    go_wp2_with fail
    refine (unhide HPI _ (unhide B3)).mono ?_
    rintro e w4 ⟨rfl, hb4⟩
    have B4 := hide ((unhide B3).trans (hb4.mono (unhide B3).size))
    have hx4 := boxcell ((unhide X3).trans (hb4.mono hz3))
    clear hb4 hx3
    cases pB
    · have H : Hid (gcB C = false) := unhide HEQ
      go_wp2
      go_ret
      exact ⟨ret_bool (unhide H).symm, unhide B4⟩
    have HU := hide (unhide HUSE rfl)
    have HKI := hide (unhide HKI w4 (unhide B4) (unhide HU).1 (unhide HU).2)
    have H : Hid (gcB C = kB) := hide (by rw [unhide HEQ]; rfl)
    clear HU HUSE HEQ
    cases kB
    all_goals
      go_wp2_with fail
      refine (unhide HKI).mono ?_
      rintro e w5 ⟨rfl, hb5⟩
      have B5 := hide ((unhide B4).trans (hb5.mono (unhide B4).size))
      clear hb5 hx4
      go_wp2
      go_ret
      exact ⟨ret_bool (unhide H).symm, unhide B5⟩
end Clus
end Go.Proofs.YtpihkjpnaefacaaGreatDoor
