/-
  The program's GoodCluster: it answers by the plain function, for every cluster that a call has laid itself.
-/
import Derived.Test.YtkodgbalhnbhcaaGreatDoorZ27
import Derived.Test.YtkodgbalhnbhcaaGreatDoorOpenI
import Derived.Test.YtkodgbalhnbhcaaGreatDoorZ26
import Derived.Test.YtkodgbalhnbhcaaGreatDoorZ16
namespace Go.Proofs.YtkodgbalhnbhcaaGreatDoor
namespace Clus
open Go.RowKit Base GoodKey Items Store Plc Marks
set_option linter.unusedVariables false

theorem gnow_any (n : Int) (w : World) : Calls Tryz.prog 60 #[.int .i64 n] w fun e w' => e = .returned (.bool (inB n 0 1000000000)) ∧ w' = w := by
  go_enter Tryz.func60, Tryz.ntmps60
  go_wp2
  all_goals
    go_ret
    refine ⟨ret_bool ?_, rfl⟩
    simp [inB]; omega
theorem gnext_any (n : Int) (w : World) : Calls Tryz.prog 61 #[.int .i64 n] w fun e w' => e = .returned (.bool (inB n 1 1000000000)) ∧ w' = w := by
  go_enter Tryz.func61, Tryz.ntmps61
  go_wp2
  all_goals
    go_ret
    refine ⟨ret_bool ?_, rfl⟩
    simp [inB]; omega
theorem glimit_any (n : Int) (w : World) : Calls Tryz.prog 62 #[.int .i64 n] w fun e w' => e = .returned (.bool (inB n 0 10000)) ∧ w' = w := by
  go_enter Tryz.func62, Tryz.ntmps62
  go_wp2
  all_goals
    go_ret
    refine ⟨ret_bool ?_, rfl⟩
    simp [inB]; omega
theorem inodes_row (b : Nat) (l : List Nodes.D) (t : TypeId) (w : World) (h : w.rowIs b t (l.length * 2) (Nodes.icell l)) (hl : l.length ≤ maxLen) (hf : ∀ x ∈ l, Nodes.Fits x) :
    Calls Tryz.prog 63 #[.slice (some ⟨b, 0, none⟩) l.length l.length] w fun e w' => e = .returned (.bool (NodesM.gnB l)) ∧ Below w.heap.size w w' :=
  NodesM.inodes_some b 0 l.length l w h.lt (Nodes.at_row h) hl hf
theorem places_use {c : CC} {L : List Pls.Pl} (hL : c.ps = L.map Pls.core) (h : placesB c = true) (hn : c.ns.length ≤ 8) (hc : c.cs.length ≤ 8) : L.length ≤ 16 ∧ ∀ k, k < L.length → gsB (L.getD k Pls.zeroL).lim (L.getD k Pls.zeroL).nx (L.getD k Pls.zeroL).its = true := by
  unfold placesB at h
  rw [Bool.and_eq_true, decide_eq_true_eq, List.all_eq_true] at h
  have hlen : c.ps.length = L.length := by rw [hL]; simp
  have h1 := insAll_len (c.ns.map (·.name) ++ c.cs.map (·.name))
  rw [List.length_append, List.length_map, List.length_map] at h1
  have h2 : (names c).length = L.length := h.1.trans hlen
  have h3 : (names c).length ≤ c.ns.length + c.cs.length := h1
  refine ⟨by omega, fun k hk => ?_⟩
  exact ((pl_iff hL).1 (h.2 k (by simpa [hlen] using hk))).2.1

set_option maxRecDepth 10000 in
set_option maxHeartbeats 4000000 in
theorem good_impl (now nx lim lost : Int) (b1 b2 b3 : Nat) (ns cs : List Nodes.D) (L : List Pls.Pl) (w : World) (hR : CR w b1 b2 b3 ns cs L) (ln : ns.length ≤ 1048576) (fn : ∀ x ∈ ns, Nodes.Fits x) (lc : cs.length ≤ 1048576) (fc : ∀ x ∈ cs, Nodes.Fits x) (lp : L.length ≤ 1048576) (fp : ∀ x ∈ L, Pls.Fits x) (hv : Ring.Vars w) :
    Calls Tryz.prog 24 #[.agg #[.int .i64 now, .int .i64 nx, .int .i64 lim, .int .i64 lost, .slice (some ⟨b1, 0, none⟩) ns.length ns.length, .slice (some ⟨b2, 0, none⟩) cs.length cs.length, .slice (some ⟨b3, 0, none⟩) L.length L.length]] w fun e w' => e = .returned (.bool (gcB ⟨now, nx, lim, lost, ns, cs, L.map Pls.core⟩)) ∧ Below w.heap.size w w' := by
  obtain ⟨C, hC⟩ : ∃ C : CC, C = ⟨now, nx, lim, lost, ns, cs, L.map Pls.core⟩ := ⟨_, rfl⟩
  rw [← hC]
  have hCL : C.ps = L.map Pls.core := by rw [hC]
  have hEQ := gc_eq C
  have mn : ns.length ≤ maxLen := by unfold maxLen; omega
  have mc : cs.length ≤ maxLen := by unfold maxLen; omega
  have GN := hide (fun w' (hb : Below w.heap.size w w') => inodes_row b1 ns 76 w' (hR.below hb (Nat.le_refl _)).n mn fn)
  have GC := hide (fun w' (hb : Below w.heap.size w w') => inodes_row b2 cs 76 w' (hR.below hb (Nat.le_refl _)).c mc fc)
  have HM := hide (fun w' => moving_any now nx lim lost b1 b2 b3 ns cs L w')
  cases hh : headB C
  · have H := hide (gc_head hh)
    have hno : Hid (¬ (inB now 0 1000000000 = true ∧ inB nx 1 1000000000 = true ∧ inB lim 0 10000 = true ∧ (0 ≤ lost ∧ lost ≤ 1000000) ∧ NodesM.gnB ns = true ∧ (cs = [] ∨ NodesM.gnB cs = true))) := fun e => by
      have := (head_iff C).2 (by rw [hC]; exact ⟨e.1, e.2.1, e.2.2.1, by simp [inB]; omega, e.2.2.2.2⟩)
      rw [hh] at this; cases this
    rw [unhide H]
    clear hh H hCL hC fn fc fp hR mn mc hEQ hv
    have hE : Hid (cs.length = 0 → cs = []) := fun h => List.length_eq_zero_iff.1 h
    generalize NodesM.gnB ns = gn at GN hno
    generalize NodesM.gnB cs = gc at GC hno
    have hl3 : lost < 0 ∨ 1000000 < lost ∨ (0 ≤ lost ∧ lost ≤ 1000000) := by omega
    rcases hl3 with hl3 | hl3 | hl3
    all_goals
      go_enter Tryz.func24, Tryz.ntmps24
      go_wp2_with (first | (go_at_call 60; refine (gnow_any _ _).mono ?_; rintro e w' ⟨rfl, rfl⟩) | (go_at_call 61; refine (gnext_any _ _).mono ?_; rintro e w' ⟨rfl, rfl⟩) | (go_at_call 62; refine (glimit_any _ _).mono ?_; rintro e w' ⟨rfl, rfl⟩) | fail)
      all_goals try (go_ret; exact ⟨rfl, bel1 w _⟩)
    refine (unhide GN _ (bel1 w _)).mono ?_
    rintro e w1 ⟨rfl, hb1⟩
    have B1 := hide ((bel1 w _).trans (hb1.mono (by simp)))
    simp only [World.size_alloc] at hb1
    have X1 := hide hb1
    have hz1 : w.heap.size + 1 ≤ w1.heap.size := by have := hb1.size; simp at this; omega
    have hx := boxcell hb1
    clear hb1
    cases gn
    · go_wp2
      go_ret
      exact ⟨rfl, unhide B1⟩
    by_cases hcz : cs.length = 0
    · exact absurd ⟨by assumption, by assumption, by assumption, ⟨by omega, by omega⟩, by first | trivial | rfl, .inl (unhide hE hcz)⟩ (unhide hno)
    have hcp : decide (0 < (cs.length : Int)) = true := by simp; omega
    rw [hcp] at HM
    clear hcp
    go_wp2_with fail
    refine (unhide HM _).mono ?_
    rintro e w2 ⟨rfl, hb2⟩
    have B2 := hide ((unhide B1).trans (hb2.mono (unhide B1).size))
    have hx2 := boxcell ((unhide X1).trans (hb2.mono hz1))
    clear hb2 hx
    go_wp2_with fail
    refine (unhide GC _ (unhide B2)).mono ?_
    rintro e w3 ⟨rfl, hb3⟩
    have B3 := hide ((unhide B2).trans (hb3.mono (unhide B2).size))
    clear hb3 hx2
    cases gc
    · go_wp2
      go_ret
      exact ⟨rfl, unhide B3⟩
    · exact absurd ⟨by assumption, by assumption, by assumption, ⟨by omega, by omega⟩, by first | trivial | rfl, by first | exact .inr rfl | (right; trivial) | trivial⟩ (unhide hno)
  obtain ⟨g1, g2, g3, g4, g5, g6⟩ : inB now 0 1000000000 = true ∧ inB nx 1 1000000000 = true ∧ inB lim 0 10000 = true ∧ inB lost 0 1000000 = true ∧ NodesM.gnB ns = true ∧ (cs = [] ∨ NodesM.gnB cs = true) := by
    have := (head_iff C).1 hh
    rw [hC] at this
    exact this
  have g4' : 0 ≤ lost ∧ lost ≤ 1000000 := by simp [inB] at g4; omega
  have hn8 := Ring.good_len g5
  have hc8 : cs.length ≤ 8 := by
    rcases g6 with e | e
    · rw [e]; simp
    · exact (Ring.good_len e).2
  have HPI := hide (fun w' (hb : Below w.heap.size w w') => places_impl now nx lim lost b1 b2 b3 ns cs L w' (hR.below hb (Nat.le_refl _)) hn8.2 hc8 (by omega) lp fp)
  have HKI := hide (fun w' (hb : Below w.heap.size w w') (h16 : L.length ≤ 16) hgs => keep_impl now nx lim lost b1 b2 b3 ns cs L w' (hR.below hb (Nat.le_refl _)) g5 g6 h16 fp hgs (hv.below hb))
  rw [← hC] at HPI HKI
  have HUSE := hide (fun h => @places_use C L hCL h (by rw [hC]; exact hn8.2) (by rw [hC]; exact hc8))
  rw [hh, Bool.true_and] at hEQ
  have HEQ := hide hEQ
  rw [g5] at GN
  clear hEQ hh hCL fn fc fp mn mc hC hR hv g4 g5
  generalize placesB C = pB at HPI HEQ HUSE
  generalize keepB C = kB at HKI HEQ
  rcases g6 with g6 | g6
  · have hcp : decide (0 < (cs.length : Int)) = false := by rw [g6]; rfl
    rw [hcp] at HM
    clear hcp g6
    go_enter Tryz.func24, Tryz.ntmps24
    go_wp2_with (first | (go_at_call 60; refine (gnow_any _ _).mono ?_; rintro e w' ⟨rfl, rfl⟩) | (go_at_call 61; refine (gnext_any _ _).mono ?_; rintro e w' ⟨rfl, rfl⟩) | (go_at_call 62; refine (glimit_any _ _).mono ?_; rintro e w' ⟨rfl, rfl⟩) | fail)
    refine (unhide GN _ (bel1 w _)).mono ?_
    rintro e w1 ⟨rfl, hb1⟩
    have B1 := hide ((bel1 w _).trans (hb1.mono (by simp)))
    simp only [World.size_alloc] at hb1
    have X1 := hide hb1
    have hz1 : w.heap.size + 1 ≤ w1.heap.size := by have := hb1.size; simp at this; omega
    have hx1 := boxcell hb1
    clear hb1
    go_wp2_with fail
    refine (unhide HM _).mono ?_
    rintro e w2 ⟨rfl, hb2⟩
    have B2 := hide ((unhide B1).trans (hb2.mono (unhide B1).size))
    have X2 := hide ((unhide X1).trans (hb2.mono hz1))
    have hz2 : w.heap.size + 1 ≤ w2.heap.size := by have := hb2.size; omega
    have hx2 := boxcell (unhide X2)
    clear hb2 hx1 X1
    go_wp2_with fail
    refine (unhide HPI _ (unhide B2)).mono ?_
    rintro e w4 ⟨rfl, hb4⟩
    have B4 := hide ((unhide B2).trans (hb4.mono (unhide B2).size))
    have hx4 := boxcell ((unhide X2).trans (hb4.mono hz2))
    clear hb4 hx2
    cases pB
    · have H : Hid (gcB C = false) := unhide HEQ
      go_wp2
      go_ret
      exact ⟨ret_bool (unhide H).symm, unhide B4⟩
    have HU := hide (unhide HUSE rfl)
    have HKI := hide (unhide HKI w4 (unhide B4) (unhide HU).1 (unhide HU).2)
    have H : Hid (gcB C = kB) := hide (by rw [unhide HEQ]; rfl)
    clear HU HUSE HEQ
    cases kB
    all_goals
      go_wp2_with fail
      refine (unhide HKI).mono ?_
      rintro e w5 ⟨rfl, hb5⟩
      have B5 := hide ((unhide B4).trans (hb5.mono (unhide B4).size))
      clear hb5 hx4
      go_wp2
      go_ret
      exact ⟨ret_bool (unhide H).symm, unhide B5⟩
  · have hcp : decide (0 < (cs.length : Int)) = true := by
      have : 0 < cs.length := List.length_pos_iff.2 (fun e => by rw [e] at g6; simp [NodesM.gnB, inB] at g6)
      simp; omega
    rw [g6] at GC
    rw [hcp] at HM
    clear hcp g6
    go_enter Tryz.func24, Tryz.ntmps24
    go_wp2_with (first | (go_at_call 60; refine (gnow_any _ _).mono ?_; rintro e w' ⟨rfl, rfl⟩) | (go_at_call 61; refine (gnext_any _ _).mono ?_; rintro e w' ⟨rfl, rfl⟩) | (go_at_call 62; refine (glimit_any _ _).mono ?_; rintro e w' ⟨rfl, rfl⟩) | fail)
    refine (unhide GN _ (bel1 w _)).mono ?_
    rintro e w1 ⟨rfl, hb1⟩
    have B1 := hide ((bel1 w _).trans (hb1.mono (by simp)))
    simp only [World.size_alloc] at hb1
    have X1 := hide hb1
    have hz1 : w.heap.size + 1 ≤ w1.heap.size := by have := hb1.size; simp at this; omega
    have hx1 := boxcell hb1
    clear hb1
    go_wp2_with fail
    refine (unhide HM _).mono ?_
    rintro e w2 ⟨rfl, hb2⟩
    have B2 := hide ((unhide B1).trans (hb2.mono (unhide B1).size))
    have X2 := hide ((unhide X1).trans (hb2.mono hz1))
    have hz2 : w.heap.size + 1 ≤ w2.heap.size := by have := hb2.size; omega
    have hx2 := boxcell (unhide X2)
    clear hb2 hx1 X1
    go_wp2_with fail
    refine (unhide GC _ (unhide B2)).mono ?_
    rintro e w3 ⟨rfl, hb3⟩
    have B3 := hide ((unhide B2).trans (hb3.mono (unhide B2).size))
    have X3 := hide ((unhide X2).trans (hb3.mono hz2))
    have hz3 : w.heap.size + 1 ≤ w3.heap.size := by have := hb3.size; omega
    have hx3 := boxcell (unhide X3)
    clear hb3 hx2 X2
    go_wp2_with fail
    refine (unhide HPI _ (unhide B3)).mono ?_
    rintro e w4 ⟨rfl, hb4⟩
    have B4 := hide ((unhide B3).trans (hb4.mono (unhide B3).size))
    have hx4 := boxcell ((unhide X3).trans (hb4.mono hz3))
    clear hb4 hx3
    cases pB
    · have H : Hid (gcB C = false) := unhide HEQ
      go_wp2
      go_ret
      exact ⟨ret_bool (unhide H).symm, unhide B4⟩
    have HU := hide (unhide HUSE rfl)
    have HKI := hide (unhide HKI w4 (unhide B4) (unhide HU).1 (unhide HU).2)
    have H : Hid (gcB C = kB) := hide (by rw [unhide HEQ]; rfl)
    clear HU HUSE HEQ
    cases kB
    all_goals
      go_wp2_with fail
      refine (unhide HKI).mono ?_
      rintro e w5 ⟨rfl, hb5⟩
      have B5 := hide ((unhide B4).trans (hb5.mono (unhide B4).size))
      clear hb5 hx4
      go_wp2
      go_ret
      exact ⟨ret_bool (unhide H).symm, unhide B5⟩
end Clus
end Go.Proofs.YtkodgbalhnbhcaaGreatDoor
/-
  The program's (*fleet).beginMove: a move's beginning.
-/
namespace Go.Proofs.YtkodgbalhnbhcaaGreatDoor
namespace Fleet
open Go.RowKit Base Store Items OwnR Keep Clus Marks Plc
set_option linter.unusedVariables false

theorem look_eq (ps : List Pls.Core) (lim : Int) (nm : ByteArray) : Beg.look ps lim nm = match atC ps nm with | some j => ps.getD j Pls.zeroC | none => ⟨nm, lim, 1, []⟩ := by
  unfold Beg.look Beg.lookK
  rw [List.take_length]
  cases atC ps nm <;> rfl
theorem look_self {ps : List Pls.Core} {lim : Int} (hr : Rising ((ps.map (·.name)).map toL)) : (ps.map (·.name)).map (Beg.look ps lim) = ps := by
  apply List.ext_getElem
  · simp
  · intro i h1 h2
    rw [List.getElem_map, List.getElem_map, look_eq]
    cases h : atC ps ps[i].name with
    | none =>
      exfalso
      unfold atC at h
      have := List.findIdx?_eq_none_iff.1 h ps[i] (List.getElem_mem h2)
      simp at this
    | some j =>
      obtain ⟨h3, h4⟩ := at_some h
      have e := Beg.ris_ne hr (i := j) (j := i) (by simpa using h3) (by simpa using h2) (by rw [h4]; simp [List.getD_eq_getElem?_getD, List.getElem?_map, List.getElem?_eq_getElem h2])
      subst e
      simp [List.getD_eq_getElem?_getD, List.getElem?_eq_getElem h2]
theorem look_out {ps : List Pls.Core} {lim : Int} {x : ByteArray} (h : x ∉ ps.map (·.name)) : Beg.look ps lim x = ⟨x, lim, 1, []⟩ := by
  unfold Beg.look Beg.lookK
  rw [List.take_length]
  cases e : atC ps x with
  | none => rfl
  | some j =>
    obtain ⟨h3, h4⟩ := at_some e
    exfalso
    apply h
    rw [← h4, List.getD_eq_getElem?_getD, List.getElem?_eq_getElem (by simpa using h3)]
    exact List.getElem_mem _
theorem look_in (ps : List Pls.Core) (lim : Int) (x : ByteArray) : Beg.look ps lim x ∈ ps ∨ Beg.look ps lim x = ⟨x, lim, 1, []⟩ := by
  unfold Beg.look Beg.lookK
  rw [List.take_length]
  cases e : atC ps x with
  | none => exact .inr rfl
  | some j =>
    left
    have h3 := (at_some e).1
    show ps.getD j Pls.zeroC ∈ ps
    rw [List.getD_eq_getElem?_getD, List.getElem?_eq_getElem h3]
    exact List.getElem_mem _
theorem FB.set57 {w : World} {M X : Nat} {f : Fl} (h : FleetAt w M X f) (a c : Value) : FleetAt ((w.setCell ⟨X, 5, none⟩ a).setCell ⟨X, 7, none⟩ c) M X { f with v5 := a, v7 := c } ∧ Kp M X w ((w.setCell ⟨X, 5, none⟩ a).setCell ⟨X, 7, none⟩ c) := by
  refine ⟨h.rebox ((h.box.set5 a).set7 c) rfl rfl rfl ?_, (Kp.setX _ _ _).trans (Kp.setX _ _ _)⟩
  exact ((Keeps.refl [X] w).setCell (p := ⟨X, 5, none⟩) (.inl (by simp)) a).setCell (p := ⟨X, 7, none⟩) (.inl (by simp)) c

theorem begin_left {now nx lim lost : Int} {v7 : Value} {b1 b2 bn : Nat} {ns cs nd : List Nodes.D} {L : List Pls.Pl} {M X : Nat} {f : Fl} {a : Option Addr} {cap : Nat} {ps : List Pc} {w' : World} {C : CC} (hC : C = ⟨now, nx, lim, lost, ns, cs, L.map Pls.core⟩) (hg : gcB C = true) (hgn : NodesM.gnB nd = true) {v5 : Value} (hfi : FlIs f now nx lim lost (.slice (some ⟨b1, 0, none⟩) ns.length ns.length) v5 (L.map Pls.core))
    (hf : FleetAt w' M X { f with v5 := .slice (some ⟨bn, 0, none⟩) nd.length nd.length, v7 := v7, a := a, cap := cap, ps := ps }) (ho : OpnIs (ns.map (·.name) ++ nd.map (·.name)) C.ps f.lim ps) (hn : w'.rowIs b1 76 (ns.length * 2) (Nodes.icell ns)) (hN : w'.rowIs bn 76 (nd.length * 2) (Nodes.icell nd)) : Left M X (Beg.bmC C nd, 0, true) 0 w' := by
  have hCL : C.ps = L.map Pls.core := by rw [hC]
  have hCn : C.ns = ns := by rw [hC]
  obtain ⟨o1, o2, o3⟩ := gc_ok hCL hg
  obtain ⟨d1, d2, d3, d4⟩ := gc_head' hg
  rw [hCn] at d3
  obtain ⟨k1, k2⟩ := node_small d3
  obtain ⟨l1, l2⟩ := node_small hgn
  have n8 := Ring.good_len d3
  have m8 := Ring.good_len hgn
  have hlen : ps.length = (insAll (ns.map (·.name) ++ nd.map (·.name))).length := by have := congrArg List.length ho.1; simpa using this
  have hle := insAll_len (ns.map (·.name) ++ nd.map (·.name))
  simp only [List.length_append, List.length_map] at hle
  have hpos : 0 < (insAll (ns.map (·.name) ++ nd.map (·.name))).length := by
    obtain ⟨x, r, e⟩ := List.exists_cons_of_ne_nil (show nd ≠ [] from fun e => by rw [e] at m8; simp at m8)
    exact List.length_pos_of_mem ((insAll_mem _ x.name).2 (List.mem_append_right _ (by rw [e]; simp)))
  have hlo : f.lost = C.lost := by rw [hfi.lost, hC]
  refine ⟨⟨_, some ⟨b1, 0, none⟩, some ⟨bn, 0, none⟩, ns.length, nd.length, ns, nd, hf, hfi.v4, rfl, Nodes.LAt.row hn, Nodes.LAt.row hN, k1, l1, k2, l2, ?_, ?_⟩⟩
  · refine fine_of (by show ps.length ≤ 16; omega) (by show 0 < ps.length; omega) (by show 0 ≤ f.lost ∧ f.lost ≤ 1000000; omega) (fun p hp => by have := ho.2 p hp; omega) (fun p hp => ?_)
    have h1 : pcore p ∈ ps.map pcore := List.mem_map_of_mem hp
    rw [ho.1] at h1
    obtain ⟨nm, hm, e⟩ := List.mem_map.1 h1
    rw [← e]
    rcases look_in C.ps f.lim nm with h | h
    · exact o3 _ h
    · rw [h]
      refine ⟨?_, by simp⟩
      show nm.size ≤ 1048576
      rw [insAll_mem] at hm
      rcases List.mem_append.1 hm with hm | hm
      · obtain ⟨x, hx, rfl⟩ := List.mem_map.1 hm; exact k2 x hx
      · obtain ⟨x, hx, rfl⟩ := List.mem_map.1 hm; exact l2 x hx
  · dsimp only
    rw [lost_none (by omega) ho.2, ho.1, hfi.now, hfi.nx, hfi.lim, hlo]
    unfold Beg.bmC
    rw [hC]

set_option maxRecDepth 10000 in
set_option maxHeartbeats 4000000 in
theorem beginMove_any (now nx lim lost : Int) (b1 b2 : Nat) (ns cs : List Nodes.D) (L : List Pls.Pl) (bn : Nat) (nd : List Nodes.D) (M X : Nat) (f : Fl) (w : World) (hg : gcB ⟨now, nx, lim, lost, ns, cs, L.map Pls.core⟩ = true) (hf : FleetAt w M X f) (hM : M ≤ w.heap.size) (hfi : FlIs f now nx lim lost (.slice (some ⟨b1, 0, none⟩) ns.length ns.length) (.slice (some ⟨b2, 0, none⟩) cs.length cs.length) (L.map Pls.core)) (hb1 : b1 < X) (hn : w.rowIs b1 76 (ns.length * 2) (Nodes.icell ns)) (hbn : bn < X) (hN : w.rowIs bn 76 (nd.length * 2) (Nodes.icell nd)) (ld : nd.length ≤ 1048576) (fd : ∀ x ∈ nd, Nodes.Fits x) (hv : Ring.Vars w) :
    Calls Tryz.prog 51 #[.pointer (some ⟨X, 0, none⟩), .slice (some ⟨bn, 0, none⟩) nd.length nd.length] w (EnEnd M X (Beg.bmR ⟨now, nx, lim, lost, ns, cs, L.map Pls.core⟩ nd) w) := by
  obtain ⟨C, hC⟩ : ∃ C : CC, C = ⟨now, nx, lim, lost, ns, cs, L.map Pls.core⟩ := ⟨_, rfl⟩
  rw [← hC] at hg ⊢
  have hCL : C.ps = L.map Pls.core := by rw [hC]
  have hCc : C.cs = cs := by rw [hC]
  have hCn : C.ns = ns := by rw [hC]
  have hxm := hf.xm
  have hXl := hf.box.lt
  obtain ⟨-, -, x2, -, x4, x5, -, x7, -⟩ := hf.box.cells
  rw [hfi.v5] at x5
  rw [hfi.v4] at x4
  have hXf := hf.box.frozen
  by_cases hcz : cs.length = 0
  case neg =>
    have H : Hid (Beg.bmR C nd = (noCC, false)) := hide (Beg.bm_moving (by rw [hCc]; exact hcz))
    generalize Beg.bmR C nd = R at H ⊢
    have hcp : 0 < cs.length := by omega
    generalize cs.length = cl at hcp x5
    have hz1 : decide (0 < (cl : Int)) = true := by simp; omega
    have hz2 : decide ((cl : Int) > 0) = true := by simp; omega
    have hz3 : decide (0 < cl) = true := by simp; omega
    clear hf hfi hg hC hCL hCc hCn hcz hn hN fd hv hXf
    go_enter Tryz.func51, Tryz.ntmps51
    go_wp2
    go_ret
    exact ⟨false, rfl, Kp.refl _ _ _, .inl ⟨rfl, unhide H⟩⟩
  have HN := hide hN
  have HNI := hide hn
  have HF := hide hf
  have HIN := hide (inodes_row bn nd _ w hN (by unfold maxLen; omega) fd)
  rw [hcz] at x5
  cases hgn : NodesM.gnB nd
  · have H : Hid (Beg.bmR C nd = (noCC, false)) := hide (Beg.bm_nodes hgn)
    generalize Beg.bmR C nd = R at H ⊢
    rw [hgn] at HIN
    clear hf hfi hg hC hCL hCc hCn hcz hn hN fd hv hXf hgn HF HN HNI
    go_enter Tryz.func51, Tryz.ntmps51
    go_wp2_with fail
    refine (unhide HIN).mono ?_
    rintro e w1 ⟨rfl, hb1⟩
    have B1 := hide hb1
    clear hb1
    go_wp2
    go_ret
    exact ⟨false, rfl, Kp.of_below (unhide B1) hM, .inl ⟨rfl, unhide H⟩⟩
  rw [hgn] at HIN
  obtain ⟨o1, o2, o3⟩ := gc_ok hCL hg
  obtain ⟨d1, d2, d3, d4⟩ := gc_head' hg
  rw [hCn] at d3
  have n8 := Ring.good_len d3
  have m8 := Ring.good_len hgn
  have hps : f.ps.map pcore = C.ps := by rw [hCL]; exact hfi.ps
  have hfl : f.ps.length = C.ps.length := by rw [← hps]; simp
  have HEQ := hide (fun w' (hb : Below w.heap.size w w') => Same.same_impl (some ⟨b1, 0, none⟩) (some ⟨bn, 0, none⟩) ns.length nd.length ns nd w' (Nodes.LAt.row (hn.of_block (hb.block _ hn.lt))) (Nodes.LAt.row (hN.of_block (hb.block _ hN.lt))) (by omega) (by omega))
  cases hsm : Same.sameB ns nd
  case true =>
    have H : Hid (Beg.bmR C nd = (noCC, false)) := hide (Beg.bm_same (by rw [hCn]; exact hsm))
    generalize Beg.bmR C nd = R at H ⊢
    rw [hsm] at HEQ
    clear hf hfi hg hC hCL hCc hCn hcz hn hN fd hv hXf hgn HF HN HNI hsm hps hfl o1 o2 o3 d1 d2 d3 d4
    go_enter Tryz.func51, Tryz.ntmps51
    go_wp2_with fail
    refine (unhide HIN).mono ?_
    rintro e w1 ⟨rfl, hb1⟩
    have B1 := hide hb1
    have y4 := (hb1.cell (p := ⟨X, 4, none⟩) hXl).trans x4
    have HE1 := hide (unhide HEQ w1 hb1)
    clear hb1
    go_wp2_with fail
    refine (unhide HE1).mono ?_
    rintro e w2 ⟨rfl, hb2⟩
    have B2 := hide ((unhide B1).trans (hb2.mono (unhide B1).size))
    clear hb2
    go_wp2
    go_ret
    exact ⟨false, rfl, Kp.of_below (unhide B2) hM, .inl ⟨rfl, unhide H⟩⟩
  rw [hsm] at HEQ
  have H : Hid (Beg.bmR C nd = (Beg.bmC C nd, true)) := hide (Beg.bm_yes hg (by rw [hCc]; exact hcz) hgn (by rw [hCn]; exact hsm))
  have hcs : cs = [] := List.length_eq_zero_iff.1 hcz
  have hnm : C.ps.map (·.name) = insAll (ns.map (·.name)) := by
    rw [gc_names hg]
    unfold names
    rw [hCn, hCc, hcs, List.map_nil, List.append_nil]
  have HOP : Hid (OpnIs (ns.map (·.name)) C.ps f.lim f.ps) := by
    refine ⟨?_, hfi.no⟩
    rw [hps, ← hnm, look_self (gc_rising hg)]
  have HFR : Hid (∀ x, x ∉ insAll (ns.map (·.name)) → Beg.look C.ps f.lim x = ⟨x, f.lim, 1, []⟩) := fun x hx => look_out (by rw [hnm]; exact hx)
  have HRG := hide (fun w' (hb : Below w.heap.size w w') => Ring.ringOf_some bn 0 nd.length nd w' (Nat.lt_of_lt_of_le hN.lt hb.size) (Nodes.at_row (hN.of_block (hb.block _ hN.lt))) hgn (hv.below hb))
  have HLE := hide (fun (v7 : Value) (a : Option Addr) (cap : Nat) (ps : List Pc) (w' : World) => @begin_left now nx lim lost v7 b1 b2 bn ns cs nd L M X f a cap ps w' C hC hg hgn _ hfi)
  obtain ⟨R, hR⟩ : ∃ R, R = Beg.bmR C nd := ⟨_, rfl⟩
  rw [← hR] at H ⊢
  have hfl0 : 0 < f.ps.length := by omega
  have hfl16 : f.ps.length ≤ 16 := by omega
  clear hR hfi hg hC hCL hCc hCn hcz hn hN fd hv hgn hsm hps hfl o1 o2 o3 d1 d2 d3 d4 hnm hcs
  go_enter Tryz.func51, Tryz.ntmps51
  go_wp2_with fail
  refine (unhide HIN).mono ?_
  rintro e w1 ⟨rfl, hb1⟩
  have B1 := hide hb1
  have y4 := (hb1.cell (p := ⟨X, 4, none⟩) hXl).trans x4
  have HE1 := hide (unhide HEQ w1 hb1)
  clear hb1 HEQ HIN
  go_wp2_with fail
  refine (unhide HE1).mono ?_
  rintro e w2 ⟨rfl, hb2⟩
  have B2 := hide ((unhide B1).trans (hb2.mono (unhide B1).size))
  have HR2 := hide (unhide HRG w2 (unhide B2))
  clear hb2 HE1 B1 HRG y4
  go_wp2_with fail
  refine (unhide HR2).mono ?_
  rintro e w3 ⟨g, c, rfl, hgz, hrow, hb3⟩
  have B3 := hide ((unhide B2).trans (hb3.mono (unhide B2).size))
  have F3 := hide ((unhide HF).below (unhide B3))
  have K3 : Hid (Kp M X w w3) := Kp.of_below (unhide B3) hM
  have hM3 : M ≤ w3.heap.size := Nat.le_trans hM (unhide B3).size
  have hX3 : X < w3.heap.size := by omega
  clear hgz hrow hb3 HR2 B2 x2 x4 x5 x7 hXf HF
  obtain ⟨-, -, -, -, -, z5, -, z7, -⟩ := (unhide F3).box.cells
  have zf := (unhide F3).box.frozen
  have HBX := hide (FB.set57 (unhide F3) (.slice (some ⟨bn, 0, none⟩) nd.length nd.length) (.slice (some ⟨g, 0, none⟩) (Ring.points nd).length c))
  go_wp2_with fail
  obtain ⟨hfx, hkx⟩ := unhide HBX
  have F4 := hide hfx
  have K4 := hide ((unhide K3).trans hkx)
  clear hfx hkx HBX z5 z7 zf F3 K3
  generalize (w3.setCell ⟨X, 5, none⟩ (.slice (some ⟨bn, 0, none⟩) nd.length nd.length)).setCell ⟨X, 7, none⟩ (.slice (some ⟨g, 0, none⟩) (Ring.points nd).length c) = U at F4 K4 ⊢
  have hMU : M ≤ U.heap.size := Nat.le_trans hM (unhide K4).size
  have HPN := hide (open_any M X _ bn nd (ns.map (·.name)) C.ps U (unhide F4) hMU hfl0 (by show f.ps.length ≤ 100; omega) ((unhide HN).of_block ((unhide K4).block bn (by omega) (by omega))) (by omega) (by omega) (by omega) (unhide HOP) (unhide HFR))
  refine (unhide HPN).mono ?_
  rintro e w5 ⟨rfl, a, cap, ps, hf5, hop5, hk5⟩
  have K5 := hide ((unhide K4).trans hk5)
  have HL5 := hide (unhide HLE _ _ _ _ w5 hf5 hop5 ((unhide HNI).of_block ((unhide K5).block b1 (by omega) (by omega))) ((unhide HN).of_block ((unhide K5).block bn (by omega) (by omega))))
  clear hf5 hop5 hk5 HPN HLE
  go_wp2
  go_ret
  exact ⟨true, rfl, unhide K5, .inr ⟨rfl, by rw [unhide H]; exact unhide HL5⟩⟩
end Fleet
end Go.Proofs.YtkodgbalhnbhcaaGreatDoor
/-
  The program's changedBy with the step of changed: what a step makes of a good cluster.
-/
namespace Go.Proofs.YtkodgbalhnbhcaaGreatDoor
namespace Fleet
open Go.RowKit Base Store Items OwnR Keep Clus Marks Plc
set_option linter.unusedVariables false

set_option maxRecDepth 10000 in
set_option maxHeartbeats 4000000 in
theorem changed_by (R : CC × Int × Bool) (now nx lim lost : Int) (b1 b2 b3 : Nat) (ns cs : List Nodes.D) (L : List Pls.Pl) (nb : Nat) (w : World) (hR : CR w b1 b2 b3 ns cs L) (ln : ns.length ≤ 1048576) (fn : ∀ x ∈ ns, Nodes.Fits x) (lc : cs.length ≤ 1048576) (fc : ∀ x ∈ cs, Nodes.Fits x) (lp : L.length ≤ 1048576) (fp : ∀ x ∈ L, Pls.Fits x) (hv : Ring.Vars w)
    (hno : gcB ⟨now, nx, lim, lost, ns, cs, L.map Pls.core⟩ = false → R = (noCC, 0, false))
    (hst : gcB ⟨now, nx, lim, lost, ns, cs, L.map Pls.core⟩ = true → ∀ (M X : Nat) (f : Fl) (u : World), FleetAt u M X f → w.heap.size ≤ X → M ≤ u.heap.size → FlIs f now nx lim lost (.slice (some ⟨b1, 0, none⟩) ns.length ns.length) (.slice (some ⟨b2, 0, none⟩) cs.length cs.length) (L.map Pls.core) → RingsAt u M X f ns cs → Below w.heap.size w u →
      Calls Tryz.prog 87 #[.pointer (some ⟨X, 0, none⟩), .pointer (some ⟨nb, 0, none⟩)] u (StepTo M X R u)) :
    Calls Tryz.prog 34 #[.agg #[.int .i64 now, .int .i64 nx, .int .i64 lim, .int .i64 lost, .slice (some ⟨b1, 0, none⟩) ns.length ns.length, .slice (some ⟨b2, 0, none⟩) cs.length cs.length, .slice (some ⟨b3, 0, none⟩) L.length L.length], .func (.func 87) #[] #[.pointer (some ⟨nb, 0, none⟩)]] w (Tells3 R w) := by
  obtain ⟨C, hC⟩ : ∃ C : CC, C = ⟨now, nx, lim, lost, ns, cs, L.map Pls.core⟩ := ⟨_, rfl⟩
  rw [← hC] at hno hst
  have hCL : C.ps = L.map Pls.core := by rw [hC]
  have HGC := hide (fun u (hu : Below w.heap.size w u) => good_impl now nx lim lost b1 b2 b3 ns cs L u (hR.below hu (Nat.le_refl _)) ln fn lc fc lp fp (hv.below hu))
  rw [← hC] at HGC
  have BW0 := hide (bel2 w (.cells #[.int .i64 now, .int .i64 nx, .int .i64 lim, .int .i64 lost, .slice (some ⟨b1, 0, none⟩) ns.length ns.length, .slice (some ⟨b2, 0, none⟩) cs.length cs.length, .slice (some ⟨b3, 0, none⟩) L.length L.length] 30) zeroB)
  have CX0 : Hid (CB ((w.alloc (.cells #[.int .i64 now, .int .i64 nx, .int .i64 lim, .int .i64 lost, .slice (some ⟨b1, 0, none⟩) ns.length ns.length, .slice (some ⟨b2, 0, none⟩) cs.length cs.length, .slice (some ⟨b3, 0, none⟩) L.length L.length] 30)).alloc zeroB) w.heap.size now nx lim lost (.slice (some ⟨b1, 0, none⟩) ns.length ns.length) (.slice (some ⟨b2, 0, none⟩) cs.length cs.length) (.slice (some ⟨b3, 0, none⟩) L.length L.length)) := (CB.new w now nx lim lost _ _ _).below (bel1 _ zeroB) (by simp)
  have CY0 : Hid (CB ((w.alloc (.cells #[.int .i64 now, .int .i64 nx, .int .i64 lim, .int .i64 lost, .slice (some ⟨b1, 0, none⟩) ns.length ns.length, .slice (some ⟨b2, 0, none⟩) cs.length cs.length, .slice (some ⟨b3, 0, none⟩) L.length L.length] 30)).alloc zeroB) (w.heap.size + 1) 0 0 0 0 (.slice none 0 0) (.slice none 0 0) (.slice none 0 0)) := by
    have := CB.new (w.alloc (.cells #[.int .i64 now, .int .i64 nx, .int .i64 lim, .int .i64 lost, .slice (some ⟨b1, 0, none⟩) ns.length ns.length, .slice (some ⟨b2, 0, none⟩) cs.length cs.length, .slice (some ⟨b3, 0, none⟩) L.length L.length] 30)) 0 0 0 0 (.slice none 0 0) (.slice none 0 0) (.slice none 0 0)
    rw [World.size_alloc] at this
    exact this
  have HR := hide hR
  have HV := hide hv
  have HCE := hide hC
  have HCL := hide hCL
  have HST := hide hst
  have hz0 : w.heap.size + 2 ≤ ((w.alloc (.cells #[.int .i64 now, .int .i64 nx, .int .i64 lim, .int .i64 lost, .slice (some ⟨b1, 0, none⟩) ns.length ns.length, .slice (some ⟨b2, 0, none⟩) cs.length cs.length, .slice (some ⟨b3, 0, none⟩) L.length L.length] 30)).alloc zeroB).heap.size := by simp
  clear hR fn fc fp hv hCL hC hst
  cases hg : gcB C
  · have H : Hid (R = (noCC, 0, false)) := hno hg
    rw [hg] at HGC
    clear hg hno HST
    go_enter Tryz.func34, Tryz.ntmps34
    go_wp2_with fail
    generalize (w.alloc (.cells #[.int .i64 now, .int .i64 nx, .int .i64 lim, .int .i64 lost, .slice (some ⟨b1, 0, none⟩) ns.length ns.length, .slice (some ⟨b2, 0, none⟩) cs.length cs.length, .slice (some ⟨b3, 0, none⟩) L.length L.length] 30)).alloc (.cells #[.int .i64 0, .int .i64 0, .int .i64 0, .int .i64 0, .slice none 0 0, .slice none 0 0, .slice none 0 0] 30) = W at BW0 CX0 CY0 hz0 ⊢
    refine (unhide HGC _ (unhide BW0)).mono ?_
    rintro e w1 ⟨rfl, hb1⟩
    have B1 := hide ((unhide BW0).trans (hb1.mono (unhide BW0).size))
    have CY1 := hide ((unhide CY0).below hb1 (by omega))
    clear hb1
    obtain ⟨y0, y1, y2, y3, y4, y5, y6, yf, yl⟩ := (unhide CY1).cells
    go_wp2
    refine bodyPost_ret (v := .tuple #[.agg #[.int .i64 0, .int .i64 0, .int .i64 0, .int .i64 0, .slice none 0 0, .slice none 0 0, .slice none 0 0], .int .i64 0, .bool false]) (by simp [results, Tryz.results34, go_sem, y0, y1, y2, y3, y4, y5, y6]) rfl (tells3_no (unhide H) ?_)
    repeat (refine Below.setCell ?_ (by first | (simp; done) | (simp; omega)) _)
    exact unhide B1
  rw [hg] at HGC
  have HFO := hide (fun u (hu : Below w.heap.size w u) => fleetOf_any now nx lim lost b1 b2 b3 ns cs L u ((unhide HR).below hu (Nat.le_refl _)) (by rw [← unhide HCE]; exact hg) ((unhide HV).below hu))
  have HS2 := hide (unhide HST hg)
  clear hg HST hno
  go_enter Tryz.func34, Tryz.ntmps34
  go_wp2_with fail
  generalize (w.alloc (.cells #[.int .i64 now, .int .i64 nx, .int .i64 lim, .int .i64 lost, .slice (some ⟨b1, 0, none⟩) ns.length ns.length, .slice (some ⟨b2, 0, none⟩) cs.length cs.length, .slice (some ⟨b3, 0, none⟩) L.length L.length] 30)).alloc (.cells #[.int .i64 0, .int .i64 0, .int .i64 0, .int .i64 0, .slice none 0 0, .slice none 0 0, .slice none 0 0] 30) = W at BW0 CX0 CY0 hz0 ⊢
  refine (unhide HGC _ (unhide BW0)).mono ?_
  rintro e w1 ⟨rfl, hb1⟩
  have B1 := hide ((unhide BW0).trans (hb1.mono (unhide BW0).size))
  have CX1 := hide ((unhide CX0).below hb1 (by omega))
  have CY1 := hide ((unhide CY0).below hb1 (by omega))
  have hz1 : w.heap.size + 2 ≤ w1.heap.size := Nat.le_trans hz0 hb1.size
  clear hb1 BW0 CX0 CY0 hz0 W HGC
  obtain ⟨x0, x1, x2, x3, x4, x5, x6, xf, xl⟩ := (unhide CX1).cells
  go_wp2_with fail
  refine (unhide HFO _ (unhide B1)).mono ?_
  rintro e w2 ⟨M, X, f, rfl, hfa, hX, hM, hfi, hrg, hb2⟩
  have B2 := hide ((unhide B1).trans (hb2.mono (unhide B1).size))
  have CY2 := hide ((unhide CY1).below hb2 (by omega))
  have hz2 : w1.heap.size ≤ w2.heap.size := hb2.size
  have hxm := hfa.xm
  have HSS := hide (unhide HS2 M X f w2 hfa (by omega) hM hfi hrg (unhide B2))
  clear hb2 hfa hfi hrg x0 x1 x2 x3 x4 x5 x6 xf xl CX1 CY1 HFO HS2
  go_wp2_with fail
  refine (unhide HSS).mono ?_
  rintro e w3 ⟨n, ok, rfl, hk3, hend⟩
  have K3 : Below w1.heap.size w2 w3 := hk3.below hX (by omega)
  have B3 := hide ((unhide B2).trans (K3.mono (by omega)))
  have CY3 := hide ((unhide CY2).below K3 (by omega))
  have hz3 : w2.heap.size ≤ w3.heap.size := K3.size
  clear hk3 K3 HSS
  rcases hend with ⟨rfl, hno⟩ | ⟨rfl, hle⟩
  · have H : Hid (R = (noCC, 0, false)) := hno
    clear hno
    obtain ⟨y0, y1, y2, y3, y4, y5, y6, yf, yl⟩ := (unhide CY3).cells
    go_wp2
    refine bodyPost_ret (v := .tuple #[.agg #[.int .i64 0, .int .i64 0, .int .i64 0, .int .i64 0, .slice none 0 0, .slice none 0 0, .slice none 0 0], .int .i64 0, .bool false]) (by simp [results, Tryz.results34, go_sem, y0, y1, y2, y3, y4, y5, y6]) rfl (tells3_no (unhide H) ?_)
    repeat (refine Below.setCell ?_ (by first | (simp; done) | (simp; omega)) _)
    exact unhide B3
  · obtain ⟨f', na, ca, nc, cc, ns', cs', hf3, e4, e5, hn, hc, k1, k2, k3, k4, hfi, hRE⟩ := hle.ex
    have HCU := cluster_any M X f' na ca nc cc ns' cs' w3 hf3 e4 e5 hn hc k1 k2 k3 k4 hfi
    have hq : (⟨f'.now, f'.nx, f'.lim, lostTo f'.lost f'.ps, ns', cs', f'.ps.map pcore⟩ : CC) = R.1 := by rw [hRE]
    rw [hq] at HCU
    have h21 : R.2.1 = n := by rw [hRE]
    have h22 : R.2.2 = true := by rw [hRE]
    have HCL2 := hide HCU
    have H21 := hide h21
    have H22 := hide h22
    clear HCU hRE hq h21 h22 hf3 e4 e5 hn hc k1 k2 k3 k4 hfi hle
    go_wp2_with fail
    refine (unhide HCL2).mono ?_
    rintro e w4 ⟨c, rfl, hpl, hco, hap, hb4⟩
    have B4 := hide ((unhide B3).trans (hb4.mono (unhide B3).size))
    have CY4 := hide ((unhide CY3).below hb4 (by omega))
    have HPL := hide hpl
    have HCO := hide hco
    have HAP := hide hap
    clear hpl hco hap hb4
    obtain ⟨y0, y1, y2, y3, y4, y5, y6, yf, yl⟩ := (unhide CY4).cells
    unfold clV
    go_wp2
    refine bodyPost_ret (v := .tuple #[clV c, .int .i64 n, .bool true]) (by simp [results, Tryz.results34, go_sem, clV, y0, y1, y2, y3, y4, y5, y6]) rfl ⟨c, by rw [unhide H21, unhide H22], unhide HPL, CO.le (B := w3.heap.size) ?_ (by omega), unhide HAP, ?_⟩
    · repeat (refine CO.set ?_ (by first | (simp; done) | (simp; omega)) _)
      exact unhide HCO
    · repeat (refine Below.setCell ?_ (by first | (simp; done) | (simp; omega)) _)
      exact unhide B4
end Fleet
end Go.Proofs.YtkodgbalhnbhcaaGreatDoor
/-
  The program's changed: a step that counts nothing.
-/
namespace Go.Proofs.YtkodgbalhnbhcaaGreatDoor
namespace Fleet
open Go.RowKit Base Store Items OwnR Keep Clus Marks Plc
set_option linter.unusedVariables false

set_option maxRecDepth 10000 in
set_option maxHeartbeats 2000000 in
theorem changed_any (R : CC × Bool) (fv : Value) (now nx lim lost : Int) (v4 v5 v6 : Option Addr) (n4 n5 n6 c4 c5 c6 : Nat) (w : World) (hfv : fv.oneCell' = true)
    (h : ∀ nb u, Below w.heap.size w u → u.cell? ⟨nb, 0, none⟩ = some fv → w.heap.size ≤ nb → Calls Tryz.prog 34 #[.agg #[.int .i64 now, .int .i64 nx, .int .i64 lim, .int .i64 lost, .slice v4 n4 c4, .slice v5 n5 c5, .slice v6 n6 c6], .func (.func 87) #[] #[.pointer (some ⟨nb, 0, none⟩)]] u (Tells3 (R.1, 0, R.2) u)) :
    Calls Tryz.prog 42 #[.agg #[.int .i64 now, .int .i64 nx, .int .i64 lim, .int .i64 lost, .slice v4 n4 c4, .slice v5 n5 c5, .slice v6 n6 c6], fv] w (Tells2 R w) := by
  have HCH := hide h
  have hcl : fv.cells = #[fv] := by cases fv <;> simp_all [Value.oneCell', Value.cells]
  have B0 := hide (bel3 w (.cells #[.int .i64 now, .int .i64 nx, .int .i64 lim, .int .i64 lost, .slice v4 n4 c4, .slice v5 n5 c5, .slice v6 n6 c6] 30) (.cells #[fv] 70) zeroB)
  have n0 : (((w.alloc (.cells #[.int .i64 now, .int .i64 nx, .int .i64 lim, .int .i64 lost, .slice v4 n4 c4, .slice v5 n5 c5, .slice v6 n6 c6] 30)).alloc (.cells #[fv] 70)).alloc zeroB).cell? ⟨w.heap.size + 1, 0, none⟩ = some fv := by
    rw [(bel1 _ zeroB).cell (p := ⟨w.heap.size + 1, 0, none⟩) (by simp)]
    have := (World.cell?_alloc_new (w.alloc (.cells #[.int .i64 now, .int .i64 nx, .int .i64 lim, .int .i64 lost, .slice v4 n4 c4, .slice v5 n5 c5, .slice v6 n6 c6] 30)) #[fv] 70 0)
    rw [World.size_alloc] at this
    rw [this]; rfl
  have CY0 : Hid (CB (((w.alloc (.cells #[.int .i64 now, .int .i64 nx, .int .i64 lim, .int .i64 lost, .slice v4 n4 c4, .slice v5 n5 c5, .slice v6 n6 c6] 30)).alloc (.cells #[fv] 70)).alloc zeroB) (w.heap.size + 2) 0 0 0 0 (.slice none 0 0) (.slice none 0 0) (.slice none 0 0)) := by
    have := CB.new ((w.alloc (.cells #[.int .i64 now, .int .i64 nx, .int .i64 lim, .int .i64 lost, .slice v4 n4 c4, .slice v5 n5 c5, .slice v6 n6 c6] 30)).alloc (.cells #[fv] 70)) 0 0 0 0 (.slice none 0 0) (.slice none 0 0) (.slice none 0 0)
    rw [World.size_alloc, World.size_alloc] at this
    exact this
  have hz0 : w.heap.size + 3 ≤ (((w.alloc (.cells #[.int .i64 now, .int .i64 nx, .int .i64 lim, .int .i64 lost, .slice v4 n4 c4, .slice v5 n5 c5, .slice v6 n6 c6] 30)).alloc (.cells #[fv] 70)).alloc zeroB).heap.size := by simp
  clear h
  go_enter Tryz.func42, Tryz.ntmps42
  go_wp2_with fail
  generalize ((w.alloc (.cells #[.int .i64 now, .int .i64 nx, .int .i64 lim, .int .i64 lost, .slice v4 n4 c4, .slice v5 n5 c5, .slice v6 n6 c6] 30)).alloc (.cells #[fv] 70)).alloc (.cells #[.int .i64 0, .int .i64 0, .int .i64 0, .int .i64 0, .slice none 0 0, .slice none 0 0, .slice none 0 0] 30) = W at B0 n0 CY0 hz0 ⊢
  refine (unhide HCH _ _ (unhide B0) n0 (by omega)).mono ?_
  rintro e w1 ⟨c, rfl, hpl, hco, hap, hb1⟩
  dsimp only at hpl
  have B1 := hide ((unhide B0).trans (hb1.mono (unhide B0).size))
  have CY1 := hide ((unhide CY0).below hb1 (by omega))
  have HPL := hide hpl
  have HCO := hide hco
  have HAP := hide hap
  have hz1 : W.heap.size ≤ w1.heap.size := hb1.size
  clear hpl hco hap hb1 n0 HCH
  unfold clV
  go_upto_region 2 with fail
  have CYA := hide ((unhide CY1).below (bel1 w1 (.cells #[.int .i64 c.now, .int .i64 c.nx, .int .i64 c.lim, .int .i64 c.lost, .slice c.na c.ns.length c.nc, .slice c.ca c.cs.length c.cc, .slice c.pa c.ps.length c.pc] 30)) (by omega))
  have CXA := hide (CB.new w1 c.now c.nx c.lim c.lost (.slice c.na c.ns.length c.nc) (.slice c.ca c.cs.length c.cc) (.slice c.pa c.ps.length c.pc))
  have BA := hide ((unhide B1).alloc (by omega) (.cells #[.int .i64 c.now, .int .i64 c.nx, .int .i64 c.lim, .int .i64 c.lost, .slice c.na c.ns.length c.nc, .slice c.ca c.cs.length c.cc, .slice c.pa c.ps.length c.pc] 30))
  have HCA := hide ((unhide HCO).below (bel1 w1 (.cells #[.int .i64 c.now, .int .i64 c.nx, .int .i64 c.lim, .int .i64 c.lost, .slice c.na c.ns.length c.nc, .slice c.ca c.cs.length c.cc, .slice c.pa c.ps.length c.pc] 30)) (Nat.le_refl _))
  generalize w1.alloc (.cells #[.int .i64 c.now, .int .i64 c.nx, .int .i64 c.lim, .int .i64 c.lost, .slice c.na c.ns.length c.nc, .slice c.ca c.cs.length c.cc, .slice c.pa c.ps.length c.pc] 30) = U at CYA CXA BA HCA ⊢
  obtain ⟨y0, y1, y2, y3, y4, y5, y6, yf, yl⟩ := (unhide CYA).cells
  obtain ⟨x0, x1, x2, x3, x4, x5, x6, xf, xl⟩ := (unhide CXA).cells
  clear CY1 B1
  go_wp2
  refine bodyPost_ret (v := .tuple #[clV c, .bool R.2]) (by simp [results, Tryz.results42, go_sem, clV, y0, y1, y2, y3, y4, y5, y6]) rfl ⟨c, rfl, unhide HPL, CO.le (B := W.heap.size) ?_ (by omega), unhide HAP, ?_⟩
  · repeat (refine CO.set ?_ (by first | (simp; done) | (simp; omega)) _)
    exact unhide HCA
  · repeat (refine Below.setCell ?_ (by first | (simp; done) | (simp; omega)) _)
    exact unhide BA
end Fleet
end Go.Proofs.YtkodgbalhnbhcaaGreatDoor
