/-
  The model's NewCluster, whole: what it tells lies in rows of its own.
-/
import Derived.Test.YthgcfklfpllgnaaDoorZ25
import Derived.Test.YthgcfklfpllgnaaDoorZ34
import Derived.Test.YthgcfklfpllgnaaDoorZ35
import Derived.Test.YthgcfklfpllgnaaDoorZ36
namespace Go.Proofs.YthgcfklfpllgnaaDoor
namespace NewClusterL
open Go.RowKit Base Clus Plc OwnR GoodKey
set_option linter.unusedVariables false

/-- How the model's NewCluster ends. -/
def SpecTells (R : CC × Bool) (w : World) (e : Ending) (w' : World) : Prop := ∃ c : Cl, e = .returned (.tuple #[clV c, .bool R.2]) ∧ plain c = R.1 ∧ CO w' w.heap.size c ∧ Below w.heap.size w w'
theorem gn_pos {nd : List Nodes.D} (h : NodesM.gnB nd = true) : 0 < nd.length := by
  have := Ring.good_len h
  omega
theorem ins_pos {nd : List Nodes.D} (h : 0 < nd.length) : 0 < (insAll (nd.map (·.name))).length := by
  obtain ⟨x, r, e⟩ := List.exists_cons_of_ne_nil (show nd ≠ [] from fun e => by rw [e] at h; simp at h)
  exact List.length_pos_of_mem ((insAll_mem _ x.name).2 (by rw [e]; simp))
theorem new_spec (bn : Nat) (nd : List Nodes.D) (lim : Int) (w : World) (hN : w.rowIs bn 42 (nd.length * 2) (Nodes.icell nd)) (ld : nd.length ≤ 1048576) (fd : ∀ x ∈ nd, Nodes.Fits x) :
    Calls Tryd.prog 5 #[.slice (some ⟨bn, 0, none⟩) nd.length nd.length, .int .i64 lim] w (SpecTells (nwR nd lim) w) := by
  refine (newCluster_some bn 0 nd.length nd lim w hN.lt (Nodes.at_row hN) ld fd).mono ?_
  rintro e w' (⟨hg, hl, nv, pv, rfl, hn, hp, hb⟩ | ⟨h, rfl, hb⟩)
  · rw [nw_yes hg hl]
    obtain ⟨g1, c1, rfl, _, _, _⟩ := own_some hn (gn_pos hg)
    obtain ⟨g2, c2, rfl, _, _, _⟩ := own_some hp (ins_pos (gn_pos hg))
    have hpo := Beg.fresh_po (B := w.heap.size) hp rfl (Nat.le_refl _)
    have el : ((insAll (nd.map (·.name))).map (Beg.fresh lim)).length = (insAll (nd.map (·.name))).length := by simp
    refine ⟨⟨0, 1, lim, 0, some ⟨g1, 0, none⟩, c1, nd, none, 0, [], some ⟨g2, 0, none⟩, c2, (insAll (nd.map (·.name))).map (Beg.fresh lim)⟩, ?_, ?_, ⟨hn, World.ownsRow_nil _ _ _ _, ?_, ?_, ?_⟩, hb⟩
    · unfold clV; dsimp only; rw [el]; rfl
    · unfold plain nwC
      dsimp only
      rw [List.map_map]
      rfl
    · dsimp only; rw [el]; exact hpo
    · dsimp only; rw [el]; exact fun q hq => kinds hn hp (by decide) q hq
    · intro q hq; simp [Value.ownBlock] at hq
  · rw [nw_no h]
    exact ⟨noCl, rfl, rfl, CO.no w' _, hb⟩
end NewClusterL
end Go.Proofs.YthgcfklfpllgnaaDoor
/-
  Contracts of the law files' markCluster and heldCluster over a cluster in rows of a call's own, whole.
-/
namespace Go.Proofs.YthgcfklfpllgnaaDoor
namespace Clus
open Go.RowKit Base Marks Keep OwnR Plc Fleet
set_option linter.unusedVariables false

def PP (w : World) (B : Nat) (c : Cl) : Prop := 0 < c.ps.length → ∃ b, c.pa = some ⟨b, 0, none⟩ ∧ PG w b c.ps ∧ (∀ q ∈ rows b c.ps, B ≤ q) ∧ (∀ q, r1 c = some q → q ∉ rows b c.ps) ∧ (∀ q, r2 c = some q → q ∉ rows b c.ps)
theorem CO.pp {w : World} {B : Nat} {c : Cl} (h : CO w B c) (ha : AP c) : PP w B c := fun h0 => by
  obtain ⟨b, h1, _, h2, h3, h4, h5⟩ := h.pg ha h0
  exact ⟨b, h1, h2, h3, h4, h5⟩
theorem PG.gb {w w' : World} {b : Nat} {L : List Pls.Pl} {r : Option Nat} (h : PG w b L) (hg : w.grownBy w' r) (hr : ∀ q, r = some q → q ∉ rows b L) : PG w' b L :=
  ⟨h.row.of_block (hg.block b h.row.lt (fun e => hr b e.symm List.mem_cons_self)), fun j hj => (h.its j hj).gb hg (fun g h1 h2 => hr g h2.symm (own_mem hj b h1)), h.far, h.dis⟩
theorem PP.gb {w w' : World} {B : Nat} {c : Cl} {r : Option Nat} (h : PP w B c) (hg : w.grownBy w' r) (hr : r = r1 c ∨ r = r2 c) : PP w' B c := fun h0 => by
  obtain ⟨b, h1, h2, h3, h4, h5⟩ := h h0
  refine ⟨b, h1, h2.gb hg ?_, h3, h4, h5⟩
  rcases hr with rfl | rfl
  · exact h4
  · exact h5
theorem places_mark_pp (c : Cl) (k : Int) (B : Nat) (w : World) (h : PP w B c) (hk0 : 0 < k) (hk1 : k ≤ 1000000000) (hn : c.ps.length ≤ 1048576) (ht : cnt c.ps c.ps.length ≤ 1048576) :
    Calls Tryd.prog 23 #[.slice c.pa c.ps.length c.pc, .int .i64 k] w fun e w' => e = .returned (.int .i64 (mk c.ps k c.ps.length)) ∧ (0 < c.ps.length → ∃ b, c.pa = some ⟨b, 0, none⟩ ∧ MG w' b c.ps k) ∧ ∃ S, Keeps S w w' ∧ (∀ q ∈ S, B ≤ q) ∧ (∀ q, r1 c = some q → q ∉ S) ∧ (∀ q, r2 c = some q → q ∉ S) ∧ (∀ q ∈ S, ∃ b, c.pa = some ⟨b, 0, none⟩ ∧ q ∈ rows b c.ps) := by
  by_cases h0 : c.ps.length = 0
  · have e : c.ps = [] := List.length_eq_zero_iff.1 h0
    rw [h0]
    refine (places_mark_nil c.pa c.pc k w).mono ?_
    rintro e' w' ⟨rfl, hb⟩
    refine ⟨by simp [mk, cnt], fun h => absurd h (by omega), [], Keeps.of_below hb (fun _ h _ => h), by simp, by simp, by simp, by simp⟩
  · obtain ⟨b, hpa, hpg, h1, h2, h3⟩ := h (by omega)
    rw [hpa]
    refine (places_mark_any b c.pc c.ps k w hpg hk0 hk1 hn ht).mono ?_
    rintro e' w' ⟨rfl, hm, hk⟩
    exact ⟨rfl, fun _ => ⟨b, rfl, hm⟩, rows b c.ps, hk, h1, h2, h3, fun q hq => ⟨b, rfl, hq⟩⟩

/-- A block that is none of its rows. -/
def Out (c : Cl) (Y : Nat) : Prop := r1 c ≠ some Y ∧ r2 c ≠ some Y ∧ ∀ b, c.pa = some ⟨b, 0, none⟩ → Y ∉ rows b c.ps
theorem CO.out {w : World} {B : Nat} {c : Cl} {Y : Nat} {n0 n1 n2 n3 : Int} {u4 u5 u6 : Value} (h : CO w B c) (hc : CB w Y n0 n1 n2 n3 u4 u5 u6) : Out c Y := by
  refine ⟨box_far h.n hc (by decide), box_far h.m hc (by decide), fun b hb hm => ?_⟩
  rcases List.mem_cons.1 hm with rfl | hm
  · exact box_far h.p.row hc (by decide) (by rw [hb]; rfl)
  · obtain ⟨x, hx, e⟩ := List.mem_filterMap.1 hm
    exact box_far (h.p.its x hx) hc (by decide) e

set_option maxRecDepth 10000 in
set_option maxHeartbeats 2000000 in
theorem mark_co (c : Cl) (B : Nat) (w : World) (h : CO w B c) (ha : AP c) (hB : B ≤ w.heap.size) (ln : c.ns.length ≤ 1048576) (lc : c.cs.length ≤ 1048576) (lp : c.ps.length ≤ 1048576) (lt : cnt c.ps c.ps.length ≤ 1048576) :
    Calls Tryd.prog 11 #[clV c, .int .i64 1] w fun e w' => e = .returned (.int .i64 (mk c.ps (1 + c.ns.length * 2 + c.cs.length * 2) c.ps.length)) ∧ MC w' c ∧ Below B w w' ∧ (∀ Y, Y < w.heap.size → Out c Y → w'.heap[Y]? = w.heap[Y]?) := by
  have hq1 : ∀ q, r1 c = some q → B ≤ q ∧ q < w.heap.size := fun q hq => h.n.lt q hq
  have hq2 : ∀ q, r2 c = some q → B ≤ q ∧ q < w.heap.size := fun q hq => h.m.lt q hq
  have h12 : ∀ q, r1 c = some q → r2 c ≠ some q := ha.nm
  obtain ⟨W, hW⟩ : ∃ W, W = w.alloc (.cells #[.int .i64 c.now, .int .i64 c.nx, .int .i64 c.lim, .int .i64 c.lost, .slice c.na c.ns.length c.nc, .slice c.ca c.cs.length c.cc, .slice c.pa c.ps.length c.pc] 27) := ⟨_, rfl⟩
  have hC : CO W B c := by rw [hW]; exact h.below (bel1 w _) (Nat.le_refl _)
  have BW : Hid (Below B w W) := by show Below _ _ _; rw [hW]; exact (Below.refl _ _).alloc hB _
  have CBW : Hid (CB W w.heap.size c.now c.nx c.lim c.lost (.slice c.na c.ns.length c.nc) (.slice c.ca c.cs.length c.cc) (.slice c.pa c.ps.length c.pc)) := by
    show CB _ _ _ _ _ _ _ _ _; rw [hW]; exact CB.new w _ _ _ _ _ _ _
  have hzW : w.heap.size < W.heap.size := by rw [hW]; simp
  have KW : Hid (∀ Y, Y < w.heap.size → Out c Y → W.heap[Y]? = w.heap[Y]?) := fun Y hY _ => by rw [hW]; exact (bel1 w _).block Y hY
  have HN := hide (node_ours hC.n)
  have HM := hide (node_ours hC.m)
  have HP := hide (hC.pp ha)
  have HQ1 := hide hq1
  have HQ2 := hide hq2
  have H12 := hide h12
  have HMP := hide (fun k u (hu : PP u B c) (h0 : 0 < k) (h1 : k ≤ 1000000000) => places_mark_pp c k B u hu h0 h1 lp lt)
  have hr1 : (Value.slice c.na c.ns.length c.nc).ownBlock = r1 c := rfl
  have hr2 : (Value.slice c.ca c.cs.length c.cc).ownBlock = r2 c := rfl
  rw [hr1] at HN
  rw [hr2] at HM
  have HMC := hide (fun u n m p => MC.mk (w := u) (c := c) n m p)
  generalize hL : mk c.ps (1 + (c.ns.length : Int) * 2 + (c.cs.length : Int) * 2) c.ps.length = last at HMP ⊢
  have HL := hide hL
  have HWE := hide hW
  unfold clV
  clear h ha hC hq1 hq2 h12 hr1 hr2 hL hW lp lt
  go_enter Tryd.func11, Tryd.ntmps11
  go_wp2_with fail
  rw [← unhide HWE]
  clear HWE
  obtain ⟨x0, x1, x2, x3, x4, x5, x6, xf, xl⟩ := (unhide CBW).cells
  refine (NodesM.mark_any c.na c.nc c.ns.length _ (r1 c) 1 _ (unhide HN) (by omega) (by omega) (by omega)).mono ?_
  rintro e w1 ⟨rfl, hm1, hg1⟩
  have N1 := hide hm1
  have M1 := hide ((unhide HM).gb hg1 (fun g h e => unhide H12 g e.symm h))
  have P1 := hide ((unhide HP).gb hg1 (.inl rfl))
  have K1 : Hid (∀ Y, Y < w.heap.size → Out c Y → w1.heap[Y]? = w.heap[Y]?) := fun Y hY ho => (hg1.block Y (by omega) (fun e => ho.1 e.symm)).trans (unhide KW Y hY ho)
  have hz1 : W.heap.size ≤ w1.heap.size := hg1.size
  have C1 := hide (CB.grown (unhide CBW) hg1 (fun e => by have := (unhide HQ1 _ e).2; omega))
  have B1 := hide ((unhide BW).grown hg1 (by have := (unhide BW).size; omega) (fun q e => (unhide HQ1 q e).1))
  clear hm1 hg1 HN HM HP CBW BW x0 x1 x2 x3 x4 x5 x6 xf xl
  obtain ⟨x0, x1, x2, x3, x4, x5, x6, xf, xl⟩ := (unhide C1).cells
  go_wp2_with fail
  refine (NodesM.mark_any c.ca c.cc c.cs.length _ (r2 c) (1 + (c.ns.length : Int) * 2) _ (unhide M1) (by omega) (by omega) (by omega)).mono ?_
  rintro e w2 ⟨rfl, hm2, hg2⟩
  have M2 := hide hm2
  have N2 := hide ((unhide N1).gb hg2 (fun g h e => unhide H12 g h e.symm))
  have P2 := hide ((unhide P1).gb hg2 (.inr rfl))
  have K2 : Hid (∀ Y, Y < w.heap.size → Out c Y → w2.heap[Y]? = w.heap[Y]?) := fun Y hY ho => (hg2.block Y (by omega) (fun e => ho.2.1 e.symm)).trans (unhide K1 Y hY ho)
  have hz2 : w1.heap.size ≤ w2.heap.size := hg2.size
  have C2 := hide (CB.grown (unhide C1) hg2 (fun e => by have := (unhide HQ2 _ e).2; omega))
  have B2 := hide ((unhide B1).grown hg2 (by have := (unhide B1).size; omega) (fun q e => (unhide HQ2 q e).1))
  clear hm2 hg2 N1 M1 P1 C1 B1 x0 x1 x2 x3 x4 x5 x6 xf xl
  obtain ⟨x0, x1, x2, x3, x4, x5, x6, xf, xl⟩ := (unhide C2).cells
  have hk0 : 0 < 1 + (c.ns.length : Int) * 2 + (c.cs.length : Int) * 2 := by omega
  have hk1 : 1 + (c.ns.length : Int) * 2 + (c.cs.length : Int) * 2 ≤ 1000000000 := by omega
  go_wp2_with fail
  refine (unhide HMP _ _ (unhide P2) hk0 hk1).mono ?_
  rintro e w3 ⟨rfl, hm3, S, hk3, hS, h1S, h2S, h3S⟩
  have K3 : Hid (∀ Y, Y < w.heap.size → Out c Y → w3.heap[Y]? = w.heap[Y]?) := fun Y hY ho => (hk3.block Y (by omega) (fun hm => by obtain ⟨b, hb, hq⟩ := h3S Y hm; exact ho.2.2 b hb hq)).trans (unhide K2 Y hY ho)
  have F3 := hide (unhide HMC w3 (nours_keep (unhide N2) hk3 h1S) (nours_keep (unhide M2) hk3 h2S) hm3)
  have B3 := hide ((unhide B2).trans (hk3.below hS (by have := (unhide B2).size; omega)))
  clear hm3 hk3 hS h1S h2S h3S N2 M2 P2 C2 B2 x0 x1 x2 x3 x4 x5 x6 xf xl
  rw [unhide HL]
  go_wp2
  go_ret
  exact ⟨rfl, unhide F3, unhide B3, unhide K3⟩

set_option maxRecDepth 10000 in
set_option maxHeartbeats 2000000 in
theorem held_co (c : Cl) (w : World) (h : MC w c) (ln : c.ns.length ≤ 1048576) (lc : c.cs.length ≤ 1048576) (lp : c.ps.length ≤ 1048576) (lt : cnt c.ps c.ps.length ≤ 1048576) :
    Calls Tryd.prog 12 #[clV c, .int .i64 1] w fun e w' => e = .returned (.int .i64 (mk c.ps (1 + c.ns.length * 2 + c.cs.length * 2) c.ps.length)) ∧ Below w.heap.size w w' := by
  obtain ⟨W, hW⟩ : ∃ W, W = w.alloc (.cells #[.int .i64 c.now, .int .i64 c.nx, .int .i64 c.lim, .int .i64 c.lost, .slice c.na c.ns.length c.nc, .slice c.ca c.cs.length c.cc, .slice c.pa c.ps.length c.pc] 27) := ⟨_, rfl⟩
  have BW : Hid (Below w.heap.size w W) := by show Below _ _ _; rw [hW]; exact bel1 w _
  have CBW : Hid (CB W w.heap.size c.now c.nx c.lim c.lost (.slice c.na c.ns.length c.nc) (.slice c.ca c.cs.length c.cc) (.slice c.pa c.ps.length c.pc)) := by
    show CB _ _ _ _ _ _ _ _ _; rw [hW]; exact CB.new w _ _ _ _ _ _ _
  have hzW : w.heap.size < W.heap.size := by rw [hW]; simp
  have HM := hide (fun u (hu : Below w.heap.size w u) => h.below hu)
  have HPH := hide (fun k u hp (h0 : 0 < k) (h1 : k ≤ 1000000000) => places_held_co c k u hp h0 h1 lp lt)
  have hml : 0 ≤ mk c.ps (1 + (c.ns.length : Int) * 2 + (c.cs.length : Int) * 2) c.ps.length := by unfold mk; omega
  generalize hL : mk c.ps (1 + (c.ns.length : Int) * 2 + (c.cs.length : Int) * 2) c.ps.length = last at hml ⊢
  have HL := hide hL
  have HWE := hide hW
  unfold clV
  clear h hL hW lp lt
  go_enter Tryd.func12, Tryd.ntmps12
  go_wp2_with fail
  rw [← unhide HWE]
  clear HWE
  refine (NodesM.held_any c.na c.nc c.ns.length (r1 c) 1 _ (unhide HM _ (unhide BW)).n (by omega) (by omega) (by omega)).mono ?_
  rintro e w1 ⟨rfl, hb1⟩
  have B1 := hide ((unhide BW).trans (hb1.mono (unhide BW).size))
  have C1 := hide ((unhide CBW).below hb1 hzW)
  have hz1 : w.heap.size < w1.heap.size := Nat.lt_of_lt_of_le hzW hb1.size
  clear hb1 CBW BW
  obtain ⟨x0, x1, x2, x3, x4, x5, x6, xf, xl⟩ := (unhide C1).cells
  go_wp2_with fail
  refine (NodesM.held_any c.ca c.cc c.cs.length (r2 c) (1 + (c.ns.length : Int) * 2) _ (unhide HM _ (unhide B1)).m (by omega) (by omega) (by omega)).mono ?_
  rintro e w2 ⟨rfl, hb2⟩
  have B2 := hide ((unhide B1).trans (hb2.mono (unhide B1).size))
  have C2 := hide ((unhide C1).below hb2 hz1)
  clear hb2 C1 B1 x0 x1 x2 x3 x4 x5 x6 xf xl
  obtain ⟨x0, x1, x2, x3, x4, x5, x6, xf, xl⟩ := (unhide C2).cells
  have hk0 : 0 < 1 + (c.ns.length : Int) * 2 + (c.cs.length : Int) * 2 := by omega
  have hk1 : 1 + (c.ns.length : Int) * 2 + (c.cs.length : Int) * 2 ≤ 1000000000 := by omega
  have hp := hide (unhide HM _ (unhide B2)).p
  go_wp2_with fail
  refine (unhide HPH _ _ (unhide hp) hk0 hk1).mono ?_
  rintro e w3 ⟨rfl, hb3⟩
  have B3 := hide ((unhide B2).trans (hb3.mono (unhide B2).size))
  clear hb3 C2 B2 x0 x1 x2 x3 x4 x5 x6 xf xl hp
  rw [unhide HL]
  go_wp2
  go_ret
  exact ⟨rfl, unhide B3⟩
end Clus
end Go.Proofs.YthgcfklfpllgnaaDoor
