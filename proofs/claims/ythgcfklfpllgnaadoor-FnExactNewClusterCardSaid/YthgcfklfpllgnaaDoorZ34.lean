/-
  What a step makes of a good cluster at work, plainly. No Go function is spoken of here.
-/
import Derived.Test.YthgcfklfpllgnaaDoorZ32
import Derived.Test.YthgcfklfpllgnaaDoorZ24
import Derived.Test.YthgcfklfpllgnaaDoorZ25
import Derived.Test.YthgcfklfpllgnaaDoorOpenZ
import Derived.Test.YthgcfklfpllgnaaDoorZ17
import Derived.Test.YthgcfklfpllgnaaDoorZ21
import Derived.Test.YthgcfklfpllgnaaDoorZ13
namespace Go.Proofs.YthgcfklfpllgnaaDoor
namespace Fleet
open Go.RowKit Base Store Items OwnR Keep Clus Marks Plc
set_option linter.unusedVariables false

/-- How a function ends that tells a cluster, a number and a yes. -/
def Tells3 (R : CC × Int × Bool) (w : World) (e : Ending) (w' : World) : Prop := ∃ c : Cl, e = .returned (.tuple #[clV c, .int .i64 R.2.1, .bool R.2.2]) ∧ plain c = R.1 ∧ CO w' w.heap.size c ∧ AP c ∧ Below w.heap.size w w'
theorem tells3_no {R : CC × Int × Bool} {w w' : World} (h : R = (noCC, 0, false)) (hb : Below w.heap.size w w') : Tells3 R w (.returned (.tuple #[.agg #[.int .i64 0, .int .i64 0, .int .i64 0, .int .i64 0, .slice none 0 0, .slice none 0 0, .slice none 0 0], .int .i64 0, .bool false])) w' := by
  subst h
  exact ⟨noCl, rfl, rfl, CO.no w' _, ⟨fun q h => by simp [noCl, Value.ownBlock] at h, List.Pairwise.nil⟩, hb⟩
/-- How a function ends that tells a cluster and a yes. -/
def Tells2 (R : CC × Bool) (w : World) (e : Ending) (w' : World) : Prop := ∃ c : Cl, e = .returned (.tuple #[clV c, .bool R.2]) ∧ plain c = R.1 ∧ CO w' w.heap.size c ∧ AP c ∧ Below w.heap.size w w'
/-- What a step leaves where it says yes: a cluster at work that can be told. -/
structure Left (M X : Nat) (R : CC × Int × Bool) (n : Int) (u' : World) : Prop where
  ex : ∃ (f : Fl) (na ca : Option Addr) (nc cc : Nat) (ns cs : List Nodes.D), FleetAt u' M X f ∧ f.v4 = .slice na ns.length nc ∧ f.v5 = .slice ca cs.length cc ∧ Nodes.LAt u' na ns ∧ Nodes.LAt u' ca cs ∧ ns.length ≤ 1000 ∧ cs.length ≤ 1000 ∧ (∀ x ∈ ns, x.name.size ≤ 1048576) ∧ (∀ x ∈ cs, x.name.size ≤ 1048576) ∧ Fine f ∧ R = (⟨f.now, f.nx, f.lim, lostTo f.lost f.ps, ns, cs, f.ps.map pcore⟩, n, true)
/-- How a step ends. -/
def StepTo (M X : Nat) (R : CC × Int × Bool) (u : World) (e : Ending) (u' : World) : Prop :=
  ∃ (n : Int) (ok : Bool), e = .returned (.tuple #[.int .i64 n, .bool ok]) ∧ Kp M X u u' ∧ ((ok = false ∧ R = (noCC, 0, false)) ∨ (ok = true ∧ Left M X R n u'))

end Fleet
end Go.Proofs.YthgcfklfpllgnaaDoor
/-
  The program's NewCluster, whole.
-/
namespace Go.Proofs.YthgcfklfpllgnaaDoor
namespace Fleet
open Go.RowKit Base Store Items OwnR Keep Clus Marks Plc GoodKey
set_option linter.unusedVariables false

theorem glim_any (n : Int) (w : World) : Calls Tryd.prog 29 #[.int .i64 n] w fun e w' => e = .returned (.bool (inB n 0 10000)) ∧ w' = w := by
  go_enter Tryd.func29, Tryd.ntmps29
  go_wp2
  all_goals
    go_ret
    refine ⟨ret_bool ?_, rfl⟩
    simp [inB]; omega
set_option maxRecDepth 10000 in
set_option maxHeartbeats 1000000 in
theorem moving_new (now nx lim lost : Int) (v : Value) (w : World) :
    Calls Tryd.prog 49 #[.agg #[.int .i64 now, .int .i64 nx, .int .i64 lim, .int .i64 lost, v, .slice none 0 0, .slice none 0 0]] w fun e w' => e = .returned (.bool false) ∧ Below w.heap.size w w' := by
  go_enter Tryd.func49, Tryd.ntmps49
  go_wp2
  go_ret
  exact ⟨rfl, bel1 w _⟩
set_option maxRecDepth 10000 in
set_option maxHeartbeats 2000000 in
theorem rings_new (now nx lim lost : Int) (b1 : Nat) (ns : List Nodes.D) (w : World) (hN : w.rowIs b1 42 (ns.length * 2) (Nodes.icell ns)) (h1 : NodesM.gnB ns = true) (hv : Ring.Vars w) :
    Calls Tryd.prog 39 #[.agg #[.int .i64 now, .int .i64 nx, .int .i64 lim, .int .i64 lost, .slice (some ⟨b1, 0, none⟩) ns.length ns.length, .slice none 0 0, .slice none 0 0]] w fun e w' => ∃ g1 n1 c1, e = .returned (.tuple #[.slice (some ⟨g1, 0, none⟩) n1 c1, .slice (some ⟨g1, 0, none⟩) n1 c1]) ∧ Below w.heap.size w w' := by
  have RN := hide (fun w' (hb : Below w.heap.size w w') => Ring.ringOf_some b1 0 ns.length ns w' (Nat.lt_of_lt_of_le hN.lt hb.size) (Nodes.at_row (hN.of_block (hb.block _ hN.lt))) h1 (hv.below hb))
  have HM := hide (fun w' => moving_new now nx lim lost (.slice (some ⟨b1, 0, none⟩) ns.length ns.length) w')
  clear hN h1 hv
  generalize (Ring.points ns).length = n at RN
  generalize Points.icell (Ring.ring (Ring.points ns)) = F at RN
  go_enter Tryd.func39, Tryd.ntmps39
  go_wp2_with fail
  refine (unhide RN _ (bel1 w _)).mono ?_
  rintro e w1 ⟨g1, c1, rfl, -, -, hb1⟩
  simp only [World.size_alloc] at hb1
  have B1 := hide ((bel1 w _).trans (hb1.mono (by omega)))
  have hx := boxcell hb1
  clear hb1
  go_wp2_with fail
  refine (unhide HM _).mono ?_
  rintro e w2 ⟨rfl, hb2⟩
  have B2 := hide ((unhide B1).trans (hb2.mono (unhide B1).size))
  clear hb2 hx
  go_wp2
  go_ret2
  exact ⟨g1, n, c1, rfl, unhide B2⟩
/-- How fleetOf ends at a new cluster. -/
def NfEnd (lim : Int) (v4 : Value) (w : World) (e : Ending) (w' : World) : Prop :=
  ∃ M X f, e = .returned (.pointer (some ⟨X, 0, none⟩)) ∧ FleetAt w' M X f ∧ w.heap.size ≤ X ∧ M ≤ w'.heap.size ∧ f.now = 0 ∧ f.nx = 1 ∧ f.lim = lim ∧ f.lost = 0 ∧ f.v4 = v4 ∧ f.v5 = .slice none 0 0 ∧ f.ps = [] ∧ Below w.heap.size w w'
set_option maxRecDepth 10000 in
set_option maxHeartbeats 4000000 in
theorem fleetOf_new (lim : Int) (b1 : Nat) (ns : List Nodes.D) (w : World) (hN : w.rowIs b1 42 (ns.length * 2) (Nodes.icell ns)) (h1 : NodesM.gnB ns = true) (hv : Ring.Vars w) :
    Calls Tryd.prog 30 #[.agg #[.int .i64 0, .int .i64 1, .int .i64 lim, .int .i64 0, .slice (some ⟨b1, 0, none⟩) ns.length ns.length, .slice none 0 0, .slice none 0 0]] w (NfEnd lim (.slice (some ⟨b1, 0, none⟩) ns.length ns.length) w) := by
  have HRG := hide (fun w' (h : Below w.heap.size w w') => rings_new 0 1 lim 0 b1 ns w' (hN.of_block (h.block _ hN.lt)) h1 (hv.below h))
  clear hN h1 hv
  have C0 := seven w 27 (.int .i64 0) (.int .i64 1) (.int .i64 lim) (.int .i64 0) (.slice (some ⟨b1, 0, none⟩) ns.length ns.length) (.slice none 0 0) (.slice none 0 0)
  go_enter Tryd.func30, Tryd.ntmps30
  go_wp2_with fail
  have B0 := hide (bel2 w (.cells #[.int .i64 0, .int .i64 1, .int .i64 lim, .int .i64 0, .slice (some ⟨b1, 0, none⟩) ns.length ns.length, .slice none 0 0, .slice none 0 0] 27) (.cells #[.int .i64 0, .int .i64 1, .int .i64 lim, .int .i64 0, .slice (some ⟨b1, 0, none⟩) ns.length ns.length, .slice none 0 0, .slice none 0 0, .slice none 0 0, .slice none 0 0] 65))
  have F0 : Hid (FB ((w.alloc (.cells #[.int .i64 0, .int .i64 1, .int .i64 lim, .int .i64 0, .slice (some ⟨b1, 0, none⟩) ns.length ns.length, .slice none 0 0, .slice none 0 0] 27)).alloc (.cells #[.int .i64 0, .int .i64 1, .int .i64 lim, .int .i64 0, .slice (some ⟨b1, 0, none⟩) ns.length ns.length, .slice none 0 0, .slice none 0 0, .slice none 0 0, .slice none 0 0] 65)) (w.heap.size + 1) ⟨0, 1, lim, 0, .slice (some ⟨b1, 0, none⟩) ns.length ns.length, .slice none 0 0, .slice none 0 0, .slice none 0 0, none, 0, []⟩) := by
    exact heap_two w _ _
  have c6 := ((bel1 (w.alloc (.cells #[.int .i64 0, .int .i64 1, .int .i64 lim, .int .i64 0, .slice (some ⟨b1, 0, none⟩) ns.length ns.length, .slice none 0 0, .slice none 0 0] 27)) (.cells #[.int .i64 0, .int .i64 1, .int .i64 lim, .int .i64 0, .slice (some ⟨b1, 0, none⟩) ns.length ns.length, .slice none 0 0, .slice none 0 0, .slice none 0 0, .slice none 0 0] 65)).cell (p := ⟨w.heap.size, 6, none⟩) (by simp)).trans (C0 6)
  obtain ⟨v4, hv4⟩ : ∃ v, v = Value.slice (some ⟨b1, 0, none⟩) ns.length ns.length := ⟨_, rfl⟩
  have hlt0 : w.heap.size + 1 < ((w.alloc (.cells #[.int .i64 0, .int .i64 1, .int .i64 lim, .int .i64 0, .slice (some ⟨b1, 0, none⟩) ns.length ns.length, .slice none 0 0, .slice none 0 0] 27)).alloc (.cells #[.int .i64 0, .int .i64 1, .int .i64 lim, .int .i64 0, .slice (some ⟨b1, 0, none⟩) ns.length ns.length, .slice none 0 0, .slice none 0 0, .slice none 0 0, .slice none 0 0] 65)).heap.size := by simp
  generalize (w.alloc (.cells #[.int .i64 0, .int .i64 1, .int .i64 lim, .int .i64 0, .slice (some ⟨b1, 0, none⟩) ns.length ns.length, .slice none 0 0, .slice none 0 0] 27)).alloc (.cells #[.int .i64 0, .int .i64 1, .int .i64 lim, .int .i64 0, .slice (some ⟨b1, 0, none⟩) ns.length ns.length, .slice none 0 0, .slice none 0 0, .slice none 0 0, .slice none 0 0] 65) = W0 at B0 F0 c6 hlt0 ⊢
  refine (unhide HRG _ (unhide B0)).mono ?_
  rintro e w1 ⟨g1, n1, c1, rfl, hb1⟩
  have F1 := hide ((unhide F0).of_block (hb1.block _ hlt0))
  have d6 := (hb1.cell (p := ⟨w.heap.size, 6, none⟩) (by show w.heap.size < _; omega)).trans c6
  have B1 := hide ((unhide B0).trans (hb1.mono (unhide B0).size))
  have hlt1 : w.heap.size + 1 < w1.heap.size := (unhide F1).lt
  clear hb1 F0 B0 c6 hlt0 HRG C0
  generalize hXe : w.heap.size + 1 = X at F1 hlt1 ⊢
  have hXw : w.heap.size < X := by omega
  have hX1 : w.heap.size ≤ X := by omega
  have HXE := hide hXe
  clear hXe
  obtain ⟨x0, x1, x2, x3, x4, x5, x6, x7, x8⟩ := (unhide F1).cells
  have xf := (unhide F1).frozen
  go_upto_region 4 with fail
  have F2 := hide (((unhide F1).set6 (.slice (some ⟨g1, 0, none⟩) n1 c1)).set7 (.slice (some ⟨g1, 0, none⟩) n1 c1))
  have B2 := hide (((unhide B1).setCell (p := ⟨X, 6, none⟩) hX1 (.slice (some ⟨g1, 0, none⟩) n1 c1)).setCell (p := ⟨X, 7, none⟩) hX1 (.slice (some ⟨g1, 0, none⟩) n1 c1))
  have hz2 : ((w1.setCell ⟨X, 6, none⟩ (.slice (some ⟨g1, 0, none⟩) n1 c1)).setCell ⟨X, 7, none⟩ (.slice (some ⟨g1, 0, none⟩) n1 c1)).heap.size = w1.heap.size := by simp
  clear B1 x0 x1 x2 x3 x4 x5 x6 x7 x8 xf d6 F1
  generalize (w1.setCell ⟨X, 6, none⟩ (.slice (some ⟨g1, 0, none⟩) n1 c1)).setCell ⟨X, 7, none⟩ (.slice (some ⟨g1, 0, none⟩) n1 c1) = w2 at F2 B2 hz2 ⊢
  rw [← hz2] at hlt1
  clear hz2
  have FA0 := hide (show FleetAt w2 w2.heap.size X _ from ⟨unhide F2, World.ownsRow_nil _ _ _ _, by simp, by simp, by simp, by simp, hlt1⟩)
  have HVE := hide hv4
  rw [← hv4] at FA0 ⊢
  clear hv4 F2
  go_loopw [34] (fun iv wr => iv = .int .i64 0 ∧ Hid (wr = w2)) (fun _ _ => 0)
  case atStart => exact ⟨rfl, hide rfl⟩
  case round =>
    obtain ⟨rfl, hwr⟩ := hrel
    have hwe := unhide hwr
    clear hwr
    subst hwe
    go_wp2
    go_ret
    exact ⟨_, X, _, rfl, unhide FA0, hX1, Nat.le_refl _, rfl, rfl, rfl, rfl, unhide HVE, rfl, rfl, unhide B2⟩
/-- How newFleet ends. -/
def NeEnd (nd : List Nodes.D) (lim : Int) (v4 : Value) (w : World) (e : Ending) (w' : World) : Prop :=
  Below w.heap.size w w' ∧ (((NodesM.gnB nd = false ∨ inB lim 0 10000 = false) ∧ e = .returned (.tuple #[.pointer none, .bool false])) ∨
    (NodesM.gnB nd = true ∧ inB lim 0 10000 = true ∧ ∃ M X f, e = .returned (.tuple #[.pointer (some ⟨X, 0, none⟩), .bool true]) ∧ FleetAt w' M X f ∧ f.now = 0 ∧ f.nx = 1 ∧ f.lim = lim ∧ f.lost = 0 ∧ f.v4 = v4 ∧ f.v5 = .slice none 0 0 ∧ OpnIs (nd.map (·.name)) [] lim f.ps))
set_option maxRecDepth 10000 in
set_option maxHeartbeats 4000000 in
theorem newFleet_any (bn : Nat) (nd : List Nodes.D) (lim : Int) (w : World) (hN : w.rowIs bn 42 (nd.length * 2) (Nodes.icell nd)) (ld : nd.length ≤ 1048576) (fd : ∀ x ∈ nd, Nodes.Fits x) (hv : Ring.Vars w) :
    Calls Tryd.prog 18 #[.slice (some ⟨bn, 0, none⟩) nd.length nd.length, .int .i64 lim] w (NeEnd nd lim (.slice (some ⟨bn, 0, none⟩) nd.length nd.length) w) := by
  have HIN := hide (NodesM.inodes_some bn 0 nd.length nd w hN.lt (Nodes.at_row hN) (by unfold maxLen; omega) fd)
  have HNO := hide (fun w' (hb : Below w.heap.size w w') (h : NodesM.gnB nd = false ∨ inB lim 0 10000 = false) => (show NeEnd nd lim (.slice (some ⟨bn, 0, none⟩) nd.length nd.length) w (.returned (.tuple #[.pointer none, .bool false])) w' from ⟨hb, .inl ⟨h, rfl⟩⟩))
  cases hg : NodesM.gnB nd
  · rw [hg] at HIN
    have HNX := hide (fun w' (hb : Below w.heap.size w w') => unhide HNO w' hb (.inl hg))
    generalize NeEnd nd lim (.slice (some ⟨bn, 0, none⟩) nd.length nd.length) w = Q at HNX ⊢
    clear hN fd hv hg HNO
    go_enter Tryd.func18, Tryd.ntmps18
    go_wp2_with fail
    refine (unhide HIN).mono ?_
    rintro e w1 ⟨rfl, hb1⟩
    have B1 := hide hb1
    clear hb1
    go_wp2
    exact unhide HNX _ (unhide B1)
  rw [hg] at HIN
  have HGL := hide (fun w => glim_any lim w)
  cases hlm : inB lim 0 10000
  · rw [hlm] at HGL
    have HNX := hide (fun w' (hb : Below w.heap.size w w') => unhide HNO w' hb (.inr hlm))
    generalize NeEnd nd lim (.slice (some ⟨bn, 0, none⟩) nd.length nd.length) w = Q at HNX ⊢
    clear hN fd hv hg HNO hlm
    go_enter Tryd.func18, Tryd.ntmps18
    go_wp2_with fail
    refine (unhide HIN).mono ?_
    rintro e w1 ⟨rfl, hb1⟩
    have B1 := hide hb1
    clear hb1
    go_wp2_with fail
    refine (unhide HGL _).mono ?_
    rintro e w2 ⟨rfl, h2⟩
    rw [h2]
    clear h2
    go_wp2
    exact unhide HNX _ (unhide B1)
  rw [hlm] at HGL
  have m8 := Ring.good_len hg
  have HN := hide hN
  have hbw := hN.lt
  have HFO := hide (fun w' (hb : Below w.heap.size w w') => fleetOf_new lim bn nd w' (hN.of_block (hb.block _ hN.lt)) hg (hv.below hb))
  have HYS := hide (fun M X f w' (hb : Below w.heap.size w w') (h1 : FleetAt w' M X f) (h2 : f.now = 0) (h3 : f.nx = 1) (h4 : f.lim = lim) (h5 : f.lost = 0) (h6 : f.v4 = .slice (some ⟨bn, 0, none⟩) nd.length nd.length) (h7 : f.v5 = .slice none 0 0) (h8 : OpnIs (nd.map (·.name)) [] lim f.ps) => (show NeEnd nd lim (.slice (some ⟨bn, 0, none⟩) nd.length nd.length) w (.returned (.tuple #[.pointer (some ⟨X, 0, none⟩), .bool true])) w' from ⟨hb, .inr ⟨hg, hlm, M, X, f, rfl, h1, h2, h3, h4, h5, h6, h7, h8⟩⟩))
  generalize NeEnd nd lim (.slice (some ⟨bn, 0, none⟩) nd.length nd.length) w = Q at HYS ⊢
  clear hN fd hv hg HNO hlm
  go_enter Tryd.func18, Tryd.ntmps18
  go_wp2_with fail
  refine (unhide HIN).mono ?_
  rintro e w1 ⟨rfl, hb1⟩
  have B1 := hide hb1
  clear hb1
  go_wp2_with fail
  refine (unhide HGL _).mono ?_
  rintro e w2 ⟨rfl, h2⟩
  rw [h2]
  clear h2
  go_wp2_with fail
  refine (unhide HFO _ (unhide B1)).mono ?_
  rintro e w3 ⟨M, X, f, rfl, hf, hX, hM, q1, q2, q3, q4, q5, q6, q7, hb3⟩
  have z1 := (unhide B1).size
  have B3 := hide ((unhide B1).trans (hb3.mono z1))
  have hxm := hf.xm
  have F3 := hide hf
  have N3 := hide ((unhide HN).of_block ((unhide B3).block bn hbw))
  have HOP : Hid (OpnIs [] [] f.lim f.ps) := by rw [q7]; exact ⟨rfl, by simp⟩
  have HPN := hide (open_all M X f bn nd [] [] w3 hf hM (by rw [q7]; simp) (unhide N3) (by omega) (by omega) (by omega) (unhide HOP) (fun x _ => rfl))
  have HQ := hide (And.intro q1 (And.intro q2 (And.intro q3 (And.intro q4 (And.intro q5 q6)))))
  clear hf hb3 q1 q2 q3 q4 q5 q6 q7 HFO HGL HIN HOP
  go_wp2_with fail
  refine (unhide HPN).mono ?_
  rintro e w4 ⟨rfl, a, cap, ps, hf4, hop4, hk4⟩
  have B4 := hide ((unhide B3).trans (hk4.below (B := w.heap.size) (by omega) (by omega)))
  obtain ⟨q1, q2, q3, q4, q5, q6⟩ := unhide HQ
  rw [List.nil_append, q3] at hop4
  have HEND := hide (unhide HYS M X _ w4 (unhide B4) hf4 q1 q2 q3 q4 q5 q6 hop4)
  clear hf4 hop4 hk4 q1 q2 q3 q4 q5 q6 HQ HYS HPN
  go_wp2
  exact unhide HEND
theorem nw_ok {nd : List Nodes.D} {lim : Int} {f : Fl} (hg : NodesM.gnB nd = true) (h1 : f.now = 0) (h2 : f.nx = 1) (h3 : f.lim = lim) (h4 : f.lost = 0) (ho : OpnIs (nd.map (·.name)) [] lim f.ps) : Fine f ∧ (⟨f.now, f.nx, f.lim, lostTo f.lost f.ps, nd, [], f.ps.map pcore⟩ : CC) = NewClusterL.nwC nd lim := by
  have m8 := Ring.good_len hg
  obtain ⟨k1, k2⟩ := node_small hg
  have hlen : f.ps.length = (insAll (nd.map (·.name))).length := by have := congrArg List.length ho.1; simpa using this
  have hle := insAll_len (nd.map (·.name))
  simp only [List.length_map] at hle
  have hpos : 0 < (insAll (nd.map (·.name))).length := by
    obtain ⟨x, r, e⟩ := List.exists_cons_of_ne_nil (show nd ≠ [] from fun e => by rw [e] at m8; simp at m8)
    exact List.length_pos_of_mem ((insAll_mem _ x.name).2 (by rw [e]; simp))
  refine ⟨fine_of (by omega) (by omega) (by omega) (fun p hp => by have := ho.2 p hp; omega) (fun p hp => ?_), ?_⟩
  · have h1 : pcore p ∈ f.ps.map pcore := List.mem_map_of_mem hp
    rw [ho.1] at h1
    obtain ⟨nm, hm, e⟩ := List.mem_map.1 h1
    rw [← e]
    refine ⟨?_, by simp [Beg.look, Beg.lookK, atC]⟩
    show nm.size ≤ 1048576
    rw [insAll_mem] at hm
    obtain ⟨x, hx, rfl⟩ := List.mem_map.1 hm
    exact k2 x hx
  · rw [lost_none (by omega) ho.2, ho.1, h1, h2, h3, h4]
    rfl

set_option maxRecDepth 10000 in
set_option maxHeartbeats 4000000 in
theorem new_impl (bn : Nat) (nd : List Nodes.D) (lim : Int) (w : World) (hN : w.rowIs bn 42 (nd.length * 2) (Nodes.icell nd)) (ld : nd.length ≤ 1048576) (fd : ∀ x ∈ nd, Nodes.Fits x) (hv : Ring.Vars w) :
    Calls Tryd.prog 7 #[.slice (some ⟨bn, 0, none⟩) nd.length nd.length, .int .i64 lim] w (Tells2 (NewClusterL.nwR nd lim) w) := by
  have HNF := hide (fun w' (hb : Below w.heap.size w w') => newFleet_any bn nd lim w' (hN.of_block (hb.block _ hN.lt)) ld fd (hv.below hb))
  have HN := hide hN
  have hbw := hN.lt
  have HRR : Hid ((NodesM.gnB nd = false ∨ inB lim 0 10000 = false) → NewClusterL.nwR nd lim = (noCC, false)) := fun h => NewClusterL.nw_no h
  have HYY : Hid (NodesM.gnB nd = true → inB lim 0 10000 = true → NewClusterL.nwR nd lim = (NewClusterL.nwC nd lim, true)) := fun h1 h2 => NewClusterL.nw_yes h1 h2
  generalize NewClusterL.nwR nd lim = R at HRR HYY ⊢
  have B0 := hide (bel1 w (.cells #[.int .i64 0, .int .i64 0, .int .i64 0, .int .i64 0, .slice none 0 0, .slice none 0 0, .slice none 0 0] 27))
  have CY0 := hide (CB.new w 0 0 0 0 (.slice none 0 0) (.slice none 0 0) (.slice none 0 0))
  have hz0 : (w.alloc (.cells #[.int .i64 0, .int .i64 0, .int .i64 0, .int .i64 0, .slice none 0 0, .slice none 0 0, .slice none 0 0] 27)).heap.size = w.heap.size + 1 := World.size_alloc _ _
  clear hN fd hv
  go_enter Tryd.func7, Tryd.ntmps7
  go_wp2_with fail
  generalize w.alloc (.cells #[.int .i64 0, .int .i64 0, .int .i64 0, .int .i64 0, .slice none 0 0, .slice none 0 0, .slice none 0 0] 27) = W at B0 CY0 hz0 ⊢
  have hzW : w.heap.size < W.heap.size := by omega
  clear hz0
  refine (unhide HNF _ (unhide B0)).mono ?_
  rintro e w1 ⟨hb1, ⟨hno, rfl⟩ | ⟨hg, hlm, M, X, f, rfl, hf, q1, q2, q3, q4, q5, q6, hop⟩⟩
  · have HE := hide (unhide HRR hno)
    have B1 := hide ((unhide B0).trans (hb1.mono (unhide B0).size))
    have CY1 := hide ((unhide CY0).below hb1 hzW)
    clear hb1 hno HRR HYY
    obtain ⟨y0, y1, y2, y3, y4, y5, y6, yf, yl⟩ := (unhide CY1).cells
    go_wp2
    refine bodyPost_ret (v := .tuple #[clV noCl, .bool false]) (by simp [results, Tryd.results7, go_sem, clV, noCl, y0, y1, y2, y3, y4, y5, y6]) rfl ?_
    rw [unhide HE]
    refine ⟨noCl, rfl, rfl, CO.no _ _, ⟨fun q h => by simp [noCl, Value.ownBlock] at h, List.Pairwise.nil⟩, ?_⟩
    repeat (refine Below.setCell ?_ (by first | (simp; done) | (simp; omega)) _)
    exact unhide B1
  · obtain ⟨k1, k2⟩ := node_small hg
    obtain ⟨hfi, hce⟩ := nw_ok hg q1 q2 q3 q4 hop
    have N1 := (unhide HN).of_block (((unhide B0).trans (hb1.mono (unhide B0).size)).block bn hbw)
    have HC := hide (cluster_any M X f (some ⟨bn, 0, none⟩) none nd.length 0 nd [] w1 hf q5 q6 (Nodes.LAt.row N1) (fun h => absurd rfl h) k1 (by simp) k2 (by simp) hfi)
    rw [hce] at HC
    have HE := hide (unhide HYY hg hlm)
    have B1 := hide ((unhide B0).trans (hb1.mono (unhide B0).size))
    have CY1 := hide ((unhide CY0).below hb1 hzW)
    have hz1 : W.heap.size ≤ w1.heap.size := hb1.size
    clear hb1 hg hlm hf q1 q2 q3 q4 q5 q6 hop hfi hce N1 k1 k2 HRR HYY
    go_wp2_with fail
    refine (unhide HC).mono ?_
    rintro e w2 ⟨c, rfl, hpl, hco, hap, hb2⟩
    have B2 := hide ((unhide B1).trans (hb2.mono (unhide B1).size))
    have CY2 := hide ((unhide CY1).below hb2 (by omega))
    have HPL := hide hpl
    have HCO := hide hco
    have HAP := hide hap
    clear hpl hco hap hb2 HC
    obtain ⟨y0, y1, y2, y3, y4, y5, y6, yf, yl⟩ := (unhide CY2).cells
    unfold clV
    go_wp2
    refine bodyPost_ret (v := .tuple #[clV c, .bool true]) (by simp [results, Tryd.results7, go_sem, clV, y0, y1, y2, y3, y4, y5, y6]) rfl ?_
    rw [unhide HE]
    refine ⟨c, rfl, unhide HPL, CO.le (B := w1.heap.size) ?_ (by omega), unhide HAP, ?_⟩
    · repeat (refine CO.set ?_ (by first | (simp; done) | (simp; omega)) _)
      exact unhide HCO
    · repeat (refine Below.setCell ?_ (by first | (simp; done) | (simp; omega)) _)
      exact unhide B2
end Fleet
end Go.Proofs.YthgcfklfpllgnaaDoor
/-
  The model's NewCluster: what it tells of nodes and a limit.
-/
namespace Go.Proofs.YthgcfklfpllgnaaDoor
namespace Plc
open Go.RowKit Base Marks GoodKey
set_option linter.unusedVariables false

/-- How it ends. -/
def NewEnd (l : List Nodes.D) (lim : Int) (w : World) (e : Ending) (w' : World) : Prop :=
  (NodesM.gnB l = true ∧ inB lim 0 10000 = true ∧ ∃ nv pv, e = .returned (.tuple #[.agg #[.int .i64 0, .int .i64 1, .int .i64 lim, .int .i64 0, nv, .slice none 0 0, pv], .bool true]) ∧ w'.ownsRow w.heap.size 42 2 nv l.length (nflat l) ∧ w'.ownsRow w.heap.size 59 4 pv (insAll (l.map (·.name))).length (flat lim (insAll (l.map (·.name)))) ∧ Below w.heap.size w w') ∨
  ((NodesM.gnB l = false ∨ inB lim 0 10000 = false) ∧ e = .returned (.tuple #[.agg #[.int .i64 0, .int .i64 0, .int .i64 0, .int .i64 0, .slice none 0 0, .slice none 0 0, .slice none 0 0], .bool false]) ∧ Below w.heap.size w w')

theorem ninfo_ex : ∃ i, Tryd.prog.info? 42 = some i ∧ i.zero = some (.agg #[.string ByteArray.empty, .int .i64 0]) ∧ i.size = 2 ∧ i.bytes = 24 := by
  have h : (Tryd.prog.info? 42).map (fun i => (i.zero, i.size, i.bytes)) = some (some (.agg #[.string ByteArray.empty, .int .i64 0]), 2, 24) := by kernel_rfl
  obtain ⟨i, hi, hz⟩ := Option.map_eq_some_iff.1 h
  simp only [Prod.mk.injEq] at hz
  exact ⟨i, hi, hz.1, hz.2.1, hz.2.2⟩
theorem places_one (b off cap : Nat) (l : List Nodes.D) (lim : Int) (w : World) (hb : b < w.heap.size) (hc : ∀ i, i < l.length → Nodes.At w b (off + i * 2) (l.getD i Nodes.zero)) (hl : l.length ≤ 1048576) :
    Calls Tryd.prog 16 #[.slice (some ⟨b, off, none⟩) l.length cap, .slice none 0 0, .int .i64 lim] w fun e w' => ∃ v, e = .returned v ∧ w'.ownsRow w.heap.size 59 4 v (insAll (l.map (·.name))).length (flat lim (insAll (l.map (·.name)))) ∧ Below w.heap.size w w' := by
  have h := places_any (fun i => if i = 0 then some ⟨b, off, none⟩ else none) (fun i => if i = 0 then cap else 0) (fun i => if i = 0 then l else []) lim w (fun i hi => by
    by_cases h0 : i = 0
    · subst h0; exact fun _ => ⟨b, off, rfl, hb, hc⟩
    · simp only [if_neg h0]; exact fun h => absurd rfl h) (fun i hi => by by_cases h0 : i = 0 <;> simp [h0, hl])
  have e : pre (fun i => if i = 0 then l else []) 2 = l.map (·.name) := by simp [pre]
  rw [e] at h
  exact h
theorem new_no {l : List Nodes.D} {lim : Int} {w w' : World} (h : NodesM.gnB l = false ∨ inB lim 0 10000 = false) (hb : Below w.heap.size w w') : NewEnd l lim w (.returned (.tuple #[.agg #[.int .i64 0, .int .i64 0, .int .i64 0, .int .i64 0, .slice none 0 0, .slice none 0 0, .slice none 0 0], .bool false])) w' := .inr ⟨h, rfl, hb⟩

set_option maxRecDepth 10000 in
set_option maxHeartbeats 1000000 in
theorem newCluster_some (b off cap : Nat) (l : List Nodes.D) (lim : Int) (w : World) (hb : b < w.heap.size) (hc : ∀ i, i < l.length → Nodes.At w b (off + i * 2) (l.getD i Nodes.zero)) (hl : l.length ≤ 1048576) (hs : ∀ x ∈ l, Nodes.Fits x) :
    Calls Tryd.prog 5 #[.slice (some ⟨b, off, none⟩) l.length cap, .int .i64 lim] w (NewEnd l lim w) := by
  have hgood := fun w1 (hb1 : Below w.heap.size w w1) => NodesM.nodes_some b off cap l w1 (Nat.lt_of_lt_of_le hb hb1.size) (fun i hi => (hc i hi).below hb1 hb) (by unfold maxLen; omega) hs
  have hlim := limit_any lim
  have HP := hide (fun w1 (hb1 : Below w.heap.size w w1) => places_one b off cap l lim w1 (Nat.lt_of_lt_of_le hb hb1.size) (fun i hi => (hc i hi).below hb1 hb) hl)
  have HNC := hide (fun w1 (hb1 : Below w.heap.size w w1) => nflat_cells (fun i hi => (hc i hi).below hb1 hb))
  clear hc hs
  show Calls _ _ _ w (fun e w' => NewEnd l lim w e w')
  cases g1 : NodesM.gnB l
  · have HN := hide (fun w' => @new_no l lim w w' (.inl g1))
    rw [g1] at hgood
    have HG := hide hgood
    clear hgood g1 hlim
    go_enter Tryd.func5, Tryd.ntmps5
    go_wp2_with fail
    refine (unhide HG _ (bel1 w _)).mono ?_
    rintro e w1 ⟨rfl, hb1⟩
    simp only [World.size_alloc] at hb1
    have hB1 := hide ((bel1 w _).trans (hb1.mono (by omega)))
    have hr := fun o => hb1.cell (p := ⟨w.heap.size, o, none⟩) (by simp)
    have hrf := fun o => hb1.frozen (p := ⟨w.heap.size, o, none⟩) (by simp)
    clear hb1
    go_wp2
    refine bodyPost_ret (v := .tuple #[.agg #[.int .i64 0, .int .i64 0, .int .i64 0, .int .i64 0, .slice none 0 0, .slice none 0 0, .slice none 0 0], .bool false]) (by simp [results, Tryd.results5, go_sem, hr]) rfl (unhide HN _ ?_)
    repeat (refine Below.setCell ?_ (by first | (simp; done) | (simp; omega)) _)
    exact unhide hB1
  cases g2 : inB lim 0 10000
  · have HN := hide (fun w' => @new_no l lim w w' (.inr g2))
    rw [g1] at hgood
    rw [g2] at hlim
    have HG := hide hgood
    have HL := hide hlim
    clear hgood g1 g2 hlim
    go_enter Tryd.func5, Tryd.ntmps5
    go_wp2_with fail
    refine (unhide HG _ (bel1 w _)).mono ?_
    rintro e w1 ⟨rfl, hb1⟩
    simp only [World.size_alloc] at hb1
    have hB1 := hide ((bel1 w _).trans (hb1.mono (by omega)))
    have hr := fun o => hb1.cell (p := ⟨w.heap.size, o, none⟩) (by simp)
    have hrf := fun o => hb1.frozen (p := ⟨w.heap.size, o, none⟩) (by simp)
    clear hb1
    go_wp2_with (go_at_call 15; refine (unhide HL _).mono ?_; rintro e w2 ⟨rfl, rfl⟩)
    refine bodyPost_ret (v := .tuple #[.agg #[.int .i64 0, .int .i64 0, .int .i64 0, .int .i64 0, .slice none 0 0, .slice none 0 0, .slice none 0 0], .bool false]) (by simp [results, Tryd.results5, go_sem, hr]) rfl (unhide HN _ ?_)
    repeat (refine Below.setCell ?_ (by first | (simp; done) | (simp; omega)) _)
    exact unhide hB1
  have HYES := hide (fun w' nv pv (h1 : w'.ownsRow w.heap.size 42 2 nv l.length (nflat l)) (h2 : w'.ownsRow w.heap.size 59 4 pv (insAll (l.map (·.name))).length (flat lim (insAll (l.map (·.name))))) (h3 : Below w.heap.size w w') => (show NewEnd l lim w (.returned (.tuple #[.agg #[.int .i64 0, .int .i64 1, .int .i64 lim, .int .i64 0, nv, .slice none 0 0, pv], .bool true])) w' from .inl ⟨g1, g2, nv, pv, rfl, h1, h2, h3⟩))
  rw [g1] at hgood
  rw [g2] at hlim
  have HG := hide hgood
  have HL := hide hlim
  obtain ⟨j0, hj0, hy0, hy1, hy2⟩ := ninfo_ex
  have JI := hide hj0
  have JZ0 := hide hy0
  have JZ1 := hide hy1
  have JZ2 := hide hy2
  clear hgood g1 g2 hlim hj0 hy0 hy1 hy2
  go_enter Tryd.func5, Tryd.ntmps5
  go_wp2_with fail
  refine (unhide HG _ (bel1 w _)).mono ?_
  rintro e w1 ⟨rfl, hb1⟩
  simp only [World.size_alloc] at hb1
  have hB1 := hide ((bel1 w _).trans (hb1.mono (by omega)))
  have hz1 : w.heap.size + 1 ≤ w1.heap.size := by have := hb1.size; rwa [World.size_alloc] at this
  have hr := fun o => hb1.cell (p := ⟨w.heap.size, o, none⟩) (by simp)
  have hrf := fun o => hb1.frozen (p := ⟨w.heap.size, o, none⟩) (by simp)
  clear hb1
  go_wp2_with fail
  refine (unhide HL _).mono ?_
  rintro e w2 ⟨rfl, h2⟩
  rw [h2]
  clear h2 w2
  go_wp2_with (at_builtin; go_loud (refine wpList_append_own _ rfl _ _ 24 rfl w1.heap.size 42 j0 _ 2 24 Tryd.underlying24 (unhide JI) (unhide JZ0) (unhide JZ1) (unhide JZ2) rfl (by decide) _ 0 [] rfl ?e0 ⟨b, off, none⟩ l.length cap (nflat l) rfl ?e1 ?e2 (fun u hu => nflat_one hu) ?e3 ?e4 ?e5 ?_))
  case e0 => exact own_empty (heap_alloc_new w1 _) (Nat.le_refl _)
  case e1 => exact nflat_len l
  case e2 => exact unhide HNC _ ((unhide hB1).alloc (by omega) _)
  case e3 => unfold maxLen; omega
  case e4 => omega
  case e5 => simp
  intro v3 w3 h3 hg3 _
  have T3 : Below w1.heap.size w1 w3 := ((Below.refl w1.heap.size w1).alloc (Nat.le_refl _) _).grown hg3 (by simp) (fun k e => by simp [Value.ownBlock] at e; omega)
  have B3 := hide ((unhide hB1).trans (T3.mono (unhide hB1).size))
  have hr3 := fun o => (T3.cell (p := ⟨w.heap.size, o, none⟩) (show w.heap.size < w1.heap.size by omega)).trans (hr o)
  have hrf3 := fun o => (T3.frozen (p := ⟨w.heap.size, o, none⟩) (show w.heap.size < w1.heap.size by omega)).trans (hrf o)
  have O3 := hide (OwnR.own_le h3 hz1)
  have hz3 := T3.size
  clear h3 hg3 hr hrf T3
  go_wp2_with fail
  refine (unhide HP _ (unhide B3)).mono ?_
  rintro e w4 ⟨v4, rfl, ho4, hb4⟩
  have B4 := hide ((unhide B3).trans (hb4.mono (unhide B3).size))
  have hr4 := fun o => (hb4.cell (p := ⟨w.heap.size, o, none⟩) (show w.heap.size < w3.heap.size by omega)).trans (hr3 o)
  have hrf4 := fun o => (hb4.frozen (p := ⟨w.heap.size, o, none⟩) (show w.heap.size < w3.heap.size by omega)).trans (hrf3 o)
  have O4 := hide (OwnR.own_below (unhide O3) hb4 (Nat.le_refl _))
  have P4 := hide (OwnR.own_le ho4 (show w.heap.size + 1 ≤ w3.heap.size by omega))
  clear ho4 hb4 hr3 hrf3 O3 B3
  obtain ⟨pa, pc, rfl⟩ := OwnR.own_form (unhide P4)
  obtain ⟨na, nc, rfl⟩ := OwnR.own_form (unhide O4)
  go_wp2
  refine bodyPost_ret (v := .tuple #[.agg #[.int .i64 0, .int .i64 1, .int .i64 lim, .int .i64 0, .slice na l.length nc, .slice none 0 0, .slice pa (insAll (l.map (·.name))).length pc], .bool true]) (by simp [results, Tryd.results5, go_sem, hr4]) rfl (unhide HYES _ _ _ (OwnR.own_le (base := w.heap.size + 1) ?_ (by omega)) (OwnR.own_le (base := w.heap.size + 1) ?_ (by omega)) ?_)
  · repeat (refine ownsRow_setCell_below ?_ (by simp) _)
    exact unhide O4
  · repeat (refine ownsRow_setCell_below ?_ (by simp) _)
    exact unhide P4
  · repeat (refine Below.setCell ?_ (by first | (simp; done) | (simp; omega)) _)
    exact unhide B4
end Plc
end Go.Proofs.YthgcfklfpllgnaaDoor
