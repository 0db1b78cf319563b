/-
  The model's BeginMove.
-/
import Derived.Test.YtkodgbalhnbhcaaGreatDoorBegS
import Derived.Test.YtkodgbalhnbhcaaGreatDoorZ22
import Derived.Test.YtkodgbalhnbhcaaGreatDoorZ17
import Derived.Test.YtkodgbalhnbhcaaGreatDoorZ19
import Derived.Test.YtkodgbalhnbhcaaGreatDoorFleetN
import Derived.Deep.RegionWith
namespace Go.Proofs.YtkodgbalhnbhcaaGreatDoor
namespace Beg
open Go.RowKit Base OwnR Plc Clus
set_option linter.unusedVariables false

/-- How BeginMove ends. -/
def BmEnd (C : CC) (nd : List Nodes.D) (w : World) (e : Ending) (w' : World) : Prop :=
  ∃ (c : Cl) (ok : Bool), e = .returned (.tuple #[clV c, .bool ok]) ∧ (plain c, ok) = bmR C nd ∧ CO w' w.heap.size c ∧ Below w.heap.size w w'
theorem bm_no {C : CC} {nd : List Nodes.D} {w w' : World} (h : bmR C nd = (noCC, false)) (hb : Below w.heap.size w w') : BmEnd C nd w (.returned (.tuple #[.agg #[.int .i64 0, .int .i64 0, .int .i64 0, .int .i64 0, .slice none 0 0, .slice none 0 0, .slice none 0 0], .bool false])) w' :=
  ⟨noCl, false, rfl, by rw [h]; rfl, CO.no w' _, hb⟩

set_option maxRecDepth 10000 in
set_option maxHeartbeats 4000000 in
theorem beginMove_spec (now nx lim lost : Int) (b1 b2 b3 : Nat) (ns cs : List Nodes.D) (L : List Pls.Pl) (bn : Nat) (nd : List Nodes.D) (w : World) (hR : CR w b1 b2 b3 ns cs L) (hN : w.rowIs bn 76 (nd.length * 2) (Nodes.icell nd)) (ln : ns.length ≤ 1048576) (fn : ∀ x ∈ ns, Nodes.Fits x) (lc : cs.length ≤ 1048576) (fc : ∀ x ∈ cs, Nodes.Fits x) (lp : L.length ≤ 1048576) (fp : ∀ x ∈ L, Pls.Fits x) (ld : nd.length ≤ 1048576) (fd : ∀ x ∈ nd, Nodes.Fits x) :
    Calls Tryz.prog 18 #[.agg #[.int .i64 now, .int .i64 nx, .int .i64 lim, .int .i64 lost, .slice (some ⟨b1, 0, none⟩) ns.length ns.length, .slice (some ⟨b2, 0, none⟩) cs.length cs.length, .slice (some ⟨b3, 0, none⟩) L.length L.length], .slice (some ⟨bn, 0, none⟩) nd.length nd.length] w (BmEnd ⟨now, nx, lim, lost, ns, cs, L.map Pls.core⟩ nd w) := by
  obtain ⟨C, hC⟩ : ∃ C : CC, C = ⟨now, nx, lim, lost, ns, cs, L.map Pls.core⟩ := ⟨_, rfl⟩
  rw [← hC]
  have hCL : C.ps = L.map Pls.core := by rw [hC]
  have hCc : C.cs = cs := by rw [hC]
  have hCn : C.ns = ns := by rw [hC]
  have HG := hide (fun w' (hb : Below w.heap.size w w') => good_spec now nx lim lost b1 b2 b3 ns cs L w' (hR.below hb (Nat.le_refl _)) ln fn lc fc lp fp)
  rw [← hC] at HG
  have hNB : ∀ {w' : World}, Below w.heap.size w w' → w'.rowIs bn 76 (nd.length * 2) (Nodes.icell nd) := fun hb => hN.of_block (hb.block _ hN.lt)
  have HN := hide (fun w' (hb : Below w.heap.size w w') => snodes_row bn nd _ w' (hNB hb) (by unfold maxLen; omega) fd)
  obtain ⟨W, hW⟩ : ∃ W, W = (w.alloc (.cells #[.int .i64 now, .int .i64 nx, .int .i64 lim, .int .i64 lost, .slice (some ⟨b1, 0, none⟩) ns.length ns.length, .slice (some ⟨b2, 0, none⟩) cs.length cs.length, .slice (some ⟨b3, 0, none⟩) L.length L.length] 30)).alloc (.cells #[.int .i64 0, .int .i64 0, .int .i64 0, .int .i64 0, .slice none 0 0, .slice none 0 0, .slice none 0 0] 30) := ⟨_, rfl⟩
  have BW : Hid (Below w.heap.size w W) := by rw [hW]; exact bel2 w _ _
  have hzW : w.heap.size + 2 ≤ W.heap.size := by rw [hW]; simp
  have CX : Hid (CB W w.heap.size now nx lim lost (.slice (some ⟨b1, 0, none⟩) ns.length ns.length) (.slice (some ⟨b2, 0, none⟩) cs.length cs.length) (.slice (some ⟨b3, 0, none⟩) L.length L.length)) := by
    rw [hW]; exact ((bel1 (w.alloc _) _).block w.heap.size (by simp)).trans (heap_alloc_new w _)
  have CY : Hid (CB W (w.heap.size + 1) 0 0 0 0 (.slice none 0 0) (.slice none 0 0) (.slice none 0 0)) := by
    rw [hW]
    have := heap_alloc_new (w.alloc (.cells #[.int .i64 now, .int .i64 nx, .int .i64 lim, .int .i64 lost, .slice (some ⟨b1, 0, none⟩) ns.length ns.length, .slice (some ⟨b2, 0, none⟩) cs.length cs.length, .slice (some ⟨b3, 0, none⟩) L.length L.length] 30)) (.cells #[.int .i64 0, .int .i64 0, .int .i64 0, .int .i64 0, .slice none 0 0, .slice none 0 0, .slice none 0 0] 30)
    rw [World.size_alloc] at this
    exact this
  have HW := hide hW
  clear hW
  cases hg : gcB C
  · have H : Hid (bmR C nd = (noCC, false)) := hide (bm_bad hg)
    rw [hg] at HG
    clear hg hC hCL hCc hCn hR fn fc fp HN hNB
    go_enter Tryz.func18, Tryz.ntmps18
    go_upto_region 1 with fail
    rw [← unhide HW]
    clear HW
    have B0 := BW
    have X0 := CX
    have Y0 := CY
    have hz0 := hzW
    obtain ⟨x0, x1, x2, x3, x4, x5, x6, xf, xz⟩ := (unhide X0).cells
    go_wp2_with fail
    refine (unhide HG _ (unhide B0)).mono ?_
    rintro e w1 ⟨rfl, hb1⟩
    have B1 := hide ((unhide B0).trans (hb1.mono (unhide B0).size))
    have Y1 := hide ((unhide Y0).below hb1 (by omega))
    have X1 := hide ((unhide X0).below hb1 (by omega))
    have hz1 := hb1.size
    clear hb1 x0 x1 x2 x3 x4 x5 x6 xf xz
    obtain ⟨x0, x1, x2, x3, x4, x5, x6, xf, xz⟩ := (unhide X1).cells
    obtain ⟨y0, y1, y2, y3, y4, y5, y6, yf, yz⟩ := (unhide Y1).cells
    go_wp2
    refine bodyPost_ret (v := .tuple #[.agg #[.int .i64 0, .int .i64 0, .int .i64 0, .int .i64 0, .slice none 0 0, .slice none 0 0, .slice none 0 0], .bool false]) (by simp [results, Tryz.results18, go_sem, y0, y1, y2, y3, y4, y5, y6]) rfl (bm_no (unhide H) ?_)
    repeat (refine Below.setCell ?_ (by first | (simp; done) | (simp; omega)) _)
    exact unhide B1
  by_cases hcz : cs.length = 0
  case neg =>
    have H : Hid (bmR C nd = (noCC, false)) := hide (bm_moving (by rw [hCc]; exact hcz))
    rw [hg] at HG
    have hcp : 0 < cs.length := by omega
    generalize cs.length = cl at hcp CX HW HG ⊢
    have hd1 : decide (0 < (cl : Int)) = true := by simp; omega
    have hd2 : decide ((cl : Int) > 0) = true := by simp; omega
    have hd3 : decide (0 < cl) = true := by simp; omega
    clear hg hC hCL hCc hCn hR fn fc fp hcz HN hNB
    go_enter Tryz.func18, Tryz.ntmps18
    go_upto_region 1 with fail
    rw [← unhide HW]
    clear HW
    have B0 := BW
    have X0 := CX
    have Y0 := CY
    have hz0 := hzW
    obtain ⟨x0, x1, x2, x3, x4, x5, x6, xf, xz⟩ := (unhide X0).cells
    go_wp2_with fail
    refine (unhide HG _ (unhide B0)).mono ?_
    rintro e w1 ⟨rfl, hb1⟩
    have B1 := hide ((unhide B0).trans (hb1.mono (unhide B0).size))
    have Y1 := hide ((unhide Y0).below hb1 (by omega))
    have X1 := hide ((unhide X0).below hb1 (by omega))
    have hz1 := hb1.size
    clear hb1 x0 x1 x2 x3 x4 x5 x6 xf xz
    obtain ⟨x0, x1, x2, x3, x4, x5, x6, xf, xz⟩ := (unhide X1).cells
    obtain ⟨y0, y1, y2, y3, y4, y5, y6, yf, yz⟩ := (unhide Y1).cells
    go_wp2
    refine bodyPost_ret (v := .tuple #[.agg #[.int .i64 0, .int .i64 0, .int .i64 0, .int .i64 0, .slice none 0 0, .slice none 0 0, .slice none 0 0], .bool false]) (by simp [results, Tryz.results18, go_sem, y0, y1, y2, y3, y4, y5, y6]) rfl (bm_no (unhide H) ?_)
    repeat (refine Below.setCell ?_ (by first | (simp; done) | (simp; omega)) _)
    exact unhide B1
  rw [hg] at HG
  have HD : Hid (decide (0 < (cs.length : Int)) = false ∧ decide ((cs.length : Int) > 0) = false ∧ decide (0 < cs.length) = false) := hide ⟨by rw [hcz]; rfl, by rw [hcz]; rfl, by rw [hcz]; rfl⟩
  cases hgn : NodesM.gnB nd
  · have H : Hid (bmR C nd = (noCC, false)) := hide (bm_nodes hgn)
    rw [hgn] at HN
    clear hg hC hCL hCc hCn hR fn fc fp hgn hNB
    generalize cs.length = cl at HD CX HW HG ⊢
    obtain ⟨hd1, hd2, hd3⟩ := unhide HD
    go_enter Tryz.func18, Tryz.ntmps18
    go_upto_region 1 with fail
    rw [← unhide HW]
    clear HW
    have B0 := BW
    have X0 := CX
    have Y0 := CY
    have hz0 := hzW
    obtain ⟨x0, x1, x2, x3, x4, x5, x6, xf, xz⟩ := (unhide X0).cells
    go_wp2_with fail
    refine (unhide HG _ (unhide B0)).mono ?_
    rintro e w1 ⟨rfl, hb1⟩
    have B1 := hide ((unhide B0).trans (hb1.mono (unhide B0).size))
    have Y1 := hide ((unhide Y0).below hb1 (by omega))
    have X1 := hide ((unhide X0).below hb1 (by omega))
    have hz1 := hb1.size
    clear hb1 x0 x1 x2 x3 x4 x5 x6 xf xz
    obtain ⟨x0, x1, x2, x3, x4, x5, x6, xf, xz⟩ := (unhide X1).cells
    go_wp2_with fail
    refine (unhide HN _ (unhide B1)).mono ?_
    rintro e w2 ⟨rfl, hb2⟩
    have B2 := hide ((unhide B1).trans (hb2.mono (unhide B1).size))
    have Y2 := hide ((unhide Y1).below hb2 (by omega))
    have X2 := hide ((unhide X1).below hb2 (by omega))
    have hz2 := hb2.size
    clear hb2 x0 x1 x2 x3 x4 x5 x6 xf xz
    obtain ⟨x0, x1, x2, x3, x4, x5, x6, xf, xz⟩ := (unhide X2).cells
    obtain ⟨y0, y1, y2, y3, y4, y5, y6, yf, yz⟩ := (unhide Y2).cells
    go_wp2
    refine bodyPost_ret (v := .tuple #[.agg #[.int .i64 0, .int .i64 0, .int .i64 0, .int .i64 0, .slice none 0 0, .slice none 0 0, .slice none 0 0], .bool false]) (by simp [results, Tryz.results18, go_sem, y0, y1, y2, y3, y4, y5, y6]) rfl (bm_no (unhide H) ?_)
    repeat (refine Below.setCell ?_ (by first | (simp; done) | (simp; omega)) _)
    exact unhide B2
  rw [hgn] at HN
  have hg' := hg
  rw [gc_eq, Bool.and_eq_true, Bool.and_eq_true] at hg'
  obtain ⟨_, _, _, _, g5, _⟩ := (head_iff C).1 hg'.1.1
  rw [hCn] at g5
  have n8 := (Ring.good_len g5).2
  have d8 := (Ring.good_len hgn).2
  have d1 := (Ring.good_len hgn).1
  have HS := hide (fun w' (hb : Below w.heap.size w w') => Same.same_spec (some ⟨b1, 0, none⟩) (some ⟨bn, 0, none⟩) ns.length nd.length ns nd w' (Nodes.LAt.row ((hR.below hb (Nat.le_refl _)).n)) (Nodes.LAt.row (hNB hb)) (by omega) (by omega))
  cases hsm : Same.sameB ns nd
  case true =>
    have H : Hid (bmR C nd = (noCC, false)) := hide (bm_same (by rw [hCn]; exact hsm))
    rw [hsm] at HS
    clear hg hg' hC hCL hCc hCn hR fn fc fp hgn hsm hNB g5
    generalize cs.length = cl at HD CX HW HG ⊢
    obtain ⟨hd1, hd2, hd3⟩ := unhide HD
    go_enter Tryz.func18, Tryz.ntmps18
    go_upto_region 1 with fail
    rw [← unhide HW]
    clear HW
    have B0 := BW
    have X0 := CX
    have Y0 := CY
    have hz0 := hzW
    obtain ⟨x0, x1, x2, x3, x4, x5, x6, xf, xz⟩ := (unhide X0).cells
    go_wp2_with fail
    refine (unhide HG _ (unhide B0)).mono ?_
    rintro e w1 ⟨rfl, hb1⟩
    have B1 := hide ((unhide B0).trans (hb1.mono (unhide B0).size))
    have Y1 := hide ((unhide Y0).below hb1 (by omega))
    have X1 := hide ((unhide X0).below hb1 (by omega))
    have hz1 := hb1.size
    clear hb1 x0 x1 x2 x3 x4 x5 x6 xf xz
    obtain ⟨x0, x1, x2, x3, x4, x5, x6, xf, xz⟩ := (unhide X1).cells
    go_wp2_with fail
    refine (unhide HN _ (unhide B1)).mono ?_
    rintro e w2 ⟨rfl, hb2⟩
    have B2 := hide ((unhide B1).trans (hb2.mono (unhide B1).size))
    have Y2 := hide ((unhide Y1).below hb2 (by omega))
    have X2 := hide ((unhide X1).below hb2 (by omega))
    have hz2 := hb2.size
    clear hb2 x0 x1 x2 x3 x4 x5 x6 xf xz
    obtain ⟨x0, x1, x2, x3, x4, x5, x6, xf, xz⟩ := (unhide X2).cells
    go_wp2_with fail
    refine (unhide HS _ (unhide B2)).mono ?_
    rintro e w3 ⟨rfl, hb3⟩
    have B3 := hide ((unhide B2).trans (hb3.mono (unhide B2).size))
    have Y3 := hide ((unhide Y2).below hb3 (by omega))
    have X3 := hide ((unhide X2).below hb3 (by omega))
    have hz3 := hb3.size
    clear hb3 x0 x1 x2 x3 x4 x5 x6 xf xz
    obtain ⟨x0, x1, x2, x3, x4, x5, x6, xf, xz⟩ := (unhide X3).cells
    obtain ⟨y0, y1, y2, y3, y4, y5, y6, yf, yz⟩ := (unhide Y3).cells
    go_wp2
    refine bodyPost_ret (v := .tuple #[.agg #[.int .i64 0, .int .i64 0, .int .i64 0, .int .i64 0, .slice none 0 0, .slice none 0 0, .slice none 0 0], .bool false]) (by simp [results, Tryz.results18, go_sem, y0, y1, y2, y3, y4, y5, y6]) rfl (bm_no (unhide H) ?_)
    repeat (refine Below.setCell ?_ (by first | (simp; done) | (simp; omega)) _)
    exact unhide B3
  rw [hsm] at HS
  have H : Hid (bmR C nd = (bmC C nd, true)) := hide (bm_yes hg (by rw [hCc]; exact hcz) hgn (by rw [hCn]; exact hsm))
  obtain ⟨l16, hgs⟩ := gc_stores hCL hg
  have h60 : ∀ x ∈ L, x.its.length ≤ 1000 := fun x hx => by
    obtain ⟨j, hj, rfl⟩ := List.getElem_of_mem hx
    have := (gs_item (hgs j hj).1).1
    rw [List.getD_eq_getElem?_getD, List.getElem?_eq_getElem hj] at this
    simp only [Option.getD_some] at this
    omega
  have hL0 : 0 < L.length := by
    obtain ⟨j, hj⟩ := (gc_owner hg ByteArray.empty).1
    unfold atC at hj
    have := (List.findIdx?_eq_some_iff_getElem.1 hj).1
    rw [hCL, List.length_map] at this
    omega
  have HOWN := hide (fun w' (hb : Below w.heap.size w w') => own_spec now nx lim lost b1 b2 b3 ns cs L w' (hR.below hb (Nat.le_refl _)) (by omega) (by omega) (by omega) h60)
  have HRI : Hid (∀ M : List Pls.Pl, M.map Pls.core = L.map Pls.core → Rising (((M.map Pls.core).map (·.name)).map toL) ∧ ∀ i, i < M.length → (M.getD i Pls.zeroL).name ∈ insAll (ns.map (·.name) ++ nd.map (·.name))) := by
    intro M hM
    rw [hM, ← hCL]
    refine ⟨Fleet.gc_rising hg, fun i hi => ?_⟩
    have h1 : (Pls.core (M.getD i Pls.zeroL)).name ∈ C.ps.map (·.name) := by
      rw [hCL, ← hM]
      exact List.mem_map.2 ⟨_, List.mem_map.2 ⟨_, Pls.getD_mem hi, rfl⟩, rfl⟩
    rw [gc_names hg] at h1
    unfold names at h1
    rw [insAll_mem, hCn, hCc] at h1
    have hcs : cs = [] := List.length_eq_zero_iff.1 hcz
    rw [hcs, List.map_nil, List.append_nil] at h1
    rw [insAll_mem]
    exact List.mem_append_left _ h1
  have HBM : Hid (∀ M N : List Pls.Pl, M.map Pls.core = L.map Pls.core → N.map Pls.core = (insAll (ns.map (·.name) ++ nd.map (·.name))).map (look (M.map Pls.core) lim) → (⟨now, nx, lim, lost, ns, nd, N.map Pls.core⟩ : CC) = bmC C nd) := by
    intro M N h1 h2
    rw [h2, h1, hC]
    rfl
  have HNB := hide (fun w' (hb : Below w.heap.size w w') => hNB hb)
  clear hg hg' hC hCL hCc hCn hR fn fc fp hgn hsm hNB g5 hgs h60 hcz
  obtain ⟨hd1, hd2, hd3⟩ := unhide HD
  go_enter Tryz.func18, Tryz.ntmps18
  go_upto_region 1 with fail
  rw [← unhide HW]
  clear HW
  have B0 := BW
  have X0 := CX
  have Y0 := CY
  have hz0 := hzW
  obtain ⟨x0, x1, x2, x3, x4, x5, x6, xf, xz⟩ := (unhide X0).cells
  go_wp2_with fail
  refine (unhide HG _ (unhide B0)).mono ?_
  rintro e w1 ⟨rfl, hb1⟩
  have B1 := hide ((unhide B0).trans (hb1.mono (unhide B0).size))
  have Y1 := hide ((unhide Y0).below hb1 (by omega))
  have X1 := hide ((unhide X0).below hb1 (by omega))
  have hz1 := hb1.size
  clear hb1 x0 x1 x2 x3 x4 x5 x6 xf xz
  obtain ⟨x0, x1, x2, x3, x4, x5, x6, xf, xz⟩ := (unhide X1).cells
  go_wp2_with fail
  refine (unhide HN _ (unhide B1)).mono ?_
  rintro e w2 ⟨rfl, hb2⟩
  have B2 := hide ((unhide B1).trans (hb2.mono (unhide B1).size))
  have Y2 := hide ((unhide Y1).below hb2 (by omega))
  have X2 := hide ((unhide X1).below hb2 (by omega))
  have hz2 := hb2.size
  clear hb2 x0 x1 x2 x3 x4 x5 x6 xf xz
  obtain ⟨x0, x1, x2, x3, x4, x5, x6, xf, xz⟩ := (unhide X2).cells
  go_wp2_with fail
  refine (unhide HS _ (unhide B2)).mono ?_
  rintro e w3 ⟨rfl, hb3⟩
  have B3 := hide ((unhide B2).trans (hb3.mono (unhide B2).size))
  have Y3 := hide ((unhide Y2).below hb3 (by omega))
  have X3 := hide ((unhide X2).below hb3 (by omega))
  have hz3 := hb3.size
  clear hb3 x0 x1 x2 x3 x4 x5 x6 xf xz
  obtain ⟨x0, x1, x2, x3, x4, x5, x6, xf, xz⟩ := (unhide X3).cells
  go_wp2_with fail
  refine (unhide HOWN _ (unhide B3)).mono ?_
  rintro e w4 hown
  obtain ⟨a1, c1, a2, c2, a3, c3, M, rfl, hM, hco, hb4⟩ := hown.co
  clear hown
  have B4 := hide ((unhide B3).trans (hb4.mono (unhide B3).size))
  have Y4 := hide ((unhide Y3).below hb4 (by omega))
  have hz4 := hb4.size
  have hlM := Pls.map_len hM
  obtain ⟨g, rfl, hg2, hg3⟩ := hco.p.head (show 0 < M.length by omega)
  obtain ⟨r1, r2⟩ := unhide HRI M hM
  have HBE := hide (begin_spec now nx lim lost a1 c1 ns a2 c2 cs g c3 M bn nd w3.heap.size w4 hz4 hco hg3 (unhide HNB _ (unhide B4)) (by omega) (by omega) (by omega) (by omega) r1 r2)
  have HBN := hide (fun N h => unhide HBM M N hM h)
  clear hb4 x0 x1 x2 x3 x4 x5 x6 xf xz HOWN X3 Y3 B3 hco hM HRI HBM r1 r2 hlM
  go_wp2_with fail
  refine (unhide HBE).mono ?_
  rintro e w5 ⟨k2, kc, g5, k3, N, rfl, hNc, hco, hb5, hz5⟩
  have B5 := hide ((unhide B4).trans (hb5.mono (by omega)))
  have Y5 := hide ((unhide Y4).below hb5 (by omega))
  have HP := hide (unhide HBN N hNc)
  have K5 := hide hco
  clear HBE HBN B4 Y4 hb5 hNc hco
  obtain ⟨t0, t1, t2, t3, t4, t5, t6, tf, tz⟩ := (unhide Y5).cells
  go_wp2
  refine bodyPost_ret (v := .tuple #[.agg #[.int .i64 now, .int .i64 nx, .int .i64 lim, .int .i64 lost, .slice a1 ns.length c1, .slice k2 nd.length kc, .slice (some ⟨g5, 0, none⟩) N.length k3], .bool true]) (by simp [results, Tryz.results18, go_sem, t0, t1, t2, t3, t4, t5, t6]) rfl ⟨⟨now, nx, lim, lost, a1, c1, ns, k2, kc, nd, some ⟨g5, 0, none⟩, k3, N⟩, true, rfl, ?_, CO.le (B := w3.heap.size) ?_ (by omega), ?_⟩
  · rw [unhide H, ← unhide HP]; rfl
  · exact (unhide K5).box7 (unhide Y5) now nx lim lost (.slice a1 ns.length c1) (.slice k2 nd.length kc) (.slice (some ⟨g5, 0, none⟩) N.length k3)
  · repeat (refine Below.setCell ?_ (by first | (simp; done) | (simp; omega)) _)
    exact unhide B5
end Beg
end Go.Proofs.YtkodgbalhnbhcaaGreatDoor
/-
  The program's newPlace: a place with nothing in it.
-/
namespace Go.Proofs.YtkodgbalhnbhcaaGreatDoor
namespace Shelf
open Go.RowKit Base Store Items OwnR Keep
set_option linter.unusedVariables false

set_option maxRecDepth 10000 in
set_option maxHeartbeats 4000000 in
theorem shelfOf_nil (lim nx : Int) (w : World) :
    Calls Tryz.prog 109 #[.agg #[.int .i64 lim, .int .i64 nx, .slice none 0 0]] w fun e w' => ∃ h S, e = .returned (.pointer (some ⟨h, 0, none⟩)) ∧ Shelf w' h S lim nx 0 [] ∧ (∀ y ∈ S, w.heap.size ≤ y) ∧ Below w.heap.size w w' := by
  have hmm := @run_makeMap Tryz.prog
  go_enter Tryz.func109, Tryz.ntmps109
  go_upto_region 1 with fail
  go_cut [3] (fun s3 wx => ∃ (h : Nat), s3 = .pointer (some ⟨h, 0, none⟩) ∧ Hid (New w wx (.cells #[.int .i64 lim, .int .i64 nx, .slice none 0 0] 57) lim nx h))
  case first =>
    have s0 := (bx_a w 57 (.int .i64 lim) (.int .i64 nx) (.slice none 0 0)).1
    have s1 := (bx_a w 57 (.int .i64 lim) (.int .i64 nx) (.slice none 0 0)).2
    have n0 := World.new_ne (w.alloc (.cells #[.int .i64 lim, .int .i64 nx, .slice none 0 0] 57)) _ s0
    have n1 := World.new_ne (w.alloc (.cells #[.int .i64 lim, .int .i64 nx, .slice none 0 0] 57)) _ s1
    go_region_held3 (fun w' => w'.cell? ⟨w.heap.size, 0, none⟩ = some (.int .i64 lim) ∧ w'.cell? ⟨w.heap.size, 1, none⟩ = some (.int .i64 nx)) (first | go_keep | (refine ⟨?_, ?_⟩ <;> first | assumption | (simp [*]; done) | (simp; omega))) (first | (go_at_call 115; refine (newChain_any _).mono ?_; rintro e w1 ⟨g, rfl, hg, hli, hb1⟩; have q0 := (hb1.cell (p := ⟨w.heap.size, 0, none⟩) (by first | (simp [World.drew]; done) | (simp [World.drew]; omega))).trans (by first | exact (bx_a w _ _ _ _).1 | exact (bx_b w _ _ _ _ _).1); have q1 := (hb1.cell (p := ⟨w.heap.size, 1, none⟩) (by first | (simp [World.drew]; done) | (simp [World.drew]; omega))).trans (by first | exact (bx_a w _ _ _ _).2 | exact (bx_b w _ _ _ _ _).2); have hz1 : w.heap.size < w1.heap.size := (by first | exact alloc_lt hb1.size | exact alloc_lt2 hb1.size); have HB1 := hide hb1; have HLI := hide hli; clear hb1 hli))
    all_goals
      go_wp2_with fail
      go_meet
      first | exact ⟨_, rfl, hide (new_a hg (unhide HLI) (unhide HB1))⟩ | exact ⟨_, rfl, hide (new_b hg (unhide HLI) (unhide HB1))⟩
  case rest =>
  obtain ⟨h, rfl, HN⟩ := hcut
  obtain ⟨S0, hs0, hS0, hbel0⟩ := unhide HN
  have hbx := boxcell hbel0
  have HS0 := hide hs0
  have HSS := hide hS0
  have HB0 := hide hbel0
  clear HN hs0 hS0 hbel0
  go_wp2
  go_loopw [17] (fun i wr => ∃ (S : List Nat), i = .int .i64 0 ∧ Hid (Shelf wr h S lim nx 0 []) ∧ Hid (∀ y ∈ S, w.heap.size < y) ∧ Hid (Below (w.heap.size + 1) (w.alloc (.cells #[.int .i64 lim, .int .i64 nx, .slice none 0 0] 57)) wr)) (fun i _ => 0)
  case atStart => exact ⟨S0, rfl, HS0, HSS, HB0⟩
  case round =>
    obtain ⟨S, rfl, hsh, hSS, hbel⟩ := hrel
    have hB : Hid (Below w.heap.size w wr) := (bel1 w _).trans ((unhide hbel).mono (by omega))
    go_wp2
    go_ret
    exact ⟨h, S, rfl, unhide hsh, fun y hy => Nat.le_of_lt (unhide hSS y hy), unhide hB⟩
end Shelf
namespace Fleet
open Go.RowKit Base Store Items OwnR Keep Clus

set_option maxRecDepth 10000 in
set_option maxHeartbeats 4000000 in
theorem newPlace_any (name : ByteArray) (lim : Int) (w : World) :
    Calls Tryz.prog 129 #[.string name, .int .i64 lim] w fun e w' => ∃ p : Pc, e = .returned (ptr p) ∧ PcAt w' p ∧ (∀ y ∈ bks p, w.heap.size ≤ y) ∧ p.name = name ∧ p.lim = lim ∧ p.nx = 1 ∧ p.lost = 0 ∧ p.its = [] ∧ Below w.heap.size w w' := by
  have HSO := hide (fun w' => _root_.Go.Proofs.YtkodgbalhnbhcaaGreatDoor.Shelf.shelfOf_nil lim 1 w')
  go_enter Tryz.func129, Tryz.ntmps129
  go_wp2_with fail
  refine (unhide HSO _).mono ?_
  rintro e w1 ⟨h, S, rfl, hsh, hS, hb1⟩
  have HSH := hide hsh
  have HS := hide hS
  have HB := hide hb1
  clear hsh hS hb1
  go_wp2
  go_ret
  have hz := (unhide HB).size
  refine ⟨⟨name, w1.heap.size, h, S, lim, 1, 0, []⟩, rfl, ⟨?_, ?_, ?_⟩, ?_, rfl, rfl, rfl, rfl, rfl, ?_⟩
  · exact heap_alloc_new w1 _
  · exact (unhide HSH).keep (keeps_below (bel1 w1 _)) (by simp)
  · intro hm
    have := (unhide HSH).lt _ hm
    exact absurd this (Nat.lt_irrefl _)
  · intro y hy
    rcases List.mem_cons.1 hy with rfl | hy
    · exact hz
    · exact unhide HS y hy
  · exact (unhide HB).alloc hz _
end Fleet
end Go.Proofs.YtkodgbalhnbhcaaGreatDoor
