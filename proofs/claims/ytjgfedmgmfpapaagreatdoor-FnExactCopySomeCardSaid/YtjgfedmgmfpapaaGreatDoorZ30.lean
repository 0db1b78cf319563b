/-
  The program's changedBy with the step of CopySome.
-/
import Derived.Test.YtjgfedmgmfpapaaGreatDoorZ27
import Derived.Test.YtjgfedmgmfpapaaGreatDoorZ29
import Derived.Test.YtjgfedmgmfpapaaGreatDoorZ28
import Derived.Test.YtjgfedmgmfpapaaGreatDoorZ21
namespace Go.Proofs.YtjgfedmgmfpapaaGreatDoor
namespace Fleet
open Go.RowKit Base Store Items OwnR Keep Clus Marks Plc
set_option linter.unusedVariables false

set_option maxRecDepth 10000 in
set_option maxHeartbeats 4000000 in
theorem changed_copy (R : CC × Int × Bool) (now nx lim lost : Int) (b1 b2 b3 : Nat) (ns cs : List Nodes.D) (L : List Pls.Pl) (nb : Nat) (w : World) (hR : CR w b1 b2 b3 ns cs L) (ln : ns.length ≤ 1048576) (fn : ∀ x ∈ ns, Nodes.Fits x) (lc : cs.length ≤ 1048576) (fc : ∀ x ∈ cs, Nodes.Fits x) (lp : L.length ≤ 1048576) (fp : ∀ x ∈ L, Pls.Fits x) (hv : Ring.Vars w)
    (hno : gcB ⟨now, nx, lim, lost, ns, cs, L.map Pls.core⟩ = false → R = (noCC, 0, false))
    (hst : gcB ⟨now, nx, lim, lost, ns, cs, L.map Pls.core⟩ = true → ∀ (M X : Nat) (f : Fl) (u : World), FleetAt u M X f → w.heap.size ≤ X → M ≤ u.heap.size → FlIs f now nx lim lost (.slice (some ⟨b1, 0, none⟩) ns.length ns.length) (.slice (some ⟨b2, 0, none⟩) cs.length cs.length) (L.map Pls.core) → RingsAt u M X f ns cs → Below w.heap.size w u →
      Calls Tryz.prog 27 #[.pointer (some ⟨X, 0, none⟩), .pointer (some ⟨nb, 0, none⟩)] u (StepTo M X R u)) :
    Calls Tryz.prog 26 #[.agg #[.int .i64 now, .int .i64 nx, .int .i64 lim, .int .i64 lost, .slice (some ⟨b1, 0, none⟩) ns.length ns.length, .slice (some ⟨b2, 0, none⟩) cs.length cs.length, .slice (some ⟨b3, 0, none⟩) L.length L.length], .func (.func 27) #[] #[.pointer (some ⟨nb, 0, none⟩)]] w (Tells3 R w) := by
  obtain ⟨C, hC⟩ : ∃ C : CC, C = ⟨now, nx, lim, lost, ns, cs, L.map Pls.core⟩ := ⟨_, rfl⟩
  rw [← hC] at hno hst
  have hCL : C.ps = L.map Pls.core := by rw [hC]
  have HGC := hide (fun u (hu : Below w.heap.size w u) => good_impl now nx lim lost b1 b2 b3 ns cs L u (hR.below hu (Nat.le_refl _)) ln fn lc fc lp fp (hv.below hu))
  rw [← hC] at HGC
  have BW0 := hide (bel2 w (.cells #[.int .i64 now, .int .i64 nx, .int .i64 lim, .int .i64 lost, .slice (some ⟨b1, 0, none⟩) ns.length ns.length, .slice (some ⟨b2, 0, none⟩) cs.length cs.length, .slice (some ⟨b3, 0, none⟩) L.length L.length] 30) zeroB)
  have CX0 : Hid (CB ((w.alloc (.cells #[.int .i64 now, .int .i64 nx, .int .i64 lim, .int .i64 lost, .slice (some ⟨b1, 0, none⟩) ns.length ns.length, .slice (some ⟨b2, 0, none⟩) cs.length cs.length, .slice (some ⟨b3, 0, none⟩) L.length L.length] 30)).alloc zeroB) w.heap.size now nx lim lost (.slice (some ⟨b1, 0, none⟩) ns.length ns.length) (.slice (some ⟨b2, 0, none⟩) cs.length cs.length) (.slice (some ⟨b3, 0, none⟩) L.length L.length)) := (CB.new w now nx lim lost _ _ _).below (bel1 _ zeroB) (by simp)
  have CY0 : Hid (CB ((w.alloc (.cells #[.int .i64 now, .int .i64 nx, .int .i64 lim, .int .i64 lost, .slice (some ⟨b1, 0, none⟩) ns.length ns.length, .slice (some ⟨b2, 0, none⟩) cs.length cs.length, .slice (some ⟨b3, 0, none⟩) L.length L.length] 30)).alloc zeroB) (w.heap.size + 1) 0 0 0 0 (.slice none 0 0) (.slice none 0 0) (.slice none 0 0)) := by
    have := CB.new (w.alloc (.cells #[.int .i64 now, .int .i64 nx, .int .i64 lim, .int .i64 lost, .slice (some ⟨b1, 0, none⟩) ns.length ns.length, .slice (some ⟨b2, 0, none⟩) cs.length cs.length, .slice (some ⟨b3, 0, none⟩) L.length L.length] 30)) 0 0 0 0 (.slice none 0 0) (.slice none 0 0) (.slice none 0 0)
    rw [World.size_alloc] at this
    exact this
  have HR := hide hR
  have HV := hide hv
  have HCE := hide hC
  have HCL := hide hCL
  have HST := hide hst
  have hz0 : w.heap.size + 2 ≤ ((w.alloc (.cells #[.int .i64 now, .int .i64 nx, .int .i64 lim, .int .i64 lost, .slice (some ⟨b1, 0, none⟩) ns.length ns.length, .slice (some ⟨b2, 0, none⟩) cs.length cs.length, .slice (some ⟨b3, 0, none⟩) L.length L.length] 30)).alloc zeroB).heap.size := by simp
  clear hR fn fc fp hv hCL hC hst
  cases hg : gcB C
  · have H : Hid (R = (noCC, 0, false)) := hno hg
    rw [hg] at HGC
    clear hg hno HST
    go_enter Tryz.func26, Tryz.ntmps26
    go_wp2_with fail
    generalize (w.alloc (.cells #[.int .i64 now, .int .i64 nx, .int .i64 lim, .int .i64 lost, .slice (some ⟨b1, 0, none⟩) ns.length ns.length, .slice (some ⟨b2, 0, none⟩) cs.length cs.length, .slice (some ⟨b3, 0, none⟩) L.length L.length] 30)).alloc (.cells #[.int .i64 0, .int .i64 0, .int .i64 0, .int .i64 0, .slice none 0 0, .slice none 0 0, .slice none 0 0] 30) = W at BW0 CX0 CY0 hz0 ⊢
    refine (unhide HGC _ (unhide BW0)).mono ?_
    rintro e w1 ⟨rfl, hb1⟩
    have B1 := hide ((unhide BW0).trans (hb1.mono (unhide BW0).size))
    have CY1 := hide ((unhide CY0).below hb1 (by omega))
    clear hb1
    obtain ⟨y0, y1, y2, y3, y4, y5, y6, yf, yl⟩ := (unhide CY1).cells
    go_wp2
    refine bodyPost_ret (v := .tuple #[.agg #[.int .i64 0, .int .i64 0, .int .i64 0, .int .i64 0, .slice none 0 0, .slice none 0 0, .slice none 0 0], .int .i64 0, .bool false]) (by simp [results, Tryz.results26, go_sem, y0, y1, y2, y3, y4, y5, y6]) rfl (tells3_no (unhide H) ?_)
    repeat (refine Below.setCell ?_ (by first | (simp; done) | (simp; omega)) _)
    exact unhide B1
  rw [hg] at HGC
  have HFO := hide (fun u (hu : Below w.heap.size w u) => fleetOf_any now nx lim lost b1 b2 b3 ns cs L u ((unhide HR).below hu (Nat.le_refl _)) (by rw [← unhide HCE]; exact hg) ((unhide HV).below hu))
  have HS2 := hide (unhide HST hg)
  clear hg HST hno
  go_enter Tryz.func26, Tryz.ntmps26
  go_wp2_with fail
  generalize (w.alloc (.cells #[.int .i64 now, .int .i64 nx, .int .i64 lim, .int .i64 lost, .slice (some ⟨b1, 0, none⟩) ns.length ns.length, .slice (some ⟨b2, 0, none⟩) cs.length cs.length, .slice (some ⟨b3, 0, none⟩) L.length L.length] 30)).alloc (.cells #[.int .i64 0, .int .i64 0, .int .i64 0, .int .i64 0, .slice none 0 0, .slice none 0 0, .slice none 0 0] 30) = W at BW0 CX0 CY0 hz0 ⊢
  refine (unhide HGC _ (unhide BW0)).mono ?_
  rintro e w1 ⟨rfl, hb1⟩
  have B1 := hide ((unhide BW0).trans (hb1.mono (unhide BW0).size))
  have CX1 := hide ((unhide CX0).below hb1 (by omega))
  have CY1 := hide ((unhide CY0).below hb1 (by omega))
  have hz1 : w.heap.size + 2 ≤ w1.heap.size := Nat.le_trans hz0 hb1.size
  clear hb1 BW0 CX0 CY0 hz0 W HGC
  obtain ⟨x0, x1, x2, x3, x4, x5, x6, xf, xl⟩ := (unhide CX1).cells
  go_wp2_with fail
  refine (unhide HFO _ (unhide B1)).mono ?_
  rintro e w2 ⟨M, X, f, rfl, hfa, hX, hM, hfi, hrg, hb2⟩
  have B2 := hide ((unhide B1).trans (hb2.mono (unhide B1).size))
  have CY2 := hide ((unhide CY1).below hb2 (by omega))
  have hz2 : w1.heap.size ≤ w2.heap.size := hb2.size
  have hxm := hfa.xm
  have HSS := hide (unhide HS2 M X f w2 hfa (by omega) hM hfi hrg (unhide B2))
  clear hb2 hfa hfi hrg x0 x1 x2 x3 x4 x5 x6 xf xl CX1 CY1 HFO HS2
  go_wp2_with fail
  refine (unhide HSS).mono ?_
  rintro e w3 ⟨n, ok, rfl, hk3, hend⟩
  have K3 : Below w1.heap.size w2 w3 := hk3.below hX (by omega)
  have B3 := hide ((unhide B2).trans (K3.mono (by omega)))
  have CY3 := hide ((unhide CY2).below K3 (by omega))
  have hz3 : w2.heap.size ≤ w3.heap.size := K3.size
  clear hk3 K3 HSS
  rcases hend with ⟨rfl, hno⟩ | ⟨rfl, hle⟩
  · have H : Hid (R = (noCC, 0, false)) := hno
    clear hno
    obtain ⟨y0, y1, y2, y3, y4, y5, y6, yf, yl⟩ := (unhide CY3).cells
    go_wp2
    refine bodyPost_ret (v := .tuple #[.agg #[.int .i64 0, .int .i64 0, .int .i64 0, .int .i64 0, .slice none 0 0, .slice none 0 0, .slice none 0 0], .int .i64 0, .bool false]) (by simp [results, Tryz.results26, go_sem, y0, y1, y2, y3, y4, y5, y6]) rfl (tells3_no (unhide H) ?_)
    repeat (refine Below.setCell ?_ (by first | (simp; done) | (simp; omega)) _)
    exact unhide B3
  · obtain ⟨f', na, ca, nc, cc, ns', cs', hf3, e4, e5, hn, hc, k1, k2, k3, k4, hfi, hRE⟩ := hle.ex
    have HCU := cluster_any M X f' na ca nc cc ns' cs' w3 hf3 e4 e5 hn hc k1 k2 k3 k4 hfi
    have hq : (⟨f'.now, f'.nx, f'.lim, lostTo f'.lost f'.ps, ns', cs', f'.ps.map pcore⟩ : CC) = R.1 := by rw [hRE]
    rw [hq] at HCU
    have h21 : R.2.1 = n := by rw [hRE]
    have h22 : R.2.2 = true := by rw [hRE]
    have HCL2 := hide HCU
    have H21 := hide h21
    have H22 := hide h22
    clear HCU hRE hq h21 h22 hf3 e4 e5 hn hc k1 k2 k3 k4 hfi hle
    go_wp2_with fail
    refine (unhide HCL2).mono ?_
    rintro e w4 ⟨c, rfl, hpl, hco, hap, hb4⟩
    have B4 := hide ((unhide B3).trans (hb4.mono (unhide B3).size))
    have CY4 := hide ((unhide CY3).below hb4 (by omega))
    have HPL := hide hpl
    have HCO := hide hco
    have HAP := hide hap
    clear hpl hco hap hb4
    obtain ⟨y0, y1, y2, y3, y4, y5, y6, yf, yl⟩ := (unhide CY4).cells
    unfold clV
    go_wp2
    refine bodyPost_ret (v := .tuple #[clV c, .int .i64 n, .bool true]) (by simp [results, Tryz.results26, go_sem, clV, y0, y1, y2, y3, y4, y5, y6]) rfl ⟨c, by rw [unhide H21, unhide H22], unhide HPL, CO.le (B := w3.heap.size) ?_ (by omega), unhide HAP, ?_⟩
    · repeat (refine CO.set ?_ (by first | (simp; done) | (simp; omega)) _)
      exact unhide HCO
    · repeat (refine Below.setCell ?_ (by first | (simp; done) | (simp; omega)) _)
      exact unhide B4
end Fleet
end Go.Proofs.YtjgfedmgmfpapaaGreatDoor
/-
  The program's CopySome, whole.
-/
namespace Go.Proofs.YtjgfedmgmfpapaaGreatDoor
namespace Fleet
open Go.RowKit Base Store Items OwnR Keep Clus Marks Plc Mv
open _root_.Go.Proofs.YtjgfedmgmfpapaaGreatDoor.Shelf (FullIs)
set_option linter.unusedVariables false

set_option maxRecDepth 10000 in
set_option maxHeartbeats 1000000 in
theorem copy1_any (M X nb : Nat) (many : Int) (R : CC × Int × Bool) (w : World) (hnb : w.cell? ⟨nb, 0, none⟩ = some (.int .i64 many)) (h : Calls Tryz.prog 28 #[.pointer (some ⟨X, 0, none⟩), .int .i64 many] w (StepTo M X R w)) :
    Calls Tryz.prog 27 #[.pointer (some ⟨X, 0, none⟩), .pointer (some ⟨nb, 0, none⟩)] w (StepTo M X R w) := by
  have H := hide h
  clear h
  go_enter Tryz.func27, Tryz.ntmps27
  go_wp2_with fail
  refine (unhide H).mono ?_
  rintro e w1 ⟨n, ok, rfl, hk, hend⟩
  have HK := hide hk
  have HE := hide hend
  clear hk hend H
  go_wp2
  go_ret2
  exact ⟨n, ok, rfl, unhide HK, unhide HE⟩
theorem copy_changedBy (now nx lim lost : Int) (b1 b2 b3 : Nat) (ns cs : List Nodes.D) (L : List Pls.Pl) (many : Int) (nb : Nat) (p : Addr) (w : World) (hR : CR w b1 b2 b3 ns cs L) (ln : ns.length ≤ 1048576) (fn : ∀ x ∈ ns, Nodes.Fits x) (lc : cs.length ≤ 1048576) (fc : ∀ x ∈ cs, Nodes.Fits x) (lp : L.length ≤ 1048576) (fp : ∀ x ∈ L, Pls.Fits x) (hv : Ring.Vars w) (hF : FullIs w p) (hnb : w.cell? ⟨nb, 0, none⟩ = some (.int .i64 many)) :
    Calls Tryz.prog 26 #[.agg #[.int .i64 now, .int .i64 nx, .int .i64 lim, .int .i64 lost, .slice (some ⟨b1, 0, none⟩) ns.length ns.length, .slice (some ⟨b2, 0, none⟩) cs.length cs.length, .slice (some ⟨b3, 0, none⟩) L.length L.length], .func (.func 27) #[] #[.pointer (some ⟨nb, 0, none⟩)]] w (Tells3 (csR ⟨now, nx, lim, lost, ns, cs, L.map Pls.core⟩ many) w) := by
  refine changed_copy _ now nx lim lost b1 b2 b3 ns cs L nb w hR ln fn lc fc lp fp hv (fun h => cs_bad h) (fun hg M X f u hf hX hM hfi hrg hu => ?_)
  have hRu := hR.below hu (Nat.le_refl _)
  have hFl := hF.lt
  exact copy1_any M X nb many _ u ((hu.cell (p := ⟨nb, 0, none⟩) (block_lt_of_cell hnb)).trans hnb) (copySome_any now nx lim lost b1 b2 ns cs L many M X f p u hg hf hM hfi hrg (Nat.lt_of_lt_of_le hR.n.lt hX) (Nat.lt_of_lt_of_le hR.c.lt hX) hRu.n hRu.c (hF.below hu) (Nat.lt_of_lt_of_le hFl hX))

set_option maxRecDepth 10000 in
set_option maxHeartbeats 2000000 in
theorem copy_impl (now nx lim lost : Int) (b1 b2 b3 : Nat) (ns cs : List Nodes.D) (L : List Pls.Pl) (many : Int) (p : Addr) (w : World) (hR : CR w b1 b2 b3 ns cs L) (ln : ns.length ≤ 1048576) (fn : ∀ x ∈ ns, Nodes.Fits x) (lc : cs.length ≤ 1048576) (fc : ∀ x ∈ cs, Nodes.Fits x) (lp : L.length ≤ 1048576) (fp : ∀ x ∈ L, Pls.Fits x) (hv : Ring.Vars w) (hF : FullIs w p) :
    Calls Tryz.prog 8 #[.agg #[.int .i64 now, .int .i64 nx, .int .i64 lim, .int .i64 lost, .slice (some ⟨b1, 0, none⟩) ns.length ns.length, .slice (some ⟨b2, 0, none⟩) cs.length cs.length, .slice (some ⟨b3, 0, none⟩) L.length L.length], .int .i64 many] w (Tells3 (csR ⟨now, nx, lim, lost, ns, cs, L.map Pls.core⟩ many) w) := by
  have HCH := hide (fun u (hu : Below w.heap.size w u) (hn : u.cell? ⟨w.heap.size + 1, 0, none⟩ = some (.int .i64 many)) => copy_changedBy now nx lim lost b1 b2 b3 ns cs L many (w.heap.size + 1) p u (hR.below hu (Nat.le_refl _)) ln fn lc fc lp fp (hv.below hu) (hF.below hu) hn)
  obtain ⟨R, hRR⟩ : ∃ R, R = csR ⟨now, nx, lim, lost, ns, cs, L.map Pls.core⟩ many := ⟨_, rfl⟩
  rw [← hRR] at HCH ⊢
  have B0 := hide (bel3 w (.cells #[.int .i64 now, .int .i64 nx, .int .i64 lim, .int .i64 lost, .slice (some ⟨b1, 0, none⟩) ns.length ns.length, .slice (some ⟨b2, 0, none⟩) cs.length cs.length, .slice (some ⟨b3, 0, none⟩) L.length L.length] 30) (.cells #[.int .i64 many] 3) zeroB)
  have n0 : (((w.alloc (.cells #[.int .i64 now, .int .i64 nx, .int .i64 lim, .int .i64 lost, .slice (some ⟨b1, 0, none⟩) ns.length ns.length, .slice (some ⟨b2, 0, none⟩) cs.length cs.length, .slice (some ⟨b3, 0, none⟩) L.length L.length] 30)).alloc (.cells #[.int .i64 many] 3)).alloc zeroB).cell? ⟨w.heap.size + 1, 0, none⟩ = some (.int .i64 many) := by
    rw [(bel1 _ zeroB).cell (p := ⟨w.heap.size + 1, 0, none⟩) (by simp)]
    have := (World.cell?_alloc_new (w.alloc (.cells #[.int .i64 now, .int .i64 nx, .int .i64 lim, .int .i64 lost, .slice (some ⟨b1, 0, none⟩) ns.length ns.length, .slice (some ⟨b2, 0, none⟩) cs.length cs.length, .slice (some ⟨b3, 0, none⟩) L.length L.length] 30)) #[.int .i64 many] 3 0)
    rw [World.size_alloc] at this
    rw [this]; rfl
  have CY0 : Hid (CB (((w.alloc (.cells #[.int .i64 now, .int .i64 nx, .int .i64 lim, .int .i64 lost, .slice (some ⟨b1, 0, none⟩) ns.length ns.length, .slice (some ⟨b2, 0, none⟩) cs.length cs.length, .slice (some ⟨b3, 0, none⟩) L.length L.length] 30)).alloc (.cells #[.int .i64 many] 3)).alloc zeroB) (w.heap.size + 2) 0 0 0 0 (.slice none 0 0) (.slice none 0 0) (.slice none 0 0)) := by
    have := CB.new ((w.alloc (.cells #[.int .i64 now, .int .i64 nx, .int .i64 lim, .int .i64 lost, .slice (some ⟨b1, 0, none⟩) ns.length ns.length, .slice (some ⟨b2, 0, none⟩) cs.length cs.length, .slice (some ⟨b3, 0, none⟩) L.length L.length] 30)).alloc (.cells #[.int .i64 many] 3)) 0 0 0 0 (.slice none 0 0) (.slice none 0 0) (.slice none 0 0)
    rw [World.size_alloc, World.size_alloc] at this
    exact this
  have hz0 : w.heap.size + 3 ≤ (((w.alloc (.cells #[.int .i64 now, .int .i64 nx, .int .i64 lim, .int .i64 lost, .slice (some ⟨b1, 0, none⟩) ns.length ns.length, .slice (some ⟨b2, 0, none⟩) cs.length cs.length, .slice (some ⟨b3, 0, none⟩) L.length L.length] 30)).alloc (.cells #[.int .i64 many] 3)).alloc zeroB).heap.size := by simp
  clear hR fn fc fp hv hRR hF
  go_enter Tryz.func8, Tryz.ntmps8
  go_wp2_with fail
  generalize ((w.alloc (.cells #[.int .i64 now, .int .i64 nx, .int .i64 lim, .int .i64 lost, .slice (some ⟨b1, 0, none⟩) ns.length ns.length, .slice (some ⟨b2, 0, none⟩) cs.length cs.length, .slice (some ⟨b3, 0, none⟩) L.length L.length] 30)).alloc (.cells #[.int .i64 many] 3)).alloc (.cells #[.int .i64 0, .int .i64 0, .int .i64 0, .int .i64 0, .slice none 0 0, .slice none 0 0, .slice none 0 0] 30) = W at B0 n0 CY0 hz0 ⊢
  refine (unhide HCH _ (unhide B0) n0).mono ?_
  rintro e w1 ⟨c, rfl, hpl, hco, hap, hb1⟩
  have B1 := hide ((unhide B0).trans (hb1.mono (unhide B0).size))
  have CY1 := hide ((unhide CY0).below hb1 (by omega))
  have HPL := hide hpl
  have HCO := hide hco
  have HAP := hide hap
  clear hpl hco hap hb1 n0 HCH
  obtain ⟨y0, y1, y2, y3, y4, y5, y6, yf, yl⟩ := (unhide CY1).cells
  unfold clV
  go_wp2
  refine bodyPost_ret (v := .tuple #[clV c, .int .i64 R.2.1, .bool R.2.2]) (by simp [results, Tryz.results8, go_sem, clV, y0, y1, y2, y3, y4, y5, y6]) rfl ⟨c, rfl, unhide HPL, CO.le (B := W.heap.size) ?_ (by omega), unhide HAP, ?_⟩
  · repeat (refine CO.set ?_ (by first | (simp; done) | (simp; omega)) _)
    exact unhide HCO
  · repeat (refine Below.setCell ?_ (by first | (simp; done) | (simp; omega)) _)
    exact unhide B1
end Fleet
end Go.Proofs.YtjgfedmgmfpapaaGreatDoor
/-
  The model's l7Owner: at which place a key is asked for.
-/
namespace Go.Proofs.YtjgfedmgmfpapaaGreatDoor
namespace Clus
open Go.RowKit Base OwnR Plc
set_option linter.unusedVariables false

/-- Where a key is asked for: at its owner among the nodes that come, where some come. -/
def toward (ns cs : List Nodes.D) (key : ByteArray) : ByteArray := if cs.length = 0 then own ns key else own cs key

set_option maxRecDepth 10000 in
set_option maxHeartbeats 4000000 in
theorem owner_spec (now nx lim lost : Int) (a1 : Option Addr) (c1 : Nat) (ns : List Nodes.D) (a2 : Option Addr) (c2 : Nat) (cs : List Nodes.D) (g c3 : Nat) (M : List Pls.Pl) (key : ByteArray) (w : World) (hl1 : Nodes.LAt w a1 ns) (hl2 : Nodes.LAt w a2 cs) (hp : ∀ i, i < M.length → Pls.PlAt w g (0 + i * 4) (M.getD i Pls.zeroL)) (hg : g < w.heap.size) (lp : M.length ≤ 1048576) (g1 : NodesM.gnB ns = true) (g2 : cs = [] ∨ NodesM.gnB cs = true) (hk : key.size ≤ maxLen) :
    Calls Tryz.prog 69 #[.agg #[.int .i64 now, .int .i64 nx, .int .i64 lim, .int .i64 lost, .slice a1 ns.length c1, .slice a2 cs.length c2, .slice (some ⟨g, 0, none⟩) M.length c3], .string key] w fun e w' => e = .returned (.int .i64 (plI M (toward ns cs key))) ∧ Below w.heap.size w w' := by
  have hmix : Tryz.prog.follows .mixedOrders = true := by kernel_rfl
  have HMIX := hide hmix
  have HAT := hide (fun (nm : ByteArray) w' (hb : Below w.heap.size w w') => l7At_some now nx lim lost _ _ g 0 c3 M nm w' (Nat.lt_of_lt_of_le hg hb.size) (fun i hi => (hp i hi).below hb hg) lp a1 ns.length c1 a2 cs.length c2 rfl rfl)
  obtain ⟨W, hW⟩ : ∃ W, W = w.alloc (.cells #[.int .i64 now, .int .i64 nx, .int .i64 lim, .int .i64 lost, .slice a1 ns.length c1, .slice a2 cs.length c2, .slice (some ⟨g, 0, none⟩) M.length c3] 30) := ⟨_, rfl⟩
  have BW : Hid (Below w.heap.size w W) := by rw [hW]; exact bel1 w _
  have CX : Hid (CB W w.heap.size now nx lim lost (.slice a1 ns.length c1) (.slice a2 cs.length c2) (.slice (some ⟨g, 0, none⟩) M.length c3)) := by
    rw [hW]; exact heap_alloc_new w _
  have HW := hide hW
  have hgrow : Hid (∀ d os, Below w.heap.size w (Go.Sort.grow (redrawn W d) os)) := fun d os => (unhide BW).trans ((below_regrown W d os).mono (unhide BW).size)
  have hne1 : ns ≠ [] := by rintro rfl; have := (Ring.good_len g1).1; simp at this
  by_cases hcz : cs.length = 0
  · obtain ⟨b, off, rfl, hb, hc⟩ := hl1 hne1
    have HO := hide (fun w' (hb' : Below w.heap.size w w') => Ring.mowner_some b off c1 ns key w' (Nat.lt_of_lt_of_le hb hb'.size) (fun i hi => (hc i hi).below hb' hb) g1 hk)
    have e1 : own ns key = Ring.ownerN (Ring.ring (Ring.points ns)) (Hash.hashN key.data.toList) := rfl
    rw [← e1] at HO
    have ht : toward ns cs key = own ns key := by unfold toward; rw [if_pos hcz]
    rw [ht]
    have HAT := hide (unhide HAT (own ns key))
    generalize own ns key = nm at HAT HO ⊢
    clear hl2 hp g1 g2 hne1 hc ht e1 hW hmix
    clear hk
    generalize cs.length = cl at hcz HAT CX HW ⊢
    have hd1 : decide (0 < cl) = false := by simp; omega
    have hd2 : decide ((0 : Int) < (cl : Int)) = false := by simp; omega
    clear hcz
    go_enter Tryz.func69, Tryz.ntmps69
    go_upto_region 1 with fail
    rw [← unhide HW]
    clear HW
    obtain ⟨x0, x1, x2, x3, x4, x5, x6, xf, xz⟩ := (unhide CX).cells
    go_wp2_with fail
    have cO := fun d os => Calls.regrown_of (unhide HO (Go.Sort.grow (redrawn W d) os) (unhide hgrow d os))
    have cA := fun d os => Calls.regrown_of (unhide HAT (Go.Sort.grow (redrawn W d) os) (unhide hgrow d os))
    have x0 := cell_regrown x0
    have x1 := cell_regrown x1
    have x2 := cell_regrown x2
    have x3 := cell_regrown x3
    have x4 := cell_regrown x4
    have x5 := cell_regrown x5
    have x6 := cell_regrown x6
    refine wp_region_quiet_below (unhide HMIX) (by kernel_rfl) ?_
    repeat (go_big_quiet_step (first | exact cO _ _ | exact cA _ _))
    refine wpQuiet_nil ?_
    intro _ hw'
    obtain ⟨⟨dq, osq⟩, hw''⟩ := hw'
    subst hw''
    have BQ := hide ((unhide BW).trans ((below_regrown W dq osq).mono (unhide BW).size))
    clear x0 x1 x2 x3 x4 x5 x6 xf xz cO cA
    generalize (Go.Sort.grow (redrawn W dq) osq) = v at BQ ⊢
    go_wp2
    go_ret
    exact ⟨rfl, unhide BQ⟩
  · have hg2 : NodesM.gnB cs = true := g2.resolve_left (by rintro rfl; simp at hcz)
    obtain ⟨b, off, rfl, hb, hc⟩ := hl2 (by rintro rfl; simp at hcz)
    have HO := hide (fun w' (hb' : Below w.heap.size w w') => Ring.mowner_some b off c2 cs key w' (Nat.lt_of_lt_of_le hb hb'.size) (fun i hi => (hc i hi).below hb' hb) hg2 hk)
    have e1 : own cs key = Ring.ownerN (Ring.ring (Ring.points cs)) (Hash.hashN key.data.toList) := rfl
    rw [← e1] at HO
    have ht : toward ns cs key = own cs key := by unfold toward; rw [if_neg hcz]
    rw [ht]
    have HAT := hide (unhide HAT (own cs key))
    generalize own cs key = nm at HAT HO ⊢
    clear hl1 hp g1 g2 hne1 hc ht e1 hW hmix hg2
    clear hk
    have hcz2 : 0 < cs.length := by omega
    clear hcz
    go_enter Tryz.func69, Tryz.ntmps69
    go_upto_region 1 with fail
    rw [← unhide HW]
    clear HW
    obtain ⟨x0, x1, x2, x3, x4, x5, x6, xf, xz⟩ := (unhide CX).cells
    go_wp2_with fail
    have cO := fun d os => Calls.regrown_of (unhide HO (Go.Sort.grow (redrawn W d) os) (unhide hgrow d os))
    have cA := fun d os => Calls.regrown_of (unhide HAT (Go.Sort.grow (redrawn W d) os) (unhide hgrow d os))
    have x0 := cell_regrown x0
    have x1 := cell_regrown x1
    have x2 := cell_regrown x2
    have x3 := cell_regrown x3
    have x4 := cell_regrown x4
    have x5 := cell_regrown x5
    have x6 := cell_regrown x6
    refine wp_region_quiet_below (unhide HMIX) (by kernel_rfl) ?_
    repeat (go_big_quiet_step (first | exact cO _ _ | exact cA _ _))
    refine wpQuiet_nil ?_
    intro _ hw'
    obtain ⟨⟨dq, osq⟩, hw''⟩ := hw'
    subst hw''
    have BQ := hide ((unhide BW).trans ((below_regrown W dq osq).mono (unhide BW).size))
    clear x0 x1 x2 x3 x4 x5 x6 xf xz cO cA
    generalize (Go.Sort.grow (redrawn W dq) osq) = v at BQ ⊢
    go_wp2
    go_ret
    exact ⟨rfl, unhide BQ⟩
end Clus
end Go.Proofs.YtjgfedmgmfpapaaGreatDoor
/-
  The model's l7Moves: whether a key is to move, and from which place.
-/
namespace Go.Proofs.YtjgfedmgmfpapaaGreatDoor
namespace Clus
open Go.RowKit Base OwnR Plc
set_option linter.unusedVariables false

set_option maxRecDepth 10000 in
set_option maxHeartbeats 1000000 in
theorem l2At_opt (lim nx : Int) (a : Option Addr) (cap : Nat) (its : List Items.Itm) (key : ByteArray) (w : World) (h : Items.ItemsAt w a its) (hl : its.length ≤ maxLen) :
    Calls Tryz.prog 99 #[.agg #[.int .i64 lim, .int .i64 nx, .slice a its.length cap], .string key] w fun e w' => e = .returned (.int .i64 (Store.atI its key)) ∧ Below w.heap.size w w' := by
  by_cases hne : its = []
  · subst hne
    go_enter Tryz.func99, Tryz.ntmps99
    go_wp2
    go_loopw [10] (fun i wr => i = .int .i64 0 ∧ Hid (Below w.heap.size w wr)) (fun _ _ => 0)
    case atStart => exact ⟨rfl, hide (bel1 w _)⟩
    case round =>
      obtain ⟨rfl, hbel⟩ := hrel
      go_wp2
      go_ret
      exact ⟨rfl, unhide hbel⟩
  · obtain ⟨b, off, rfl, hb, hc⟩ := h hne
    exact Store.l2At_some lim nx b off cap its key w hb hc hl

/-- Whether a key is to move, and from where. -/
def movesR (cl : Nat) (k1 k2 : Nat) (its : List Items.Itm) (key : ByteArray) : Int × Bool :=
  if cl = 0 then (0, false) else (k1, decide (k1 ≠ k2) && decide (0 ≤ Store.atI its key))
theorem mv_none {cl k1 k2 : Nat} {its : List Items.Itm} {key : ByteArray} (h : cl = 0) : movesR cl k1 k2 its key = (0, false) := if_pos h
theorem mv_same {cl k1 k2 : Nat} {its : List Items.Itm} {key : ByteArray} (h : cl ≠ 0) (he : k1 = k2) : movesR cl k1 k2 its key = ((k1 : Int), false) := by unfold movesR; rw [if_neg h]; simp [he]
theorem mv_far {cl k1 k2 : Nat} {its : List Items.Itm} {key : ByteArray} (h : cl ≠ 0) (he : k1 ≠ k2) : movesR cl k1 k2 its key = ((k1 : Int), decide (0 ≤ Store.atI its key)) := by unfold movesR; rw [if_neg h]; simp [he]

set_option maxRecDepth 10000 in
set_option maxHeartbeats 4000000 in
theorem moves_spec (now nx lim lost : Int) (a1 : Option Addr) (c1 : Nat) (ns : List Nodes.D) (a2 : Option Addr) (c2 : Nat) (cs : List Nodes.D) (g c3 : Nat) (M : List Pls.Pl) (key : ByteArray) (k1 k2 : Nat) (w : World) (hl1 : Nodes.LAt w a1 ns) (hl2 : Nodes.LAt w a2 cs) (hp : ∀ i, i < M.length → Pls.PlAt w g (0 + i * 4) (M.getD i Pls.zeroL)) (hi : ∀ i, i < M.length → Items.ItemsAt w (M.getD i Pls.zeroL).a (M.getD i Pls.zeroL).its ∧ (M.getD i Pls.zeroL).its.length ≤ 1000) (hg : g < w.heap.size) (lp : M.length ≤ 1000) (g1 : NodesM.gnB ns = true) (g2 : cs = [] ∨ NodesM.gnB cs = true) (hk : key.size ≤ maxLen) (h1 : plN M (own ns key) = some k1) (h2 : cs ≠ [] → plN M (own cs key) = some k2) :
    Calls Tryz.prog 98 #[.agg #[.int .i64 now, .int .i64 nx, .int .i64 lim, .int .i64 lost, .slice a1 ns.length c1, .slice a2 cs.length c2, .slice (some ⟨g, 0, none⟩) M.length c3], .string key] w fun e w' => e = .returned (.tuple #[.int .i64 (movesR cs.length k1 k2 (M.getD k1 Pls.zeroL).its key).1, .bool (movesR cs.length k1 k2 (M.getD k1 Pls.zeroL).its key).2]) ∧ Below w.heap.size w w' := by
  have hmix : Tryz.prog.follows .mixedOrders = true := by kernel_rfl
  have HMIX := hide hmix
  obtain ⟨W, hW⟩ : ∃ W, W = w.alloc (.cells #[.int .i64 now, .int .i64 nx, .int .i64 lim, .int .i64 lost, .slice a1 ns.length c1, .slice a2 cs.length c2, .slice (some ⟨g, 0, none⟩) M.length c3] 30) := ⟨_, rfl⟩
  have BW : Hid (Below w.heap.size w W) := by rw [hW]; exact bel1 w _
  have hzW : w.heap.size < W.heap.size := by rw [hW]; simp
  have CX : Hid (CB W w.heap.size now nx lim lost (.slice a1 ns.length c1) (.slice a2 cs.length c2) (.slice (some ⟨g, 0, none⟩) M.length c3)) := by
    rw [hW]; exact heap_alloc_new w _
  have HW := hide hW
  obtain ⟨R, hRR⟩ : ∃ R, R = movesR cs.length k1 k2 (M.getD k1 Pls.zeroL).its key := ⟨_, rfl⟩
  rw [← hRR]
  by_cases hcz : cs.length = 0
  · have H : Hid (R = (0, false)) := hide (hRR.trans (mv_none hcz))
    generalize cs.length = cl at hcz CX HW ⊢
    have hd1 : decide (0 = cl) = true := by simp; omega
    have hd2 : (cl == 0) = true := by simp; omega
    have hd3 : decide (cl = 0) = true := by simp; omega
    have hd4 : ((cl : Int) == 0) = true := by simp; omega
    have hd5 : decide ((cl : Int) = 0) = true := by simp; omega
    clear hcz hRR hl1 hl2 hp hi g1 g2 hk h1 h2 hW hmix
    go_enter Tryz.func98, Tryz.ntmps98
    go_upto_region 1 with fail
    rw [← unhide HW]
    obtain ⟨x0, x1, x2, x3, x4, x5, x6, xf, xz⟩ := (unhide CX).cells
    go_wp2
    go_ret2
    rw [unhide H]
    exact ⟨rfl, unhide BW⟩
  · have hg2 : NodesM.gnB cs = true := g2.resolve_left (by rintro rfl; simp at hcz)
    have hcs : cs ≠ [] := by rintro rfl; simp at hcz
    have h2 := h2 hcs
    have hne1 : ns ≠ [] := by rintro rfl; have := (Ring.good_len g1).1; simp at this
    have HOW := hide (fun w' (hb : Below w.heap.size w w') => owner_spec now nx lim lost a1 c1 ns a2 c2 cs g c3 M key w' (hl1.below hb (Nat.le_refl _)) (hl2.below hb (Nat.le_refl _)) (fun i hi => (hp i hi).below hb hg) (Nat.lt_of_lt_of_le hg hb.size) (by omega) g1 g2 hk)
    have e2 : plI M (toward ns cs key) = (k2 : Int) := by unfold toward plI; rw [if_neg hcz, h2]
    rw [e2] at HOW
    have HAT := hide (fun w' (hb : Below w.heap.size w w') => l7At_some now nx lim lost _ _ g 0 c3 M (own ns key) w' (Nat.lt_of_lt_of_le hg hb.size) (fun i hi => (hp i hi).below hb hg) (by omega) a1 ns.length c1 a2 cs.length c2 rfl rfl)
    have e3 : plI M (own ns key) = (k1 : Int) := by unfold plI; rw [h1]
    rw [e3] at HAT
    have hk1 := plN_lt h1
    obtain ⟨b, off, rfl, hb, hc⟩ := hl1 hne1
    have HO := hide (fun w' (hb' : Below w.heap.size w w') => Ring.mowner_some b off c1 ns key w' (Nat.lt_of_lt_of_le hb hb'.size) (fun i hi => (hc i hi).below hb' hb) g1 hk)
    have e1 : own ns key = Ring.ownerN (Ring.ring (Ring.points ns)) (Hash.hashN key.data.toList) := rfl
    rw [← e1] at HO
    generalize own ns key = nm at HAT HO h1 e3
    have HPL := hide (fun w' (hb' : Below w.heap.size w w') => (hp k1 hk1).below hb' hg)
    have HL2 := hide (fun w' (hb' : Below w.heap.size w w') => l2At_opt (M.getD k1 Pls.zeroL).lim (M.getD k1 Pls.zeroL).nx (M.getD k1 Pls.zeroL).a (M.getD k1 Pls.zeroL).cap (M.getD k1 Pls.zeroL).its key w' ((hi k1 hk1).1.below hb' (Nat.le_refl _)) (by have := (hi k1 hk1).2; unfold maxLen; omega))
    have HRF := hide (fun (he : k1 ≠ k2) => hRR.trans (mv_far hcz he))
    have HRS := hide (fun (he : k1 = k2) => hRR.trans (mv_same hcz he))
    generalize M.getD k1 Pls.zeroL = x at HPL HL2 HRF HRS
    have hgrow : Hid (∀ d os, Below w.heap.size w (Go.Sort.grow (redrawn W d) os)) := fun d os => (unhide BW).trans ((below_regrown W d os).mono (unhide BW).size)
    have hcp : 0 < cs.length := by omega
    clear hRR hl2 hp hi g1 g2 hk h1 h2 hW hmix e1 e2 e3 hcs hg2 hne1 hc
    generalize cs.length = cl at hcz hcp CX HW HAT HOW ⊢
    have hd1 : (cl == 0) = false := by simp; omega
    have hd2 : decide (cl = 0) = false := by simp; omega
    have hd3 : ((cl : Int) == 0) = false := by simp; omega
    have hd4 : decide ((cl : Int) = 0) = false := by simp; omega
    clear hcz
    generalize Store.atI x.its key = ai at HL2 HRF
    go_enter Tryz.func98, Tryz.ntmps98
    go_upto_region 1 with fail
    rw [← unhide HW]
    clear HW
    obtain ⟨x0, x1, x2, x3, x4, x5, x6, xf, xz⟩ := (unhide CX).cells
    go_wp2_with fail
    have cO := fun d os => Calls.regrown_of (unhide HO (Go.Sort.grow (redrawn W d) os) (unhide hgrow d os))
    have cA := fun d os => Calls.regrown_of (unhide HAT (Go.Sort.grow (redrawn W d) os) (unhide hgrow d os))
    have x0 := cell_regrown x0
    have x1 := cell_regrown x1
    have x2 := cell_regrown x2
    have x3 := cell_regrown x3
    have x4 := cell_regrown x4
    have x5 := cell_regrown x5
    have x6 := cell_regrown x6
    refine wp_region_quiet_below (unhide HMIX) (by kernel_rfl) ?_
    repeat (go_big_quiet_step (first | exact cO _ _ | exact cA _ _))
    refine wpQuiet_nil ?_
    intro _ hw'
    obtain ⟨⟨dq, osq⟩, hw''⟩ := hw'
    subst hw''
    have BQ := hide ((unhide BW).trans ((below_regrown W dq osq).mono (unhide BW).size))
    have XQ := hide ((unhide CX).below (below_regrown W dq osq) hzW)
    clear x0 x1 x2 x3 x4 x5 x6 xf xz cO cA hgrow CX BW
    generalize (Go.Sort.grow (redrawn W dq) osq) = v at BQ XQ ⊢
    obtain ⟨x0, x1, x2, x3, x4, x5, x6, xf, xz⟩ := (unhide XQ).cells
    go_wp2_with fail
    refine (unhide HOW _ (unhide BQ)).mono ?_
    rintro e w1 ⟨rfl, hb1⟩
    have B1 := hide ((unhide BQ).trans (hb1.mono (unhide BQ).size))
    have X1 := hide ((unhide XQ).below hb1 xz)
    clear hb1 x0 x1 x2 x3 x4 x5 x6 xf xz XQ BQ
    obtain ⟨x0, x1, x2, x3, x4, x5, x6, xf, xz⟩ := (unhide X1).cells
    obtain ⟨p0, p1, p2, p3⟩ := unhide HPL _ (unhide B1)
    rw [Nat.zero_add] at p0 p1 p2 p3
    by_cases he : k1 = k2
    · have H := hide (unhide HRS he)
      have hf1 : ((k1 : Int) != (k2 : Int)) = false := by rw [he]; simp
      have hf2 : decide ((k1 : Int) = (k2 : Int)) = true := by rw [he]; simp
      have hf3 : decide (k1 = k2) = true := by rw [he]; simp
      have hf4 : (k1 == k2) = true := by rw [he]; simp
      have hf5 : (k1 != k2) = false := by rw [he]; simp
      clear he HRS HRF
      go_wp2
      go_ret2
      rw [unhide H]
      exact ⟨rfl, unhide B1⟩
    · have H := hide (unhide HRF he)
      have hf1 : ((k1 : Int) != (k2 : Int)) = true := by simp; omega
      have hf2 : decide ((k1 : Int) = (k2 : Int)) = false := by simp; omega
      have hf3 : decide (k1 = k2) = false := by simp [he]
      have hf4 : (k1 == k2) = false := by simp [he]
      have hf5 : (k1 != k2) = true := by simp [he]
      clear HRS HRF
      go_wp2_with fail
      refine (unhide HL2 _ (unhide B1)).mono ?_
      rintro e w2 ⟨rfl, hb2⟩
      have B2 := hide ((unhide B1).trans (hb2.mono (unhide B1).size))
      clear hb2 x0 x1 x2 x3 x4 x5 x6 xf xz
      go_wp2
      go_ret2
      rw [unhide H]
      exact ⟨rfl, unhide B2⟩
end Clus
end Go.Proofs.YtjgfedmgmfpapaaGreatDoor
