/-
  FnExactBeginMove returns true for every cluster and all nodes: the program's BeginMove answers as the model's, leaves its arguments alone, and its answer owns its memory. Where the table of powers of ten lies as the program laid it.
-/
import Derived.Test.YtkodgbalhnbhcaaGreatDoorZ30
import Derived.Test.YtkodgbalhnbhcaaGreatDoorMarkF
import Derived.Test.YtkodgbalhnbhcaaGreatDoorZ29
import Derived.Deep.RegionWith
import Derived.Deep.Cut
namespace Go.Proofs.YtkodgbalhnbhcaaGreatDoor
namespace BeginMoveL
open Go.RowKit Base Clus Marks Fleet Keep
set_option linter.unusedVariables false

theorem co_keeps {w w' : World} {B : Nat} {x : Cl} {S : List Nat} (h : CO w B x) (hk : Keeps S w w') (hS : ∀ q ∈ S, q < B) : CO w' B x := by
  have go : ∀ {e : TypeId} {sz : Nat} {v : Value} {n : Nat} {xs : List Value}, w.ownsRow B e sz v n xs → w'.ownsRow B e sz v n xs := fun h => own_blocks h (fun g hg => hk.block g (h.lt g hg).2 (fun hm => by have := hS g hm; have := (h.lt g hg).1; omega))
  exact ⟨go h.n, go h.m, ⟨h.p.len, go h.p.row, fun x hx => go (h.p.its x hx), h.p.far⟩, h.fn, h.fm⟩
theorem co_top {w w' : World} {B T U : Nat} {x : Cl} (h : CO w B x) (hb : Below U w w') (hT : CO.top x T) (hU : T ≤ U) : CO w' B x := by
  have go : ∀ {e : TypeId} {sz : Nat} {v : Value} {n : Nat} {xs : List Value}, w.ownsRow B e sz v n xs → (∀ q, v.ownBlock = some q → q < T) → w'.ownsRow B e sz v n xs := fun h ht => own_blocks h (fun g hg => hb.block g (by have := ht g hg; omega))
  exact ⟨go h.n hT.1, go h.m hT.2.1, ⟨h.p.len, go h.p.row hT.2.2.1, fun x hx => go (h.p.its x hx) (hT.2.2.2 x hx), h.p.far⟩, h.fn, h.fm⟩
theorem co_keeps2 {w w' : World} {B T : Nat} {x : Cl} {S : List Nat} (h : CO w B x) (hk : Keeps S w w') (hT : CO.top x T) (hS : ∀ q ∈ S, T ≤ q) : CO w' B x := by
  have go : ∀ {e : TypeId} {sz : Nat} {v : Value} {n : Nat} {xs : List Value}, w.ownsRow B e sz v n xs → (∀ q, v.ownBlock = some q → q < T) → w'.ownsRow B e sz v n xs := fun h ht => own_blocks h (fun g hg => hk.block g (h.lt g hg).2 (fun hm => by have := hS g hm; have := ht g hg; omega))
  exact ⟨go h.n hT.1, go h.m hT.2.1, ⟨h.p.len, go h.p.row hT.2.2.1, fun x hx => go (h.p.its x hx) (hT.2.2.2 x hx), h.p.far⟩, h.fn, h.fm⟩

theorem szC_le (c : Cl) : szC c 1048576 ≤ 1048576 := by
  unfold szC
  have b0 := Nodes.szL_bd c.ns 1048576 (by omega)
  split
  · omega
  · have b1 := Nodes.szL_bd c.cs (Nodes.szL c.ns 1048576) (by omega)
    split
    · omega
    · have := Pls.szLs_bd c.ps (Nodes.szL c.cs (Nodes.szL c.ns 1048576)) (by omega)
      omega
theorem keeps_gb {w w' : World} {g : Nat} (h : w.grownBy w' (some g)) : Keeps [g] w w' :=
  ⟨h.os, h.tape, h.output, h.size, fun k hk hn => h.block k hk (fun e => hn (by simp at e; simp [e]))⟩
theorem mark_fresh2 (c : Cl) (hs : Small c) (ht : cnt c.ps c.ps.length ≤ 1048576) (b1 b2 b3 : Nat) (L : List Pls.Pl) (w' : World) (hR : CR w' b1 b2 b3 c.ns c.cs L) (hL : L.map Pls.core = c.ps.map Pls.core) :
    Calls Tryz.prog 13 #[.agg #[.int .i64 c.now, .int .i64 c.nx, .int .i64 c.lim, .int .i64 c.lost, .slice (some ⟨b1, 0, none⟩) c.ns.length c.ns.length, .slice (some ⟨b2, 0, none⟩) c.cs.length c.cs.length, .slice (some ⟨b3, 0, none⟩) c.ps.length c.ps.length], .int .i64 1] w' fun e w'' => ∃ k : Int, e = .returned (.int .i64 k) ∧ 0 < k ∧ k ≤ 1000000000000 ∧ Keeps (b1 :: b2 :: b3 :: L.map Pls.blk) w' w'' := by
  have hc : cnt L L.length ≤ 1048576 := by rw [cnt_all, hL, ← cnt_all]; exact ht
  have h := mark_any c.now c.nx c.lim c.lost b1 b2 b3 c.ns c.cs L w' hR hs.sn hs.sc (by rw [Pls.map_len hL]; exact hs.sp) hc
  have e1 := Pls.map_len hL
  have h1 := hs.sn
  have h2 := hs.sc
  have h3 := hs.sp
  rw [e1] at h hc
  refine h.mono ?_
  rintro e w'' ⟨rfl, _, hk⟩
  exact ⟨_, rfl, by unfold mk; omega, by unfold mk; omega, hk⟩
/-- The nodes' row, made by a call. -/
abbrev NR (w : World) (b : Nat) (nd : List Nodes.D) : Prop := w.rowIs b 76 (nd.length * 2) (Nodes.icell nd)
theorem nr_below {w w' : World} {b B : Nat} {nd : List Nodes.D} (h : NR w b nd) (hb : Below B w w') (hB : b < B) : NR w' b nd := h.of_block (hb.block b hB)

set_option maxRecDepth 100000 in
set_option maxHeartbeats 8000000 in
theorem walk (c : Cl) (aa : Option Addr) (ac : Nat) (nd : List Nodes.D) (w : World) (hc : ClAt w c) (hf : Clus.Fits c) (ha : Nodes.LAt w aa nd) (hac : nd.length ≤ ac) (hla : nd.length ≤ maxLen) (hfa : ∀ x ∈ nd, Nodes.Fits x) (hv : Ring.Vars w) :
    Calls Tryz.prog 5 #[.agg #[.int .i64 c.now, .int .i64 c.nx, .int .i64 c.lim, .int .i64 c.lost, .slice c.na c.ns.length c.nc, .slice c.ca c.cs.length c.cc, .slice c.pa c.ps.length c.pc], .slice aa nd.length ac] w fun e w' => e = .returned (.bool true) ∧ Below w.heap.size w w' := by
  have HV := hide hv
  have HSZ := hide (fun w' (hb : Below w.heap.size w w') => sz_any c w' (hc.below hb (Nat.le_refl _)) hf)
  have hbd := szC_bd c
  have hle := szC_le c
  have hsm := @szC_small c
  have hsc := @szC_cnt c
  generalize szC c 1048576 = z at HSZ hbd hle hsm hsc
  by_cases hz : z < 0
  · obtain rfl : z = -1 := by omega
    clear hc hf hv hsm hbd hsc ha hac hla hfa hle
    go_enter Tryz.func5, Tryz.ntmps5
    go_wp2_with fail
    refine (unhide HSZ _ (bel1 w _)).mono ?_
    rintro e w2 ⟨rfl, hb2⟩
    have hB2 := hide ((bel1 w _).trans (hb2.mono (by simp)))
    clear hb2
    go_wp2
    go_ret
    exact ⟨rfl, unhide hB2⟩
  have HSM := hide (hsm hz)
  have HSC := hide (hsc hz)
  clear hsm hsc
  have HSN := hide (fun w' (hb : Below w.heap.size w w') => Nodes.sz_any aa ac nd z w' (ha.below hb (Nat.le_refl _)) hla hfa (by omega) hle)
  have hyb := (Nodes.szL_bd nd z (by omega)).1
  have hyl := @Nodes.szL_len nd z
  generalize Nodes.szL nd z = y at HSN hyb hyl
  by_cases hy : y < 0
  · obtain rfl : y = -1 := by omega
    clear hc hf hv HSM HSC ha hac hla hfa hyl
    go_enter Tryz.func5, Tryz.ntmps5
    go_wp2_with fail
    refine (unhide HSZ _ (bel1 w _)).mono ?_
    rintro e w2 ⟨rfl, hb2⟩
    have hB2 := hide ((bel1 w _).trans (hb2.mono (by simp)))
    clear hb2
    go_wp2_with fail
    refine (unhide HSN _ (unhide hB2)).mono ?_
    rintro e w3 ⟨rfl, hb3⟩
    have hB3 := hide ((unhide hB2).trans (hb3.mono (unhide hB2).size))
    clear hb3
    go_wp2
    go_ret
    exact ⟨rfl, unhide hB3⟩
  have hnd : nd.length ≤ 1048576 := by have := hyl hy; omega
  clear hyl
  have HTN : Hid (∀ w', Below w.heap.size w w' → Calls Tryz.prog 19 #[.slice aa nd.length ac] w' fun e w'' => ∃ b, e = .returned (.slice (some ⟨b, 0, none⟩) nd.length nd.length) ∧ w'.heap.size ≤ b ∧ b < w''.heap.size ∧ NR w'' b nd ∧ Below w'.heap.size w' w'') := fun w' hb => (Nodes.to_any aa ac nd w' (ha.below hb (Nat.le_refl _)) hnd).mono (fun e w'' ⟨he, hr, hb'⟩ => ⟨_, he, Nat.le_refl _, hr.lt, hr, hb'⟩)
  have HEN : Hid (∀ b b' w', NR w' b nd → NR w' b' nd → Calls Tryz.prog 21 #[.slice (some ⟨b, 0, none⟩) nd.length nd.length, .slice (some ⟨b', 0, none⟩) nd.length nd.length] w' fun e w'' => e = .returned (.bool true) ∧ Below w'.heap.size w' w'') := fun b b' w' h h' => Nodes.eq_same _ _ _ _ nd w' (Nodes.LAt.row h) (Nodes.LAt.row h') hla
  have HMN : Hid (∀ b k w', NR w' b nd → 0 < k → k ≤ 1000000000000 → Calls Tryz.prog 22 #[.slice (some ⟨b, 0, none⟩) nd.length nd.length, .int .i64 k] w' fun e w'' => ∃ k' : Int, e = .returned (.int .i64 k') ∧ 0 ≤ k' ∧ Keeps [b] w' w'') := fun b k w' h h0 h1 => (NodesM.row_mark b nd.length nd.length _ k w' (RowAt.of_row h) h0 h1 (by omega)).mono (fun e w'' ⟨he, _, hg⟩ => ⟨_, he, by omega, keeps_gb hg⟩)
  have HTO := hide (fun w' (hb : Below w.heap.size w w') => to_any c w' (hc.below hb (Nat.le_refl _)) (unhide HSM))
  have HSP : Hid (∀ b1 b2 b3 L bn w', CR w' b1 b2 b3 c.ns c.cs L → L.map Pls.core = c.ps.map Pls.core → NR w' bn nd → Calls Tryz.prog 18 #[.agg #[.int .i64 c.now, .int .i64 c.nx, .int .i64 c.lim, .int .i64 c.lost, .slice (some ⟨b1, 0, none⟩) c.ns.length c.ns.length, .slice (some ⟨b2, 0, none⟩) c.cs.length c.cs.length, .slice (some ⟨b3, 0, none⟩) c.ps.length c.ps.length], .slice (some ⟨bn, 0, none⟩) nd.length nd.length] w' (SpecTells (Beg.bmR (plain c) nd) w')) := fun b1 b2 b3 L bn w' hR hL hN => by
    have h := begin_spec2 c.now c.nx c.lim c.lost b1 b2 b3 c.ns c.cs L bn nd w' hR hN (unhide HSM).sn hf.nf (unhide HSM).sc hf.cf (by rw [Pls.map_len hL]; exact (unhide HSM).sp) (core_fits hL (cr_caps hR) hf.pf) hnd hfa
    rw [hL, Pls.map_len hL] at h
    exact h
  have HIM : Hid (∀ b1 b2 b3 L bn w', CR w' b1 b2 b3 c.ns c.cs L → L.map Pls.core = c.ps.map Pls.core → NR w' bn nd → Ring.Vars w' → Calls Tryz.prog 20 #[.agg #[.int .i64 c.now, .int .i64 c.nx, .int .i64 c.lim, .int .i64 c.lost, .slice (some ⟨b1, 0, none⟩) c.ns.length c.ns.length, .slice (some ⟨b2, 0, none⟩) c.cs.length c.cs.length, .slice (some ⟨b3, 0, none⟩) c.ps.length c.ps.length], .slice (some ⟨bn, 0, none⟩) nd.length nd.length] w' (Tells2 (Beg.bmR (plain c) nd) w')) := fun b1 b2 b3 L bn w' hR hL hN hv' => by
    have h := begin_impl c.now c.nx c.lim c.lost b1 b2 b3 c.ns c.cs L bn nd w' hR hN (unhide HSM).sn hf.nf (unhide HSM).sc hf.cf (by rw [Pls.map_len hL]; exact (unhide HSM).sp) (core_fits hL (cr_caps hR) hf.pf) hnd hfa hv'
    rw [hL, Pls.map_len hL] at h
    exact h
  have HEQ := hide (fun b1 b2 b3 L b1' b2' b3' L' w' hR hL hR' hL' => eq_fresh c (unhide HSM) b1 b2 b3 L b1' b2' b3' L' w' hR hL hR' hL')
  have HMK := hide (fun b1 b2 b3 L w' hR hL => mark_fresh2 c (unhide HSM) (unhide HSC) b1 b2 b3 L w' hR hL)
  have HSR := hide (sm_begin (L := c.ps) rfl (SmC.of (unhide HSM) (unhide HSC)) nd)
  have HES : Hid (∀ x y : Cl, ∀ w', ClAt w' x → ClAt w' y → plain x = (Beg.bmR (plain c) nd).1 → plain y = (Beg.bmR (plain c) nd).1 → Calls Tryz.prog 12 #[clV x, clV y] w' fun e w'' => e = .returned (.bool true) ∧ Below w'.heap.size w' w'') := fun x y w' hx hy ex ey => Clus.eq_same x y w' hx hy (ex.trans ey.symm) (SmC.cl (by rw [ex]; exact unhide HSR)).1
  have HMG : Hid (∀ x : Cl, ∀ B w', CO w' B x → AP x → B ≤ w'.heap.size → plain x = (Beg.bmR (plain c) nd).1 → Calls Tryz.prog 13 #[clV x, .int .i64 1] w' fun e w'' => e = .returned (.int .i64 (mk x.ps (1 + x.ns.length * 2 + x.cs.length * 2) x.ps.length)) ∧ MC w'' x ∧ Below B w' w'' ∧ (∀ Y, Y < w'.heap.size → Out x Y → w''.heap[Y]? = w'.heap[Y]?)) := fun x B w' hx ha hB ex => by
    obtain ⟨s1, s2⟩ := SmC.cl (c := x) (by rw [ex]; exact unhide HSR)
    exact mark_co x B w' hx ha hB s1.sn s1.sc s1.sp s2
  have HHG : Hid (∀ x : Cl, ∀ w', MC w' x → plain x = (Beg.bmR (plain c) nd).1 → Calls Tryz.prog 14 #[clV x, .int .i64 1] w' fun e w'' => e = .returned (.int .i64 (mk x.ps (1 + x.ns.length * 2 + x.cs.length * 2) x.ps.length)) ∧ Below w'.heap.size w' w'') := fun x w' hx ex => by
    obtain ⟨s1, s2⟩ := SmC.cl (c := x) (by rw [ex]; exact unhide HSR)
    exact held_co x w' hx s1.sn s1.sc s1.sp s2
  have HMP : Hid (∀ x : Cl, 0 ≤ mk x.ps (1 + (x.ns.length : Int) * 2 + (x.cs.length : Int) * 2) x.ps.length) := fun x => by unfold mk; omega
  clear hc hf hv HSR HSM HSC ha hac hla hfa
  generalize Beg.bmR (plain c) nd = R at HSP HIM HES HMG HHG
  obtain ⟨RC, gd⟩ := R
  dsimp only at HES HMG HHG
  have hok : (gd != gd) = false := by cases gd <;> rfl
  go_enter Tryz.func5, Tryz.ntmps5
  go_wp2_with fail
  refine (unhide HSZ _ (bel1 w _)).mono ?_
  rintro e w2 ⟨rfl, hb2⟩
  simp only [World.size_alloc] at hb2
  have z2 : w.heap.size + 1 ≤ w2.heap.size := by have := hb2.size; simp at this; omega
  have B2 := hide ((bel1 w _).trans (hb2.mono (by omega)))
  have hx2 := boxcell hb2
  clear hb2
  go_wp2_with fail
  refine (unhide HSN _ (unhide B2)).mono ?_
  rintro e w2n ⟨rfl, hb2⟩
  have z2n : w.heap.size + 1 ≤ w2n.heap.size := Nat.le_trans z2 hb2.size
  have B2n := hide ((unhide B2).trans (hb2.mono (unhide B2).size))
  have hx2n := fun o => (hb2.cell (p := ⟨w.heap.size, o, none⟩) z2).trans (hx2 o)
  clear hb2 B2 hx2 z2
  go_wp2_with fail
  refine (unhide HTO _ (unhide B2n)).mono ?_
  rintro e w3 ⟨b1, b2, b3, L3, rfl, hlo3, hR3, hL3, hb3⟩
  have R3 := hide hR3
  have E3 := hide hL3
  have z3 := hb3.size
  have B3' := hide ((unhide B2n).trans (hb3.mono (unhide B2n).size))
  have hx3' := fun o => (hb3.cell (p := ⟨w.heap.size, o, none⟩) z2n).trans (hx2n o)
  clear hb3 hx2n hR3 hL3 hlo3 B2n
  go_wp2_with fail
  refine (unhide HTN _ (unhide B3')).mono ?_
  rintro e w3n ⟨n3, rfl, hln3, hgn3, hN3, hbn3⟩
  have zn3 := hbn3.size
  have N3 := hide hN3
  have R3n := hide ((unhide R3).below hbn3 (Nat.le_refl _))
  have B3 := hide ((unhide B3').trans (hbn3.mono (unhide B3').size))
  have hx3 := fun o => (hbn3.cell (p := ⟨w.heap.size, o, none⟩) (by show w.heap.size < w3.heap.size; omega)).trans (hx3' o)
  clear hbn3 hN3 R3 B3' hx3'
  go_wp2_with fail
  refine (unhide HSP b1 b2 b3 L3 n3 _ (unhide R3n) (unhide E3) (unhide N3)).mono ?_
  rintro e w4 ⟨cP, rfl, hplP, hoP, hb4⟩
  dsimp only at hplP
  have LP := hide hplP
  have z4 := hb4.size
  have P4 := hide (hoP.below (bel1 w4 (.cells #[.int .i64 cP.now, .int .i64 cP.nx, .int .i64 cP.lim, .int .i64 cP.lost, .slice cP.na cP.ns.length cP.nc, .slice cP.ca cP.cs.length cP.cc, .slice cP.pa cP.ps.length cP.pc] 30)) (Nat.le_refl _))
  have TP := hide (CO.top_of hoP)
  have CP4 := hide (CB.new w4 cP.now cP.nx cP.lim cP.lost (.slice cP.na cP.ns.length cP.nc) (.slice cP.ca cP.cs.length cP.cc) (.slice cP.pa cP.ps.length cP.pc))
  have B4 := hide (((unhide B3).trans (hb4.mono (unhide B3).size)).alloc (Nat.le_trans (unhide B3).size hb4.size) (.cells #[.int .i64 cP.now, .int .i64 cP.nx, .int .i64 cP.lim, .int .i64 cP.lost, .slice cP.na cP.ns.length cP.nc, .slice cP.ca cP.cs.length cP.cc, .slice cP.pa cP.ps.length cP.pc] 30))
  have hx4 := fun o => ((bel1 w4 (.cells #[.int .i64 cP.now, .int .i64 cP.nx, .int .i64 cP.lim, .int .i64 cP.lost, .slice cP.na cP.ns.length cP.nc, .slice cP.ca cP.cs.length cP.cc, .slice cP.pa cP.ps.length cP.pc] 30)).cell (p := ⟨w.heap.size, o, none⟩) (by show w.heap.size < w4.heap.size; omega)).trans ((hb4.cell (p := ⟨w.heap.size, o, none⟩) (by show w.heap.size < w3n.heap.size; omega)).trans (hx3 o))
  have hza : (w4.alloc (.cells #[.int .i64 cP.now, .int .i64 cP.nx, .int .i64 cP.lim, .int .i64 cP.lost, .slice cP.na cP.ns.length cP.nc, .slice cP.ca cP.cs.length cP.cc, .slice cP.pa cP.ps.length cP.pc] 30)).heap.size = w4.heap.size + 1 := World.size_alloc _ _
  clear hb4 hx3 R3n E3 N3 hoP hplP
  unfold clV
  go_upto_region 9 with fail
  generalize w4.alloc (.cells #[.int .i64 cP.now, .int .i64 cP.nx, .int .i64 cP.lim, .int .i64 cP.lost, .slice cP.na cP.ns.length cP.nc, .slice cP.ca cP.cs.length cP.cc, .slice cP.pa cP.ps.length cP.pc] 30) = v4 at P4 CP4 B4 hx4 hza ⊢
  have HZA := hide hza
  have zv4 : w4.heap.size < v4.heap.size := by omega
  clear hza
  go_wp2_with fail
  refine (unhide HTO _ (unhide B4)).mono ?_
  rintro e w5 ⟨d1, d2, d3, L5, rfl, hlo5, hR5, hL5, hb5⟩
  have E5 := hide hL5
  have HRG := hide (cr_range hR5 hlo5)
  have z5 := hb5.size
  have R5 := hide (hR5.below (bel1 w5 (.cells #[.int .i64 c.now, .int .i64 c.nx, .int .i64 c.lim, .int .i64 c.lost, .slice (some ⟨d1, 0, none⟩) c.ns.length c.ns.length, .slice (some ⟨d2, 0, none⟩) c.cs.length c.cs.length, .slice (some ⟨d3, 0, none⟩) c.ps.length c.ps.length] 30)) (Nat.le_refl _))
  have C5 := hide (CB.new w5 c.now c.nx c.lim c.lost (.slice (some ⟨d1, 0, none⟩) c.ns.length c.ns.length) (.slice (some ⟨d2, 0, none⟩) c.cs.length c.cs.length) (.slice (some ⟨d3, 0, none⟩) c.ps.length c.ps.length))
  have P5 := hide (((unhide P4).below hb5 (Nat.le_refl _)).below (bel1 w5 (.cells #[.int .i64 c.now, .int .i64 c.nx, .int .i64 c.lim, .int .i64 c.lost, .slice (some ⟨d1, 0, none⟩) c.ns.length c.ns.length, .slice (some ⟨d2, 0, none⟩) c.cs.length c.cs.length, .slice (some ⟨d3, 0, none⟩) c.ps.length c.ps.length] 30)) (Nat.le_refl _))
  have CP5 := hide (((unhide CP4).below hb5 zv4).below (bel1 w5 (.cells #[.int .i64 c.now, .int .i64 c.nx, .int .i64 c.lim, .int .i64 c.lost, .slice (some ⟨d1, 0, none⟩) c.ns.length c.ns.length, .slice (some ⟨d2, 0, none⟩) c.cs.length c.cs.length, .slice (some ⟨d3, 0, none⟩) c.ps.length c.ps.length] 30)) (by omega))
  have B5 := hide (((unhide B4).trans (hb5.mono (unhide B4).size)).alloc (Nat.le_trans (unhide B4).size hb5.size) (.cells #[.int .i64 c.now, .int .i64 c.nx, .int .i64 c.lim, .int .i64 c.lost, .slice (some ⟨d1, 0, none⟩) c.ns.length c.ns.length, .slice (some ⟨d2, 0, none⟩) c.cs.length c.cs.length, .slice (some ⟨d3, 0, none⟩) c.ps.length c.ps.length] 30))
  have hx5 := fun o => ((bel1 w5 (.cells #[.int .i64 c.now, .int .i64 c.nx, .int .i64 c.lim, .int .i64 c.lost, .slice (some ⟨d1, 0, none⟩) c.ns.length c.ns.length, .slice (some ⟨d2, 0, none⟩) c.cs.length c.cs.length, .slice (some ⟨d3, 0, none⟩) c.ps.length c.ps.length] 30)).cell (p := ⟨w.heap.size, o, none⟩) (by show w.heap.size < w5.heap.size; omega)).trans ((hb5.cell (p := ⟨w.heap.size, o, none⟩) (by show w.heap.size < v4.heap.size; omega)).trans (hx4 o))
  have hza : (w5.alloc (.cells #[.int .i64 c.now, .int .i64 c.nx, .int .i64 c.lim, .int .i64 c.lost, .slice (some ⟨d1, 0, none⟩) c.ns.length c.ns.length, .slice (some ⟨d2, 0, none⟩) c.cs.length c.cs.length, .slice (some ⟨d3, 0, none⟩) c.ps.length c.ps.length] 30)).heap.size = w5.heap.size + 1 := World.size_alloc _ _
  clear hb5 hx4 hR5 hL5 P4 CP4
  go_upto_region 10 with fail
  generalize w5.alloc (.cells #[.int .i64 c.now, .int .i64 c.nx, .int .i64 c.lim, .int .i64 c.lost, .slice (some ⟨d1, 0, none⟩) c.ns.length c.ns.length, .slice (some ⟨d2, 0, none⟩) c.cs.length c.cs.length, .slice (some ⟨d3, 0, none⟩) c.ps.length c.ps.length] 30) = v5 at R5 C5 P5 CP5 B5 hx5 hza ⊢
  have zv5 : w5.heap.size < v5.heap.size := by omega
  clear hza
  go_wp2_with fail
  refine (unhide HTN _ (unhide B5)).mono ?_
  rintro e w5n ⟨n5, rfl, hln5, hgn5, hN5, hbn5⟩
  have zn5 := hbn5.size
  have N5 := hide hN5
  have R5n := hide ((unhide R5).below hbn5 (Nat.le_refl _))
  have C5n := hide ((unhide C5).below hbn5 zv5)
  have P5n := hide ((unhide P5).below hbn5 (Nat.le_refl _))
  have CP5n := hide ((unhide CP5).below hbn5 (by omega))
  have B5n := hide ((unhide B5).trans (hbn5.mono (unhide B5).size))
  have hx5n := fun o => (hbn5.cell (p := ⟨w.heap.size, o, none⟩) (by show w.heap.size < v5.heap.size; omega)).trans (hx5 o)
  have zv5n : w5.heap.size < w5n.heap.size := by omega
  clear hbn5 hN5 R5 C5 P5 CP5 B5 hx5
  obtain ⟨y0, y1, y2, y3, y4, y5, y6, yf, yl⟩ := (unhide C5n).cells
  go_wp2_with fail
  refine (unhide HIM d1 d2 d3 L5 n5 _ (unhide R5n) (unhide E5) (unhide N5) ((unhide HV).below (unhide B5n))).mono ?_
  rintro e w6 ⟨cG, rfl, hplG, hoG, hapG, hb6⟩
  dsimp only at hplG
  have LG := hide hplG
  have AG := hide hapG
  have z6 := hb6.size
  have G6 := hide (hoG.below (bel1 w6 (.cells #[.int .i64 cG.now, .int .i64 cG.nx, .int .i64 cG.lim, .int .i64 cG.lost, .slice cG.na cG.ns.length cG.nc, .slice cG.ca cG.cs.length cG.cc, .slice cG.pa cG.ps.length cG.pc] 30)) (Nat.le_refl _))
  have CG6 := hide (CB.new w6 cG.now cG.nx cG.lim cG.lost (.slice cG.na cG.ns.length cG.nc) (.slice cG.ca cG.cs.length cG.cc) (.slice cG.pa cG.ps.length cG.pc))
  have N6 := hide (nr_below (nr_below (unhide N5) hb6 hgn5) (bel1 w6 (.cells #[.int .i64 cG.now, .int .i64 cG.nx, .int .i64 cG.lim, .int .i64 cG.lost, .slice cG.na cG.ns.length cG.nc, .slice cG.ca cG.cs.length cG.cc, .slice cG.pa cG.ps.length cG.pc] 30)) (by omega))
  have R6 := hide (((unhide R5n).below hb6 (Nat.le_refl _)).below (bel1 w6 (.cells #[.int .i64 cG.now, .int .i64 cG.nx, .int .i64 cG.lim, .int .i64 cG.lost, .slice cG.na cG.ns.length cG.nc, .slice cG.ca cG.cs.length cG.cc, .slice cG.pa cG.ps.length cG.pc] 30)) (Nat.le_refl _))
  have C6 := hide (((unhide C5n).below hb6 zv5n).below (bel1 w6 (.cells #[.int .i64 cG.now, .int .i64 cG.nx, .int .i64 cG.lim, .int .i64 cG.lost, .slice cG.na cG.ns.length cG.nc, .slice cG.ca cG.cs.length cG.cc, .slice cG.pa cG.ps.length cG.pc] 30)) (by omega))
  have P6 := hide (((unhide P5n).below hb6 (Nat.le_refl _)).below (bel1 w6 (.cells #[.int .i64 cG.now, .int .i64 cG.nx, .int .i64 cG.lim, .int .i64 cG.lost, .slice cG.na cG.ns.length cG.nc, .slice cG.ca cG.cs.length cG.cc, .slice cG.pa cG.ps.length cG.pc] 30)) (Nat.le_refl _))
  have CP6 := hide (((unhide CP5n).below hb6 (by omega)).below (bel1 w6 (.cells #[.int .i64 cG.now, .int .i64 cG.nx, .int .i64 cG.lim, .int .i64 cG.lost, .slice cG.na cG.ns.length cG.nc, .slice cG.ca cG.cs.length cG.cc, .slice cG.pa cG.ps.length cG.pc] 30)) (by omega))
  have B6 := hide (((unhide B5n).trans (hb6.mono (unhide B5n).size)).alloc (Nat.le_trans (unhide B5n).size hb6.size) (.cells #[.int .i64 cG.now, .int .i64 cG.nx, .int .i64 cG.lim, .int .i64 cG.lost, .slice cG.na cG.ns.length cG.nc, .slice cG.ca cG.cs.length cG.cc, .slice cG.pa cG.ps.length cG.pc] 30))
  have hx6 := fun o => ((bel1 w6 (.cells #[.int .i64 cG.now, .int .i64 cG.nx, .int .i64 cG.lim, .int .i64 cG.lost, .slice cG.na cG.ns.length cG.nc, .slice cG.ca cG.cs.length cG.cc, .slice cG.pa cG.ps.length cG.pc] 30)).cell (p := ⟨w.heap.size, o, none⟩) (by show w.heap.size < w6.heap.size; omega)).trans ((hb6.cell (p := ⟨w.heap.size, o, none⟩) (by show w.heap.size < w5n.heap.size; omega)).trans (hx5n o))
  have hza : (w6.alloc (.cells #[.int .i64 cG.now, .int .i64 cG.nx, .int .i64 cG.lim, .int .i64 cG.lost, .slice cG.na cG.ns.length cG.nc, .slice cG.ca cG.cs.length cG.cc, .slice cG.pa cG.ps.length cG.pc] 30)).heap.size = w6.heap.size + 1 := World.size_alloc _ _
  clear hb6 hx5n hoG hapG hplG R5n C5n P5n CP5n B5n N5 y0 y1 y2 y3 y4 y5 y6 yf yl
  unfold clV
  go_upto_region 12 with fail
  generalize w6.alloc (.cells #[.int .i64 cG.now, .int .i64 cG.nx, .int .i64 cG.lim, .int .i64 cG.lost, .slice cG.na cG.ns.length cG.nc, .slice cG.ca cG.cs.length cG.cc, .slice cG.pa cG.ps.length cG.pc] 30) = v6 at G6 CG6 R6 C6 P6 CP6 B6 N6 hx6 hza ⊢
  have zv6 : w6.heap.size < v6.heap.size := by omega
  clear hza
  obtain ⟨g0, g1, g2, g3, g4, g5, g6, gf, gl⟩ := (unhide CG6).cells
  obtain ⟨p0, p1, p2, p3, p4, p5, p6, pf, pl⟩ := (unhide CP6).cells
  go_wp2_with fail
  refine (unhide HES cG cP _ (unhide G6).at (unhide P6).at (unhide LG) (unhide LP)).mono ?_
  rintro e w7 ⟨rfl, hb7⟩
  have z7 := hb7.size
  have G7 := hide ((unhide G6).below hb7 (Nat.le_refl _))
  have CG7 := hide ((unhide CG6).below hb7 zv6)
  have N7 := hide (nr_below (unhide N6) hb7 (by omega))
  have R7 := hide ((unhide R6).below hb7 (Nat.le_refl _))
  have C7 := hide ((unhide C6).below hb7 (by omega))
  have P7 := hide ((unhide P6).below hb7 (Nat.le_refl _))
  have CP7 := hide ((unhide CP6).below hb7 (by omega))
  have B7 := hide ((unhide B6).trans (hb7.mono (unhide B6).size))
  have hx7 := fun o => (hb7.cell (p := ⟨w.heap.size, o, none⟩) (by show w.heap.size < v6.heap.size; omega)).trans (hx6 o)
  clear hb7 hx6 G6 CG6 R6 C6 P6 CP6 B6 N6 g0 g1 g2 g3 g4 g5 g6 gf gl p0 p1 p2 p3 p4 p5 p6 pf pl
  obtain ⟨k0, k1, k2, k3, k4, k5, k6, kf, kl⟩ := (unhide C7).cells
  go_upto_region 14 with fail
  go_cut [58] (fun s wx => s = .bool false ∧ Hid (Below w7.heap.size w7 wx))
  case first =>
    have HTO7 := hide (unhide HTO _ (unhide B7).drew)
    have HR7 : Hid (CR w7.drew d1 d2 d3 c.ns c.cs L5) := (unhide R7).below (Below.refl w7.heap.size w7).drew (Nat.le_refl _)
    go_region_with (first | (go_at_call 10; refine (unhide HTO7).mono ?_; rintro e w8 ⟨f1, f2, f3, L8, rfl, hlo8, hR8, hL8, hb8⟩; have hX8 := fun o => hb8.cell (p := ⟨w5.heap.size, o, none⟩) kl; have z8 : w7.heap.size ≤ w8.heap.size := hb8.size; have R8 := hide hR8; have E8 := hide hL8; have Q8 := hide ((unhide HR7).below hb8 (Nat.le_refl _)); have hb8 := hide hb8; clear hR8 hL8 hlo8) | (go_at_call 12; refine (unhide HEQ d1 d2 d3 L5 f1 f2 f3 L8 _ (unhide Q8) (unhide E5) (unhide R8) (unhide E8)).mono ?_; rintro e w9 ⟨rfl, hb9⟩; have z9 : w8.heap.size ≤ w9.heap.size := hb9.size; have hb9 := hide hb9))
    all_goals
      go_wp2_with fail
      go_meet
      exact ⟨rfl, hide (bdrew ((unhide hb8).trans ((unhide hb9).mono (unhide hb8).size)))⟩
  case rest =>
  obtain ⟨rfl, hcb⟩ := hcut
  obtain ⟨w9, hname⟩ : ∃ v, v = wc := ⟨_, rfl⟩
  have hb9 : Below w7.heap.size w7 w9 := by rw [hname]; exact unhide hcb
  rw [← hname]
  clear hname hcb wc
  have z9 := hb9.size
  have G9 := hide ((unhide G7).below hb9 (Nat.le_refl _))
  have CG9 := hide ((unhide CG7).below hb9 (by omega))
  have N9 := hide (nr_below (unhide N7) hb9 (by omega))
  have R9 := hide ((unhide R7).below hb9 (Nat.le_refl _))
  have C9 := hide ((unhide C7).below hb9 kl)
  have P9 := hide ((unhide P7).below hb9 (Nat.le_refl _))
  have CP9 := hide ((unhide CP7).below hb9 (by omega))
  have B9 := hide ((unhide B7).trans (hb9.mono (unhide B7).size))
  have hx9 := fun o => (hb9.cell (p := ⟨w.heap.size, o, none⟩) (by show w.heap.size < w7.heap.size; omega)).trans (hx7 o)
  clear hb9 hx7 G7 CG7 R7 C7 P7 CP7 B7 N7 k0 k1 k2 k3 k4 k5 k6 kf kl
  go_wp2_with fail
  refine (unhide HTN _ (unhide B9)).mono ?_
  rintro e wa ⟨na, rfl, hlna, hgna, hNa, hba⟩
  have za := hba.size
  have Na := hide hNa
  have N9a := hide (nr_below (unhide N9) hba (by omega))
  go_wp2_with fail
  refine (unhide HEN n5 na _ (unhide N9a) (unhide Na)).mono ?_
  rintro e wb ⟨rfl, hbb⟩
  have zb := hbb.size
  have hbab := hba.trans (hbb.mono za)
  have G9b := hide ((unhide G9).below hbab (Nat.le_refl _))
  have CG9b := hide ((unhide CG9).below hbab (by omega))
  have R9b := hide ((unhide R9).below hbab (Nat.le_refl _))
  have C9b := hide ((unhide C9).below hbab (by omega))
  have P9b := hide ((unhide P9).below hbab (Nat.le_refl _))
  have CP9b := hide ((unhide CP9).below hbab (by omega))
  have B9b := hide ((unhide B9).trans (hbab.mono (unhide B9).size))
  have N9b := hide (nr_below (unhide N9) hbab (by omega))
  have hx9b := fun o => (hbab.cell (p := ⟨w.heap.size, o, none⟩) (by show w.heap.size < w9.heap.size; omega)).trans (hx9 o)
  clear hba hbb hbab hNa Na N9a G9 CG9 R9 C9 P9 CP9 B9 N9 hx9
  obtain ⟨k0, k1, k2, k3, k4, k5, k6, kf, kl⟩ := (unhide C9b).cells
  go_wp2_with fail
  refine (unhide HMK d1 d2 d3 L5 _ (unhide R9b) (unhide E5)).mono ?_
  rintro e w10' ⟨km, rfl, hkm, hkM, hk10⟩
  have z10' := hk10.size
  have G10' := hide (co_keeps (unhide G9b) hk10 (fun q hm => by have := (unhide HRG q hm).2; omega))
  have P10' := hide (co_keeps2 (unhide P9b) hk10 (unhide TP) (fun q hm => by have := (unhide HRG q hm).1; omega))
  have CG10' := hide ((unhide CG9b).blk (hk10.block _ (by omega) (fun hm => by have := (unhide HRG _ hm).2; omega)))
  have CP10' := hide ((unhide CP9b).blk (hk10.block _ (by omega) (fun hm => by have := (unhide HRG _ hm).1; omega)))
  have N10' : Hid (NR w10' n5 nd) := (unhide N9b).of_block (hk10.block _ (by omega) (fun hm => by have := (unhide HRG _ hm).2; omega))
  have B10' := hide ((unhide B9b).trans (hk10.below (fun q hm => by have h2 := (unhide HRG q hm).1; have h3 := (unhide B4).size; omega) (unhide B9b).size))
  have hx10' := fun o => (hk10.cell (b := w.heap.size) (o := o) (by omega) (fun hm => by have h2 := (unhide HRG _ hm).1; omega)).trans (hx9b o)
  clear hk10 hx9b G9b CG9b R9b C9b P9b CP9b B9b N9b k0 k1 k2 k3 k4 k5 k6 kf kl
  go_wp2_with fail
  refine (unhide HMN n5 km _ (unhide N10') hkm hkM).mono ?_
  rintro e w10 ⟨kn, rfl, hkn, hk10⟩
  have z10 := hk10.size
  have G10 := hide (co_keeps (unhide G10') hk10 (fun q hm => by obtain rfl := List.mem_singleton.1 hm; omega))
  have P10 := hide (co_keeps2 (unhide P10') hk10 (unhide TP) (fun q hm => by obtain rfl := List.mem_singleton.1 hm; omega))
  have CG10 := hide ((unhide CG10').blk (hk10.block _ (by omega) (fun hm => by have := List.mem_singleton.1 hm; omega)))
  have CP10 := hide ((unhide CP10').blk (hk10.block _ (by omega) (fun hm => by have := List.mem_singleton.1 hm; omega)))
  have B10 := hide ((unhide B10').trans (hk10.below (fun q hm => by have := List.mem_singleton.1 hm; have h3 := (unhide B4).size; omega) (unhide B10').size))
  have hx10 := fun o => (hk10.cell (b := w.heap.size) (o := o) (by omega) (fun hm => by have := List.mem_singleton.1 hm; omega)).trans (hx10' o)
  have hkm' : ¬ kn < 0 := by omega
  clear hk10 hx10' G10' CG10' P10' CP10' B10' N10'
  obtain ⟨g0, g1, g2, g3, g4, g5, g6, gf, gl⟩ := (unhide CG10).cells
  obtain ⟨p0, p1, p2, p3, p4, p5, p6, pf, pl⟩ := (unhide CP10).cells
  go_wp2_with fail
  refine (unhide HES cG cP _ (unhide G10).at (unhide P10).at (unhide LG) (unhide LP)).mono ?_
  rintro e w11 ⟨rfl, hb11⟩
  have z11 := hb11.size
  have G11 := hide ((unhide G10).below hb11 (Nat.le_refl _))
  have CG11 := hide ((unhide CG10).below hb11 gl)
  have P11 := hide ((unhide P10).below hb11 (Nat.le_refl _))
  have CP11 := hide ((unhide CP10).below hb11 pl)
  have B11 := hide ((unhide B10).trans (hb11.mono (unhide B10).size))
  have hx11 := fun o => (hb11.cell (p := ⟨w.heap.size, o, none⟩) (by show w.heap.size < w10.heap.size; omega)).trans (hx10 o)
  clear hb11 hx10 G10 CG10 P10 CP10 B10 g0 g1 g2 g3 g4 g5 g6 gf gl p0 p1 p2 p3 p4 p5 p6 pf pl
  have HMM := hide (unhide HMG cG w5n.heap.size w11 (unhide G11) (unhide AG) (by omega) (unhide LG))
  have HHH := hide (fun u hu => unhide HHG cG u hu (unhide LG))
  have hmp := unhide HMP cG
  generalize mk cG.ps (1 + (cG.ns.length : Int) * 2 + (cG.cs.length : Int) * 2) cG.ps.length = mm at HMM HHH hmp
  have hmn : ¬ mm < 0 := by omega
  obtain ⟨g0, g1, g2, g3, g4, g5, g6, gf, gl⟩ := (unhide CG11).cells
  go_wp2_with fail
  refine (unhide HMM).mono ?_
  rintro e w12 ⟨rfl, hm12, hb12, ho12⟩
  have z12 := hb12.size
  have M12 := hide hm12
  have CG12 := hide ((unhide CG11).blk (ho12 _ gl ((unhide G11).out (unhide CG11))))
  have P12 := hide (co_top (unhide P11) hb12 (unhide TP) (by omega))
  have CP12 := hide ((unhide CP11).below hb12 (by omega))
  have B12 := hide ((unhide B11).trans (hb12.mono (by omega)))
  have hx12 := fun o => (hb12.cell (p := ⟨w.heap.size, o, none⟩) (by show w.heap.size < w5n.heap.size; omega)).trans (hx11 o)
  have gl12 : w6.heap.size < w12.heap.size := Nat.lt_of_lt_of_le gl z12
  clear hm12 hb12 ho12 hx11 G11 CG11 P11 CP11 B11 g0 g1 g2 g3 g4 g5 g6 gf gl HMM
  obtain ⟨g0, g1, g2, g3, g4, g5, g6, gf, gl⟩ := (unhide CG12).cells
  go_wp2_with fail
  refine (unhide HHH _ (unhide M12)).mono ?_
  rintro e w13 ⟨rfl, hb13⟩
  have z13 := hb13.size
  have M13 := hide ((unhide M12).below hb13)
  have CG13 := hide ((unhide CG12).below hb13 gl)
  have P13 := hide ((unhide P12).below hb13 (Nat.le_refl _))
  have CP13 := hide ((unhide CP12).below hb13 (by omega))
  have B13 := hide ((unhide B12).trans (hb13.mono (unhide B12).size))
  have hx13 := fun o => (hb13.cell (p := ⟨w.heap.size, o, none⟩) (by show w.heap.size < w12.heap.size; omega)).trans (hx12 o)
  clear hb13 hx12 M12 CG12 P12 CP12 B12 g0 g1 g2 g3 g4 g5 g6 gf gl
  go_wp2_with fail
  refine (unhide HTO _ (unhide B13)).mono ?_
  rintro e w14 ⟨j1, j2, j3, L14, rfl, hlo14, hR14, hL14, hb14⟩
  have R14 := hide hR14
  have E14 := hide hL14
  have z14 := hb14.size
  have M14 := hide ((unhide M13).below hb14)
  have CG14 := hide ((unhide CG13).below hb14 (by omega))
  have P14 := hide ((unhide P13).below hb14 (Nat.le_refl _))
  have CP14 := hide ((unhide CP13).below hb14 (by omega))
  have B14 := hide ((unhide B13).trans (hb14.mono (unhide B13).size))
  clear hb14 hx13 hR14 hL14 hlo14 M13 CG13 P13 CP13 B13
  go_wp2_with fail
  refine (unhide HTN _ (unhide B14)).mono ?_
  rintro e w14n ⟨n14, rfl, hln14, hgn14, hN14, hbn14⟩
  have zn14 := hbn14.size
  have N14 := hide hN14
  have R14n := hide ((unhide R14).below hbn14 (Nat.le_refl _))
  have M14n := hide ((unhide M14).below hbn14)
  have CG14n := hide ((unhide CG14).below hbn14 (by omega))
  have P14n := hide ((unhide P14).below hbn14 (Nat.le_refl _))
  have CP14n := hide ((unhide CP14).below hbn14 (by omega))
  have B14n := hide ((unhide B14).trans (hbn14.mono (unhide B14).size))
  clear hbn14 hN14 R14 M14 CG14 P14 CP14 B14
  go_wp2_with fail
  refine (unhide HIM j1 j2 j3 L14 n14 _ (unhide R14n) (unhide E14) (unhide N14) ((unhide HV).below (unhide B14n))).mono ?_
  rintro e w15 ⟨cH, rfl, hplH, hoH, hapH, hb15⟩
  dsimp only at hplH
  have LH := hide hplH
  have z15 := hb15.size
  have H15 := hide (hoH.below (bel1 w15 (.cells #[.int .i64 cH.now, .int .i64 cH.nx, .int .i64 cH.lim, .int .i64 cH.lost, .slice cH.na cH.ns.length cH.nc, .slice cH.ca cH.cs.length cH.cc, .slice cH.pa cH.ps.length cH.pc] 30)) (Nat.le_refl _))
  have CH15 := hide (CB.new w15 cH.now cH.nx cH.lim cH.lost (.slice cH.na cH.ns.length cH.nc) (.slice cH.ca cH.cs.length cH.cc) (.slice cH.pa cH.ps.length cH.pc))
  have M15 := hide (((unhide M14n).below hb15).below (bel1 w15 (.cells #[.int .i64 cH.now, .int .i64 cH.nx, .int .i64 cH.lim, .int .i64 cH.lost, .slice cH.na cH.ns.length cH.nc, .slice cH.ca cH.cs.length cH.cc, .slice cH.pa cH.ps.length cH.pc] 30)))
  have CG15 := hide (((unhide CG14n).below hb15 (by omega)).below (bel1 w15 (.cells #[.int .i64 cH.now, .int .i64 cH.nx, .int .i64 cH.lim, .int .i64 cH.lost, .slice cH.na cH.ns.length cH.nc, .slice cH.ca cH.cs.length cH.cc, .slice cH.pa cH.ps.length cH.pc] 30)) (by omega))
  have P15 := hide (((unhide P14n).below hb15 (Nat.le_refl _)).below (bel1 w15 (.cells #[.int .i64 cH.now, .int .i64 cH.nx, .int .i64 cH.lim, .int .i64 cH.lost, .slice cH.na cH.ns.length cH.nc, .slice cH.ca cH.cs.length cH.cc, .slice cH.pa cH.ps.length cH.pc] 30)) (Nat.le_refl _))
  have CP15 := hide (((unhide CP14n).below hb15 (by omega)).below (bel1 w15 (.cells #[.int .i64 cH.now, .int .i64 cH.nx, .int .i64 cH.lim, .int .i64 cH.lost, .slice cH.na cH.ns.length cH.nc, .slice cH.ca cH.cs.length cH.cc, .slice cH.pa cH.ps.length cH.pc] 30)) (by omega))
  have B15 := hide (((unhide B14n).trans (hb15.mono (unhide B14n).size)).alloc (Nat.le_trans (unhide B14n).size hb15.size) (.cells #[.int .i64 cH.now, .int .i64 cH.nx, .int .i64 cH.lim, .int .i64 cH.lost, .slice cH.na cH.ns.length cH.nc, .slice cH.ca cH.cs.length cH.cc, .slice cH.pa cH.ps.length cH.pc] 30))
  have hza : (w15.alloc (.cells #[.int .i64 cH.now, .int .i64 cH.nx, .int .i64 cH.lim, .int .i64 cH.lost, .slice cH.na cH.ns.length cH.nc, .slice cH.ca cH.cs.length cH.cc, .slice cH.pa cH.ps.length cH.pc] 30)).heap.size = w15.heap.size + 1 := World.size_alloc _ _
  clear hb15 hoH hapH hplH R14n E14 N14 M14n CG14n P14n CP14n B14n
  unfold clV
  go_upto_region 32 with fail
  generalize w15.alloc (.cells #[.int .i64 cH.now, .int .i64 cH.nx, .int .i64 cH.lim, .int .i64 cH.lost, .slice cH.na cH.ns.length cH.nc, .slice cH.ca cH.cs.length cH.cc, .slice cH.pa cH.ps.length cH.pc] 30) = v15 at H15 CH15 M15 CG15 P15 CP15 B15 hza ⊢
  have zv15 : w15.heap.size < v15.heap.size := by omega
  clear hza
  obtain ⟨g0, g1, g2, g3, g4, g5, g6, gf, gl⟩ := (unhide CH15).cells
  obtain ⟨p0, p1, p2, p3, p4, p5, p6, pf, pl⟩ := (unhide CP15).cells
  go_wp2_with fail
  refine (unhide HES cH cP _ (unhide H15).at (unhide P15).at (unhide LH) (unhide LP)).mono ?_
  rintro e w16 ⟨rfl, hb16⟩
  have M16 := hide ((unhide M15).below hb16)
  have CG16 := hide ((unhide CG15).below hb16 (by omega))
  have B16 := hide ((unhide B15).trans (hb16.mono (unhide B15).size))
  clear hb16 H15 CH15 M15 CG15 P15 CP15 B15 g0 g1 g2 g3 g4 g5 g6 gf gl p0 p1 p2 p3 p4 p5 p6 pf pl
  obtain ⟨g0, g1, g2, g3, g4, g5, g6, gf, gl⟩ := (unhide CG16).cells
  go_wp2_with fail
  refine (unhide HHH _ (unhide M16)).mono ?_
  rintro e w17 ⟨rfl, hb17⟩
  have B17 := hide ((unhide B16).trans (hb17.mono (unhide B16).size))
  clear hb17
  go_wp2
  go_ret
  exact ⟨rfl, unhide B17⟩
end BeginMoveL
end Go.Proofs.YtkodgbalhnbhcaaGreatDoor
