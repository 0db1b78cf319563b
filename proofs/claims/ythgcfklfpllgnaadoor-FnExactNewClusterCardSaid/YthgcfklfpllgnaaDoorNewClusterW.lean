/-
  FnExactNewCluster returns true for all nodes and every limit: the program's NewCluster answers as the model's, leaves its arguments alone, and its answer owns its memory. Where the table of powers of ten lies as the program laid it.
-/
import Derived.Test.YthgcfklfpllgnaaDoorZ34
import Derived.Test.YthgcfklfpllgnaaDoorZ37
import Derived.Test.YthgcfklfpllgnaaDoorZ15
import Derived.Test.YthgcfklfpllgnaaDoorZ8
import Derived.Deep.RegionWith
import Derived.Deep.Cut
namespace Go.Proofs.YthgcfklfpllgnaaDoor
namespace NewClusterL
open Go.RowKit Base Clus Marks Fleet Keep
set_option linter.unusedVariables false

theorem co_keeps {w w' : World} {B : Nat} {x : Cl} {S : List Nat} (h : CO w B x) (hk : Keeps S w w') (hS : ∀ q ∈ S, q < B) : CO w' B x := by
  have go : ∀ {e : TypeId} {sz : Nat} {v : Value} {n : Nat} {xs : List Value}, w.ownsRow B e sz v n xs → w'.ownsRow B e sz v n xs := fun h => own_blocks h (fun g hg => hk.block g (h.lt g hg).2 (fun hm => by have := hS g hm; have := (h.lt g hg).1; omega))
  exact ⟨go h.n, go h.m, ⟨h.p.len, go h.p.row, fun x hx => go (h.p.its x hx), h.p.far⟩, h.fn, h.fm⟩
theorem co_top {w w' : World} {B T U : Nat} {x : Cl} (h : CO w B x) (hb : Below U w w') (hT : CO.top x T) (hU : T ≤ U) : CO w' B x := by
  have go : ∀ {e : TypeId} {sz : Nat} {v : Value} {n : Nat} {xs : List Value}, w.ownsRow B e sz v n xs → (∀ q, v.ownBlock = some q → q < T) → w'.ownsRow B e sz v n xs := fun h ht => own_blocks h (fun g hg => hb.block g (by have := ht g hg; omega))
  exact ⟨go h.n hT.1, go h.m hT.2.1, ⟨h.p.len, go h.p.row hT.2.2.1, fun x hx => go (h.p.its x hx) (hT.2.2.2 x hx), h.p.far⟩, h.fn, h.fm⟩
theorem co_keeps2 {w w' : World} {B T : Nat} {x : Cl} {S : List Nat} (h : CO w B x) (hk : Keeps S w w') (hT : CO.top x T) (hS : ∀ q ∈ S, T ≤ q) : CO w' B x := by
  have go : ∀ {e : TypeId} {sz : Nat} {v : Value} {n : Nat} {xs : List Value}, w.ownsRow B e sz v n xs → (∀ q, v.ownBlock = some q → q < T) → w'.ownsRow B e sz v n xs := fun h ht => own_blocks h (fun g hg => hk.block g (h.lt g hg).2 (fun hm => by have := hS g hm; have := ht g hg; omega))
  exact ⟨go h.n hT.1, go h.m hT.2.1, ⟨h.p.len, go h.p.row hT.2.2.1, fun x hx => go (h.p.its x hx) (hT.2.2.2 x hx), h.p.far⟩, h.fn, h.fm⟩

theorem keeps_gb {w w' : World} {g : Nat} (h : w.grownBy w' (some g)) : Keeps [g] w w' :=
  ⟨h.os, h.tape, h.output, h.size, fun k hk hn => h.block k hk (fun e => hn (by simp at e; simp [e]))⟩
/-- The nodes' row, made by a call. -/
abbrev NR (w : World) (b : Nat) (nd : List Nodes.D) : Prop := w.rowIs b 42 (nd.length * 2) (Nodes.icell nd)
theorem nr_below {w w' : World} {b B : Nat} {nd : List Nodes.D} (h : NR w b nd) (hb : Below B w w') (hB : b < B) : NR w' b nd := h.of_block (hb.block b hB)

set_option maxRecDepth 100000 in
set_option maxHeartbeats 8000000 in
theorem walk (aa : Option Addr) (ac : Nat) (nd : List Nodes.D) (lim : Int) (w : World) (ha : Nodes.LAt w aa nd) (hac : nd.length ≤ ac) (hla : nd.length ≤ maxLen) (hfa : ∀ x ∈ nd, Nodes.Fits x) (hwf : (Lit.int .i64 lim).wf = true) (hv : Ring.Vars w) :
    Calls Tryd.prog 3 #[.slice aa nd.length ac, .int .i64 lim] w fun e w' => e = .returned (.bool true) ∧ Below w.heap.size w w' := by
  have HV := hide hv
  have HSN := hide (fun w' (hb : Below w.heap.size w w') => Nodes.sz_any aa ac nd 1048576 w' (ha.below hb (Nat.le_refl _)) hla hfa (by omega) (by omega))
  have hyb := (Nodes.szL_bd nd 1048576 (by omega)).1
  have hyl := @Nodes.szL_len nd 1048576
  generalize Nodes.szL nd 1048576 = y at HSN hyb hyl
  by_cases hy : y < 0
  · obtain rfl : y = -1 := by omega
    clear hv ha hac hla hfa hyl
    go_enter Tryd.func3, Tryd.ntmps3
    go_wp2_with fail
    refine (unhide HSN _ (Below.refl _ _)).mono ?_
    rintro e w3 ⟨rfl, hb3⟩
    have hB3 := hide hb3
    clear hb3
    go_wp2
    go_ret
    exact ⟨rfl, unhide hB3⟩
  have hnd : nd.length ≤ 1048576 := by have := hyl hy; omega
  clear hyl
  have HTN : Hid (∀ w', Below w.heap.size w w' → Calls Tryd.prog 6 #[.slice aa nd.length ac] w' fun e w'' => ∃ b, e = .returned (.slice (some ⟨b, 0, none⟩) nd.length nd.length) ∧ w'.heap.size ≤ b ∧ b < w''.heap.size ∧ NR w'' b nd ∧ Below w'.heap.size w' w'') := fun w' hb => (Nodes.to_any aa ac nd w' (ha.below hb (Nat.le_refl _)) hnd).mono (fun e w'' ⟨he, hr, hb'⟩ => ⟨_, he, Nat.le_refl _, hr.lt, hr, hb'⟩)
  have HEN : Hid (∀ b b' w', NR w' b nd → NR w' b' nd → Calls Tryd.prog 9 #[.slice (some ⟨b, 0, none⟩) nd.length nd.length, .slice (some ⟨b', 0, none⟩) nd.length nd.length] w' fun e w'' => e = .returned (.bool true) ∧ Below w'.heap.size w' w'') := fun b b' w' h h' => Nodes.eq_same _ _ _ _ nd w' (Nodes.LAt.row h) (Nodes.LAt.row h') hla
  have HMN : Hid (∀ b w', NR w' b nd → Calls Tryd.prog 10 #[.slice (some ⟨b, 0, none⟩) nd.length nd.length, .int .i64 1] w' fun e w'' => ∃ k' : Int, e = .returned (.int .i64 k') ∧ 0 ≤ k' ∧ Keeps [b] w' w'') := fun b w' h => (NodesM.row_mark b nd.length nd.length _ 1 w' (RowAt.of_row h) (by omega) (by omega) (by omega)).mono (fun e w'' ⟨he, _, hg⟩ => ⟨_, he, by omega, keeps_gb hg⟩)
  have HSP : Hid (∀ bn w', NR w' bn nd → Calls Tryd.prog 5 #[.slice (some ⟨bn, 0, none⟩) nd.length nd.length, .int .i64 lim] w' (SpecTells (nwR nd lim) w')) := fun bn w' hN => new_spec bn nd lim w' hN hnd hfa
  have HIM : Hid (∀ bn w', NR w' bn nd → Ring.Vars w' → Calls Tryd.prog 7 #[.slice (some ⟨bn, 0, none⟩) nd.length nd.length, .int .i64 lim] w' (Tells2 (nwR nd lim) w')) := fun bn w' hN hv' => new_impl bn nd lim w' hN hnd hfa hv'
  have HSR := hide (sm_new nd lim)
  have HES : Hid (∀ x y : Cl, ∀ w', ClAt w' x → ClAt w' y → plain x = (nwR nd lim).1 → plain y = (nwR nd lim).1 → Calls Tryd.prog 8 #[clV x, clV y] w' fun e w'' => e = .returned (.bool true) ∧ Below w'.heap.size w' w'') := fun x y w' hx hy ex ey => Clus.eq_same x y w' hx hy (ex.trans ey.symm) (SmC.cl (by rw [ex]; exact unhide HSR)).1
  have HMG : Hid (∀ x : Cl, ∀ B w', CO w' B x → AP x → B ≤ w'.heap.size → plain x = (nwR nd lim).1 → Calls Tryd.prog 11 #[clV x, .int .i64 1] w' fun e w'' => e = .returned (.int .i64 (mk x.ps (1 + x.ns.length * 2 + x.cs.length * 2) x.ps.length)) ∧ MC w'' x ∧ Below B w' w'' ∧ (∀ Y, Y < w'.heap.size → Out x Y → w''.heap[Y]? = w'.heap[Y]?)) := fun x B w' hx ha hB ex => by
    obtain ⟨s1, s2⟩ := SmC.cl (c := x) (by rw [ex]; exact unhide HSR)
    exact mark_co x B w' hx ha hB s1.sn s1.sc s1.sp s2
  have HHG : Hid (∀ x : Cl, ∀ w', MC w' x → plain x = (nwR nd lim).1 → Calls Tryd.prog 12 #[clV x, .int .i64 1] w' fun e w'' => e = .returned (.int .i64 (mk x.ps (1 + x.ns.length * 2 + x.cs.length * 2) x.ps.length)) ∧ Below w'.heap.size w' w'') := fun x w' hx ex => by
    obtain ⟨s1, s2⟩ := SmC.cl (c := x) (by rw [ex]; exact unhide HSR)
    exact held_co x w' hx s1.sn s1.sc s1.sp s2
  have HMP : Hid (∀ x : Cl, 0 ≤ mk x.ps (1 + (x.ns.length : Int) * 2 + (x.cs.length : Int) * 2) x.ps.length) := fun x => by unfold mk; omega
  clear hv HSR ha hac hla hfa
  generalize nwR nd lim = R at HSP HIM HES HMG HHG
  obtain ⟨RC, gd⟩ := R
  dsimp only at HES HMG HHG
  have hok : (gd != gd) = false := by cases gd <;> rfl
  go_enter Tryd.func3, Tryd.ntmps3
  go_wp2_with fail
  refine (unhide HSN _ (Below.refl _ _)).mono ?_
  rintro e w2 ⟨rfl, hb2⟩
  have B2 := hide hb2
  clear hb2
  go_wp2_with fail
  refine (unhide HTN _ (unhide B2)).mono ?_
  rintro e w3 ⟨n3, rfl, hln3, hgn3, hN3, hbn3⟩
  have zn3 := hbn3.size
  have N3 := hide hN3
  have B3 := hide ((unhide B2).trans (hbn3.mono (unhide B2).size))
  clear hbn3 hN3 B2
  go_wp2_with fail
  refine (unhide HSP n3 _ (unhide N3)).mono ?_
  rintro e w4 ⟨cP, rfl, hplP, hoP, hb4⟩
  dsimp only at hplP
  have LP := hide hplP
  have z4 := hb4.size
  have P4 := hide (hoP.below (bel1 w4 (.cells #[.int .i64 cP.now, .int .i64 cP.nx, .int .i64 cP.lim, .int .i64 cP.lost, .slice cP.na cP.ns.length cP.nc, .slice cP.ca cP.cs.length cP.cc, .slice cP.pa cP.ps.length cP.pc] 27)) (Nat.le_refl _))
  have TP := hide (CO.top_of hoP)
  have CP4 := hide (CB.new w4 cP.now cP.nx cP.lim cP.lost (.slice cP.na cP.ns.length cP.nc) (.slice cP.ca cP.cs.length cP.cc) (.slice cP.pa cP.ps.length cP.pc))
  have B4 := hide (((unhide B3).trans (hb4.mono (unhide B3).size)).alloc (Nat.le_trans (unhide B3).size hb4.size) (.cells #[.int .i64 cP.now, .int .i64 cP.nx, .int .i64 cP.lim, .int .i64 cP.lost, .slice cP.na cP.ns.length cP.nc, .slice cP.ca cP.cs.length cP.cc, .slice cP.pa cP.ps.length cP.pc] 27))
  have hza : (w4.alloc (.cells #[.int .i64 cP.now, .int .i64 cP.nx, .int .i64 cP.lim, .int .i64 cP.lost, .slice cP.na cP.ns.length cP.nc, .slice cP.ca cP.cs.length cP.cc, .slice cP.pa cP.ps.length cP.pc] 27)).heap.size = w4.heap.size + 1 := World.size_alloc _ _
  have hw4 : w.heap.size ≤ w4.heap.size := Nat.le_trans (unhide B3).size hb4.size
  clear hb4 N3 hoP hplP B3
  unfold clV
  go_upto_region 6 with fail
  generalize w4.alloc (.cells #[.int .i64 cP.now, .int .i64 cP.nx, .int .i64 cP.lim, .int .i64 cP.lost, .slice cP.na cP.ns.length cP.nc, .slice cP.ca cP.cs.length cP.cc, .slice cP.pa cP.ps.length cP.pc] 27) = v4 at P4 CP4 B4 hza ⊢
  have HZA := hide hza
  have zv4 : w4.heap.size < v4.heap.size := by omega
  clear hza
  go_wp2_with fail
  refine (unhide HTN _ (unhide B4)).mono ?_
  rintro e w5 ⟨n5, rfl, hln5, hgn5, hN5, hb5⟩
  have z5 := hb5.size
  have N5 := hide hN5
  have P5 := hide ((unhide P4).below hb5 (Nat.le_refl _))
  have CP5 := hide ((unhide CP4).below hb5 zv4)
  have B5 := hide ((unhide B4).trans (hb5.mono (unhide B4).size))
  clear hb5 hN5 P4 CP4
  go_wp2_with fail
  refine (unhide HIM n5 _ (unhide N5) ((unhide HV).below (unhide B5))).mono ?_
  rintro e w6 ⟨cG, rfl, hplG, hoG, hapG, hb6⟩
  dsimp only at hplG
  have LG := hide hplG
  have AG := hide hapG
  have z6 := hb6.size
  have G6 := hide (hoG.below (bel1 w6 (.cells #[.int .i64 cG.now, .int .i64 cG.nx, .int .i64 cG.lim, .int .i64 cG.lost, .slice cG.na cG.ns.length cG.nc, .slice cG.ca cG.cs.length cG.cc, .slice cG.pa cG.ps.length cG.pc] 27)) (Nat.le_refl _))
  have CG6 := hide (CB.new w6 cG.now cG.nx cG.lim cG.lost (.slice cG.na cG.ns.length cG.nc) (.slice cG.ca cG.cs.length cG.cc) (.slice cG.pa cG.ps.length cG.pc))
  have N6 := hide (nr_below (nr_below (unhide N5) hb6 hgn5) (bel1 w6 (.cells #[.int .i64 cG.now, .int .i64 cG.nx, .int .i64 cG.lim, .int .i64 cG.lost, .slice cG.na cG.ns.length cG.nc, .slice cG.ca cG.cs.length cG.cc, .slice cG.pa cG.ps.length cG.pc] 27)) (by omega))
  have P6 := hide (((unhide P5).below hb6 (Nat.le_refl _)).below (bel1 w6 (.cells #[.int .i64 cG.now, .int .i64 cG.nx, .int .i64 cG.lim, .int .i64 cG.lost, .slice cG.na cG.ns.length cG.nc, .slice cG.ca cG.cs.length cG.cc, .slice cG.pa cG.ps.length cG.pc] 27)) (Nat.le_refl _))
  have CP6 := hide (((unhide CP5).below hb6 (by omega)).below (bel1 w6 (.cells #[.int .i64 cG.now, .int .i64 cG.nx, .int .i64 cG.lim, .int .i64 cG.lost, .slice cG.na cG.ns.length cG.nc, .slice cG.ca cG.cs.length cG.cc, .slice cG.pa cG.ps.length cG.pc] 27)) (by omega))
  have B6 := hide (((unhide B5).trans (hb6.mono (unhide B5).size)).alloc (Nat.le_trans (unhide B5).size hb6.size) (.cells #[.int .i64 cG.now, .int .i64 cG.nx, .int .i64 cG.lim, .int .i64 cG.lost, .slice cG.na cG.ns.length cG.nc, .slice cG.ca cG.cs.length cG.cc, .slice cG.pa cG.ps.length cG.pc] 27))
  have hza : (w6.alloc (.cells #[.int .i64 cG.now, .int .i64 cG.nx, .int .i64 cG.lim, .int .i64 cG.lost, .slice cG.na cG.ns.length cG.nc, .slice cG.ca cG.cs.length cG.cc, .slice cG.pa cG.ps.length cG.pc] 27)).heap.size = w6.heap.size + 1 := World.size_alloc _ _
  clear hb6 hoG hapG hplG P5 CP5 B5 N5
  unfold clV
  go_upto_region 8 with fail
  generalize w6.alloc (.cells #[.int .i64 cG.now, .int .i64 cG.nx, .int .i64 cG.lim, .int .i64 cG.lost, .slice cG.na cG.ns.length cG.nc, .slice cG.ca cG.cs.length cG.cc, .slice cG.pa cG.ps.length cG.pc] 27) = v6 at G6 CG6 P6 CP6 B6 N6 hza ⊢
  have zv6 : w6.heap.size < v6.heap.size := by omega
  clear hza
  obtain ⟨g0, g1, g2, g3, g4, g5, g6, gf, gl⟩ := (unhide CG6).cells
  obtain ⟨p0, p1, p2, p3, p4, p5, p6, pf, pl⟩ := (unhide CP6).cells
  go_wp2_with fail
  refine (unhide HES cG cP _ (unhide G6).at (unhide P6).at (unhide LG) (unhide LP)).mono ?_
  rintro e w7 ⟨rfl, hb7⟩
  have z7 := hb7.size
  have G7 := hide ((unhide G6).below hb7 (Nat.le_refl _))
  have CG7 := hide ((unhide CG6).below hb7 zv6)
  have N7 := hide (nr_below (unhide N6) hb7 (by omega))
  have P7 := hide ((unhide P6).below hb7 (Nat.le_refl _))
  have CP7 := hide ((unhide CP6).below hb7 (by omega))
  have B7 := hide ((unhide B6).trans (hb7.mono (unhide B6).size))
  clear hb7 G6 CG6 P6 CP6 B6 N6 g0 g1 g2 g3 g4 g5 g6 gf gl p0 p1 p2 p3 p4 p5 p6 pf pl
  go_wp2_with fail
  refine (unhide HTN _ (unhide B7)).mono ?_
  rintro e wa ⟨na, rfl, hlna, hgna, hNa, hba⟩
  have za := hba.size
  have Na := hide hNa
  have N7a := hide (nr_below (unhide N7) hba (by omega))
  go_wp2_with fail
  refine (unhide HEN n5 na _ (unhide N7a) (unhide Na)).mono ?_
  rintro e wb ⟨rfl, hbb⟩
  have zb := hbb.size
  have hbab := hba.trans (hbb.mono za)
  have G9b := hide ((unhide G7).below hbab (Nat.le_refl _))
  have CG9b := hide ((unhide CG7).below hbab (by omega))
  have P9b := hide ((unhide P7).below hbab (Nat.le_refl _))
  have CP9b := hide ((unhide CP7).below hbab (by omega))
  have B9b := hide ((unhide B7).trans (hbab.mono (unhide B7).size))
  have N9b := hide (nr_below (unhide N7) hbab (by omega))
  clear hba hbb hbab hNa Na N7a G7 CG7 P7 CP7 B7 N7
  go_wp2_with fail
  refine (unhide HMN n5 _ (unhide N9b)).mono ?_
  rintro e w10 ⟨kn, rfl, hkn, hk10⟩
  have z10 := hk10.size
  have G10 := hide (co_keeps (unhide G9b) hk10 (fun q hm => by obtain rfl := List.mem_singleton.1 hm; omega))
  have P10 := hide (co_keeps2 (unhide P9b) hk10 (unhide TP) (fun q hm => by obtain rfl := List.mem_singleton.1 hm; omega))
  have CG10 := hide ((unhide CG9b).blk (hk10.block _ (by omega) (fun hm => by have := List.mem_singleton.1 hm; omega)))
  have CP10 := hide ((unhide CP9b).blk (hk10.block _ (by omega) (fun hm => by have := List.mem_singleton.1 hm; omega)))
  have B10 := hide ((unhide B9b).trans (hk10.below (fun q hm => by have := List.mem_singleton.1 hm; have h3 := (unhide B4).size; omega) (unhide B9b).size))
  have hkm' : ¬ kn < 0 := by omega
  clear hk10 G9b CG9b P9b CP9b B9b N9b
  obtain ⟨g0, g1, g2, g3, g4, g5, g6, gf, gl⟩ := (unhide CG10).cells
  obtain ⟨p0, p1, p2, p3, p4, p5, p6, pf, pl⟩ := (unhide CP10).cells
  go_wp2_with fail
  refine (unhide HES cG cP _ (unhide G10).at (unhide P10).at (unhide LG) (unhide LP)).mono ?_
  rintro e w11 ⟨rfl, hb11⟩
  have z11 := hb11.size
  have G11 := hide ((unhide G10).below hb11 (Nat.le_refl _))
  have CG11 := hide ((unhide CG10).below hb11 gl)
  have P11 := hide ((unhide P10).below hb11 (Nat.le_refl _))
  have CP11 := hide ((unhide CP10).below hb11 pl)
  have B11 := hide ((unhide B10).trans (hb11.mono (unhide B10).size))
  clear hb11 G10 CG10 P10 CP10 B10 g0 g1 g2 g3 g4 g5 g6 gf gl p0 p1 p2 p3 p4 p5 p6 pf pl
  have HMM := hide (unhide HMG cG w5.heap.size w11 (unhide G11) (unhide AG) (by omega) (unhide LG))
  have HHH := hide (fun u hu => unhide HHG cG u hu (unhide LG))
  have hmp := unhide HMP cG
  generalize mk cG.ps (1 + (cG.ns.length : Int) * 2 + (cG.cs.length : Int) * 2) cG.ps.length = mm at HMM HHH hmp
  have hmn : ¬ mm < 0 := by omega
  obtain ⟨g0, g1, g2, g3, g4, g5, g6, gf, gl⟩ := (unhide CG11).cells
  go_wp2_with fail
  refine (unhide HMM).mono ?_
  rintro e w12 ⟨rfl, hm12, hb12, ho12⟩
  have z12 := hb12.size
  have M12 := hide hm12
  have CG12 := hide ((unhide CG11).blk (ho12 _ gl ((unhide G11).out (unhide CG11))))
  have P12 := hide (co_top (unhide P11) hb12 (unhide TP) (by omega))
  have CP12 := hide ((unhide CP11).below hb12 (by omega))
  have B12 := hide ((unhide B11).trans (hb12.mono (by omega)))
  have gl12 : w6.heap.size < w12.heap.size := Nat.lt_of_lt_of_le gl z12
  clear hm12 hb12 ho12 G11 CG11 P11 CP11 B11 g0 g1 g2 g3 g4 g5 g6 gf gl HMM
  obtain ⟨g0, g1, g2, g3, g4, g5, g6, gf, gl⟩ := (unhide CG12).cells
  go_wp2_with fail
  refine (unhide HHH _ (unhide M12)).mono ?_
  rintro e w13 ⟨rfl, hb13⟩
  have z13 := hb13.size
  have M13 := hide ((unhide M12).below hb13)
  have CG13 := hide ((unhide CG12).below hb13 gl)
  have P13 := hide ((unhide P12).below hb13 (Nat.le_refl _))
  have CP13 := hide ((unhide CP12).below hb13 (by omega))
  have B13 := hide ((unhide B12).trans (hb13.mono (unhide B12).size))
  clear hb13 M12 CG12 P12 CP12 B12 g0 g1 g2 g3 g4 g5 g6 gf gl
  go_wp2_with fail
  refine (unhide HTN _ (unhide B13)).mono ?_
  rintro e w14n ⟨n14, rfl, hln14, hgn14, hN14, hbn14⟩
  have zn14 := hbn14.size
  have N14 := hide hN14
  have M14n := hide ((unhide M13).below hbn14)
  have CG14n := hide ((unhide CG13).below hbn14 (by omega))
  have P14n := hide ((unhide P13).below hbn14 (Nat.le_refl _))
  have CP14n := hide ((unhide CP13).below hbn14 (by omega))
  have B14n := hide ((unhide B13).trans (hbn14.mono (unhide B13).size))
  clear hbn14 hN14 M13 CG13 P13 CP13 B13
  go_wp2_with fail
  refine (unhide HIM n14 _ (unhide N14) ((unhide HV).below (unhide B14n))).mono ?_
  rintro e w15 ⟨cH, rfl, hplH, hoH, hapH, hb15⟩
  dsimp only at hplH
  have LH := hide hplH
  have z15 := hb15.size
  have H15 := hide (hoH.below (bel1 w15 (.cells #[.int .i64 cH.now, .int .i64 cH.nx, .int .i64 cH.lim, .int .i64 cH.lost, .slice cH.na cH.ns.length cH.nc, .slice cH.ca cH.cs.length cH.cc, .slice cH.pa cH.ps.length cH.pc] 27)) (Nat.le_refl _))
  have CH15 := hide (CB.new w15 cH.now cH.nx cH.lim cH.lost (.slice cH.na cH.ns.length cH.nc) (.slice cH.ca cH.cs.length cH.cc) (.slice cH.pa cH.ps.length cH.pc))
  have M15 := hide (((unhide M14n).below hb15).below (bel1 w15 (.cells #[.int .i64 cH.now, .int .i64 cH.nx, .int .i64 cH.lim, .int .i64 cH.lost, .slice cH.na cH.ns.length cH.nc, .slice cH.ca cH.cs.length cH.cc, .slice cH.pa cH.ps.length cH.pc] 27)))
  have CG15 := hide (((unhide CG14n).below hb15 (by omega)).below (bel1 w15 (.cells #[.int .i64 cH.now, .int .i64 cH.nx, .int .i64 cH.lim, .int .i64 cH.lost, .slice cH.na cH.ns.length cH.nc, .slice cH.ca cH.cs.length cH.cc, .slice cH.pa cH.ps.length cH.pc] 27)) (by omega))
  have P15 := hide (((unhide P14n).below hb15 (Nat.le_refl _)).below (bel1 w15 (.cells #[.int .i64 cH.now, .int .i64 cH.nx, .int .i64 cH.lim, .int .i64 cH.lost, .slice cH.na cH.ns.length cH.nc, .slice cH.ca cH.cs.length cH.cc, .slice cH.pa cH.ps.length cH.pc] 27)) (Nat.le_refl _))
  have CP15 := hide (((unhide CP14n).below hb15 (by omega)).below (bel1 w15 (.cells #[.int .i64 cH.now, .int .i64 cH.nx, .int .i64 cH.lim, .int .i64 cH.lost, .slice cH.na cH.ns.length cH.nc, .slice cH.ca cH.cs.length cH.cc, .slice cH.pa cH.ps.length cH.pc] 27)) (by omega))
  have B15 := hide (((unhide B14n).trans (hb15.mono (unhide B14n).size)).alloc (Nat.le_trans (unhide B14n).size hb15.size) (.cells #[.int .i64 cH.now, .int .i64 cH.nx, .int .i64 cH.lim, .int .i64 cH.lost, .slice cH.na cH.ns.length cH.nc, .slice cH.ca cH.cs.length cH.cc, .slice cH.pa cH.ps.length cH.pc] 27))
  have hza : (w15.alloc (.cells #[.int .i64 cH.now, .int .i64 cH.nx, .int .i64 cH.lim, .int .i64 cH.lost, .slice cH.na cH.ns.length cH.nc, .slice cH.ca cH.cs.length cH.cc, .slice cH.pa cH.ps.length cH.pc] 27)).heap.size = w15.heap.size + 1 := World.size_alloc _ _
  clear hb15 hoH hapH hplH N14 M14n CG14n P14n CP14n B14n
  unfold clV
  go_upto_region 25 with fail
  generalize w15.alloc (.cells #[.int .i64 cH.now, .int .i64 cH.nx, .int .i64 cH.lim, .int .i64 cH.lost, .slice cH.na cH.ns.length cH.nc, .slice cH.ca cH.cs.length cH.cc, .slice cH.pa cH.ps.length cH.pc] 27) = v15 at H15 CH15 M15 CG15 P15 CP15 B15 hza ⊢
  have zv15 : w15.heap.size < v15.heap.size := by omega
  clear hza
  obtain ⟨g0, g1, g2, g3, g4, g5, g6, gf, gl⟩ := (unhide CH15).cells
  obtain ⟨p0, p1, p2, p3, p4, p5, p6, pf, pl⟩ := (unhide CP15).cells
  go_wp2_with fail
  refine (unhide HES cH cP _ (unhide H15).at (unhide P15).at (unhide LH) (unhide LP)).mono ?_
  rintro e w16 ⟨rfl, hb16⟩
  have M16 := hide ((unhide M15).below hb16)
  have CG16 := hide ((unhide CG15).below hb16 (by omega))
  have B16 := hide ((unhide B15).trans (hb16.mono (unhide B15).size))
  clear hb16 H15 CH15 M15 CG15 P15 CP15 B15 g0 g1 g2 g3 g4 g5 g6 gf gl p0 p1 p2 p3 p4 p5 p6 pf pl
  obtain ⟨g0, g1, g2, g3, g4, g5, g6, gf, gl⟩ := (unhide CG16).cells
  go_wp2_with fail
  refine (unhide HHH _ (unhide M16)).mono ?_
  rintro e w17 ⟨rfl, hb17⟩
  have B17 := hide ((unhide B16).trans (hb17.mono (unhide B16).size))
  clear hb17
  go_wp2
  go_ret
  exact ⟨rfl, unhide B17⟩
end NewClusterL
end Go.Proofs.YthgcfklfpllgnaaDoor
