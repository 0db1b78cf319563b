/-
  The model's GoodCluster: it answers by the plain function, for every cluster that a call has laid itself.
-/
import Derived.Test.YtkodgbalhnbhcaaGreatDoorZ13
import Derived.Test.YtkodgbalhnbhcaaGreatDoorZ14
import Derived.Test.YtkodgbalhnbhcaaGreatDoorZ5
import Derived.Test.YtkodgbalhnbhcaaGreatDoorZ18
import Derived.Test.YtkodgbalhnbhcaaGreatDoorZ20
import Derived.Test.YtkodgbalhnbhcaaGreatDoorZ1
import Derived.Lib.QuietBelow
import Derived.BigQuiet
namespace Go.Proofs.YtkodgbalhnbhcaaGreatDoor
namespace Clus
open Go.RowKit Base GoodKey Items Store Plc
set_option linter.unusedVariables false

theorem snodes_row (b : Nat) (l : List Nodes.D) (t : TypeId) (w : World) (h : w.rowIs b t (l.length * 2) (Nodes.icell l)) (hl : l.length ≤ maxLen) (hf : ∀ x ∈ l, Nodes.Fits x) :
    Calls Tryz.prog 46 #[.slice (some ⟨b, 0, none⟩) l.length l.length] w fun e w' => e = .returned (.bool (NodesM.gnB l)) ∧ Below w.heap.size w w' :=
  NodesM.nodes_some b 0 l.length l w h.lt (Nodes.at_row h) hl hf
theorem places2 (b1 b2 : Nat) (ns cs : List Nodes.D) (t : TypeId) (lim : Int) (w : World) (h1 : w.rowIs b1 t (ns.length * 2) (Nodes.icell ns)) (h2 : w.rowIs b2 t (cs.length * 2) (Nodes.icell cs)) (l1 : ns.length ≤ 1048576) (l2 : cs.length ≤ 1048576) (hne : ns ≠ []) :
    Calls Tryz.prog 57 #[.slice (some ⟨b1, 0, none⟩) ns.length ns.length, .slice (some ⟨b2, 0, none⟩) cs.length cs.length, .int .i64 lim] w fun e w' =>
      ∃ g cap, e = .returned (.slice (some ⟨g, 0, none⟩) (insAll (ns.map (·.name) ++ cs.map (·.name))).length cap) ∧ (∀ i, i < (insAll (ns.map (·.name) ++ cs.map (·.name))).length → w'.cell? ⟨g, i * 4, none⟩ = some (.string ((insAll (ns.map (·.name) ++ cs.map (·.name))).getD i ByteArray.empty))) ∧ Below w.heap.size w w' := by
  have h := places_any (fun i => if i = 0 then some ⟨b1, 0, none⟩ else some ⟨b2, 0, none⟩) (fun i => if i = 0 then ns.length else cs.length) (fun i => if i = 0 then ns else cs) lim w (fun i hi => by
    by_cases h0 : i = 0
    · subst h0; exact Nodes.LAt.row h1
    · simp only [if_neg h0]; exact Nodes.LAt.row h2) (fun i hi => by by_cases h0 : i = 0 <;> simp [h0, l1, l2])
  have e : pre (fun i => if i = 0 then ns else cs) 2 = ns.map (·.name) ++ cs.map (·.name) := by simp [pre]
  simp only [e] at h
  refine h.mono ?_
  rintro e w' ⟨v, rfl, how, hb⟩
  have hpos : 0 < (insAll (ns.map (·.name) ++ cs.map (·.name))).length := by
    obtain ⟨x, r, rfl⟩ := List.exists_cons_of_ne_nil hne
    have hm := (insAll_mem (((x :: r).map (·.name)) ++ cs.map (·.name)) x.name).2 (by simp)
    exact List.length_pos_of_mem hm
  obtain ⟨g, cap, rfl, hg, hr⟩ := Keep.Row.of_owns how hpos
  exact ⟨g, cap, rfl, fun i hi => hr.cell (flat_name lim _ i hi), hb⟩


set_option maxRecDepth 10000 in
set_option maxHeartbeats 4000000 in
theorem good_spec (now nx lim lost : Int) (b1 b2 b3 : Nat) (ns cs : List Nodes.D) (L : List Pls.Pl) (w : World) (hR : CR w b1 b2 b3 ns cs L) (ln : ns.length ≤ 1048576) (fn : ∀ x ∈ ns, Nodes.Fits x) (lc : cs.length ≤ 1048576) (fc : ∀ x ∈ cs, Nodes.Fits x) (lp : L.length ≤ 1048576) (fp : ∀ x ∈ L, Pls.Fits x) :
    Calls Tryz.prog 23 #[.agg #[.int .i64 now, .int .i64 nx, .int .i64 lim, .int .i64 lost, .slice (some ⟨b1, 0, none⟩) ns.length ns.length, .slice (some ⟨b2, 0, none⟩) cs.length cs.length, .slice (some ⟨b3, 0, none⟩) L.length L.length]] w fun e w' => e = .returned (.bool (gcB ⟨now, nx, lim, lost, ns, cs, L.map Pls.core⟩)) ∧ Below w.heap.size w w' := by
  obtain ⟨C, hC⟩ : ∃ C : CC, C = ⟨now, nx, lim, lost, ns, cs, L.map Pls.core⟩ := ⟨_, rfl⟩
  rw [← hC]
  have hCL : C.ps = L.map Pls.core := by rw [hC]
  have mn : ns.length ≤ maxLen := by unfold maxLen; omega
  have mc : cs.length ≤ maxLen := by unfold maxLen; omega
  have hmix : Tryz.prog.follows .mixedOrders = true := by kernel_rfl
  have HMIX := hide hmix
  have HR := hide hR
  have GN := hide (fun w' (hb : Below w.heap.size w w') => snodes_row b1 ns 76 w' (hR.below hb (Nat.le_refl _)).n mn fn)
  have GC := hide (fun w' (hb : Below w.heap.size w w') => snodes_row b2 cs 76 w' (hR.below hb (Nat.le_refl _)).c mc fc)
  have HFP := hide fp
  cases hh : headB C
  · have H := hide (gc_head hh)
    have hno : Hid (¬ (inB now 0 1000000000 = true ∧ inB nx 1 1000000000 = true ∧ inB lim 0 10000 = true ∧ inB lost 0 1000000 = true ∧ NodesM.gnB ns = true ∧ (cs = [] ∨ NodesM.gnB cs = true))) := fun e => by
      have := (head_iff C).2 (by rw [hC]; exact e)
      rw [hh] at this; cases this
    rw [unhide H]
    clear hh H hCL hC fn fc fp hR hmix mn mc
    have hE : Hid (cs.length = 0 → cs = []) := fun h => List.length_eq_zero_iff.1 h
    generalize NodesM.gnB ns = gn at GN hno
    generalize NodesM.gnB cs = gc at GC hno
    go_enter Tryz.func23, Tryz.ntmps23
    go_wp2_with (first | (go_at_call 54; refine (l2Now_any _ _).mono ?_; rintro e w' ⟨rfl, rfl⟩) | (go_at_call 55; refine (l1In_any _ _ _ _).mono ?_; rintro e w' ⟨rfl, rfl⟩) | (go_at_call 56; refine (limit_any _ _).mono ?_; rintro e w' ⟨rfl, rfl⟩) | fail)
    · refine (unhide GN _ (bel1 w _)).mono ?_
      rintro e w1 ⟨rfl, hb1⟩
      have B1 := hide ((bel1 w _).trans (hb1.mono (by simp)))
      simp only [World.size_alloc] at hb1
      have hx := boxcell hb1
      clear hb1
      cases gn
      · go_wp2
        go_ret
        exact ⟨rfl, unhide B1⟩
      by_cases hcz : cs.length = 0
      · exact absurd ⟨by assumption, by assumption, by assumption, by assumption, by first | trivial | rfl, .inl (unhide hE hcz)⟩ (unhide hno)
      have hcp : decide (0 < (cs.length : Int)) = true := by simp; omega
      have hcq : 0 < (cs.length : Int) := by omega
      go_wp2_with fail
      refine (unhide GC _ (unhide B1)).mono ?_
      rintro e w2 ⟨rfl, hb2⟩
      have B2 := hide ((unhide B1).trans (hb2.mono (unhide B1).size))
      clear hb2
      cases gc
      · go_wp2
        go_ret
        exact ⟨rfl, unhide B2⟩
      · exact absurd ⟨by assumption, by assumption, by assumption, by assumption, by first | trivial | rfl, by first | exact .inr rfl | (right; trivial) | trivial⟩ (unhide hno)
    all_goals
      go_ret
      exact ⟨rfl, bel1 w _⟩
  obtain ⟨g1, g2, g3, g4, g5, g6⟩ : inB now 0 1000000000 = true ∧ inB nx 1 1000000000 = true ∧ inB lim 0 10000 = true ∧ inB lost 0 1000000 = true ∧ NodesM.gnB ns = true ∧ (cs = [] ∨ NodesM.gnB cs = true) := by
    have := (head_iff C).1 hh
    rw [hC] at this
    exact this
  have hnn : ns ≠ [] := fun e => by rw [e] at g5; simp [NodesM.gnB, inB] at g5
  have HO := hide (fun (key : ByteArray) w' (hb : Below w.heap.size w w') hk => Ring.mowner_some b1 0 ns.length ns key w' (hR.below hb (Nat.le_refl _)).n.lt (Nodes.at_row (hR.below hb (Nat.le_refl _)).n) g5 hk)
  have HP := hide (fun w' (hb : Below w.heap.size w w') => places2 b1 b2 ns cs 76 lim w' (hR.below hb (Nat.le_refl _)).n (hR.below hb (Nat.le_refl _)).c ln lc hnn)
  have HNM : Hid (insAll (ns.map (·.name) ++ cs.map (·.name)) = names C) := by rw [hC]; exact hide rfl
  rw [unhide HNM] at HP
  have HLE := hide (@gc_len C)
  have HEND := hide (@gc_end C hh)
  have HCPS : Hid (C.ps.length = L.length) := by rw [hCL]; exact hide (by simp)
  rw [unhide HCPS] at HLE HEND
  have HBP := hide (fun k => @bad_pl C L k hCL)
  have HBH := hide (fun k q => @bad_home C L k q hCL)
  have HBC := hide (fun k q j r => @bad_cross C L k q j r hCL)
  have HGI := hide (fun k q => @good_it C L k q hCL)
  have HGS := hide (fun k => @good_step C L k hCL)
  have HPL := hide (fun k => @pl_iff C L k hCL)
  have e1 : C.lim = lim := by rw [hC]
  have e2 : C.nx = nx := by rw [hC]
  have e3 : C.ns = ns := by rw [hC]
  have e4 : C.cs = cs := by rw [hC]
  rw [e1, e2] at HBP HPL
  rw [e3, e4] at HBH HGI
  clear e1 e2 e3 e4
  clear hh hCL fn fc fp hmix mn mc HNM HCPS hnn hC
  generalize (names C).length = m at HP HLE HEND
  rcases g6 with g6 | g6
  · have hcp : decide (0 < (cs.length : Int)) = false := by rw [g6]; rfl
    have hcq : ¬ 0 < (cs.length : Int) := by rw [g6]; simp
    have HEM : Hid (cs.isEmpty = true) := by rw [g6]; exact hide rfl
    rw [g5] at GN
    clear g5 g6 hR
    go_enter Tryz.func23, Tryz.ntmps23
    go_wp2_with (first | (go_at_call 54; refine (l2Now_any _ _).mono ?_; rintro e w' ⟨rfl, rfl⟩) | (go_at_call 55; refine (l1In_any _ _ _ _).mono ?_; rintro e w' ⟨rfl, rfl⟩) | (go_at_call 56; refine (limit_any _ _).mono ?_; rintro e w' ⟨rfl, rfl⟩) | fail)
    refine (unhide GN _ (bel1 w _)).mono ?_
    rintro e w1 ⟨rfl, hb1⟩
    simp only [World.size_alloc] at hb1
    have X1 := hide hb1
    have hz1 : w.heap.size + 1 ≤ w1.heap.size := by have := hb1.size; simp at this; omega
    have B1 := hide ((bel1 w _).trans (hb1.mono (by omega)))
    have hx1 := boxcell hb1
    clear hb1
    go_wp2_with fail
    refine (unhide HP _ (unhide B1)).mono ?_
    rintro e w3 ⟨g, cap, rfl, hg, hb3⟩
    have B3 := hide ((unhide B1).trans (hb3.mono (unhide B1).size))
    have X3 := hide ((unhide X1).trans (hb3.mono hz1))
    have hx3 := boxcell (unhide X3)
    have hz3 : w.heap.size + 1 ≤ w3.heap.size := by have := hb3.size; omega
    have HG := hide hg
    clear hb3 hg hx1
    by_cases hlen : m = L.length
    case neg =>
      have H := hide (unhide HLE hlen)
      have hlen' : ¬ (m : Int) = (L.length : Int) := by omega
      have hlen2 : decide ((m : Int) = (L.length : Int)) = false := by simp; omega
      go_wp2
      go_ret
      exact ⟨ret_bool (unhide H).symm, unhide B3⟩
    have HEN2 := hide (unhide HEND hlen)
    clear HEND HLE
    subst hlen
    go_wp2_with fail
    clear hx3
    go_loopw [68] (fun iv wr => ∃ k : Nat, k ≤ L.length ∧ iv = .int .i64 (k : Int) ∧ Hid (∀ i, i < k → stepB C i = true) ∧ Hid (Below w3.heap.size w3 wr)) (fun iv _ => L.length - (intOf iv).toNat)
    case atStart => exact ⟨0, Nat.zero_le _, rfl, hide (fun i hi => absurd hi (by omega)), hide (Below.refl _ _)⟩
    case round =>
      obtain ⟨k, hk, rfl, hst, hbk⟩ := hrel
      obtain ⟨wk, hname⟩ : ∃ v, v = wr := ⟨_, rfl⟩
      subst hname
      have hzk := (unhide hbk).size
      have BK := hide ((unhide B3).trans ((unhide hbk).mono (unhide B3).size))
      by_cases hlt : k < L.length
      case neg =>
        obtain rfl : k = L.length := by omega
        have H := hide (unhide HEN2 (unhide hst))
        go_wp2
        go_ret
        exact ⟨ret_bool (unhide H).symm, unhide BK⟩
      have XK := hide ((unhide X3).trans ((unhide hbk).mono hz3))
      obtain ⟨c0, c1, c2, c3⟩ := Pls.lcell_at ((unhide HR).below (unhide BK) (Nat.le_refl _)).p.row k hlt
      rw [Nat.zero_add] at c0 c1 c2 c3
      have d0 := ((unhide hbk).cell (block_lt_of_cell (unhide HG k hlt))).trans (unhide HG k hlt)
      have HSTR := hide (fun w' (hb : Below w.heap.size w w') => ((unhide HR).below hb (Nat.le_refl _)).p.str k hlt)
      have HFK := hide (unhide HFP _ (Pls.getD_mem hlt))
      have hBP := hide (unhide HBP k hlt)
      have hBH := hide (fun q => unhide HBH k q hlt)
      have hBC := hide (fun q j r => unhide HBC k q j r hlt)
      have hGI := hide (fun q => unhide HGI k q hlt)
      have hGS := hide (unhide HGS k)
      have hPL := hide (unhide HPL k)
      generalize L.getD k Pls.zeroL = x at c0 c1 c2 c3 HSTR HFK hBP hBH hBC hGI hGS hPL
      generalize (names C).getD k ByteArray.empty = nm at d0 hBP hPL
      have ha := (unhide HSTR w (Below.refl _ _)).1
      have hca := (unhide HSTR w (Below.refl _ _)).2.2
      rw [ha, hca] at c3
      have hSP := fun w' (hb : Below w.heap.size w w') => spec_some x.lim x.nx (Pls.blk x) 0 x.its.length x.its w' (unhide HSTR w' hb).lt (Items.at_row (unhide HSTR w' hb).2.1) (unhide HFK).2.2.1 (Nat.le_refl _) (unhide HFK).2.2.2
      have hil : x.its.length ≤ 9223372036854775807 := by have := (unhide HFK).2.2.1; unfold maxLen at this; exact this
      clear ha hca
      generalize gsB x.lim x.nx x.its = gs at hSP hBP hPL
      have HSP := hide hSP
      clear hSP
      generalize hgi : Pls.blk x = gi at c3 HSP
      have HBK := hide hgi
      clear hgi
      have hxk := boxcell (unhide XK)
      go_wp2_with fail
      have q0 : (wk.alloc (.cells #[.string x.name, .int .i64 x.lim, .int .i64 x.nx, .slice (some ⟨gi, 0, none⟩) x.its.length x.its.length] 59)).cell? ⟨wk.heap.size, 0, none⟩ = some (.string x.name) := by rw [World.cell?_alloc_new]; rfl
      have q1 : (wk.alloc (.cells #[.string x.name, .int .i64 x.lim, .int .i64 x.nx, .slice (some ⟨gi, 0, none⟩) x.its.length x.its.length] 59)).cell? ⟨wk.heap.size, 1, none⟩ = some (.int .i64 x.lim) := by rw [World.cell?_alloc_new]; rfl
      have q2 : (wk.alloc (.cells #[.string x.name, .int .i64 x.lim, .int .i64 x.nx, .slice (some ⟨gi, 0, none⟩) x.its.length x.its.length] 59)).cell? ⟨wk.heap.size, 2, none⟩ = some (.int .i64 x.nx) := by rw [World.cell?_alloc_new]; rfl
      have q3 : (wk.alloc (.cells #[.string x.name, .int .i64 x.lim, .int .i64 x.nx, .slice (some ⟨gi, 0, none⟩) x.its.length x.its.length] 59)).cell? ⟨wk.heap.size, 3, none⟩ = some (.slice (some ⟨gi, 0, none⟩) x.its.length x.its.length) := by rw [World.cell?_alloc_new]; rfl
      have hzk1 : w.heap.size + 1 ≤ wk.heap.size := by omega
      have XW := hide ((unhide XK).alloc hzk1 (.cells #[.string x.name, .int .i64 x.lim, .int .i64 x.nx, .slice (some ⟨gi, 0, none⟩) x.its.length x.its.length] 59))
      have BW := hide ((unhide BK).alloc (unhide BK).size (.cells #[.string x.name, .int .i64 x.lim, .int .i64 x.nx, .slice (some ⟨gi, 0, none⟩) x.its.length x.its.length] 59))
      have YW := hide ((unhide hbk).alloc hzk (.cells #[.string x.name, .int .i64 x.lim, .int .i64 x.nx, .slice (some ⟨gi, 0, none⟩) x.its.length x.its.length] 59))
      have d0 := ((bel1 wk (.cells #[.string x.name, .int .i64 x.lim, .int .i64 x.nx, .slice (some ⟨gi, 0, none⟩) x.its.length x.its.length] 59)).cell (block_lt_of_cell d0)).trans d0
      have hzW : wk.heap.size < (wk.alloc (.cells #[.string x.name, .int .i64 x.lim, .int .i64 x.nx, .slice (some ⟨gi, 0, none⟩) x.its.length x.its.length] 59)).heap.size := by simp
      generalize wk.alloc (.cells #[.string x.name, .int .i64 x.lim, .int .i64 x.nx, .slice (some ⟨gi, 0, none⟩) x.its.length x.its.length] 59) = W at q0 q1 q2 q3 XW BW YW d0 hzW ⊢
      clear c0 c1 c2 c3 hxk
      have t1 : W.cell? ⟨w.heap.size, 1, none⟩ = some (.int .i64 nx) := (boxcell (unhide XW) 1).trans (by rw [World.cell?_alloc_new]; rfl)
      have t2 : W.cell? ⟨w.heap.size, 2, none⟩ = some (.int .i64 lim) := (boxcell (unhide XW) 2).trans (by rw [World.cell?_alloc_new]; rfl)
      have P0 := hide q0
      have P3 := hide q3
      have cC := fun d os => Calls.regrown_of (unhide HSP (Go.Sort.grow (redrawn W d) os) ((unhide BW).trans ((below_regrown W d os).mono (unhide BW).size)))
      have q0 := cell_regrown q0
      have q1 := cell_regrown q1
      have q2 := cell_regrown q2
      have q3 := cell_regrown q3
      have d0 := cell_regrown d0
      have t1 := cell_regrown t1
      have t2 := cell_regrown t2
      generalize wk.heap.size = pb at q0 q1 q2 q3 P0 P3 hzW hzk1 hzk ⊢
      by_cases hne : x.name = nm
      case neg =>
        have hne' := str_ne hne
        have H := hide (unhide hBP (fun h => hne h.1))
        refine wp_region_quiet_below (unhide HMIX) (by kernel_rfl) ?_
        repeat (go_big_quiet_step (exact cC _ _))
        refine wpQuiet_nil ?_
        intro _ hw'
        obtain ⟨⟨dq, osq⟩, hw''⟩ := hw'
        subst hw''
        have BQ := hide ((unhide BW).trans ((below_regrown W dq osq).mono (unhide BW).size))
        clear q0 q1 q2 q3 d0 t1 t2 cC
        generalize (Go.Sort.grow (redrawn W dq) osq) = v at BQ ⊢
        go_wp2
        go_ret
        exact ⟨ret_bool (unhide H).symm, unhide BQ⟩
      have hne' := str_eq hne
      have HNE := hide hne
      clear hne
      cases gs
      · have H := hide (unhide hBP (fun h => by have := h.2.1; simp at this))
        refine wp_region_quiet_below (unhide HMIX) (by kernel_rfl) ?_
        repeat (go_big_quiet_step (exact cC _ _))
        refine wpQuiet_nil ?_
        intro _ hw'
        obtain ⟨⟨dq, osq⟩, hw''⟩ := hw'
        subst hw''
        have BQ := hide ((unhide BW).trans ((below_regrown W dq osq).mono (unhide BW).size))
        clear q0 q1 q2 q3 d0 t1 t2 cC
        generalize (Go.Sort.grow (redrawn W dq) osq) = v at BQ ⊢
        go_wp2
        go_ret
        exact ⟨ret_bool (unhide H).symm, unhide BQ⟩
      by_cases hli : x.lim = lim
      case neg =>
        have hli2 : (x.lim == lim) = false := by simpa using hli
        have hli3 : (x.lim != lim) = true := by simpa using hli
        have hli4 : decide (x.lim = lim) = false := by simpa using hli
        have H := hide (unhide hBP (fun h => hli h.2.2.1))
        refine wp_region_quiet_below (unhide HMIX) (by kernel_rfl) ?_
        repeat (go_big_quiet_step (exact cC _ _))
        refine wpQuiet_nil ?_
        intro _ hw'
        obtain ⟨⟨dq, osq⟩, hw''⟩ := hw'
        subst hw''
        have BQ := hide ((unhide BW).trans ((below_regrown W dq osq).mono (unhide BW).size))
        clear q0 q1 q2 q3 d0 t1 t2 cC
        generalize (Go.Sort.grow (redrawn W dq) osq) = v at BQ ⊢
        go_wp2
        go_ret
        exact ⟨ret_bool (unhide H).symm, unhide BQ⟩
      have hli2 : (x.lim == lim) = true := by simpa using hli
      have hli3 : (x.lim != lim) = false := by simpa using hli
      have hli4 : decide (x.lim = lim) = true := by simpa using hli
      have HLI := hide hli
      clear hli
      by_cases hnx : nx < x.nx
      · have hnx2 : decide (nx < x.nx) = true := by simpa using hnx
        have H := hide (unhide hBP (fun h => by have := h.2.2.2; omega))
        refine wp_region_quiet_below (unhide HMIX) (by kernel_rfl) ?_
        repeat (go_big_quiet_step (exact cC _ _))
        refine wpQuiet_nil ?_
        intro _ hw'
        obtain ⟨⟨dq, osq⟩, hw''⟩ := hw'
        subst hw''
        have BQ := hide ((unhide BW).trans ((below_regrown W dq osq).mono (unhide BW).size))
        clear q0 q1 q2 q3 d0 t1 t2 cC
        generalize (Go.Sort.grow (redrawn W dq) osq) = v at BQ ⊢
        go_wp2
        go_ret
        exact ⟨ret_bool (unhide H).symm, unhide BQ⟩
      have hnx2 : decide (nx < x.nx) = false := by simpa using hnx
      have HPB := hide ((unhide hPL).2 ⟨unhide HNE, rfl, unhide HLI, by omega⟩)
      clear hBP hPL
      refine wp_region_quiet_below (unhide HMIX) (by kernel_rfl) ?_
      repeat (go_big_quiet_step (exact cC _ _))
      refine wpQuiet_nil ?_
      intro _ hw'
      obtain ⟨⟨dq, osq⟩, hw''⟩ := hw'
      subst hw''
      have hbq := below_regrown W dq osq
      generalize (Go.Sort.grow (redrawn W dq) osq) = v at hbq ⊢
      have BV := hide ((unhide BW).trans (hbq.mono (unhide BW).size))
      have hzXW : w.heap.size + 1 ≤ W.heap.size := by have := (unhide XW).size; simp at this; omega
      have XV := hide ((unhide XW).trans (hbq.mono hzXW))
      have YV := hide ((unhide YW).trans (hbq.mono (unhide YW).size))
      have p0 : v.cell? ⟨pb, 0, none⟩ = some (.string x.name) := (hbq.cell (p := ⟨pb, 0, none⟩) hzW).trans (unhide P0)
      have p3 : v.cell? ⟨pb, 3, none⟩ = some (.slice (some ⟨gi, 0, none⟩) x.its.length x.its.length) := (hbq.cell (p := ⟨pb, 3, none⟩) hzW).trans (unhide P3)
      have hzv : pb < v.heap.size := Nat.lt_of_lt_of_le hzW hbq.size
      have hzx : w.heap.size + 1 ≤ v.heap.size := by have := hbq.size; omega
      have PV0 := hide p0
      clear hbq q0 q1 q2 q3 d0 t1 t2 cC P0 P3 BW XW YW HSP hzXW
      go_wp2_with fail
      clear p3 p0
      go_loopw [107] (fun iv wr => ∃ q : Nat, q ≤ x.its.length ∧ iv = .int .i64 (q : Int) ∧ Hid (∀ r, r < q → itB C k (x.its.getD r zero) = true) ∧ Hid (Below v.heap.size v wr)) (fun iv _ => x.its.length - (intOf iv).toNat)
      case atStart => exact ⟨0, Nat.zero_le _, rfl, hide (fun r hr => absurd hr (by omega)), hide (Below.refl _ _)⟩
      case round =>
        obtain ⟨q, hq, rfl, hit, hbq⟩ := hrel
        obtain ⟨wq, hname⟩ : ∃ v, v = wr := ⟨_, rfl⟩
        subst hname
        have hzq := (unhide hbq).size
        by_cases hql : q < x.its.length
        case neg =>
          obtain rfl : q = x.its.length := by omega
          have HS := hide (unhide hGS (unhide HPB) (unhide hit))
          have HST : Hid (∀ i, i < k + 1 → stepB C i = true) := fun i hi => if e : i = k then (e ▸ unhide HS) else unhide hst i (by omega)
          have YQ := hide ((unhide YV).trans ((unhide hbq).mono (unhide YV).size))
          go_wp2
          go_roundw
          case rel => exact ⟨k + 1, by omega, by go_num, HST, YQ⟩
          case measure => simp [intOf]; omega
        have BQ := hide ((unhide BV).trans ((unhide hbq).mono (unhide BV).size))
        have XQ := hide ((unhide XV).trans ((unhide hbq).mono hzx))
        obtain ⟨e0, e1, e2, e3, e4⟩ := Items.at_row (unhide HSTR wq (unhide BQ)).2.1 q hql
        rw [Nat.zero_add, unhide HBK] at e0 e1 e2 e3 e4
        have HFI := hide (Items.fits_getD (unhide HFK).2.2.2 q hql)
        have hBH1 := hide (unhide hBH q hql)
        have hBC1 := hide (fun j r => unhide hBC q j r hql)
        have hGI1 := hide (unhide hGI q)
        generalize hgen : x.its.getD q zero = it at e0 e1 e2 e3 e4 HFI hBH1 hBC1 hGI1
        have HGEN := hide hgen
        clear hgen
        have hON : ∀ w', Below w.heap.size w w' → Calls Tryz.prog 59 #[.slice (some ⟨b1, 0, none⟩) ns.length ns.length, .string it.key] w' fun e w'' => e = .returned (.string (own ns it.key)) ∧ Below w'.heap.size w' w'' := fun w' hb => unhide HO it.key w' hb (unhide HFI).1
        have hhome : homeB ns cs x.name it = (decide (own ns it.key = x.name) || (!cs.isEmpty && decide (own cs it.key = x.name))) := rfl
        rw [hhome, unhide HEM] at hBH1 hGI1
        clear hhome
        generalize own ns it.key = o1 at hON hBH1 hGI1
        have HON := hide hON
        clear hON
        go_wp2_with fail
        have i0 : (wq.alloc (.cells #[.string it.key, .int .i64 it.flags, .string it.data, .int .i64 it.upto, .int .i64 it.token] 85)).cell? ⟨wq.heap.size, 0, none⟩ = some (.string it.key) := by rw [World.cell?_alloc_new]; rfl
        have i4 : (wq.alloc (.cells #[.string it.key, .int .i64 it.flags, .string it.data, .int .i64 it.upto, .int .i64 it.token] 85)).cell? ⟨wq.heap.size, 4, none⟩ = some (.int .i64 it.token) := by rw [World.cell?_alloc_new]; rfl
        have hzq1 : w.heap.size + 1 ≤ wq.heap.size := by omega
        have XU := hide ((unhide XQ).alloc hzq1 (.cells #[.string it.key, .int .i64 it.flags, .string it.data, .int .i64 it.upto, .int .i64 it.token] 85))
        have BU := hide ((unhide BQ).alloc (unhide BQ).size (.cells #[.string it.key, .int .i64 it.flags, .string it.data, .int .i64 it.upto, .int .i64 it.token] 85))
        have ZU := hide ((unhide hbq).alloc hzq (.cells #[.string it.key, .int .i64 it.flags, .string it.data, .int .i64 it.upto, .int .i64 it.token] 85))
        have hzU : wq.heap.size < (wq.alloc (.cells #[.string it.key, .int .i64 it.flags, .string it.data, .int .i64 it.upto, .int .i64 it.token] 85)).heap.size := by simp
        generalize wq.alloc (.cells #[.string it.key, .int .i64 it.flags, .string it.data, .int .i64 it.upto, .int .i64 it.token] 85) = U at i0 i4 XU BU ZU hzU ⊢
        clear e0 e1 e2 e3 e4
        generalize wq.heap.size = ib at i0 i4 hzU hzq1 hzq ⊢
        have n4 : U.cell? ⟨w.heap.size, 4, none⟩ = some (.slice (some ⟨b1, 0, none⟩) ns.length ns.length) := (boxcell (unhide XU) 4).trans (by rw [World.cell?_alloc_new]; rfl)
        have n5 : U.cell? ⟨w.heap.size, 5, none⟩ = some (.slice (some ⟨b2, 0, none⟩) cs.length cs.length) := (boxcell (unhide XU) 5).trans (by rw [World.cell?_alloc_new]; rfl)
        have p0 : U.cell? ⟨pb, 0, none⟩ = some (.string x.name) := ((unhide ZU).cell (p := ⟨pb, 0, none⟩) hzv).trans (unhide PV0)
        have I0 := hide i0
        have I4 := hide i4
        have cO := fun d os => Calls.regrown_of (unhide HON (Go.Sort.grow (redrawn U d) os) ((unhide BU).trans ((below_regrown U d os).mono (unhide BU).size)))
        have i0 := cell_regrown i0
        have n4 := cell_regrown n4
        have n5 := cell_regrown n5
        have p0 := cell_regrown p0
        by_cases hh1 : o1 = x.name
        · have hs1 := str_eq hh1
          have HGI2 := hide (unhide hGI1 (by rw [decide_eq_true hh1]; rfl))
          clear hh1 hBH1 hGI1
          refine wp_region_quiet_below (unhide HMIX) (by kernel_rfl) ?_
          repeat (go_big_quiet_step (exact cO _ _))
          refine wpQuiet_nil ?_
          intro _ hw'
          obtain ⟨⟨dq, osq⟩, hw''⟩ := hw'
          subst hw''
          have hbu := below_regrown U dq osq
          clear i0 n4 n5 p0 cO
          generalize (Go.Sort.grow (redrawn U dq) osq) = u at hbu ⊢
          have BN := hide ((unhide BU).trans (hbu.mono (unhide BU).size))
          have XN := hide ((unhide XU).trans (hbu.mono (by omega)))
          have ZN := hide ((unhide ZU).trans (hbu.mono (unhide ZU).size))
          have j0 : u.cell? ⟨ib, 0, none⟩ = some (.string it.key) := (hbu.cell (p := ⟨ib, 0, none⟩) hzU).trans (unhide I0)
          have j4 : u.cell? ⟨ib, 4, none⟩ = some (.int .i64 it.token) := (hbu.cell (p := ⟨ib, 4, none⟩) hzU).trans (unhide I4)
          have hzu : ib < u.heap.size := Nat.lt_of_lt_of_le hzU hbu.size
          have J0 := hide j0
          have J4 := hide j4
          have n6 : u.cell? ⟨w.heap.size, 6, none⟩ = some (.slice (some ⟨b3, 0, none⟩) L.length L.length) := (boxcell (unhide XN) 6).trans (by rw [World.cell?_alloc_new]; rfl)
          clear hbu I0 I4 BU XU ZU j0 j4
          go_wp2_with fail
          clear n6
          go_loopw [140] (fun iv wr => ∃ j : Nat, j ≤ k ∧ iv = .int .i64 (j : Int) ∧ Hid (∀ j', j' < j → ∀ r, r < (L.getD j' Pls.zeroL).its.length → clash ((L.getD j' Pls.zeroL).its.getD r zero) it = false) ∧ Hid (Below u.heap.size u wr)) (fun iv _ => k - (intOf iv).toNat)
          case atStart => exact ⟨0, Nat.zero_le _, rfl, hide (fun j' hj' => absurd hj' (by omega)), hide (Below.refl _ _)⟩
          case round =>
            obtain ⟨j, hj, rfl, hcl, hbj⟩ := hrel
            obtain ⟨wj, hname⟩ : ∃ v, v = wr := ⟨_, rfl⟩
            subst hname
            have hzj := (unhide hbj).size
            by_cases hjk : j < k
            case neg =>
              obtain rfl : j = k := by omega
              have HI := hide (unhide HGI2 (unhide hcl))
              have HIT : Hid (∀ r, r < q + 1 → itB C j (x.its.getD r zero) = true) := fun r hr => if e : r = q then (by rw [e, unhide HGEN]; exact unhide HI) else unhide hit r (by omega)
              have ZJ := hide ((unhide ZN).trans ((unhide hbj).mono (unhide ZN).size))
              go_wp2
              go_roundw
              case rel => exact ⟨q + 1, by omega, by go_num, HIT, ZJ⟩
              case measure => simp [intOf]; omega
            have BJ := hide ((unhide BN).trans ((unhide hbj).mono (unhide BN).size))
            have hjl : j < L.length := by omega
            obtain ⟨f0, f1, f2, f3⟩ := Pls.lcell_at ((unhide HR).below (unhide BJ) (Nat.le_refl _)).p.row j hjl
            rw [Nat.zero_add] at f0 f1 f2 f3
            have HSJ := hide (fun w' (hb : Below w.heap.size w w') => ((unhide HR).below hb (Nat.le_refl _)).p.str j hjl)
            have HFJ := hide (unhide HFP _ (Pls.getD_mem hjl))
            have hBC2 := hide (fun r => unhide hBC1 j r hjk)
            generalize hgen : L.getD j Pls.zeroL = y at f0 f1 f2 f3 HSJ HFJ hBC2
            have HGJ := hide hgen
            clear hgen
            have hja := (unhide HSJ w (Below.refl _ _)).1
            have hjc := (unhide HSJ w (Below.refl _ _)).2.2
            rw [hja, hjc] at f3
            have hyl : y.its.length ≤ 9223372036854775807 := by have := (unhide HFJ).2.2.1; unfold maxLen at this; exact this
            clear hja hjc
            generalize hgj : Pls.blk y = gj at f3
            have HBJ := hide hgj
            clear hgj
            go_wp2_with fail
            have BT := hide ((unhide BJ).alloc (unhide BJ).size (.cells #[.string y.name, .int .i64 y.lim, .int .i64 y.nx, .slice (some ⟨gj, 0, none⟩) y.its.length y.its.length] 59))
            have UT := hide ((unhide hbj).alloc hzj (.cells #[.string y.name, .int .i64 y.lim, .int .i64 y.nx, .slice (some ⟨gj, 0, none⟩) y.its.length y.its.length] 59))
            have hzT : u.heap.size ≤ (wj.alloc (.cells #[.string y.name, .int .i64 y.lim, .int .i64 y.nx, .slice (some ⟨gj, 0, none⟩) y.its.length y.its.length] 59)).heap.size := by simp; omega
            generalize wj.alloc (.cells #[.string y.name, .int .i64 y.lim, .int .i64 y.nx, .slice (some ⟨gj, 0, none⟩) y.its.length y.its.length] 59) = T at BT UT hzT ⊢
            clear f0 f1 f2 f3
            go_loopw [148] (fun iv wr => ∃ r : Nat, r ≤ y.its.length ∧ iv = .int .i64 (r : Int) ∧ Hid (∀ r', r' < r → clash (y.its.getD r' zero) it = false) ∧ Hid (Below T.heap.size T wr)) (fun iv _ => y.its.length - (intOf iv).toNat)
            case atStart => exact ⟨0, Nat.zero_le _, rfl, hide (fun r' hr' => absurd hr' (by omega)), hide (Below.refl _ _)⟩
            case round =>
              obtain ⟨r, hr, rfl, hcr, hbr⟩ := hrel
              have hzr := (unhide hbr).size
              by_cases hrl : r < y.its.length
              case neg =>
                obtain rfl : r = y.its.length := by omega
                have HCJ : Hid (∀ j', j' < j + 1 → ∀ r, r < (L.getD j' Pls.zeroL).its.length → clash ((L.getD j' Pls.zeroL).its.getD r zero) it = false) := fun j' hj' => if e : j' = j then (by rw [e, unhide HGJ]; exact unhide hcr) else unhide hcl j' (by omega)
                have UR := hide ((unhide UT).trans ((unhide hbr).mono hzT))
                go_wp2
                go_roundw
                case rel => exact ⟨j + 1, by omega, by go_num, HCJ, UR⟩
                case measure => simp [intOf]; omega
              have BR := hide ((unhide BT).trans ((unhide hbr).mono (unhide BT).size))
              have UR := hide ((unhide UT).trans ((unhide hbr).mono hzT))
              obtain ⟨m0, m1, m2, m3, m4⟩ := Items.at_row (unhide HSJ wr (unhide BR)).2.1 r hrl
              rw [Nat.zero_add, unhide HBJ] at m0 m1 m2 m3 m4
              have hBC3 := hide (unhide hBC2 r hrl)
              generalize hgen : y.its.getD r zero = o at m0 m1 m2 m3 m4 hBC3
              have HGR := hide hgen
              clear hgen
              have j0 : wr.cell? ⟨ib, 0, none⟩ = some (.string it.key) := ((unhide UR).cell (p := ⟨ib, 0, none⟩) hzu).trans (unhide J0)
              have j4 : wr.cell? ⟨ib, 4, none⟩ = some (.int .i64 it.token) := ((unhide UR).cell (p := ⟨ib, 4, none⟩) hzu).trans (unhide J4)
              have hib : ib < wr.heap.size := by have := (unhide UR).size; omega
              have hgl : gj < wr.heap.size := block_lt_of_cell m0
              cases k1 : (o.key.toList == it.key.toList)
              · cases k2 : (o.token == it.token)
                · have HCR : Hid (∀ r', r' < r + 1 → clash (y.its.getD r' zero) it = false) := fun r' hr' => if e : r' = r then (by rw [e, unhide HGR]; simp [clash, k1, k2]) else unhide hcr r' (by omega)
                  have TR := hide ((unhide hbr).alloc hzr (.cells #[.string o.key, .int .i64 o.flags, .string o.data, .int .i64 o.upto, .int .i64 o.token] 85))
                  go_wp2
                  go_roundw
                  case rel => exact ⟨r + 1, by omega, by go_num, HCR, TR⟩
                  case measure => simp [intOf]; omega
                · have H := hide (unhide hBC3 (by simp [clash, k2]))
                  have BF := hide ((unhide BR).alloc (unhide BR).size (.cells #[.string o.key, .int .i64 o.flags, .string o.data, .int .i64 o.upto, .int .i64 o.token] 85))
                  go_wp2
                  go_ret
                  exact ⟨ret_bool (unhide H).symm, unhide BF⟩
              · have H := hide (unhide hBC3 (by simp [clash, k1]))
                have BF := hide ((unhide BR).alloc (unhide BR).size (.cells #[.string o.key, .int .i64 o.flags, .string o.data, .int .i64 o.upto, .int .i64 o.token] 85))
                go_wp2
                go_ret
                exact ⟨ret_bool (unhide H).symm, unhide BF⟩
        have hs1 := str_ne hh1
        have hd1 := decide_eq_false hh1
        have hz0 : ((cs.length : Int) == 0) = true := by simp only [beq_iff_eq]; omega
        have hz2 : decide ((cs.length : Int) = 0) = true := by simpa using hz0
        have hz3 : (cs.length : Int) = 0 := by simpa using hz0
        have H := hide (unhide hBH1 (by rw [hd1]; rfl))
        clear hh1 hd1 hBH1 hGI1
        refine wp_region_quiet_below (unhide HMIX) (by kernel_rfl) ?_
        repeat (go_big_quiet_step (exact cO _ _))
        refine wpQuiet_nil ?_
        intro _ hw'
        obtain ⟨⟨dq, osq⟩, hw''⟩ := hw'
        subst hw''
        have BQ2 := hide ((unhide BU).trans ((below_regrown U dq osq).mono (unhide BU).size))
        clear i0 n4 n5 p0 cO
        generalize (Go.Sort.grow (redrawn U dq) osq) = u at BQ2 ⊢
        go_wp2
        go_ret
        exact ⟨ret_bool (unhide H).symm, unhide BQ2⟩
  · have HW := hide (fun (key : ByteArray) w' (hb : Below w.heap.size w w') hk => Ring.mowner_some b2 0 cs.length cs key w' (hR.below hb (Nat.le_refl _)).c.lt (Nodes.at_row (hR.below hb (Nat.le_refl _)).c) g6 hk)
    have hcp : decide (0 < (cs.length : Int)) = true := by
      have : 0 < cs.length := List.length_pos_iff.2 (fun e => by rw [e] at g6; simp [NodesM.gnB, inB] at g6)
      simp; omega
    have hcq : 0 < (cs.length : Int) := by simpa using hcp
    have HEM : Hid (cs.isEmpty = false) := by cases cs <;> simp_all [hide]
    rw [g6] at GC
    rw [g5] at GN
    clear g5 g6 hR
    go_enter Tryz.func23, Tryz.ntmps23
    go_wp2_with (first | (go_at_call 54; refine (l2Now_any _ _).mono ?_; rintro e w' ⟨rfl, rfl⟩) | (go_at_call 55; refine (l1In_any _ _ _ _).mono ?_; rintro e w' ⟨rfl, rfl⟩) | (go_at_call 56; refine (limit_any _ _).mono ?_; rintro e w' ⟨rfl, rfl⟩) | fail)
    refine (unhide GN _ (bel1 w _)).mono ?_
    rintro e w1 ⟨rfl, hb1⟩
    simp only [World.size_alloc] at hb1
    have X1 := hide hb1
    have hz1 : w.heap.size + 1 ≤ w1.heap.size := by have := hb1.size; simp at this; omega
    have B1 := hide ((bel1 w _).trans (hb1.mono (by omega)))
    have hx1 := boxcell hb1
    clear hb1
    go_wp2_with fail
    refine (unhide GC _ (unhide B1)).mono ?_
    rintro e w2 ⟨rfl, hb2⟩
    have B2 := hide ((unhide B1).trans (hb2.mono (unhide B1).size))
    have X2 := hide ((unhide X1).trans (hb2.mono hz1))
    have hx2 := boxcell (unhide X2)
    have hz2 : w.heap.size + 1 ≤ w2.heap.size := by have := hb2.size; omega
    clear hb2 hx1
    go_wp2_with fail
    refine (unhide HP _ (unhide B2)).mono ?_
    rintro e w3 ⟨g, cap, rfl, hg, hb3⟩
    have B3 := hide ((unhide B2).trans (hb3.mono (unhide B2).size))
    have X3 := hide ((unhide X2).trans (hb3.mono hz2))
    have hx3 := boxcell (unhide X3)
    have hz3 : w.heap.size + 1 ≤ w3.heap.size := by have := hb3.size; omega
    have HG := hide hg
    clear hb3 hg hx2
    by_cases hlen : m = L.length
    case neg =>
      have H := hide (unhide HLE hlen)
      have hlen' : ¬ (m : Int) = (L.length : Int) := by omega
      have hlen2 : decide ((m : Int) = (L.length : Int)) = false := by simp; omega
      go_wp2
      go_ret
      exact ⟨ret_bool (unhide H).symm, unhide B3⟩
    have HEN2 := hide (unhide HEND hlen)
    clear HEND HLE
    subst hlen
    go_wp2_with fail
    clear hx3
    go_loopw [68] (fun iv wr => ∃ k : Nat, k ≤ L.length ∧ iv = .int .i64 (k : Int) ∧ Hid (∀ i, i < k → stepB C i = true) ∧ Hid (Below w3.heap.size w3 wr)) (fun iv _ => L.length - (intOf iv).toNat)
    case atStart => exact ⟨0, Nat.zero_le _, rfl, hide (fun i hi => absurd hi (by omega)), hide (Below.refl _ _)⟩
    case round =>
      obtain ⟨k, hk, rfl, hst, hbk⟩ := hrel
      obtain ⟨wk, hname⟩ : ∃ v, v = wr := ⟨_, rfl⟩
      subst hname
      have hzk := (unhide hbk).size
      have BK := hide ((unhide B3).trans ((unhide hbk).mono (unhide B3).size))
      by_cases hlt : k < L.length
      case neg =>
        obtain rfl : k = L.length := by omega
        have H := hide (unhide HEN2 (unhide hst))
        go_wp2
        go_ret
        exact ⟨ret_bool (unhide H).symm, unhide BK⟩
      have XK := hide ((unhide X3).trans ((unhide hbk).mono hz3))
      obtain ⟨c0, c1, c2, c3⟩ := Pls.lcell_at ((unhide HR).below (unhide BK) (Nat.le_refl _)).p.row k hlt
      rw [Nat.zero_add] at c0 c1 c2 c3
      have d0 := ((unhide hbk).cell (block_lt_of_cell (unhide HG k hlt))).trans (unhide HG k hlt)
      have HSTR := hide (fun w' (hb : Below w.heap.size w w') => ((unhide HR).below hb (Nat.le_refl _)).p.str k hlt)
      have HFK := hide (unhide HFP _ (Pls.getD_mem hlt))
      have hBP := hide (unhide HBP k hlt)
      have hBH := hide (fun q => unhide HBH k q hlt)
      have hBC := hide (fun q j r => unhide HBC k q j r hlt)
      have hGI := hide (fun q => unhide HGI k q hlt)
      have hGS := hide (unhide HGS k)
      have hPL := hide (unhide HPL k)
      generalize L.getD k Pls.zeroL = x at c0 c1 c2 c3 HSTR HFK hBP hBH hBC hGI hGS hPL
      generalize (names C).getD k ByteArray.empty = nm at d0 hBP hPL
      have ha := (unhide HSTR w (Below.refl _ _)).1
      have hca := (unhide HSTR w (Below.refl _ _)).2.2
      rw [ha, hca] at c3
      have hSP := fun w' (hb : Below w.heap.size w w') => spec_some x.lim x.nx (Pls.blk x) 0 x.its.length x.its w' (unhide HSTR w' hb).lt (Items.at_row (unhide HSTR w' hb).2.1) (unhide HFK).2.2.1 (Nat.le_refl _) (unhide HFK).2.2.2
      have hil : x.its.length ≤ 9223372036854775807 := by have := (unhide HFK).2.2.1; unfold maxLen at this; exact this
      clear ha hca
      generalize gsB x.lim x.nx x.its = gs at hSP hBP hPL
      have HSP := hide hSP
      clear hSP
      generalize hgi : Pls.blk x = gi at c3 HSP
      have HBK := hide hgi
      clear hgi
      have hxk := boxcell (unhide XK)
      go_wp2_with fail
      have q0 : (wk.alloc (.cells #[.string x.name, .int .i64 x.lim, .int .i64 x.nx, .slice (some ⟨gi, 0, none⟩) x.its.length x.its.length] 59)).cell? ⟨wk.heap.size, 0, none⟩ = some (.string x.name) := by rw [World.cell?_alloc_new]; rfl
      have q1 : (wk.alloc (.cells #[.string x.name, .int .i64 x.lim, .int .i64 x.nx, .slice (some ⟨gi, 0, none⟩) x.its.length x.its.length] 59)).cell? ⟨wk.heap.size, 1, none⟩ = some (.int .i64 x.lim) := by rw [World.cell?_alloc_new]; rfl
      have q2 : (wk.alloc (.cells #[.string x.name, .int .i64 x.lim, .int .i64 x.nx, .slice (some ⟨gi, 0, none⟩) x.its.length x.its.length] 59)).cell? ⟨wk.heap.size, 2, none⟩ = some (.int .i64 x.nx) := by rw [World.cell?_alloc_new]; rfl
      have q3 : (wk.alloc (.cells #[.string x.name, .int .i64 x.lim, .int .i64 x.nx, .slice (some ⟨gi, 0, none⟩) x.its.length x.its.length] 59)).cell? ⟨wk.heap.size, 3, none⟩ = some (.slice (some ⟨gi, 0, none⟩) x.its.length x.its.length) := by rw [World.cell?_alloc_new]; rfl
      have hzk1 : w.heap.size + 1 ≤ wk.heap.size := by omega
      have XW := hide ((unhide XK).alloc hzk1 (.cells #[.string x.name, .int .i64 x.lim, .int .i64 x.nx, .slice (some ⟨gi, 0, none⟩) x.its.length x.its.length] 59))
      have BW := hide ((unhide BK).alloc (unhide BK).size (.cells #[.string x.name, .int .i64 x.lim, .int .i64 x.nx, .slice (some ⟨gi, 0, none⟩) x.its.length x.its.length] 59))
      have YW := hide ((unhide hbk).alloc hzk (.cells #[.string x.name, .int .i64 x.lim, .int .i64 x.nx, .slice (some ⟨gi, 0, none⟩) x.its.length x.its.length] 59))
      have d0 := ((bel1 wk (.cells #[.string x.name, .int .i64 x.lim, .int .i64 x.nx, .slice (some ⟨gi, 0, none⟩) x.its.length x.its.length] 59)).cell (block_lt_of_cell d0)).trans d0
      have hzW : wk.heap.size < (wk.alloc (.cells #[.string x.name, .int .i64 x.lim, .int .i64 x.nx, .slice (some ⟨gi, 0, none⟩) x.its.length x.its.length] 59)).heap.size := by simp
      generalize wk.alloc (.cells #[.string x.name, .int .i64 x.lim, .int .i64 x.nx, .slice (some ⟨gi, 0, none⟩) x.its.length x.its.length] 59) = W at q0 q1 q2 q3 XW BW YW d0 hzW ⊢
      clear c0 c1 c2 c3 hxk
      have t1 : W.cell? ⟨w.heap.size, 1, none⟩ = some (.int .i64 nx) := (boxcell (unhide XW) 1).trans (by rw [World.cell?_alloc_new]; rfl)
      have t2 : W.cell? ⟨w.heap.size, 2, none⟩ = some (.int .i64 lim) := (boxcell (unhide XW) 2).trans (by rw [World.cell?_alloc_new]; rfl)
      have P0 := hide q0
      have P3 := hide q3
      have cC := fun d os => Calls.regrown_of (unhide HSP (Go.Sort.grow (redrawn W d) os) ((unhide BW).trans ((below_regrown W d os).mono (unhide BW).size)))
      have q0 := cell_regrown q0
      have q1 := cell_regrown q1
      have q2 := cell_regrown q2
      have q3 := cell_regrown q3
      have d0 := cell_regrown d0
      have t1 := cell_regrown t1
      have t2 := cell_regrown t2
      generalize wk.heap.size = pb at q0 q1 q2 q3 P0 P3 hzW hzk1 hzk ⊢
      by_cases hne : x.name = nm
      case neg =>
        have hne' := str_ne hne
        have H := hide (unhide hBP (fun h => hne h.1))
        refine wp_region_quiet_below (unhide HMIX) (by kernel_rfl) ?_
        repeat (go_big_quiet_step (exact cC _ _))
        refine wpQuiet_nil ?_
        intro _ hw'
        obtain ⟨⟨dq, osq⟩, hw''⟩ := hw'
        subst hw''
        have BQ := hide ((unhide BW).trans ((below_regrown W dq osq).mono (unhide BW).size))
        clear q0 q1 q2 q3 d0 t1 t2 cC
        generalize (Go.Sort.grow (redrawn W dq) osq) = v at BQ ⊢
        go_wp2
        go_ret
        exact ⟨ret_bool (unhide H).symm, unhide BQ⟩
      have hne' := str_eq hne
      have HNE := hide hne
      clear hne
      cases gs
      · have H := hide (unhide hBP (fun h => by have := h.2.1; simp at this))
        refine wp_region_quiet_below (unhide HMIX) (by kernel_rfl) ?_
        repeat (go_big_quiet_step (exact cC _ _))
        refine wpQuiet_nil ?_
        intro _ hw'
        obtain ⟨⟨dq, osq⟩, hw''⟩ := hw'
        subst hw''
        have BQ := hide ((unhide BW).trans ((below_regrown W dq osq).mono (unhide BW).size))
        clear q0 q1 q2 q3 d0 t1 t2 cC
        generalize (Go.Sort.grow (redrawn W dq) osq) = v at BQ ⊢
        go_wp2
        go_ret
        exact ⟨ret_bool (unhide H).symm, unhide BQ⟩
      by_cases hli : x.lim = lim
      case neg =>
        have hli2 : (x.lim == lim) = false := by simpa using hli
        have hli3 : (x.lim != lim) = true := by simpa using hli
        have hli4 : decide (x.lim = lim) = false := by simpa using hli
        have H := hide (unhide hBP (fun h => hli h.2.2.1))
        refine wp_region_quiet_below (unhide HMIX) (by kernel_rfl) ?_
        repeat (go_big_quiet_step (exact cC _ _))
        refine wpQuiet_nil ?_
        intro _ hw'
        obtain ⟨⟨dq, osq⟩, hw''⟩ := hw'
        subst hw''
        have BQ := hide ((unhide BW).trans ((below_regrown W dq osq).mono (unhide BW).size))
        clear q0 q1 q2 q3 d0 t1 t2 cC
        generalize (Go.Sort.grow (redrawn W dq) osq) = v at BQ ⊢
        go_wp2
        go_ret
        exact ⟨ret_bool (unhide H).symm, unhide BQ⟩
      have hli2 : (x.lim == lim) = true := by simpa using hli
      have hli3 : (x.lim != lim) = false := by simpa using hli
      have hli4 : decide (x.lim = lim) = true := by simpa using hli
      have HLI := hide hli
      clear hli
      by_cases hnx : nx < x.nx
      · have hnx2 : decide (nx < x.nx) = true := by simpa using hnx
        have H := hide (unhide hBP (fun h => by have := h.2.2.2; omega))
        refine wp_region_quiet_below (unhide HMIX) (by kernel_rfl) ?_
        repeat (go_big_quiet_step (exact cC _ _))
        refine wpQuiet_nil ?_
        intro _ hw'
        obtain ⟨⟨dq, osq⟩, hw''⟩ := hw'
        subst hw''
        have BQ := hide ((unhide BW).trans ((below_regrown W dq osq).mono (unhide BW).size))
        clear q0 q1 q2 q3 d0 t1 t2 cC
        generalize (Go.Sort.grow (redrawn W dq) osq) = v at BQ ⊢
        go_wp2
        go_ret
        exact ⟨ret_bool (unhide H).symm, unhide BQ⟩
      have hnx2 : decide (nx < x.nx) = false := by simpa using hnx
      have HPB := hide ((unhide hPL).2 ⟨unhide HNE, rfl, unhide HLI, by omega⟩)
      clear hBP hPL
      refine wp_region_quiet_below (unhide HMIX) (by kernel_rfl) ?_
      repeat (go_big_quiet_step (exact cC _ _))
      refine wpQuiet_nil ?_
      intro _ hw'
      obtain ⟨⟨dq, osq⟩, hw''⟩ := hw'
      subst hw''
      have hbq := below_regrown W dq osq
      generalize (Go.Sort.grow (redrawn W dq) osq) = v at hbq ⊢
      have BV := hide ((unhide BW).trans (hbq.mono (unhide BW).size))
      have hzXW : w.heap.size + 1 ≤ W.heap.size := by have := (unhide XW).size; simp at this; omega
      have XV := hide ((unhide XW).trans (hbq.mono hzXW))
      have YV := hide ((unhide YW).trans (hbq.mono (unhide YW).size))
      have p0 : v.cell? ⟨pb, 0, none⟩ = some (.string x.name) := (hbq.cell (p := ⟨pb, 0, none⟩) hzW).trans (unhide P0)
      have p3 : v.cell? ⟨pb, 3, none⟩ = some (.slice (some ⟨gi, 0, none⟩) x.its.length x.its.length) := (hbq.cell (p := ⟨pb, 3, none⟩) hzW).trans (unhide P3)
      have hzv : pb < v.heap.size := Nat.lt_of_lt_of_le hzW hbq.size
      have hzx : w.heap.size + 1 ≤ v.heap.size := by have := hbq.size; omega
      have PV0 := hide p0
      clear hbq q0 q1 q2 q3 d0 t1 t2 cC P0 P3 BW XW YW HSP hzXW
      go_wp2_with fail
      clear p3 p0
      go_loopw [107] (fun iv wr => ∃ q : Nat, q ≤ x.its.length ∧ iv = .int .i64 (q : Int) ∧ Hid (∀ r, r < q → itB C k (x.its.getD r zero) = true) ∧ Hid (Below v.heap.size v wr)) (fun iv _ => x.its.length - (intOf iv).toNat)
      case atStart => exact ⟨0, Nat.zero_le _, rfl, hide (fun r hr => absurd hr (by omega)), hide (Below.refl _ _)⟩
      case round =>
        obtain ⟨q, hq, rfl, hit, hbq⟩ := hrel
        obtain ⟨wq, hname⟩ : ∃ v, v = wr := ⟨_, rfl⟩
        subst hname
        have hzq := (unhide hbq).size
        by_cases hql : q < x.its.length
        case neg =>
          obtain rfl : q = x.its.length := by omega
          have HS := hide (unhide hGS (unhide HPB) (unhide hit))
          have HST : Hid (∀ i, i < k + 1 → stepB C i = true) := fun i hi => if e : i = k then (e ▸ unhide HS) else unhide hst i (by omega)
          have YQ := hide ((unhide YV).trans ((unhide hbq).mono (unhide YV).size))
          go_wp2
          go_roundw
          case rel => exact ⟨k + 1, by omega, by go_num, HST, YQ⟩
          case measure => simp [intOf]; omega
        have BQ := hide ((unhide BV).trans ((unhide hbq).mono (unhide BV).size))
        have XQ := hide ((unhide XV).trans ((unhide hbq).mono hzx))
        obtain ⟨e0, e1, e2, e3, e4⟩ := Items.at_row (unhide HSTR wq (unhide BQ)).2.1 q hql
        rw [Nat.zero_add, unhide HBK] at e0 e1 e2 e3 e4
        have HFI := hide (Items.fits_getD (unhide HFK).2.2.2 q hql)
        have hBH1 := hide (unhide hBH q hql)
        have hBC1 := hide (fun j r => unhide hBC q j r hql)
        have hGI1 := hide (unhide hGI q)
        generalize hgen : x.its.getD q zero = it at e0 e1 e2 e3 e4 HFI hBH1 hBC1 hGI1
        have HGEN := hide hgen
        clear hgen
        have hON : ∀ w', Below w.heap.size w w' → Calls Tryz.prog 59 #[.slice (some ⟨b1, 0, none⟩) ns.length ns.length, .string it.key] w' fun e w'' => e = .returned (.string (own ns it.key)) ∧ Below w'.heap.size w' w'' := fun w' hb => unhide HO it.key w' hb (unhide HFI).1
        have hhome : homeB ns cs x.name it = (decide (own ns it.key = x.name) || (!cs.isEmpty && decide (own cs it.key = x.name))) := rfl
        rw [hhome, unhide HEM] at hBH1 hGI1
        clear hhome
        have hOC : ∀ w', Below w.heap.size w w' → Calls Tryz.prog 59 #[.slice (some ⟨b2, 0, none⟩) cs.length cs.length, .string it.key] w' fun e w'' => e = .returned (.string (own cs it.key)) ∧ Below w'.heap.size w' w'' := fun w' hb => unhide HW it.key w' hb (unhide HFI).1
        generalize own cs it.key = o2 at hOC hBH1 hGI1
        have HOC := hide hOC
        clear hOC
        generalize own ns it.key = o1 at hON hBH1 hGI1
        have HON := hide hON
        clear hON
        go_wp2_with fail
        have i0 : (wq.alloc (.cells #[.string it.key, .int .i64 it.flags, .string it.data, .int .i64 it.upto, .int .i64 it.token] 85)).cell? ⟨wq.heap.size, 0, none⟩ = some (.string it.key) := by rw [World.cell?_alloc_new]; rfl
        have i4 : (wq.alloc (.cells #[.string it.key, .int .i64 it.flags, .string it.data, .int .i64 it.upto, .int .i64 it.token] 85)).cell? ⟨wq.heap.size, 4, none⟩ = some (.int .i64 it.token) := by rw [World.cell?_alloc_new]; rfl
        have hzq1 : w.heap.size + 1 ≤ wq.heap.size := by omega
        have XU := hide ((unhide XQ).alloc hzq1 (.cells #[.string it.key, .int .i64 it.flags, .string it.data, .int .i64 it.upto, .int .i64 it.token] 85))
        have BU := hide ((unhide BQ).alloc (unhide BQ).size (.cells #[.string it.key, .int .i64 it.flags, .string it.data, .int .i64 it.upto, .int .i64 it.token] 85))
        have ZU := hide ((unhide hbq).alloc hzq (.cells #[.string it.key, .int .i64 it.flags, .string it.data, .int .i64 it.upto, .int .i64 it.token] 85))
        have hzU : wq.heap.size < (wq.alloc (.cells #[.string it.key, .int .i64 it.flags, .string it.data, .int .i64 it.upto, .int .i64 it.token] 85)).heap.size := by simp
        generalize wq.alloc (.cells #[.string it.key, .int .i64 it.flags, .string it.data, .int .i64 it.upto, .int .i64 it.token] 85) = U at i0 i4 XU BU ZU hzU ⊢
        clear e0 e1 e2 e3 e4
        generalize wq.heap.size = ib at i0 i4 hzU hzq1 hzq ⊢
        have n4 : U.cell? ⟨w.heap.size, 4, none⟩ = some (.slice (some ⟨b1, 0, none⟩) ns.length ns.length) := (boxcell (unhide XU) 4).trans (by rw [World.cell?_alloc_new]; rfl)
        have n5 : U.cell? ⟨w.heap.size, 5, none⟩ = some (.slice (some ⟨b2, 0, none⟩) cs.length cs.length) := (boxcell (unhide XU) 5).trans (by rw [World.cell?_alloc_new]; rfl)
        have p0 : U.cell? ⟨pb, 0, none⟩ = some (.string x.name) := ((unhide ZU).cell (p := ⟨pb, 0, none⟩) hzv).trans (unhide PV0)
        have I0 := hide i0
        have I4 := hide i4
        have cO := fun d os => Calls.regrown_of (unhide HON (Go.Sort.grow (redrawn U d) os) ((unhide BU).trans ((below_regrown U d os).mono (unhide BU).size)))
        have cP := fun d os => Calls.regrown_of (unhide HOC (Go.Sort.grow (redrawn U d) os) ((unhide BU).trans ((below_regrown U d os).mono (unhide BU).size)))
        have i0 := cell_regrown i0
        have n4 := cell_regrown n4
        have n5 := cell_regrown n5
        have p0 := cell_regrown p0
        by_cases hh1 : o1 = x.name
        · have hs1 := str_eq hh1
          have HGI2 := hide (unhide hGI1 (by rw [decide_eq_true hh1]; rfl))
          clear hh1 hBH1 hGI1
          refine wp_region_quiet_below (unhide HMIX) (by kernel_rfl) ?_
          repeat (go_big_quiet_step (exact cO _ _))
          refine wpQuiet_nil ?_
          intro _ hw'
          obtain ⟨⟨dq, osq⟩, hw''⟩ := hw'
          subst hw''
          have hbu := below_regrown U dq osq
          clear i0 n4 n5 p0 cO cP
          generalize (Go.Sort.grow (redrawn U dq) osq) = u at hbu ⊢
          have BN := hide ((unhide BU).trans (hbu.mono (unhide BU).size))
          have XN := hide ((unhide XU).trans (hbu.mono (by omega)))
          have ZN := hide ((unhide ZU).trans (hbu.mono (unhide ZU).size))
          have j0 : u.cell? ⟨ib, 0, none⟩ = some (.string it.key) := (hbu.cell (p := ⟨ib, 0, none⟩) hzU).trans (unhide I0)
          have j4 : u.cell? ⟨ib, 4, none⟩ = some (.int .i64 it.token) := (hbu.cell (p := ⟨ib, 4, none⟩) hzU).trans (unhide I4)
          have hzu : ib < u.heap.size := Nat.lt_of_lt_of_le hzU hbu.size
          have J0 := hide j0
          have J4 := hide j4
          have n6 : u.cell? ⟨w.heap.size, 6, none⟩ = some (.slice (some ⟨b3, 0, none⟩) L.length L.length) := (boxcell (unhide XN) 6).trans (by rw [World.cell?_alloc_new]; rfl)
          clear hbu I0 I4 BU XU ZU j0 j4
          go_wp2_with fail
          clear n6
          go_loopw [140] (fun iv wr => ∃ j : Nat, j ≤ k ∧ iv = .int .i64 (j : Int) ∧ Hid (∀ j', j' < j → ∀ r, r < (L.getD j' Pls.zeroL).its.length → clash ((L.getD j' Pls.zeroL).its.getD r zero) it = false) ∧ Hid (Below u.heap.size u wr)) (fun iv _ => k - (intOf iv).toNat)
          case atStart => exact ⟨0, Nat.zero_le _, rfl, hide (fun j' hj' => absurd hj' (by omega)), hide (Below.refl _ _)⟩
          case round =>
            obtain ⟨j, hj, rfl, hcl, hbj⟩ := hrel
            obtain ⟨wj, hname⟩ : ∃ v, v = wr := ⟨_, rfl⟩
            subst hname
            have hzj := (unhide hbj).size
            by_cases hjk : j < k
            case neg =>
              obtain rfl : j = k := by omega
              have HI := hide (unhide HGI2 (unhide hcl))
              have HIT : Hid (∀ r, r < q + 1 → itB C j (x.its.getD r zero) = true) := fun r hr => if e : r = q then (by rw [e, unhide HGEN]; exact unhide HI) else unhide hit r (by omega)
              have ZJ := hide ((unhide ZN).trans ((unhide hbj).mono (unhide ZN).size))
              go_wp2
              go_roundw
              case rel => exact ⟨q + 1, by omega, by go_num, HIT, ZJ⟩
              case measure => simp [intOf]; omega
            have BJ := hide ((unhide BN).trans ((unhide hbj).mono (unhide BN).size))
            have hjl : j < L.length := by omega
            obtain ⟨f0, f1, f2, f3⟩ := Pls.lcell_at ((unhide HR).below (unhide BJ) (Nat.le_refl _)).p.row j hjl
            rw [Nat.zero_add] at f0 f1 f2 f3
            have HSJ := hide (fun w' (hb : Below w.heap.size w w') => ((unhide HR).below hb (Nat.le_refl _)).p.str j hjl)
            have HFJ := hide (unhide HFP _ (Pls.getD_mem hjl))
            have hBC2 := hide (fun r => unhide hBC1 j r hjk)
            generalize hgen : L.getD j Pls.zeroL = y at f0 f1 f2 f3 HSJ HFJ hBC2
            have HGJ := hide hgen
            clear hgen
            have hja := (unhide HSJ w (Below.refl _ _)).1
            have hjc := (unhide HSJ w (Below.refl _ _)).2.2
            rw [hja, hjc] at f3
            have hyl : y.its.length ≤ 9223372036854775807 := by have := (unhide HFJ).2.2.1; unfold maxLen at this; exact this
            clear hja hjc
            generalize hgj : Pls.blk y = gj at f3
            have HBJ := hide hgj
            clear hgj
            go_wp2_with fail
            have BT := hide ((unhide BJ).alloc (unhide BJ).size (.cells #[.string y.name, .int .i64 y.lim, .int .i64 y.nx, .slice (some ⟨gj, 0, none⟩) y.its.length y.its.length] 59))
            have UT := hide ((unhide hbj).alloc hzj (.cells #[.string y.name, .int .i64 y.lim, .int .i64 y.nx, .slice (some ⟨gj, 0, none⟩) y.its.length y.its.length] 59))
            have hzT : u.heap.size ≤ (wj.alloc (.cells #[.string y.name, .int .i64 y.lim, .int .i64 y.nx, .slice (some ⟨gj, 0, none⟩) y.its.length y.its.length] 59)).heap.size := by simp; omega
            generalize wj.alloc (.cells #[.string y.name, .int .i64 y.lim, .int .i64 y.nx, .slice (some ⟨gj, 0, none⟩) y.its.length y.its.length] 59) = T at BT UT hzT ⊢
            clear f0 f1 f2 f3
            go_loopw [148] (fun iv wr => ∃ r : Nat, r ≤ y.its.length ∧ iv = .int .i64 (r : Int) ∧ Hid (∀ r', r' < r → clash (y.its.getD r' zero) it = false) ∧ Hid (Below T.heap.size T wr)) (fun iv _ => y.its.length - (intOf iv).toNat)
            case atStart => exact ⟨0, Nat.zero_le _, rfl, hide (fun r' hr' => absurd hr' (by omega)), hide (Below.refl _ _)⟩
            case round =>
              obtain ⟨r, hr, rfl, hcr, hbr⟩ := hrel
              have hzr := (unhide hbr).size
              by_cases hrl : r < y.its.length
              case neg =>
                obtain rfl : r = y.its.length := by omega
                have HCJ : Hid (∀ j', j' < j + 1 → ∀ r, r < (L.getD j' Pls.zeroL).its.length → clash ((L.getD j' Pls.zeroL).its.getD r zero) it = false) := fun j' hj' => if e : j' = j then (by rw [e, unhide HGJ]; exact unhide hcr) else unhide hcl j' (by omega)
                have UR := hide ((unhide UT).trans ((unhide hbr).mono hzT))
                go_wp2
                go_roundw
                case rel => exact ⟨j + 1, by omega, by go_num, HCJ, UR⟩
                case measure => simp [intOf]; omega
              have BR := hide ((unhide BT).trans ((unhide hbr).mono (unhide BT).size))
              have UR := hide ((unhide UT).trans ((unhide hbr).mono hzT))
              obtain ⟨m0, m1, m2, m3, m4⟩ := Items.at_row (unhide HSJ wr (unhide BR)).2.1 r hrl
              rw [Nat.zero_add, unhide HBJ] at m0 m1 m2 m3 m4
              have hBC3 := hide (unhide hBC2 r hrl)
              generalize hgen : y.its.getD r zero = o at m0 m1 m2 m3 m4 hBC3
              have HGR := hide hgen
              clear hgen
              have j0 : wr.cell? ⟨ib, 0, none⟩ = some (.string it.key) := ((unhide UR).cell (p := ⟨ib, 0, none⟩) hzu).trans (unhide J0)
              have j4 : wr.cell? ⟨ib, 4, none⟩ = some (.int .i64 it.token) := ((unhide UR).cell (p := ⟨ib, 4, none⟩) hzu).trans (unhide J4)
              have hib : ib < wr.heap.size := by have := (unhide UR).size; omega
              have hgl : gj < wr.heap.size := block_lt_of_cell m0
              cases k1 : (o.key.toList == it.key.toList)
              · cases k2 : (o.token == it.token)
                · have HCR : Hid (∀ r', r' < r + 1 → clash (y.its.getD r' zero) it = false) := fun r' hr' => if e : r' = r then (by rw [e, unhide HGR]; simp [clash, k1, k2]) else unhide hcr r' (by omega)
                  have TR := hide ((unhide hbr).alloc hzr (.cells #[.string o.key, .int .i64 o.flags, .string o.data, .int .i64 o.upto, .int .i64 o.token] 85))
                  go_wp2
                  go_roundw
                  case rel => exact ⟨r + 1, by omega, by go_num, HCR, TR⟩
                  case measure => simp [intOf]; omega
                · have H := hide (unhide hBC3 (by simp [clash, k2]))
                  have BF := hide ((unhide BR).alloc (unhide BR).size (.cells #[.string o.key, .int .i64 o.flags, .string o.data, .int .i64 o.upto, .int .i64 o.token] 85))
                  go_wp2
                  go_ret
                  exact ⟨ret_bool (unhide H).symm, unhide BF⟩
              · have H := hide (unhide hBC3 (by simp [clash, k1]))
                have BF := hide ((unhide BR).alloc (unhide BR).size (.cells #[.string o.key, .int .i64 o.flags, .string o.data, .int .i64 o.upto, .int .i64 o.token] 85))
                go_wp2
                go_ret
                exact ⟨ret_bool (unhide H).symm, unhide BF⟩
        have hs1 := str_ne hh1
        have hd1 := decide_eq_false hh1
        have hz0 : ((cs.length : Int) == 0) = false := by simp only [beq_eq_false_iff_ne]; omega
        have hz2 : decide ((cs.length : Int) = 0) = false := by simp only [decide_eq_false_iff_not]; omega
        have hz3 : ¬ (cs.length : Int) = 0 := by omega
        by_cases hh2 : o2 = x.name
        · have hs2 := str_eq hh2
          have HGI2 := hide (unhide hGI1 (by rw [decide_eq_true hh2]; simp))
          clear hh1 hh2 hd1 hBH1 hGI1
          refine wp_region_quiet_below (unhide HMIX) (by kernel_rfl) ?_
          iterate 6 (go_big_quiet_step (exact cO _ _))
          clear cO
          repeat (go_big_quiet_step (exact cP _ _))
          refine wpQuiet_nil ?_
          intro _ hw'
          obtain ⟨⟨dq, osq⟩, hw''⟩ := hw'
          subst hw''
          have hbu := below_regrown U dq osq
          clear i0 n4 n5 p0 cP
          generalize (Go.Sort.grow (redrawn U dq) osq) = u at hbu ⊢
          have BN := hide ((unhide BU).trans (hbu.mono (unhide BU).size))
          have XN := hide ((unhide XU).trans (hbu.mono (by omega)))
          have ZN := hide ((unhide ZU).trans (hbu.mono (unhide ZU).size))
          have j0 : u.cell? ⟨ib, 0, none⟩ = some (.string it.key) := (hbu.cell (p := ⟨ib, 0, none⟩) hzU).trans (unhide I0)
          have j4 : u.cell? ⟨ib, 4, none⟩ = some (.int .i64 it.token) := (hbu.cell (p := ⟨ib, 4, none⟩) hzU).trans (unhide I4)
          have hzu : ib < u.heap.size := Nat.lt_of_lt_of_le hzU hbu.size
          have J0 := hide j0
          have J4 := hide j4
          have n6 : u.cell? ⟨w.heap.size, 6, none⟩ = some (.slice (some ⟨b3, 0, none⟩) L.length L.length) := (boxcell (unhide XN) 6).trans (by rw [World.cell?_alloc_new]; rfl)
          clear hbu I0 I4 BU XU ZU j0 j4
          go_wp2_with fail
          clear n6
          go_loopw [140] (fun iv wr => ∃ j : Nat, j ≤ k ∧ iv = .int .i64 (j : Int) ∧ Hid (∀ j', j' < j → ∀ r, r < (L.getD j' Pls.zeroL).its.length → clash ((L.getD j' Pls.zeroL).its.getD r zero) it = false) ∧ Hid (Below u.heap.size u wr)) (fun iv _ => k - (intOf iv).toNat)
          case atStart => exact ⟨0, Nat.zero_le _, rfl, hide (fun j' hj' => absurd hj' (by omega)), hide (Below.refl _ _)⟩
          case round =>
            obtain ⟨j, hj, rfl, hcl, hbj⟩ := hrel
            obtain ⟨wj, hname⟩ : ∃ v, v = wr := ⟨_, rfl⟩
            subst hname
            have hzj := (unhide hbj).size
            by_cases hjk : j < k
            case neg =>
              obtain rfl : j = k := by omega
              have HI := hide (unhide HGI2 (unhide hcl))
              have HIT : Hid (∀ r, r < q + 1 → itB C j (x.its.getD r zero) = true) := fun r hr => if e : r = q then (by rw [e, unhide HGEN]; exact unhide HI) else unhide hit r (by omega)
              have ZJ := hide ((unhide ZN).trans ((unhide hbj).mono (unhide ZN).size))
              go_wp2
              go_roundw
              case rel => exact ⟨q + 1, by omega, by go_num, HIT, ZJ⟩
              case measure => simp [intOf]; omega
            have BJ := hide ((unhide BN).trans ((unhide hbj).mono (unhide BN).size))
            have hjl : j < L.length := by omega
            obtain ⟨f0, f1, f2, f3⟩ := Pls.lcell_at ((unhide HR).below (unhide BJ) (Nat.le_refl _)).p.row j hjl
            rw [Nat.zero_add] at f0 f1 f2 f3
            have HSJ := hide (fun w' (hb : Below w.heap.size w w') => ((unhide HR).below hb (Nat.le_refl _)).p.str j hjl)
            have HFJ := hide (unhide HFP _ (Pls.getD_mem hjl))
            have hBC2 := hide (fun r => unhide hBC1 j r hjk)
            generalize hgen : L.getD j Pls.zeroL = y at f0 f1 f2 f3 HSJ HFJ hBC2
            have HGJ := hide hgen
            clear hgen
            have hja := (unhide HSJ w (Below.refl _ _)).1
            have hjc := (unhide HSJ w (Below.refl _ _)).2.2
            rw [hja, hjc] at f3
            have hyl : y.its.length ≤ 9223372036854775807 := by have := (unhide HFJ).2.2.1; unfold maxLen at this; exact this
            clear hja hjc
            generalize hgj : Pls.blk y = gj at f3
            have HBJ := hide hgj
            clear hgj
            go_wp2_with fail
            have BT := hide ((unhide BJ).alloc (unhide BJ).size (.cells #[.string y.name, .int .i64 y.lim, .int .i64 y.nx, .slice (some ⟨gj, 0, none⟩) y.its.length y.its.length] 59))
            have UT := hide ((unhide hbj).alloc hzj (.cells #[.string y.name, .int .i64 y.lim, .int .i64 y.nx, .slice (some ⟨gj, 0, none⟩) y.its.length y.its.length] 59))
            have hzT : u.heap.size ≤ (wj.alloc (.cells #[.string y.name, .int .i64 y.lim, .int .i64 y.nx, .slice (some ⟨gj, 0, none⟩) y.its.length y.its.length] 59)).heap.size := by simp; omega
            generalize wj.alloc (.cells #[.string y.name, .int .i64 y.lim, .int .i64 y.nx, .slice (some ⟨gj, 0, none⟩) y.its.length y.its.length] 59) = T at BT UT hzT ⊢
            clear f0 f1 f2 f3
            go_loopw [148] (fun iv wr => ∃ r : Nat, r ≤ y.its.length ∧ iv = .int .i64 (r : Int) ∧ Hid (∀ r', r' < r → clash (y.its.getD r' zero) it = false) ∧ Hid (Below T.heap.size T wr)) (fun iv _ => y.its.length - (intOf iv).toNat)
            case atStart => exact ⟨0, Nat.zero_le _, rfl, hide (fun r' hr' => absurd hr' (by omega)), hide (Below.refl _ _)⟩
            case round =>
              obtain ⟨r, hr, rfl, hcr, hbr⟩ := hrel
              have hzr := (unhide hbr).size
              by_cases hrl : r < y.its.length
              case neg =>
                obtain rfl : r = y.its.length := by omega
                have HCJ : Hid (∀ j', j' < j + 1 → ∀ r, r < (L.getD j' Pls.zeroL).its.length → clash ((L.getD j' Pls.zeroL).its.getD r zero) it = false) := fun j' hj' => if e : j' = j then (by rw [e, unhide HGJ]; exact unhide hcr) else unhide hcl j' (by omega)
                have UR := hide ((unhide UT).trans ((unhide hbr).mono hzT))
                go_wp2
                go_roundw
                case rel => exact ⟨j + 1, by omega, by go_num, HCJ, UR⟩
                case measure => simp [intOf]; omega
              have BR := hide ((unhide BT).trans ((unhide hbr).mono (unhide BT).size))
              have UR := hide ((unhide UT).trans ((unhide hbr).mono hzT))
              obtain ⟨m0, m1, m2, m3, m4⟩ := Items.at_row (unhide HSJ wr (unhide BR)).2.1 r hrl
              rw [Nat.zero_add, unhide HBJ] at m0 m1 m2 m3 m4
              have hBC3 := hide (unhide hBC2 r hrl)
              generalize hgen : y.its.getD r zero = o at m0 m1 m2 m3 m4 hBC3
              have HGR := hide hgen
              clear hgen
              have j0 : wr.cell? ⟨ib, 0, none⟩ = some (.string it.key) := ((unhide UR).cell (p := ⟨ib, 0, none⟩) hzu).trans (unhide J0)
              have j4 : wr.cell? ⟨ib, 4, none⟩ = some (.int .i64 it.token) := ((unhide UR).cell (p := ⟨ib, 4, none⟩) hzu).trans (unhide J4)
              have hib : ib < wr.heap.size := by have := (unhide UR).size; omega
              have hgl : gj < wr.heap.size := block_lt_of_cell m0
              cases k1 : (o.key.toList == it.key.toList)
              · cases k2 : (o.token == it.token)
                · have HCR : Hid (∀ r', r' < r + 1 → clash (y.its.getD r' zero) it = false) := fun r' hr' => if e : r' = r then (by rw [e, unhide HGR]; simp [clash, k1, k2]) else unhide hcr r' (by omega)
                  have TR := hide ((unhide hbr).alloc hzr (.cells #[.string o.key, .int .i64 o.flags, .string o.data, .int .i64 o.upto, .int .i64 o.token] 85))
                  go_wp2
                  go_roundw
                  case rel => exact ⟨r + 1, by omega, by go_num, HCR, TR⟩
                  case measure => simp [intOf]; omega
                · have H := hide (unhide hBC3 (by simp [clash, k2]))
                  have BF := hide ((unhide BR).alloc (unhide BR).size (.cells #[.string o.key, .int .i64 o.flags, .string o.data, .int .i64 o.upto, .int .i64 o.token] 85))
                  go_wp2
                  go_ret
                  exact ⟨ret_bool (unhide H).symm, unhide BF⟩
              · have H := hide (unhide hBC3 (by simp [clash, k1]))
                have BF := hide ((unhide BR).alloc (unhide BR).size (.cells #[.string o.key, .int .i64 o.flags, .string o.data, .int .i64 o.upto, .int .i64 o.token] 85))
                go_wp2
                go_ret
                exact ⟨ret_bool (unhide H).symm, unhide BF⟩
        have hs2 := str_ne hh2
        have hd2 := decide_eq_false hh2
        have H := hide (unhide hBH1 (by rw [hd1, hd2]; rfl))
        clear hh1 hh2 hd1 hd2 hBH1 hGI1
        refine wp_region_quiet_below (unhide HMIX) (by kernel_rfl) ?_
        iterate 6 (go_big_quiet_step (exact cO _ _))
        clear cO
        repeat (go_big_quiet_step (exact cP _ _))
        refine wpQuiet_nil ?_
        intro _ hw'
        obtain ⟨⟨dq, osq⟩, hw''⟩ := hw'
        subst hw''
        have BQ2 := hide ((unhide BU).trans ((below_regrown U dq osq).mono (unhide BU).size))
        clear i0 n4 n5 p0 cP
        generalize (Go.Sort.grow (redrawn U dq) osq) = u at BQ2 ⊢
        go_wp2
        go_ret
        exact ⟨ret_bool (unhide H).symm, unhide BQ2⟩
end Clus
end Go.Proofs.YtkodgbalhnbhcaaGreatDoor
