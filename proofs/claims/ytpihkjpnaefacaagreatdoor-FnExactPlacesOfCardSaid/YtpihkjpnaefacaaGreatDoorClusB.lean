/-
  The program's goodPlaces: it answers by the plain function, for every cluster that a call has laid itself.
-/
import Derived.Test.YtpihkjpnaefacaaGreatDoorNamI
import Derived.Test.YtpihkjpnaefacaaGreatDoorClusZ
import Derived.Test.YtpihkjpnaefacaaGreatDoorGsZ
import Derived.Lib.QuietBelow
import Derived.BigQuiet
namespace Go.Proofs.YtpihkjpnaefacaaGreatDoor
namespace Clus
open Go.RowKit Base GoodKey Items Store Plc
set_option linter.unusedVariables false

theorem places_len {c : CC} (h : (names c).length ≠ c.ps.length) : placesB c = false := by simp [placesB, h]
theorem places_bad {c : CC} {L : List Pls.Pl} {k : Nat} (hL : c.ps = L.map Pls.core) (hk : k < L.length) (h : ¬ ((L.getD k Pls.zeroL).name = (names c).getD k ByteArray.empty ∧ gsB (L.getD k Pls.zeroL).lim (L.getD k Pls.zeroL).nx (L.getD k Pls.zeroL).its = true ∧ (L.getD k Pls.zeroL).lim = c.lim ∧ (L.getD k Pls.zeroL).nx ≤ c.nx)) : placesB c = false := by
  have h2 : plB c k = false := Bool.eq_false_iff.2 (fun e => h ((pl_iff hL).1 e))
  have : (List.range c.ps.length).all (plB c) = false := by rw [List.all_eq_false]; exact ⟨k, by rw [hL]; simpa using hk, by simp [h2]⟩
  unfold placesB; rw [this, Bool.and_false]
theorem places_end {c : CC} (hl : (names c).length = c.ps.length) (h : ∀ i, i < c.ps.length → plB c i = true) : placesB c = true := by
  have : (List.range c.ps.length).all (plB c) = true := by rw [List.all_eq_true]; intro i hi; exact h i (by simpa using hi)
  unfold placesB; rw [this, decide_eq_true hl]; rfl

set_option maxRecDepth 10000 in
set_option maxHeartbeats 4000000 in
theorem places_impl (now nx lim lost : Int) (b1 b2 b3 : Nat) (ns cs : List Nodes.D) (L : List Pls.Pl) (w : World) (hR : CR w b1 b2 b3 ns cs L) (ln : ns.length ≤ 8) (lc : cs.length ≤ 8) (hp : 0 < ns.length) (lp : L.length ≤ 1048576) (fp : ∀ x ∈ L, Pls.Fits x) :
    Calls Tryz.prog 44 #[.agg #[.int .i64 now, .int .i64 nx, .int .i64 lim, .int .i64 lost, .slice (some ⟨b1, 0, none⟩) ns.length ns.length, .slice (some ⟨b2, 0, none⟩) cs.length cs.length, .slice (some ⟨b3, 0, none⟩) L.length L.length]] w fun e w' => e = .returned (.bool (placesB ⟨now, nx, lim, lost, ns, cs, L.map Pls.core⟩)) ∧ Below w.heap.size w w' := by
  obtain ⟨C, hC⟩ : ∃ C : CC, C = ⟨now, nx, lim, lost, ns, cs, L.map Pls.core⟩ := ⟨_, rfl⟩
  rw [← hC]
  have hCL : C.ps = L.map Pls.core := by rw [hC]
  have hmix : Tryz.prog.follows .mixedOrders = true := by kernel_rfl
  have HMIX := hide hmix
  have HR := hide hR
  have HFP := hide fp
  have HP := hide (fun w' (hb : Below w.heap.size w w') => names_any now nx lim lost b1 b2 b3 ns cs L w' (hR.below hb (Nat.le_refl _)) ln lc hp)
  have HNM : Hid (insAll (ns.map (·.name) ++ cs.map (·.name)) = names C) := by rw [hC]; exact hide rfl
  rw [unhide HNM] at HP
  have HLE := hide (@places_len C)
  have HEND := hide (@places_end C)
  have HCPS : Hid (C.ps.length = L.length) := by rw [hCL]; exact hide (by simp)
  rw [unhide HCPS] at HLE HEND
  have HBP := hide (fun k => @places_bad C L k hCL)
  have HPL := hide (fun k => @pl_iff C L k hCL)
  have e1 : C.lim = lim := by rw [hC]
  have e2 : C.nx = nx := by rw [hC]
  rw [e1, e2] at HBP HPL
  clear e1 e2 hCL fp hmix HNM HCPS hC hR
  generalize (names C).length = m at HP HLE HEND
  go_enter Tryz.func44, Tryz.ntmps44
  go_wp2_with fail
  refine (unhide HP _ (bel1 w _)).mono ?_
  rintro e w3 ⟨g, cap, rfl, hg, hb3⟩
  simp only [World.size_alloc] at hb3
  have X3 := hide hb3
  have hz3 : w.heap.size + 1 ≤ w3.heap.size := by have := hb3.size; simp at this; omega
  have B3 := hide ((bel1 w _).trans (hb3.mono (by omega)))
  have hx3 := boxcell hb3
  have HG := hide hg
  clear hb3 hg
  by_cases hlen : m = L.length
  case neg =>
    have H := hide (unhide HLE hlen)
    have hlen1 : ¬ (L.length : Int) = (m : Int) := by omega
    have hlen2 : ((L.length : Int) == (m : Int)) = false := by simp only [beq_eq_false_iff_ne]; omega
    have hlen3 : decide ((L.length : Int) = (m : Int)) = false := by simp only [decide_eq_false_iff_not]; omega
    go_wp2
    go_ret
    exact ⟨ret_bool (unhide H).symm, unhide B3⟩
  have HEN2 := hide (unhide HEND hlen)
  clear HEND HLE
  subst hlen
  go_wp2_with fail
  clear hx3
  go_loopw [17] (fun iv wr => ∃ k : Nat, k ≤ L.length ∧ iv = .int .i64 (k : Int) ∧ Hid (∀ i, i < k → plB C i = true) ∧ Hid (Below w3.heap.size w3 wr)) (fun iv _ => L.length - (intOf iv).toNat)
  case atStart => exact ⟨0, Nat.zero_le _, rfl, hide (fun i hi => absurd hi (by omega)), hide (Below.refl _ _)⟩
  case round =>
    obtain ⟨k, hk, rfl, hst, hbk⟩ := hrel
    obtain ⟨wk, hname⟩ : ∃ v, v = wr := ⟨_, rfl⟩
    subst hname
    have hzk := (unhide hbk).size
    have BK := hide ((unhide B3).trans ((unhide hbk).mono (unhide B3).size))
    by_cases hlt : k < L.length
    case neg =>
      obtain rfl : k = L.length := by omega
      have H := hide (unhide HEN2 (unhide hst))
      go_wp2
      go_ret
      exact ⟨ret_bool (unhide H).symm, unhide BK⟩
    have XK := hide ((unhide X3).trans ((unhide hbk).mono hz3))
    obtain ⟨c0, c1, c2, c3⟩ := Pls.lcell_at ((unhide HR).below (unhide BK) (Nat.le_refl _)).p.row k hlt
    rw [Nat.zero_add] at c0 c1 c2 c3
    have d0 := ((unhide hbk).cell (block_lt_of_cell (unhide HG k hlt))).trans (unhide HG k hlt)
    have HSTR := hide (fun w' (hb : Below w.heap.size w w') => ((unhide HR).below hb (Nat.le_refl _)).p.str k hlt)
    have HFK := hide (unhide HFP _ (Pls.getD_mem hlt))
    have hBP := hide (unhide HBP k hlt)
    have hPL := hide (unhide HPL k)
    generalize L.getD k Pls.zeroL = x at c0 c1 c2 c3 HSTR HFK hBP hPL
    generalize (names C).getD k ByteArray.empty = nm at d0 hBP hPL
    have ha := (unhide HSTR w (Below.refl _ _)).1
    have hca := (unhide HSTR w (Below.refl _ _)).2.2
    rw [ha, hca] at c3
    have hSP := fun w' (hb : Below w.heap.size w w') => impl_some x.lim x.nx (Pls.blk x) 0 x.its.length x.its w' (unhide HSTR w' hb).lt (Items.at_row (unhide HSTR w' hb).2.1) (unhide HFK).2.2.1 (Nat.le_refl _) (unhide HFK).2.2.2
    have hil : x.its.length ≤ 9223372036854775807 := by have := (unhide HFK).2.2.1; unfold maxLen at this; exact this
    clear ha hca
    generalize gsB x.lim x.nx x.its = gs at hSP hBP hPL
    have HSP := hide hSP
    clear hSP
    generalize hgi : Pls.blk x = gi at c3 HSP
    clear hgi
    have hxk := boxcell (unhide XK)
    go_wp2_with fail
    have q0 : (wk.alloc (.cells #[.string x.name, .int .i64 x.lim, .int .i64 x.nx, .slice (some ⟨gi, 0, none⟩) x.its.length x.its.length] 61)).cell? ⟨wk.heap.size, 0, none⟩ = some (.string x.name) := by rw [World.cell?_alloc_new]; rfl
    have q1 : (wk.alloc (.cells #[.string x.name, .int .i64 x.lim, .int .i64 x.nx, .slice (some ⟨gi, 0, none⟩) x.its.length x.its.length] 61)).cell? ⟨wk.heap.size, 1, none⟩ = some (.int .i64 x.lim) := by rw [World.cell?_alloc_new]; rfl
    have q2 : (wk.alloc (.cells #[.string x.name, .int .i64 x.lim, .int .i64 x.nx, .slice (some ⟨gi, 0, none⟩) x.its.length x.its.length] 61)).cell? ⟨wk.heap.size, 2, none⟩ = some (.int .i64 x.nx) := by rw [World.cell?_alloc_new]; rfl
    have q3 : (wk.alloc (.cells #[.string x.name, .int .i64 x.lim, .int .i64 x.nx, .slice (some ⟨gi, 0, none⟩) x.its.length x.its.length] 61)).cell? ⟨wk.heap.size, 3, none⟩ = some (.slice (some ⟨gi, 0, none⟩) x.its.length x.its.length) := by rw [World.cell?_alloc_new]; rfl
    have hzk1 : w.heap.size + 1 ≤ wk.heap.size := by omega
    have XW := hide ((unhide XK).alloc hzk1 (.cells #[.string x.name, .int .i64 x.lim, .int .i64 x.nx, .slice (some ⟨gi, 0, none⟩) x.its.length x.its.length] 61))
    have BW := hide ((unhide BK).alloc (unhide BK).size (.cells #[.string x.name, .int .i64 x.lim, .int .i64 x.nx, .slice (some ⟨gi, 0, none⟩) x.its.length x.its.length] 61))
    have YW := hide ((unhide hbk).alloc hzk (.cells #[.string x.name, .int .i64 x.lim, .int .i64 x.nx, .slice (some ⟨gi, 0, none⟩) x.its.length x.its.length] 61))
    have d0 := ((bel1 wk (.cells #[.string x.name, .int .i64 x.lim, .int .i64 x.nx, .slice (some ⟨gi, 0, none⟩) x.its.length x.its.length] 61)).cell (block_lt_of_cell d0)).trans d0
    generalize wk.alloc (.cells #[.string x.name, .int .i64 x.lim, .int .i64 x.nx, .slice (some ⟨gi, 0, none⟩) x.its.length x.its.length] 61) = W at q0 q1 q2 q3 XW BW YW d0 ⊢
    clear c0 c1 c2 c3 hxk
    have t1 : W.cell? ⟨w.heap.size, 1, none⟩ = some (.int .i64 nx) := (boxcell (unhide XW) 1).trans (by rw [World.cell?_alloc_new]; rfl)
    have t2 : W.cell? ⟨w.heap.size, 2, none⟩ = some (.int .i64 lim) := (boxcell (unhide XW) 2).trans (by rw [World.cell?_alloc_new]; rfl)
    have cC := fun d os => Calls.regrown_of (unhide HSP (Go.Sort.grow (redrawn W d) os) ((unhide BW).trans ((below_regrown W d os).mono (unhide BW).size)))
    have q0 := cell_regrown q0
    have q1 := cell_regrown q1
    have q2 := cell_regrown q2
    have q3 := cell_regrown q3
    have d0 := cell_regrown d0
    have t1 := cell_regrown t1
    have t2 := cell_regrown t2
    generalize wk.heap.size = pb at q0 q1 q2 q3 hzk1 hzk ⊢
    by_cases hne : x.name = nm
    case neg =>
      have hne' := str_ne hne
      have H := hide (unhide hBP (fun h => hne h.1))
      clear hne
      refine wp_region_quiet_below (unhide HMIX) (by kernel_rfl) ?_
      repeat (go_big_quiet_step (exact cC _ _))
      refine wpQuiet_nil ?_
      intro _ hw'
      obtain ⟨⟨dq, osq⟩, hw''⟩ := hw'
      subst hw''
      have BQ := hide ((unhide BW).trans ((below_regrown W dq osq).mono (unhide BW).size))
      clear q0 q1 q2 q3 d0 t1 t2 cC
      generalize (Go.Sort.grow (redrawn W dq) osq) = v at BQ ⊢
      go_wp2
      go_ret
      exact ⟨ret_bool (unhide H).symm, unhide BQ⟩
    have hne' := str_eq hne
    have HNE := hide hne
    clear hne
    by_cases hli : x.lim = lim
    case neg =>
      have hli2 : (x.lim == lim) = false := by simpa using hli
      have hli3 : (x.lim != lim) = true := by simpa using hli
      have hli4 : decide (x.lim = lim) = false := by simpa using hli
      have H := hide (unhide hBP (fun h => hli h.2.2.1))
      refine wp_region_quiet_below (unhide HMIX) (by kernel_rfl) ?_
      repeat (go_big_quiet_step (exact cC _ _))
      refine wpQuiet_nil ?_
      intro _ hw'
      obtain ⟨⟨dq, osq⟩, hw''⟩ := hw'
      subst hw''
      have BQ := hide ((unhide BW).trans ((below_regrown W dq osq).mono (unhide BW).size))
      clear q0 q1 q2 q3 d0 t1 t2 cC
      generalize (Go.Sort.grow (redrawn W dq) osq) = v at BQ ⊢
      go_wp2
      go_ret
      exact ⟨ret_bool (unhide H).symm, unhide BQ⟩
    have hli2 : (x.lim == lim) = true := by simpa using hli
    have hli3 : (x.lim != lim) = false := by simpa using hli
    have hli4 : decide (x.lim = lim) = true := by simpa using hli
    have HLI := hide hli
    clear hli
    by_cases hnx : nx < x.nx
    · have hnx2 : decide (nx < x.nx) = true := by simpa using hnx
      have H := hide (unhide hBP (fun h => by have := h.2.2.2; omega))
      refine wp_region_quiet_below (unhide HMIX) (by kernel_rfl) ?_
      repeat (go_big_quiet_step (exact cC _ _))
      refine wpQuiet_nil ?_
      intro _ hw'
      obtain ⟨⟨dq, osq⟩, hw''⟩ := hw'
      subst hw''
      have BQ := hide ((unhide BW).trans ((below_regrown W dq osq).mono (unhide BW).size))
      clear q0 q1 q2 q3 d0 t1 t2 cC
      generalize (Go.Sort.grow (redrawn W dq) osq) = v at BQ ⊢
      go_wp2
      go_ret
      exact ⟨ret_bool (unhide H).symm, unhide BQ⟩
    have hnx2 : decide (nx < x.nx) = false := by simpa using hnx
    cases gs
    · have H := hide (unhide hBP (fun h => by have := h.2.1; simp at this))
      refine wp_region_quiet_below (unhide HMIX) (by kernel_rfl) ?_
      repeat (go_big_quiet_step (exact cC _ _))
      refine wpQuiet_nil ?_
      intro _ hw'
      obtain ⟨⟨dq, osq⟩, hw''⟩ := hw'
      subst hw''
      have BQ := hide ((unhide BW).trans ((below_regrown W dq osq).mono (unhide BW).size))
      clear q0 q1 q2 q3 d0 t1 t2 cC
      generalize (Go.Sort.grow (redrawn W dq) osq) = v at BQ ⊢
      go_wp2
      go_ret
      exact ⟨ret_bool (unhide H).symm, unhide BQ⟩
    have HPB := hide ((unhide hPL).2 ⟨unhide HNE, rfl, unhide HLI, by omega⟩)
    have HST : Hid (∀ i, i < k + 1 → plB C i = true) := fun i hi => if e : i = k then (e ▸ unhide HPB) else unhide hst i (by omega)
    clear hBP hPL HPB
    refine wp_region_quiet_below (unhide HMIX) (by kernel_rfl) ?_
    repeat (go_big_quiet_step (exact cC _ _))
    refine wpQuiet_nil ?_
    intro _ hw'
    obtain ⟨⟨dq, osq⟩, hw''⟩ := hw'
    subst hw''
    have YQ := hide ((unhide YW).trans ((below_regrown W dq osq).mono (unhide YW).size))
    clear q0 q1 q2 q3 d0 t1 t2 cC
    generalize (Go.Sort.grow (redrawn W dq) osq) = v at YQ ⊢
    go_wp2
    go_roundw
    case rel => exact ⟨k + 1, by omega, by go_num, HST, YQ⟩
    case measure => simp [intOf]; omega
end Clus
end Go.Proofs.YtpihkjpnaefacaaGreatDoor
