/-
  FnExactGoodCluster returns true for every cluster: the program's GoodCluster answers as the model's, and leaves its argument alone. Where the table of powers of ten lies as the program laid it.
-/
import Derived.Test.YtpihkjpnaefacaaGreatDoorClusS
import Derived.Test.YtpihkjpnaefacaaGreatDoorClusI
import Derived.Test.YtpihkjpnaefacaaGreatDoorOpenZ
import Derived.Test.YtpihkjpnaefacaaGreatDoorCards
import Derived.Test.YtpihkjpnaefacaaGreatDoorTie
import Derived.ProofKit
import Derived.LaidMore
import Derived.OpenShut
import Derived.ChangeOld
import Derived.Stop.Joined
import Derived.Stop.LaidErr
import Derived.Lib.LaidTab
import Derived.SevenTiedAt
import Derived.Deep.RegionWith
namespace Go.Proofs.YtpihkjpnaefacaaGreatDoor
namespace GoodClusterL
open Go.ChangeShapes Go.WideShapes Go.ChangeAt Go.RowKit Base Clus
set_option linter.unusedVariables false

theorem core_fits {L M : List Pls.Pl} (h : M.map Pls.core = L.map Pls.core) (hc : ∀ x ∈ M, x.cap = x.its.length) (hf : ∀ x ∈ L, Pls.Fits x) : ∀ x ∈ M, Pls.Fits x := by
  intro x hx
  have h2 : Pls.core x ∈ L.map Pls.core := by rw [← h]; exact List.mem_map.2 ⟨x, hx, rfl⟩
  obtain ⟨y, hy, e⟩ := List.mem_map.1 h2
  obtain ⟨f1, f2, f3, f4⟩ := hf y hy
  have e1 : y.name = x.name := congrArg Pls.Core.name e
  have e2 : y.its = x.its := congrArg Pls.Core.its e
  rw [e1] at f1
  rw [e2] at f3 f4
  exact ⟨f1, by rw [hc x hx]; exact Nat.le_refl _, f3, f4⟩
theorem cr_caps {w : World} {b1 b2 b3 : Nat} {ns cs : List Nodes.D} {L : List Pls.Pl} (h : CR w b1 b2 b3 ns cs L) : ∀ x ∈ L, x.cap = x.its.length := by
  intro x hx
  obtain ⟨i, hi, rfl⟩ := List.getElem_of_mem hx
  have := (h.p.str i hi).2.2
  rw [List.getD_eq_getElem?_getD, List.getElem?_eq_getElem hi] at this
  exact this
theorem cr_at {w : World} {b1 b2 b3 : Nat} {ns cs : List Nodes.D} {L : List Pls.Pl} (h : CR w b1 b2 b3 ns cs L) (now nx lim lost : Int) : ClAt w ⟨now, nx, lim, lost, some ⟨b1, 0, none⟩, ns.length, ns, some ⟨b2, 0, none⟩, cs.length, cs, some ⟨b3, 0, none⟩, L.length, L⟩ :=
  ⟨Nodes.LAt.row h.n, Nodes.LAt.row h.c, h.p.ls⟩

set_option maxRecDepth 100000 in
set_option maxHeartbeats 4000000 in
theorem walk (c : Cl) (w : World) (hc : ClAt w c) (hf : Fits c) (hv : Ring.Vars w) :
    Calls Tryz.prog 3 #[.agg #[.int .i64 c.now, .int .i64 c.nx, .int .i64 c.lim, .int .i64 c.lost, .slice c.na c.ns.length c.nc, .slice c.ca c.cs.length c.cc, .slice c.pa c.ps.length c.pc]] w fun e w' => e = .returned (.bool true) ∧ Below w.heap.size w w' := by
  have HC := hide hc
  have HV := hide hv
  have HSZ := hide (fun w' (hb : Below w.heap.size w w') => sz_any c w' (hc.below hb (Nat.le_refl _)) hf)
  have hbd := szC_bd c
  have hsm := @szC_small c
  generalize szC c 1048576 = z at HSZ hbd hsm
  by_cases hz : z < 0
  · obtain rfl : z = -1 := by omega
    clear hc hf hv hsm hbd
    go_enter Tryz.func3, Tryz.ntmps3
    go_wp2_with fail
    refine (unhide HSZ _ (bel1 w _)).mono ?_
    rintro e w2 ⟨rfl, hb2⟩
    have hB2 := hide ((bel1 w _).trans (hb2.mono (by simp)))
    clear hb2
    go_wp2
    go_ret
    exact ⟨rfl, unhide hB2⟩
  have HSM := hide (hsm hz)
  clear hsm
  have HTO := hide (fun w' (hb : Below w.heap.size w w') => to_any c w' (hc.below hb (Nat.le_refl _)) (unhide HSM))
  have HSP := hide (fun b1 b2 b3 L w' (hR : CR w' b1 b2 b3 c.ns c.cs L) (hL : L.map Pls.core = c.ps.map Pls.core) => good_spec c.now c.nx c.lim c.lost b1 b2 b3 c.ns c.cs L w' hR (unhide HSM).sn hf.nf (unhide HSM).sc hf.cf (by rw [Pls.map_len hL]; exact (unhide HSM).sp) (core_fits hL (cr_caps hR) hf.pf))
  have HIM := hide (fun b1 b2 b3 L w' (hR : CR w' b1 b2 b3 c.ns c.cs L) (hL : L.map Pls.core = c.ps.map Pls.core) (hv' : Ring.Vars w') => good_impl c.now c.nx c.lim c.lost b1 b2 b3 c.ns c.cs L w' hR (unhide HSM).sn hf.nf (unhide HSM).sc hf.cf (by rw [Pls.map_len hL]; exact (unhide HSM).sp) (core_fits hL (cr_caps hR) hf.pf) hv')
  have HSP2 : Hid (∀ b1 b2 b3 L w', CR w' b1 b2 b3 c.ns c.cs L → L.map Pls.core = c.ps.map Pls.core → Calls Tryz.prog 9 #[.agg #[.int .i64 c.now, .int .i64 c.nx, .int .i64 c.lim, .int .i64 c.lost, .slice (some ⟨b1, 0, none⟩) c.ns.length c.ns.length, .slice (some ⟨b2, 0, none⟩) c.cs.length c.cs.length, .slice (some ⟨b3, 0, none⟩) c.ps.length c.ps.length]] w' fun e w'' => e = .returned (.bool (gcB (plain c))) ∧ Below w'.heap.size w' w'') := fun b1 b2 b3 L w' hR hL => by
    have h := unhide HSP b1 b2 b3 L w' hR hL
    rw [hL, Pls.map_len hL] at h
    exact h
  have HIM2 : Hid (∀ b1 b2 b3 L w', CR w' b1 b2 b3 c.ns c.cs L → L.map Pls.core = c.ps.map Pls.core → Ring.Vars w' → Calls Tryz.prog 11 #[.agg #[.int .i64 c.now, .int .i64 c.nx, .int .i64 c.lim, .int .i64 c.lost, .slice (some ⟨b1, 0, none⟩) c.ns.length c.ns.length, .slice (some ⟨b2, 0, none⟩) c.cs.length c.cs.length, .slice (some ⟨b3, 0, none⟩) c.ps.length c.ps.length]] w' fun e w'' => e = .returned (.bool (gcB (plain c))) ∧ Below w'.heap.size w' w'') := fun b1 b2 b3 L w' hR hL hv' => by
    have h := unhide HIM b1 b2 b3 L w' hR hL hv'
    rw [hL, Pls.map_len hL] at h
    exact h
  have HEQ : Hid (∀ b1 b2 b3 L b1' b2' b3' L' w', CR w' b1 b2 b3 c.ns c.cs L → L.map Pls.core = c.ps.map Pls.core → CR w' b1' b2' b3' c.ns c.cs L' → L'.map Pls.core = c.ps.map Pls.core → Calls Tryz.prog 12 #[.agg #[.int .i64 c.now, .int .i64 c.nx, .int .i64 c.lim, .int .i64 c.lost, .slice (some ⟨b1, 0, none⟩) c.ns.length c.ns.length, .slice (some ⟨b2, 0, none⟩) c.cs.length c.cs.length, .slice (some ⟨b3, 0, none⟩) c.ps.length c.ps.length], .agg #[.int .i64 c.now, .int .i64 c.nx, .int .i64 c.lim, .int .i64 c.lost, .slice (some ⟨b1', 0, none⟩) c.ns.length c.ns.length, .slice (some ⟨b2', 0, none⟩) c.cs.length c.cs.length, .slice (some ⟨b3', 0, none⟩) c.ps.length c.ps.length]] w' fun e w'' => e = .returned (.bool true) ∧ Below w'.heap.size w' w'') := fun b1 b2 b3 L b1' b2' b3' L' w' hR hL hR' hL' => by
    have h := eq_same ⟨c.now, c.nx, c.lim, c.lost, some ⟨b1, 0, none⟩, c.ns.length, c.ns, some ⟨b2, 0, none⟩, c.cs.length, c.cs, some ⟨b3, 0, none⟩, L.length, L⟩ ⟨c.now, c.nx, c.lim, c.lost, some ⟨b1', 0, none⟩, c.ns.length, c.ns, some ⟨b2', 0, none⟩, c.cs.length, c.cs, some ⟨b3', 0, none⟩, L'.length, L'⟩ w' (cr_at hR _ _ _ _) (cr_at hR' _ _ _ _) (by simp only [plain, hL, hL']) ⟨(unhide HSM).sn, (unhide HSM).sc, by show L.length ≤ _; rw [Pls.map_len hL]; exact (unhide HSM).sp, fun x hx => by
      have h2 : Pls.core x ∈ c.ps.map Pls.core := by rw [← hL]; exact List.mem_map.2 ⟨x, hx, rfl⟩
      obtain ⟨y, hy, e⟩ := List.mem_map.1 h2
      have e2 : y.its = x.its := congrArg Pls.Core.its e
      rw [← e2]; exact (unhide HSM).si y hy⟩
    dsimp only at h
    rw [Pls.map_len hL, Pls.map_len hL'] at h
    exact h
  clear hc hf hv HSP HIM HSM
  generalize gcB (plain c) = gB at HSP2 HIM2
  cases gB
  all_goals
    go_enter Tryz.func3, Tryz.ntmps3
    go_wp2_with fail
    refine (unhide HSZ _ (bel1 w _)).mono ?_
    rintro e w2 ⟨rfl, hb2⟩
    simp only [World.size_alloc] at hb2
    have X2 := hide hb2
    have z2 : w.heap.size + 1 ≤ w2.heap.size := by have := hb2.size; simp at this; omega
    have B2 := hide ((bel1 w _).trans (hb2.mono (by omega)))
    have hx2 := boxcell hb2
    clear hb2
    go_wp2_with fail
    refine (unhide HTO _ (unhide B2)).mono ?_
    rintro e w3 ⟨b1, b2, b3, L3, rfl, hlo3, hR3, hL3, hb3⟩
    have R3 := hide hR3
    have E3 := hide hL3
    have X3 := hide ((unhide X2).trans (hb3.mono z2))
    have z3 : w.heap.size + 1 ≤ w3.heap.size := by have := hb3.size; omega
    have B3 := hide ((unhide B2).trans (hb3.mono (unhide B2).size))
    have hx3 := boxcell (unhide X3)
    clear hb3 hx2 X2 hR3 hL3 hlo3
    go_wp2_with fail
    refine (unhide HSP2 b1 b2 b3 L3 _ (unhide R3) (unhide E3)).mono ?_
    rintro e w4 ⟨rfl, hb4⟩
    have X4 := hide ((unhide X3).trans (hb4.mono z3))
    have z4 : w.heap.size + 1 ≤ w4.heap.size := by have := hb4.size; omega
    have B4 := hide ((unhide B3).trans (hb4.mono (unhide B3).size))
    have hx4 := boxcell (unhide X4)
    clear hb4 hx3 X3 R3 E3
    go_wp2_with fail
    refine (unhide HTO _ (unhide B4)).mono ?_
    rintro e w5 ⟨d1, d2, d3, L5, rfl, hlo5, hR5, hL5, hb5⟩
    have R5 := hide hR5
    have E5 := hide hL5
    have X5 := hide ((unhide X4).trans (hb5.mono z4))
    have z5 : w.heap.size + 1 ≤ w5.heap.size := by have := hb5.size; omega
    have B5 := hide ((unhide B4).trans (hb5.mono (unhide B4).size))
    have hx5 := boxcell (unhide X5)
    clear hb5 hx4 X4 hR5 hL5 hlo5
    go_wp2_with fail
    have R5a := hide ((unhide R5).below (bel1 w5 (.cells #[.int .i64 c.now, .int .i64 c.nx, .int .i64 c.lim, .int .i64 c.lost, .slice (some ⟨d1, 0, none⟩) c.ns.length c.ns.length, .slice (some ⟨d2, 0, none⟩) c.cs.length c.cs.length, .slice (some ⟨d3, 0, none⟩) c.ps.length c.ps.length] 31)) (Nat.le_refl _))
    have B5a := hide ((unhide B5).alloc (unhide B5).size (.cells #[.int .i64 c.now, .int .i64 c.nx, .int .i64 c.lim, .int .i64 c.lost, .slice (some ⟨d1, 0, none⟩) c.ns.length c.ns.length, .slice (some ⟨d2, 0, none⟩) c.cs.length c.cs.length, .slice (some ⟨d3, 0, none⟩) c.ps.length c.ps.length] 31))
    refine (unhide HIM2 d1 d2 d3 L5 _ (unhide R5a) (unhide E5) ((unhide HV).below (unhide B5a))).mono ?_
    rintro e w6 ⟨rfl, hb6⟩
    simp only [World.size_alloc] at hb6
    have R6 := hide ((unhide R5a).below hb6 (by simp))
    have X6 := hide (((unhide X5).alloc z5 (.cells #[.int .i64 c.now, .int .i64 c.nx, .int .i64 c.lim, .int .i64 c.lost, .slice (some ⟨d1, 0, none⟩) c.ns.length c.ns.length, .slice (some ⟨d2, 0, none⟩) c.cs.length c.cs.length, .slice (some ⟨d3, 0, none⟩) c.ps.length c.ps.length] 31)).trans (hb6.mono (by omega)))
    have B6 := hide ((unhide B5a).trans (hb6.mono (by have := (unhide B5).size; omega)))
    have hx6 := boxcell (unhide X6)
    have hX6 := boxcell hb6
    have z6 : w5.heap.size + 1 ≤ w6.heap.size := by have := hb6.size; simp at this; omega
    clear hb6 hx5 X5 R5 R5a
    go_wp2_with fail
    have HB6 : Hid (Below w.heap.size w w6.drew) := (unhide B6).drew
    have HR6 : Hid (CR w6.drew d1 d2 d3 c.ns c.cs L5) := (unhide R6).below (Below.refl w6.heap.size w6).drew (Nat.le_refl _)
    have HTO6 := hide (unhide HTO _ (unhide HB6))
    go_region_with (first | (go_at_call 10; refine (unhide HTO6).mono ?_; rintro e w7 ⟨f1, f2, f3, L7, rfl, hlo7, hR7, hL7, hb7⟩; have hX7 := fun o => hb7.cell (p := ⟨w5.heap.size, o, none⟩) (by simp; omega); have R7 := hide hR7; have E7 := hide hL7; have Q7 := hide ((unhide HR6).below hb7 (Nat.le_refl _)); have hb7 := hide hb7; clear hR7 hL7 hlo7) | (go_at_call 12; refine (unhide HEQ d1 d2 d3 L5 f1 f2 f3 L7 _ (unhide Q7) (unhide E5) (unhide R7) (unhide E7)).mono ?_; rintro e w8 ⟨rfl, hb8⟩; have hb8 := hide hb8))
    all_goals go_wp2
    all_goals
      go_ret
      exact ⟨rfl, ((unhide HB6).trans ((unhide hb7).mono (unhide HB6).size)).trans ((unhide hb8).mono (Nat.le_trans (unhide HB6).size (unhide hb7).size))⟩

theorem own : ownKnob Tryz.prog.godebug = none := by kernel_rfl
theorem laidOut : laidOutB Tryz.prog = true := by kernel_rfl


abbrev laid5 : List (String × DataW Unit) := Rows.fnExactGoodClusterRow.laid
theorem gTab : Tryz.prog.globalNamed "internal/strconv.uint64pow10" = some 0 := by kernel_rfl
theorem tTab : (Tryz.prog.globals[0]?).map (·.type) = some 227 := by kernel_rfl
theorem cellsU : Tryz.prog.cellsOf 204 = 1 := by kernel_rfl
theorem cellsT : Tryz.prog.cellsOf 227 = 20 := by kernel_rfl
theorem tabD : (Rows.laid_internal_strconv_uint64pow10 : DataW Unit) = Lib.tabData .u64 Lib.pow10Tab := by kernel_rfl
/-- What the row's list gives the walk. -/
theorem of_laid {W : World} (h : laidMetH Tryz.prog laid5 W) : Ring.Vars W := by
  rw [MakeChecks.laidMetH_plain _ _ _ (by kernel_rfl)] at h
  have h3 : laidMet Tryz.prog _ W := h.tail.tail
  rw [tabD] at h3
  exact Lib.tabIs_of_head gTab tTab Tryz.underlying227 Tryz.underlying204 cellsU cellsT h3
/-- The heap that the program's own laying leaves meets the list. -/
theorem door_met (os : Os) (args : Array Value) : laidMetH Tryz.prog laid5 ((World.doorLaid Tryz.prog 4000 os).forCall (fun _ _ => 0) ⟨#[], args, []⟩).memory :=
  laidMetH_of_parts3 (fuel := 8) (laidMet_of_run' 8 (by kernel_rfl) (by kernel_rfl)) (by kernel_rfl) (by kernel_rfl)

set_option maxRecDepth 100000 in
theorem lifted (os : Os) (started : os.Started) (H : Type) (enc : TypeId × Value → H) :
    ReturnsInHanded {} Tryz.checked os 3 .any (fun w args => (Rows.fnExactGoodClusterSpec.pre enc Tryz.prog Tryz.f3 [] false w args ∧ laidMetH Tryz.prog laid5 w) ∧ sizedMet enc Tryz.prog Tryz.f3 (OpenSpec.ofChange Rows.fnExactGoodClusterSpec) false w args)
      (Rows.fnExactGoodClusterSpec.post enc Tryz.prog Tryz.f3 false true false false) := by
  refine returnsInHanded_of_change_and (C := Tryz.checked) (X := fun w _ => laidMetH Tryz.prog laid5 w) (fun _ _ _ hh h => h.of_heap hh) own started (by kernel_rfl) Tryz.func3
    (ChangeSpec.witness_shaped (enc := enc) (C := Tryz.checked) (os := os) (X := fun w _ => laidMetH Tryz.prog laid5 w) false (World.doorLaid Tryz.prog 4000 os) #[.agg #[.int .i64 0, .int .i64 0, .int .i64 0, .int .i64 0, .slice none 0 0, .slice none 0 0, .slice none 0 0]] 8 rfl (World.shaped_of_RefB (by kernel_rfl) (by kernel_rfl)) (by kernel_rfl) (by kernel_rfl) (by kernel_rfl) (door_met os _)) ?_
  intro W base args ds gs before hval0 hW _ _ hL _
  have hval : ∀ (j : Nat) t v, Tryz.f3.params[j]? = some t → args[j]? = some v → Value.okWide Tryz.prog W .any base t v := hval0
  have hW' := hW
  obtain ⟨p, q, hA0, hV, rfl, hfz, hnd⟩ := hW
  have hA : DataW.TrodAll enc Tryz.prog W 0 (fun _ => true) true Tryz.f3.params.toList args.toList ds p := hA0
  rw [Tryz.params3] at hA hval
  obtain ⟨v0, vs0, d0, ds0, p0, q0, hargs, rfl, rfl, h0, r0⟩ := trodAll_cons hA
  obtain ⟨rfl, rfl, rfl⟩ := trodAll_nil r0
  obtain rfl : args = #[v0] := by cases args; simp_all
  obtain ⟨rfl, rfl⟩ := trodVars_none hV
  have k0 := h0
  have lt0 : ∀ x ∈ p0, x.block < W.heap.size := by obtain ⟨m, hm⟩ := k0; exact DataW.trod_lt m _ _ _ hm
  obtain ⟨cs0, rfl, sz0⟩ := okWide_struct Tryz.underlying25 (hval 0 25 v0 rfl rfl)
  obtain ⟨ca0, cb0, cc0, cd0, ce0, cf0, cg0, rfl⟩ := Open.array7 (sz0.trans (show Tryz.prog.cellsOf 25 = 7 by kernel_rfl))
  obtain ⟨_, _, g0a⟩ := Open.field_at Tryz.underlying25 (by kernel_rfl) h0 0 _ rfl _ rfl
  obtain ⟨_, _, g0b⟩ := Open.field_at Tryz.underlying25 (by kernel_rfl) h0 1 _ rfl _ rfl
  obtain ⟨_, _, g0c⟩ := Open.field_at Tryz.underlying25 (by kernel_rfl) h0 2 _ rfl _ rfl
  obtain ⟨_, _, g0d⟩ := Open.field_at Tryz.underlying25 (by kernel_rfl) h0 3 _ rfl _ rfl
  obtain ⟨_, _, g0e⟩ := Open.field_at Tryz.underlying25 (by kernel_rfl) h0 4 _ rfl _ rfl
  obtain ⟨_, _, g0f⟩ := Open.field_at Tryz.underlying25 (by kernel_rfl) h0 5 _ rfl _ rfl
  obtain ⟨_, _, g0g⟩ := Open.field_at Tryz.underlying25 (by kernel_rfl) h0 6 _ rfl _ rfl
  obtain ⟨i0a, e0a, _, _⟩ := DataW.trod_int Tryz.underlying3 g0a
  obtain ⟨i0b, e0b, _, _⟩ := DataW.trod_int Tryz.underlying3 g0b
  obtain ⟨i0c, e0c, _, _⟩ := DataW.trod_int Tryz.underlying3 g0c
  obtain ⟨i0d, e0d, _, _⟩ := DataW.trod_int Tryz.underlying3 g0d
  obtain ⟨P0e, C0e, L0e, e0e, f0e, k0e, l0e, u0e⟩ := Nodes.open_of Tryz.underlying22 Tryz.underlying88 (by kernel_rfl) (by kernel_rfl) Tryz.underlying9 Tryz.underlying3 g0e
  obtain ⟨P0f, C0f, L0f, e0f, f0f, k0f, l0f, u0f⟩ := Nodes.open_of Tryz.underlying22 Tryz.underlying88 (by kernel_rfl) (by kernel_rfl) Tryz.underlying9 Tryz.underlying3 g0f
  obtain ⟨P0g, C0g, L0g, e0g, f0g, k0g, l0g, u0g⟩ := Pls.open_of Tryz.underlying23 Tryz.underlying98 (by kernel_rfl) rfl (by kernel_rfl) rfl (by kernel_rfl) Tryz.underlying9 Tryz.underlying96 (by kernel_rfl) Tryz.underlying3 Tryz.underlying3 Tryz.underlying94 Tryz.underlying192 (by kernel_rfl) (by kernel_rfl) Tryz.underlying9 Tryz.underlying3 Tryz.underlying9 Tryz.underlying3 Tryz.underlying3 g0g
  simp only [List.cons.injEq, and_true] at e0a e0b e0c e0d
  subst e0a e0b e0c e0d e0e e0f e0g
  clear hA0 hval0
  refine (walk ⟨i0a, i0b, i0c, i0d, P0e, C0e, L0e, P0f, C0f, L0f, P0g, C0g, L0g⟩ W ⟨f0e, f0f, f0g⟩ ⟨l0e, u0e, k0e, l0f, u0f, k0f, l0g, u0g, k0g⟩ (of_laid hL)).mono fun e W' ⟨he, bel⟩ => ?_
  subst he
  exact ⟨_, rfl, _, _, _, [], _, [], hW', trodAll_mk1 (shut_bool Tryz.underlying4 _), (trodAll_cons_mk (Below.trod laidOut (by kernel_rfl) (of_decide_eq_true (by kernel_rfl)) k0 bel lt0) trodAll_mk0), rfl, bel.frame _, fun h => by cases h⟩

theorem over : Rows.fnExactGoodClusterRow.holds Tryz.pinned (OpenSpec.ofChange Rows.fnExactGoodClusterSpec) :=
  OpenClaim.holds_of_wide 3 Tryz.f3 rfl rfl rfl rfl rfl rfl rfl ⟨rfl, rfl, rfl, rfl, rfl⟩ rfl rfl rfl rfl rfl (by kernel_rfl) Tryz.func3 (by kernel_rfl)
    (of_decide_eq_true (by kernel_rfl)) (by unfold Func.isWrapper; first | (rw [if_pos (by decide +kernel)]; kernel_rfl) | (rw [if_neg (by decide +kernel)]; exact ⟨rfl, rfl⟩))
    (fun os started H enc _ => lifted os started H enc)

end GoodClusterL
theorem goodCluster_card : Rows.FnExactGoodClusterCardSaid :=
  Claim7.holds_tied_plain_at .later [] Rows.fnExactGoodClusterCard.laidKinds true Rows.fnExactGoodClusterCard.stood.harness Rows.fnExactGoodClusterCard.stood.looks
    GoodClusterL.over (fun _ h => by cases h) (by kernel_rfl) (fun _ h => by cases h) fnExactGoodCluster_row_tie rfl ⟨rfl, rfl⟩ (by kernel_rfl) rfl
    (fun f fn hf hfn => by
      obtain rfl : f = 3 := Option.some.inj ((show Tryz.prog.funcNamed Rows.fnExactGoodClusterRow.func = some 3 by kernel_rfl).symm.trans hf) |>.symm
      obtain rfl : fn = Tryz.f3 := (Option.some.inj (Tryz.func3.symm.trans hfn)).symm
      exact ⟨by kernel_rfl, fun j t ht => by
        rw [Tryz.params3] at ht
        have hm : t ∈ [25] := by simpa using Array.mem_of_getElem? ht
        have hall : ([25].all fun u => !Tryz.prog.wantsStandIn u) = true := by kernel_rfl
        exact (show Tryz.prog.wantsStandIn t = false by simpa using List.all_eq_true.1 hall t hm)⟩)
    (by kernel_rfl)


end Go.Proofs.YtpihkjpnaefacaaGreatDoor
