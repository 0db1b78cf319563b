/-
  FnExactPlacesOf returns true for every cluster and every key: the program's PlacesOf answers as the model's, leaves its arguments alone, and its answer owns its memory. Where the table of powers of ten lies as the program laid it.
-/
import Derived.Test.YtpihkjpnaefacaaGreatDoorPoI
import Derived.Test.YtpihkjpnaefacaaGreatDoorMarkX
import Derived.Test.YtpihkjpnaefacaaGreatDoorStrsE
import Derived.Test.YtpihkjpnaefacaaGreatDoorStrY
import Derived.Test.YtpihkjpnaefacaaGreatDoorOpenZ
import Derived.Test.YtpihkjpnaefacaaGreatDoorCards
import Derived.Test.YtpihkjpnaefacaaGreatDoorTie
import Derived.ProofKit
import Derived.LaidMore
import Derived.OpenShut
import Derived.ShutString
import Derived.ChangeOld
import Derived.Stop.Joined
import Derived.Stop.LaidErr
import Derived.Lib.LaidTab
import Derived.SevenTiedAt
import Derived.Deep.RegionWith
namespace Go.Proofs.YtpihkjpnaefacaaGreatDoor
namespace PlacesOfL
open Go.ChangeShapes Go.WideShapes Go.ChangeAt Go.RowKit Base Clus Marks
open Go.ChangeMaps (open_string shut_string)
set_option linter.unusedVariables false

theorem po_len (C : CC) (key : ByteArray) : (poR C key).1.length ≤ C.ps.length := by
  unfold poR
  split
  · show (List.map _ (List.filter _ C.ps)).length ≤ _
    rw [List.length_map]; exact List.length_filter_le _ _
  · simp

set_option maxRecDepth 100000 in
set_option maxHeartbeats 8000000 in
theorem walk (c : Cl) (key : ByteArray) (w : World) (hc : ClAt w c) (hf : Fits c) (hk : key.size ≤ maxLen) (hv : Ring.Vars w) :
    Calls Tryz.prog 4 #[.agg #[.int .i64 c.now, .int .i64 c.nx, .int .i64 c.lim, .int .i64 c.lost, .slice c.na c.ns.length c.nc, .slice c.ca c.cs.length c.cc, .slice c.pa c.ps.length c.pc], .string key] w fun e w' => e = .returned (.bool true) ∧ Below w.heap.size w w' := by
  have HKS := hide hk
  unfold maxLen at hk
  by_cases g : 1048576 < (key.size : Int)
  · clear hc hf hv
    go_enter Tryz.func4, Tryz.ntmps4
    go_wp2
    go_ret
    exact ⟨rfl, bel1 w _⟩
  have HV := hide hv
  have HSZ := hide (fun w' (hb : Below w.heap.size w w') => sz_any c w' (hc.below hb (Nat.le_refl _)) hf)
  have hbd := szC_bd c
  have hsm := @szC_small c
  have hsc := @szC_cnt c
  generalize szC c 1048576 = z at HSZ hbd hsm hsc
  by_cases hz : z < 0
  · obtain rfl : z = -1 := by omega
    clear hc hf hv hsm hbd hsc
    go_enter Tryz.func4, Tryz.ntmps4
    go_wp2_with fail
    refine (unhide HSZ _ (bel1 w _)).mono ?_
    rintro e w2 ⟨rfl, hb2⟩
    have hB2 := hide ((bel1 w _).trans (hb2.mono (by simp)))
    clear hb2
    go_wp2
    go_ret
    exact ⟨rfl, unhide hB2⟩
  have HSM := hide (hsm hz)
  have HSC := hide (hsc hz)
  clear hsm hsc
  have HTO := hide (fun w' (hb : Below w.heap.size w w') => to_any c w' (hc.below hb (Nat.le_refl _)) (unhide HSM))
  have HSP : Hid (∀ b1 b2 b3 L w', CR w' b1 b2 b3 c.ns c.cs L → L.map Pls.core = c.ps.map Pls.core → Calls Tryz.prog 13 #[.agg #[.int .i64 c.now, .int .i64 c.nx, .int .i64 c.lim, .int .i64 c.lost, .slice (some ⟨b1, 0, none⟩) c.ns.length c.ns.length, .slice (some ⟨b2, 0, none⟩) c.cs.length c.cs.length, .slice (some ⟨b3, 0, none⟩) c.ps.length c.ps.length], .string key] w' (PoEnd (poR (plain c) key) w')) := fun b1 b2 b3 L w' hR hL => by
    have h := po_spec c.now c.nx c.lim c.lost b1 b2 b3 c.ns c.cs L key w' hR (unhide HSM).sn hf.nf (unhide HSM).sc hf.cf (by rw [Pls.map_len hL]; exact (unhide HSM).sp) (core_fits hL (cr_caps hR) hf.pf) (unhide HKS)
    rw [hL, Pls.map_len hL] at h
    exact h
  have HIM : Hid (∀ b1 b2 b3 L w', CR w' b1 b2 b3 c.ns c.cs L → L.map Pls.core = c.ps.map Pls.core → Ring.Vars w' → Calls Tryz.prog 14 #[.agg #[.int .i64 c.now, .int .i64 c.nx, .int .i64 c.lim, .int .i64 c.lost, .slice (some ⟨b1, 0, none⟩) c.ns.length c.ns.length, .slice (some ⟨b2, 0, none⟩) c.cs.length c.cs.length, .slice (some ⟨b3, 0, none⟩) c.ps.length c.ps.length], .string key] w' (PoEnd (poR (plain c) key) w')) := fun b1 b2 b3 L w' hR hL hv' => by
    have h := po_impl c.now c.nx c.lim c.lost b1 b2 b3 c.ns c.cs L key w' hR (unhide HSM).sn hf.nf (unhide HSM).sc hf.cf (by rw [Pls.map_len hL]; exact (unhide HSM).sp) (core_fits hL (cr_caps hR) hf.pf) (unhide HKS) hv'
    rw [hL, Pls.map_len hL] at h
    exact h
  have HEQ := hide (fun b1 b2 b3 L b1' b2' b3' L' w' hR hL hR' hL' => eq_fresh c (unhide HSM) b1 b2 b3 L b1' b2' b3' L' w' hR hL hR' hL')
  have HMK := hide (fun b1 b2 b3 L w' hR hL => mark_fresh c (unhide HSM) (unhide HSC) b1 b2 b3 L w' hR hL)
  have hTl := po_len (plain c) key
  have hTl2 : (plain c).ps.length ≤ 1048576 := by show (c.ps.map Pls.core).length ≤ _; rw [List.length_map]; exact (unhide HSM).sp
  clear hc hf hv
  generalize poR (plain c) key = R at HSP HIM hTl
  obtain ⟨T, gd⟩ := R
  have hTn : T.length ≤ 1048576 := Nat.le_trans hTl hTl2
  have hTm : T.length ≤ maxLen := by unfold maxLen; omega
  have HTM := hide hTm
  clear hTl hTl2 hTm HSM HSC
  have hok : (gd != gd) = false := by cases gd <;> rfl
  go_enter Tryz.func4, Tryz.ntmps4
  go_wp2_with fail
  refine (unhide HSZ _ (bel1 w _)).mono ?_
  rintro e w2 ⟨rfl, hb2⟩
  simp only [World.size_alloc] at hb2
  have z2 : w.heap.size + 1 ≤ w2.heap.size := by have := hb2.size; simp at this; omega
  have B2 := hide ((bel1 w _).trans (hb2.mono (by omega)))
  have hx2 := boxcell hb2
  clear hb2
  go_wp2_with fail
  refine (unhide HTO _ (unhide B2)).mono ?_
  rintro e w3 ⟨b1, b2, b3, L3, rfl, hlo3, hR3, hL3, hb3⟩
  have R3 := hide hR3
  have E3 := hide hL3
  have z3 := hb3.size
  have B3 := hide ((unhide B2).trans (hb3.mono (unhide B2).size))
  have hx3 := fun o => (hb3.cell (p := ⟨w.heap.size, o, none⟩) z2).trans (hx2 o)
  clear hb3 hx2 hR3 hL3 hlo3
  go_wp2_with fail
  refine (unhide HSP b1 b2 b3 L3 _ (unhide R3) (unhide E3)).mono ?_
  rintro e w4 ⟨aP, cP, rfl, hoP, hb4⟩
  dsimp only at hoP
  obtain ⟨rP, oP, lP⟩ := StringsW.own_ours (ss := T) hoP
  have P4 := hide oP
  have LP : Hid (∀ q, rP = some q → w3.heap.size ≤ q ∧ q < w4.heap.size) := fun q e => ⟨lP q e, oP.lt q e⟩
  have z4 := hb4.size
  have B4 := hide ((unhide B3).trans (hb4.mono (unhide B3).size))
  have hx4 := fun o => (hb4.cell (p := ⟨w.heap.size, o, none⟩) (by show w.heap.size < w3.heap.size; omega)).trans (hx3 o)
  clear hb4 hx3 R3 E3 hoP oP lP
  go_wp2_with fail
  refine (unhide HTO _ (unhide B4)).mono ?_
  rintro e w5 ⟨d1, d2, d3, L5, rfl, hlo5, hR5, hL5, hb5⟩
  have R5 := hide hR5
  have E5 := hide hL5
  have HRG := hide (cr_range hR5 hlo5)
  have z5 := hb5.size
  have B5 := hide ((unhide B4).trans (hb5.mono (unhide B4).size))
  have P5 := hide ((unhide P4).below hb5 (Nat.le_refl _))
  have hx5 := fun o => (hb5.cell (p := ⟨w.heap.size, o, none⟩) (by show w.heap.size < w4.heap.size; omega)).trans (hx4 o)
  clear hb5 hx4 hR5 hL5 P4
  go_wp2_with fail
  have R5a := hide ((unhide R5).below (bel1 w5 (.cells #[.int .i64 c.now, .int .i64 c.nx, .int .i64 c.lim, .int .i64 c.lost, .slice (some ⟨d1, 0, none⟩) c.ns.length c.ns.length, .slice (some ⟨d2, 0, none⟩) c.cs.length c.cs.length, .slice (some ⟨d3, 0, none⟩) c.ps.length c.ps.length] 31)) (Nat.le_refl _))
  have B5a := hide ((unhide B5).alloc (unhide B5).size (.cells #[.int .i64 c.now, .int .i64 c.nx, .int .i64 c.lim, .int .i64 c.lost, .slice (some ⟨d1, 0, none⟩) c.ns.length c.ns.length, .slice (some ⟨d2, 0, none⟩) c.cs.length c.cs.length, .slice (some ⟨d3, 0, none⟩) c.ps.length c.ps.length] 31))
  refine (unhide HIM d1 d2 d3 L5 _ (unhide R5a) (unhide E5) ((unhide HV).below (unhide B5a))).mono ?_
  rintro e w6 ⟨aG, cG, rfl, hoG, hb6⟩
  dsimp only at hoG
  simp only [World.size_alloc] at hb6 hoG
  obtain ⟨rG, oG, lG⟩ := StringsW.own_ours (ss := T) hoG
  have G6 := hide oG
  have LG : Hid (∀ q, rG = some q → w5.heap.size + 1 ≤ q) := lG
  have z6 : w5.heap.size + 1 ≤ w6.heap.size := by have := hb6.size; simp at this; omega
  have R6 := hide ((unhide R5a).below hb6 (by simp))
  have P6 := hide ((unhide P5).below ((bel1 w5 (.cells #[.int .i64 c.now, .int .i64 c.nx, .int .i64 c.lim, .int .i64 c.lost, .slice (some ⟨d1, 0, none⟩) c.ns.length c.ns.length, .slice (some ⟨d2, 0, none⟩) c.cs.length c.cs.length, .slice (some ⟨d3, 0, none⟩) c.ps.length c.ps.length] 31)).trans (hb6.mono (by omega))) (Nat.le_refl _))
  have B6 := hide ((unhide B5a).trans (hb6.mono (by have := (unhide B5).size; omega)))
  have hx6 := fun o => (((bel1 w5 (.cells #[.int .i64 c.now, .int .i64 c.nx, .int .i64 c.lim, .int .i64 c.lost, .slice (some ⟨d1, 0, none⟩) c.ns.length c.ns.length, .slice (some ⟨d2, 0, none⟩) c.cs.length c.cs.length, .slice (some ⟨d3, 0, none⟩) c.ps.length c.ps.length] 31)).trans (hb6.mono (by omega))).cell (p := ⟨w.heap.size, o, none⟩) (by show w.heap.size < w5.heap.size; omega)).trans (hx5 o)
  have hX6 := boxcell hb6
  clear hb6 hx5 R5 R5a P5 hoG oG lG
  go_wp2_with fail
  refine (Strs.eq_bel aG cG T aP cP _ (StringsW.ours_at (unhide G6)) (StringsW.ours_at (unhide P6)) (unhide HTM)).mono ?_
  rintro e w7 ⟨rfl, hb7⟩
  have z7 := hb7.size
  have R7 := hide ((unhide R6).below hb7 (Nat.le_refl _))
  have G7 := hide ((unhide G6).below hb7 (Nat.le_refl _))
  have P7 := hide ((unhide P6).below hb7 (Nat.le_refl _))
  have B7 := hide ((unhide B6).trans (hb7.mono (unhide B6).size))
  have hx7 := fun o => (hb7.cell (p := ⟨w.heap.size, o, none⟩) (by show w.heap.size < w6.heap.size; omega)).trans (hx6 o)
  have hX7 := fun o => (hb7.cell (p := ⟨w5.heap.size, o, none⟩) (by show w5.heap.size < w6.heap.size; omega)).trans (hX6 o)
  clear hb7 hx6 hX6 R6 G6 P6
  go_wp2_with fail
  have HB7 : Hid (Below w.heap.size w w7.drew) := (unhide B7).drew
  have HR7 : Hid (CR w7.drew d1 d2 d3 c.ns c.cs L5) := (unhide R7).below (Below.refl w7.heap.size w7).drew (Nat.le_refl _)
  have G7d : Hid (StringsM.Ours w7.drew aG T.length (StringsW.scell T) rG) := (unhide G7).below (Below.refl w7.heap.size w7).drew (Nat.le_refl _)
  have P7d : Hid (StringsM.Ours w7.drew aP T.length (StringsW.scell T) rP) := (unhide P7).below (Below.refl w7.heap.size w7).drew (Nat.le_refl _)
  have HTO7 := hide (unhide HTO _ (unhide HB7))
  clear R7 G7 P7 B7
  go_region_with (first | (go_at_call 10; refine (unhide HTO7).mono ?_; rintro e w8 ⟨f1, f2, f3, L8, rfl, hlo8, hR8, hL8, hb8⟩; have hX8 := fun o => hb8.cell (p := ⟨w5.heap.size, o, none⟩) (by simp; omega); have hx8 := fun o => hb8.cell (p := ⟨w.heap.size, o, none⟩) (by simp; omega); have z8 : w7.heap.size ≤ w8.heap.size := hb8.size; have R8 := hide hR8; have E8 := hide hL8; have Q8 := hide ((unhide HR7).below hb8 (Nat.le_refl _)); have hb8 := hide hb8; clear hR8 hL8 hlo8) | (go_at_call 12; refine (unhide HEQ d1 d2 d3 L5 f1 f2 f3 L8 _ (unhide Q8) (unhide E5) (unhide R8) (unhide E8)).mono ?_; rintro e w9 ⟨rfl, hb9⟩; have hX9 := fun o => hb9.cell (p := ⟨w5.heap.size, o, none⟩) (by show w5.heap.size < w8.heap.size; omega); have hx9 := fun o => hb9.cell (p := ⟨w.heap.size, o, none⟩) (by show w.heap.size < w8.heap.size; omega); have z9 : w8.heap.size ≤ w9.heap.size := hb9.size; have hb9 := hide hb9))
  all_goals
    have B9 := hide (((unhide HB7).trans ((unhide hb8).mono (unhide HB7).size)).trans ((unhide hb9).mono (Nat.le_trans (unhide HB7).size (unhide hb8).size)))
    have R9 := hide ((unhide Q8).below (unhide hb9) (Nat.le_refl _))
    have G9 := hide (((unhide G7d).below (unhide hb8) (Nat.le_refl _)).below (unhide hb9) (Nat.le_refl _))
    have P9 := hide (((unhide P7d).below (unhide hb8) (Nat.le_refl _)).below (unhide hb9) (Nat.le_refl _))
    have y9 := fun o => (hx9 o).trans ((hx8 o).trans (hx7 o))
    have Y9 := fun o => (hX9 o).trans ((hX8 o).trans (hX7 o))
    clear hb8 hb9 hX8 hX9 hx8 hx9 hx7 hX7 Q8 R8 E8 G7d P7d HB7 HR7 HTO7
    go_wp2_with fail
    refine (unhide HMK d1 d2 d3 L5 _ (unhide R9) (unhide E5)).mono ?_
    rintro e w10 ⟨km, rfl, hkm, hk10⟩
    have z10 := hk10.size
    have G10 := hide (ours_keeps (unhide G9) hk10 (fun q e hm => by have h1 := unhide LG q e; have h2 := (unhide HRG q hm).2; omega))
    have P10 := hide (ours_keeps (unhide P9) hk10 (fun q e hm => by have h1 := (unhide LP q e).2; have h2 := (unhide HRG q hm).1; omega))
    have B10 := hide ((unhide B9).trans (hk10.below (fun q hm => by have h2 := (unhide HRG q hm).1; have h3 := (unhide B4).size; omega) (unhide B9).size))
    have y10 := fun o => (hk10.cell (b := w.heap.size) (o := o) (by omega) (fun hm => by have h2 := (unhide HRG _ hm).1; omega)).trans (y9 o)
    have hkm' : ¬ km < 0 := by omega
    clear hk10 y9 Y9 G9 P9 R9 B9
    go_wp2_with fail
    refine (Strs.eq_bel aG cG T aP cP _ (StringsW.ours_at (unhide G10)) (StringsW.ours_at (unhide P10)) (unhide HTM)).mono ?_
    rintro e w11 ⟨rfl, hb11⟩
    have z11 := hb11.size
    have G11 := hide ((unhide G10).below hb11 (Nat.le_refl _))
    have P11 := hide ((unhide P10).below hb11 (Nat.le_refl _))
    have B11 := hide ((unhide B10).trans (hb11.mono (unhide B10).size))
    have y11 := fun o => (hb11.cell (p := ⟨w.heap.size, o, none⟩) (by show w.heap.size < w10.heap.size; omega)).trans (y10 o)
    clear hb11 y10 G10 P10 B10
    go_wp2_with fail
    refine (StringsM.mark_any aG cG T.length _ rG 1 _ (unhide G11) (by omega) (by omega) (by omega)).mono ?_
    rintro e w12 ⟨rfl, hm12, hg12⟩
    have z12 := hg12.size
    have M12 := hide hm12
    have P12 := hide ((unhide P11).gb hg12 (fun q h e => by have h4 := (unhide LP q h).2; have h6 := unhide LG q e.symm; omega))
    have B12 := hide ((unhide B11).grown hg12 (unhide B11).size (fun q e => by have h6 := unhide LG q e; have := (unhide B5).size; omega))
    have y12 := fun o => (World.cell?_of_block (a := ⟨w.heap.size, o, none⟩) (hg12.block w.heap.size (by omega) (fun e => by have h6 := unhide LG _ e.symm; omega))).trans (y11 o)
    have hk2 : ¬ 1 + (T.length : Int) < 0 := by omega
    clear hm12 hg12 y11 G11 P11 B11
    go_wp2_with fail
    refine (StringsM.held_any aG cG T.length rG 1 _ (unhide M12) (by omega) (by omega) (by omega)).mono ?_
    rintro e w13 ⟨rfl, hb13⟩
    have z13 := hb13.size
    have M13 := hide ((unhide M12).below hb13 (Nat.le_refl _))
    have P13 := hide ((unhide P12).below hb13 (Nat.le_refl _))
    have B13 := hide ((unhide B12).trans (hb13.mono (unhide B12).size))
    have y13 := fun o => (hb13.cell (p := ⟨w.heap.size, o, none⟩) (by show w.heap.size < w12.heap.size; omega)).trans (y12 o)
    clear hb13 y12 M12 P12 B12
    go_wp2_with fail
    refine (unhide HTO _ (unhide B13)).mono ?_
    rintro e w14 ⟨h1, h2, h3, L14, rfl, hlo14, hR14, hL14, hb14⟩
    have R14 := hide hR14
    have E14 := hide hL14
    have z14 := hb14.size
    have M14 := hide ((unhide M13).below hb14 (Nat.le_refl _))
    have P14 := hide ((unhide P13).below hb14 (Nat.le_refl _))
    have B14 := hide ((unhide B13).trans (hb14.mono (unhide B13).size))
    clear hb14 hR14 hL14 hlo14 M13 P13 B13 y13
    go_wp2_with fail
    refine (unhide HIM h1 h2 h3 L14 _ (unhide R14) (unhide E14) ((unhide HV).below (unhide B14))).mono ?_
    rintro e w15 ⟨aH, cH, rfl, hoH, hb15⟩
    dsimp only at hoH
    obtain ⟨rH, oH, lH⟩ := StringsW.own_ours (ss := T) hoH
    have H15 := hide oH
    have z15 := hb15.size
    have M15 := hide ((unhide M14).below hb15 (Nat.le_refl _))
    have P15 := hide ((unhide P14).below hb15 (Nat.le_refl _))
    have B15 := hide ((unhide B14).trans (hb15.mono (unhide B14).size))
    clear hb15 hoH oH lH M14 P14 B14 R14 E14
    go_wp2_with fail
    refine (Strs.eq_bel aH cH T aP cP _ (StringsW.ours_at (unhide H15)) (StringsW.ours_at (unhide P15)) (unhide HTM)).mono ?_
    rintro e w16 ⟨rfl, hb16⟩
    have M16 := hide ((unhide M15).below hb16 (Nat.le_refl _))
    have B16 := hide ((unhide B15).trans (hb16.mono (unhide B15).size))
    clear hb16 M15 P15 B15 H15
    go_wp2_with fail
    refine (StringsM.held_any aG cG T.length rG 1 _ (unhide M16) (by omega) (by omega) (by omega)).mono ?_
    rintro e w17 ⟨rfl, hb17⟩
    have B17 := hide ((unhide B16).trans (hb17.mono (unhide B16).size))
    clear hb17
    go_wp2
    go_ret
    exact ⟨rfl, unhide B17⟩

theorem own : ownKnob Tryz.prog.godebug = none := by kernel_rfl
theorem laidOut : laidOutB Tryz.prog = true := by kernel_rfl


abbrev laid5 : List (String × DataW Unit) := Rows.fnExactPlacesOfRow.laid
theorem gTab : Tryz.prog.globalNamed "internal/strconv.uint64pow10" = some 0 := by kernel_rfl
theorem tTab : (Tryz.prog.globals[0]?).map (·.type) = some 227 := by kernel_rfl
theorem cellsU : Tryz.prog.cellsOf 204 = 1 := by kernel_rfl
theorem cellsT : Tryz.prog.cellsOf 227 = 20 := by kernel_rfl
theorem tabD : (Rows.laid_internal_strconv_uint64pow10 : DataW Unit) = Lib.tabData .u64 Lib.pow10Tab := by kernel_rfl
/-- What the row's list gives the walk. -/
theorem of_laid {W : World} (h : laidMetH Tryz.prog laid5 W) : Ring.Vars W := by
  rw [MakeChecks.laidMetH_plain _ _ _ (by kernel_rfl)] at h
  have h3 : laidMet Tryz.prog _ W := h.tail.tail
  rw [tabD] at h3
  exact Lib.tabIs_of_head gTab tTab Tryz.underlying227 Tryz.underlying204 cellsU cellsT h3
/-- The heap that the program's own laying leaves meets the list. -/
theorem door_met (os : Os) (args : Array Value) : laidMetH Tryz.prog laid5 ((World.doorLaid Tryz.prog 4000 os).forCall (fun _ _ => 0) ⟨#[], args, []⟩).memory :=
  laidMetH_of_parts3 (fuel := 8) (laidMet_of_run' 8 (by kernel_rfl) (by kernel_rfl)) (by kernel_rfl) (by kernel_rfl)

set_option maxRecDepth 100000 in
theorem lifted (os : Os) (started : os.Started) (H : Type) (enc : TypeId × Value → H) :
    ReturnsInHanded {} Tryz.checked os 4 .any (fun w args => (Rows.fnExactPlacesOfSpec.pre enc Tryz.prog Tryz.f4 [] false w args ∧ laidMetH Tryz.prog laid5 w) ∧ sizedMet enc Tryz.prog Tryz.f4 (OpenSpec.ofChange Rows.fnExactPlacesOfSpec) false w args)
      (Rows.fnExactPlacesOfSpec.post enc Tryz.prog Tryz.f4 false true false false) := by
  refine returnsInHanded_of_change_and (C := Tryz.checked) (X := fun w _ => laidMetH Tryz.prog laid5 w) (fun _ _ _ hh h => h.of_heap hh) own started (by kernel_rfl) Tryz.func4
    (ChangeSpec.witness_shaped (enc := enc) (C := Tryz.checked) (os := os) (X := fun w _ => laidMetH Tryz.prog laid5 w) false (World.doorLaid Tryz.prog 4000 os) #[.agg #[.int .i64 0, .int .i64 0, .int .i64 0, .int .i64 0, .slice none 0 0, .slice none 0 0, .slice none 0 0], .string ByteArray.empty] 8 rfl (World.shaped_of_RefB (by kernel_rfl) (by kernel_rfl)) (by kernel_rfl) (by kernel_rfl) (by kernel_rfl) (door_met os _)) ?_
  intro W base args ds gs before hval0 hW _ _ hL _
  have hval : ∀ (j : Nat) t v, Tryz.f4.params[j]? = some t → args[j]? = some v → Value.okWide Tryz.prog W .any base t v := hval0
  have hW' := hW
  obtain ⟨p, q, hA0, hV, rfl, hfz, hnd⟩ := hW
  have hA : DataW.TrodAll enc Tryz.prog W 0 (fun _ => true) true Tryz.f4.params.toList args.toList ds p := hA0
  rw [Tryz.params4] at hA hval
  obtain ⟨v0, vs0, d0, ds0, p0, q0, hargs, rfl, rfl, h0, r0⟩ := trodAll_cons hA
  obtain ⟨v1, vs1, d1, ds1, p1, q1, rfl, rfl, rfl, h1, r1⟩ := trodAll_cons r0
  obtain ⟨rfl, rfl, rfl⟩ := trodAll_nil r1
  obtain rfl : args = #[v0, v1] := by cases args; simp_all
  obtain ⟨rfl, rfl⟩ := trodVars_none hV
  have k0 := h0
  have lt0 : ∀ x ∈ p0, x.block < W.heap.size := by obtain ⟨m, hm⟩ := k0; exact DataW.trod_lt m _ _ _ hm
  obtain ⟨cs0, rfl, sz0⟩ := okWide_struct Tryz.underlying25 (hval 0 25 v0 rfl rfl)
  obtain ⟨ca0, cb0, cc0, cd0, ce0, cf0, cg0, rfl⟩ := Open.array7 (sz0.trans (show Tryz.prog.cellsOf 25 = 7 by kernel_rfl))
  obtain ⟨_, _, g0a⟩ := Open.field_at Tryz.underlying25 (by kernel_rfl) h0 0 _ rfl _ rfl
  obtain ⟨_, _, g0b⟩ := Open.field_at Tryz.underlying25 (by kernel_rfl) h0 1 _ rfl _ rfl
  obtain ⟨_, _, g0c⟩ := Open.field_at Tryz.underlying25 (by kernel_rfl) h0 2 _ rfl _ rfl
  obtain ⟨_, _, g0d⟩ := Open.field_at Tryz.underlying25 (by kernel_rfl) h0 3 _ rfl _ rfl
  obtain ⟨_, _, g0e⟩ := Open.field_at Tryz.underlying25 (by kernel_rfl) h0 4 _ rfl _ rfl
  obtain ⟨_, _, g0f⟩ := Open.field_at Tryz.underlying25 (by kernel_rfl) h0 5 _ rfl _ rfl
  obtain ⟨_, _, g0g⟩ := Open.field_at Tryz.underlying25 (by kernel_rfl) h0 6 _ rfl _ rfl
  obtain ⟨i0a, e0a, _, _⟩ := DataW.trod_int Tryz.underlying3 g0a
  obtain ⟨i0b, e0b, _, _⟩ := DataW.trod_int Tryz.underlying3 g0b
  obtain ⟨i0c, e0c, _, _⟩ := DataW.trod_int Tryz.underlying3 g0c
  obtain ⟨i0d, e0d, _, _⟩ := DataW.trod_int Tryz.underlying3 g0d
  obtain ⟨P0e, C0e, L0e, e0e, f0e, k0e, l0e, u0e⟩ := Nodes.open_of Tryz.underlying22 Tryz.underlying88 (by kernel_rfl) (by kernel_rfl) Tryz.underlying9 Tryz.underlying3 g0e
  obtain ⟨P0f, C0f, L0f, e0f, f0f, k0f, l0f, u0f⟩ := Nodes.open_of Tryz.underlying22 Tryz.underlying88 (by kernel_rfl) (by kernel_rfl) Tryz.underlying9 Tryz.underlying3 g0f
  obtain ⟨P0g, C0g, L0g, e0g, f0g, k0g, l0g, u0g⟩ := Pls.open_of Tryz.underlying23 Tryz.underlying98 (by kernel_rfl) rfl (by kernel_rfl) rfl (by kernel_rfl) Tryz.underlying9 Tryz.underlying96 (by kernel_rfl) Tryz.underlying3 Tryz.underlying3 Tryz.underlying94 Tryz.underlying192 (by kernel_rfl) (by kernel_rfl) Tryz.underlying9 Tryz.underlying3 Tryz.underlying9 Tryz.underlying3 Tryz.underlying3 g0g
  simp only [List.cons.injEq, and_true] at e0a e0b e0c e0d
  subst e0a e0b e0c e0d e0e e0f e0g
  have k1 := h1
  have lt1 : ∀ x ∈ p1, x.block < W.heap.size := by obtain ⟨m, hm⟩ := k1; exact DataW.trod_lt m _ _ _ hm
  obtain ⟨s1, rfl, rfl, rfl, b1⟩ := open_string Tryz.underlying9 (hval 1 9 v1 rfl rfl) h1
  clear hA0 hval0
  refine (walk ⟨i0a, i0b, i0c, i0d, P0e, C0e, L0e, P0f, C0f, L0f, P0g, C0g, L0g⟩ s1 W ⟨f0e, f0f, f0g⟩ ⟨l0e, u0e, k0e, l0f, u0f, k0f, l0g, u0g, k0g⟩ b1 (of_laid hL)).mono fun e W' ⟨he, bel⟩ => ?_
  subst he
  exact ⟨_, rfl, _, _, _, [], _, [], hW', trodAll_mk1 (shut_bool Tryz.underlying4 _), (trodAll_cons_mk (Below.trod laidOut (by kernel_rfl) (of_decide_eq_true (by kernel_rfl)) k0 bel lt0) (trodAll_cons_mk (Below.trod laidOut (by kernel_rfl) (of_decide_eq_true (by kernel_rfl)) k1 bel lt1) trodAll_mk0)), rfl, bel.frame _, fun h => by cases h⟩

theorem over : Rows.fnExactPlacesOfRow.holds Tryz.pinned (OpenSpec.ofChange Rows.fnExactPlacesOfSpec) :=
  OpenClaim.holds_of_wide 4 Tryz.f4 rfl rfl rfl rfl rfl rfl rfl ⟨rfl, rfl, rfl, rfl, rfl⟩ rfl rfl rfl rfl rfl (by kernel_rfl) Tryz.func4 (by kernel_rfl)
    (of_decide_eq_true (by kernel_rfl)) (by unfold Func.isWrapper; first | (rw [if_pos (by decide +kernel)]; kernel_rfl) | (rw [if_neg (by decide +kernel)]; exact ⟨rfl, rfl⟩))
    (fun os started H enc _ => lifted os started H enc)

end PlacesOfL
theorem placesOf_card : Rows.FnExactPlacesOfCardSaid :=
  Claim7.holds_tied_plain_at .later [] Rows.fnExactPlacesOfCard.laidKinds true Rows.fnExactPlacesOfCard.stood.harness Rows.fnExactPlacesOfCard.stood.looks
    PlacesOfL.over (fun _ h => by cases h) (by kernel_rfl) (fun _ h => by cases h) fnExactPlacesOf_row_tie rfl ⟨rfl, rfl⟩ (by kernel_rfl) rfl
    (fun f fn hf hfn => by
      obtain rfl : f = 4 := Option.some.inj ((show Tryz.prog.funcNamed Rows.fnExactPlacesOfRow.func = some 4 by kernel_rfl).symm.trans hf) |>.symm
      obtain rfl : fn = Tryz.f4 := (Option.some.inj (Tryz.func4.symm.trans hfn)).symm
      exact ⟨by kernel_rfl, fun j t ht => by
        rw [Tryz.params4] at ht
        have hm : t ∈ [25, 9] := by simpa using Array.mem_of_getElem? ht
        have hall : ([25, 9].all fun u => !Tryz.prog.wantsStandIn u) = true := by kernel_rfl
        exact (show Tryz.prog.wantsStandIn t = false by simpa using List.all_eq_true.1 hall t hm)⟩)
    (by kernel_rfl)


end Go.Proofs.YtpihkjpnaefacaaGreatDoor
