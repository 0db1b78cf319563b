/-
  FnExactOpenIds returns true for every session, given the contract of the program's OpenIds.
-/
import Derived.Test.YtmbkdejlbeailaaSessH
import Derived.Test.YtmbkdejlbeailaaSessM
import Derived.Test.YtmbkdejlbeailaaIdsI
import Derived.Test.YtmbkdejlbeailaaSlotO
import Derived.OpenShut
import Derived.ChangeOld
import Derived.Deep.RegionWith
import Derived.Deep.DeepCutAuto
namespace Go.Proofs.Ytmbkdejlbeailaa
namespace OpenIdsL
open Go.ChangeShapes Go.WideShapes Go.ChangeAt Go.RowKit Base Slots Sess Marks SlotsM
set_option linter.unusedVariables false

/-- Two cells of a block. -/
def Box2 (W : World) (b : Nat) (v0 v1 : Value) : Prop := W.cell? ⟨b, 0, none⟩ = some v0 ∧ W.cell? ⟨b, 1, none⟩ = some v1
theorem Box2.below {W W' : World} {b B : Nat} {v0 v1 : Value} (h : Box2 W b v0 v1) (hb : Below B W W') (hB : b < B) : Box2 W' b v0 v1 := by
  refine ⟨?_, ?_⟩
  · rw [hb.cell (p := ⟨b, 0, none⟩) hB]; exact h.1
  · rw [hb.cell (p := ⟨b, 1, none⟩) hB]; exact h.2
theorem Box2.gb {W W' : World} {b : Nat} {v0 v1 : Value} {r : Option Nat} (h : Box2 W b v0 v1) (hg : W.grownBy W' r) (hb : b < W.heap.size) (hne : some b ≠ r) : Box2 W' b v0 v1 := by
  have e := hg.block b hb hne
  refine ⟨?_, ?_⟩
  · rw [World.cell?_of_block (w := W) (a := ⟨b, 0, none⟩) e]; exact h.1
  · rw [World.cell?_of_block (w := W) (a := ⟨b, 1, none⟩) e]; exact h.2
theorem box2 (w : World) (t : TypeId) (v0 v1 : Value) : Box2 (w.alloc (.cells #[v0, v1] t)) w.heap.size v0 v1 := by
  refine ⟨?_, ?_⟩
  · rw [World.cell?_alloc_new]; rfl
  · rw [World.cell?_alloc_new]; rfl

/-- What the program's OpenIds must be shown to do. -/
def Impl : Prop := ∀ (nx : Int) (b off cap : Nat) (l : List D) (w : World), b < w.heap.size → (∀ i, i < l.length → At w b (off + i * 3) (l.getD i zero)) →
  l.length ≤ 1048576 → l.length ≤ cap →
  Calls Try.prog 20 #[.agg #[.int .i64 nx, .slice (some ⟨b, off, none⟩) l.length cap]] w (IdsEnd (idsR nx l) (gsB nx l) w)

set_option maxRecDepth 100000 in
set_option maxHeartbeats 4000000 in
theorem walk (himpl : Impl) (nx : Int) (a : Option Addr) (cap : Nat) (l : List D) (w : World) (hc : LAt w a l) (hcap : l.length ≤ cap) (hl : l.length ≤ maxLen) (hs : ∀ x ∈ l, Fits x) :
    Calls Try.prog 6 #[.agg #[.int .i64 nx, .slice a l.length cap]] w fun e w' => e = .returned (.bool true) ∧ Below w.heap.size w w' := by
  have HC := hide hc
  have HS := hide hs
  have hzl := @szL_len l 1048576
  have hsz := fun w' (h : LAt w' a l) => szSession_any nx a cap l 1048576 w' h hl hs (by omega) (by omega)
  generalize szL l 1048576 = z at hzl hsz
  have HSZ := hide hsz
  clear hc hs hsz
  by_cases hz : z < 0
  · clear hzl
    go_enter Try.func6, Try.ntmps6
    go_wp2_with fail
    refine (unhide HSZ _ ((unhide HC).below (bel1 w _) (Nat.le_refl _))).mono ?_
    rintro e w2 ⟨rfl, hb2⟩
    have hB2 := hide ((bel1 w _).trans (hb2.mono (by simp)))
    clear hb2
    go_wp2
    go_ret
    exact ⟨rfl, unhide hB2⟩
  have hlen : l.length ≤ 1048576 := by have := hzl hz; omega
  clear hzl
  have hsp := fun b w hb hc => idsS_some nx b 0 l.length l w hb hc hlen (Nat.le_refl _)
  have him := fun b w hb hc => himpl nx b 0 l.length l w hb hc hlen (Nat.le_refl _)
  have hdl := ids_len nx l
  generalize idsR nx l = R at hsp him hdl
  generalize gsB nx l = tok at hsp him
  have HSP := hide hsp
  have HIM := hide him
  clear hsp him
  have hok : (tok != tok) = false := by cases tok <;> rfl
  go_enter Try.func6, Try.ntmps6
  go_wp2_with fail
  refine (unhide HSZ _ ((unhide HC).below (bel1 w _) (Nat.le_refl _))).mono ?_
  rintro e w2 ⟨rfl, hb2⟩
  simp only [World.size_alloc] at hb2
  have hA2 := hide ((box2 w _ _ _).below hb2 (Nat.lt_succ_self _))
  have B2 := hide ((bel1 w _).trans (hb2.mono (by omega)))
  have z2 : w.heap.size < w2.heap.size := by have := hb2.size; simp at this; omega
  clear hb2
  -- the model
  obtain ⟨x0, x1⟩ := unhide hA2
  go_wp2_with fail
  refine (toSession_any nx a cap l _ ((unhide HC).below (unhide B2) (Nat.le_refl _)) hlen).mono ?_
  rintro e w3 ⟨b3, rfl, hb3, hrow3, hbel3⟩
  have hrow3 := hide hrow3
  have hA3 := hide ((unhide hA2).below hbel3 z2)
  have B3 := hide ((unhide B2).trans (hbel3.mono (by omega)))
  have z3 : w.heap.size < w3.heap.size := by have := hbel3.size; omega
  clear hbel3 x0 x1
  go_wp2_with fail
  refine (unhide HSP b3 _ (unhide hrow3).lt (at_row (unhide hrow3))).mono ?_
  rintro e w4 ⟨a4, c4, r4, rfl, ho4, hr4, hb4⟩
  have P4 := hide ho4
  have L4 := hide ho4.lt
  have hA4 := hide ((unhide hA3).below hb4 z3)
  have B4 := hide ((unhide B3).trans (hb4.mono (by omega)))
  have z4 : w.heap.size < w4.heap.size := by have := hb4.size; omega
  clear hb4 ho4 hr4
  obtain ⟨x0, x1⟩ := unhide hA4
  go_wp2_with fail
  refine (toSession_any nx a cap l _ ((unhide HC).below (unhide B4) (Nat.le_refl _)) hlen).mono ?_
  rintro e w5 ⟨b5, rfl, hb5, hrow5, hbel5⟩
  have hrow5 := hide hrow5
  have P5 := hide ((unhide P4).below hbel5 (Nat.le_refl _))
  have hA5 := hide ((unhide hA4).below hbel5 (by omega))
  have B5 := hide ((unhide B4).trans (hbel5.mono (by omega)))
  have z5 : w4.heap.size ≤ w5.heap.size := hbel5.size
  have y5 : b5 < w5.heap.size := (unhide hrow5).lt
  clear hbel5 x0 x1
  go_wp2_with fail
  refine (unhide HIM b5 _ (by simp; omega) (at_row ((unhide hrow5).alloc _))).mono ?_
  rintro e S ⟨a6, c6, r6, rfl, ho6, hr6, hb6⟩
  simp only [World.size_alloc] at hb6 hr6
  have OS := hide ho6
  have PS := hide (((unhide P5).below (bel1 w5 _) (Nat.le_refl _)).below hb6 (by simp))
  have rowS := hide (((unhide hrow5).alloc _).of_block (hb6.block b5 (by omega)))
  have hAS := hide (((unhide hA5).below (bel1 w5 _) (by omega)).below hb6 (by omega))
  have hXS := hide ((box2 w5 _ _ _).below hb6 (Nat.lt_succ_self _))
  have BS := hide (((unhide B5).alloc (by omega) _).trans (hb6.mono (by omega)))
  have zS : w5.heap.size + 1 ≤ S.heap.size := by have := hb6.size; simp at this; omega
  have R6 := hide hr6
  have L6 := hide ho6.lt
  clear hb6 ho6 hr6 P5 hA5 B5 hrow5 P4 hA4 B4 hA3 B3 hA2 B2 hrow3
  go_wp2_with fail
  refine (Ints.eq_same a6 a4 c6 c4 R _ (Ints.ours_at (unhide OS)) (Ints.ours_at (unhide PS)) (by unfold maxLen; omega)).mono ?_
  rintro e w7 ⟨rfl, hb7⟩
  have B7 := hide hb7
  clear hb7
  go_upto_region 10 with fail
  go_cut [45] (fun s59 wx => s59 = .bool false ∧ Hid (Below S.heap.size S wx))
  case first =>
    obtain ⟨x0, x1⟩ := (unhide hAS).below (unhide B7) (by omega)
    obtain ⟨y0, y1⟩ := (unhide hXS).below (unhide B7) (by omega)
    have z7 : S.heap.size ≤ w7.heap.size := (unhide B7).size
    have HS0 : Hid (LAt w7.drew a l) := (unhide HC).below ((unhide BS).trans ((unhide B7).mono (unhide BS).size)).drew (Nat.le_refl _)
    have HS6 : Hid (LAt w7.drew (some ⟨b5, 0, none⟩) l) := LAt.row ((unhide rowS).of_block ((unhide B7).block b5 (by omega))).drew
    go_region_with (first | (go_at_call 10; refine (toSession_any nx a cap l _ (unhide HS0) hlen).mono ?_; rintro e w8 ⟨b8, rfl, hb8, hrow8, hbel8⟩; have hX8 := fun o => hbel8.cell (p := ⟨w5.heap.size, o, none⟩) (by simp; omega); have hrow8 := hide hrow8; have hbel8 := hide hbel8) | (go_at_call 12; refine (eqSession_same nx (some ⟨b5, 0, none⟩) (some ⟨b8, 0, none⟩) l.length l.length l _ ((unhide HS6).below (unhide hbel8) (Nat.le_refl _)) (LAt.row (unhide hrow8)) hl).mono ?_; rintro e w9 ⟨rfl, hbel9⟩; have hbel9 := hide hbel9))
    all_goals
      go_wp2_with fail
      go_meet
      exact ⟨rfl, hide (((unhide B7).drew.trans ((unhide hbel8).mono z7)).trans ((unhide hbel9).mono (Nat.le_trans z7 (unhide hbel8).size)))⟩
  case rest =>
  obtain ⟨rfl, BC⟩ := hcut
  clear B7
  have zC : S.heap.size ≤ wc.heap.size := (unhide BC).size
  have OC := hide ((unhide OS).below (unhide BC) (Nat.le_refl _))
  have PC := hide ((unhide PS).below (unhide BC) (Nat.le_refl _))
  have XC := hide (Ours.row ((unhide rowS).of_block ((unhide BC).block b5 (by omega))))
  have hAC := hide ((unhide hAS).below (unhide BC) (by omega))
  have hXC := hide ((unhide hXS).below (unhide BC) (by omega))
  have BwC := hide ((unhide BS).trans ((unhide BC).mono (unhide BS).size))
  clear OS PS rowS hAS hXS BS BC
  obtain ⟨x0, x1⟩ := unhide hXC
  go_wp2_with fail
  refine (session_mark nx (some ⟨b5, 0, none⟩) l.length l.length (icell l) (some b5) 1 _ (unhide XC) (by omega) (by omega) (by omega)).mono ?_
  rintro e w9 ⟨rfl, _, hg9⟩
  have O9 := hide ((unhide OC).gb hg9 (fun g h e => by have h6 := unhide R6 g h; simp at e; omega))
  have P9 := hide ((unhide PC).gb hg9 (fun g h e => by have h4 := unhide L4 g h; simp at e; omega))
  have hA9 := hide ((unhide hAC).gb hg9 (by omega) (by simp; omega))
  have B9 := hide (below_gb (unhide BwC) hg9 (by omega) (by omega))
  have z9 : wc.heap.size ≤ w9.heap.size := hg9.size
  clear hg9 OC PC XC hAC hXC BwC x0 x1
  have hk1 : ¬ 1 + (l.length : Int) * 3 < 0 := by omega
  go_wp2_with fail
  refine (Ints.eq_same a6 a4 c6 c4 R _ (Ints.ours_at (unhide O9)) (Ints.ours_at (unhide P9)) (by unfold maxLen; omega)).mono ?_
  rintro e w10 ⟨rfl, hb10⟩
  have O10 := hide ((unhide O9).below hb10 (Nat.le_refl _))
  have P10 := hide ((unhide P9).below hb10 (Nat.le_refl _))
  have hA10 := hide ((unhide hA9).below hb10 (by omega))
  have B10 := hide ((unhide B9).trans (hb10.mono (unhide B9).size))
  have z10 : w9.heap.size ≤ w10.heap.size := hb10.size
  clear hb10 O9 P9 hA9 B9
  go_wp2_with fail
  refine (IntsM.mark_any a6 c6 R.length (Ints.ncell R) r6 1 _ (unhide O10) (by omega) (by omega) (by omega)).mono ?_
  rintro e w11 ⟨rfl, hm11, hg11⟩
  have hne : ∀ g, some g = r6 → w5.heap.size + 1 ≤ g ∧ g < S.heap.size := fun g e => ⟨unhide R6 g e.symm, unhide L6 g e.symm⟩
  have M11 := hide hm11
  have P11 := hide ((unhide P10).gb hg11 (fun g h e => by have h4 := unhide L4 g h; have h6 := hne g e; omega))
  have hA11 := hide ((unhide hA10).gb hg11 (by omega) (fun e => by have h6 := hne _ e; omega))
  have B11 := hide ((unhide B10).grown hg11 (unhide B10).size (fun k e => by have h6 := hne k e.symm; omega))
  have z11 : w10.heap.size ≤ w11.heap.size := hg11.size
  clear hm11 hg11 O10 P10 hA10 B10 hne
  have hk2 : ¬ 1 + (R.length : Int) < 0 := by omega
  go_wp2_with fail
  refine (IntsM.held_any a6 c6 R.length r6 1 _ (unhide M11) (by omega) (by omega) (by omega)).mono ?_
  rintro e w12 ⟨rfl, hb12⟩
  have M12 := hide ((unhide M11).below hb12 (Nat.le_refl _))
  have P12 := hide ((unhide P11).below hb12 (Nat.le_refl _))
  have hA12 := hide ((unhide hA11).below hb12 (by omega))
  have B12 := hide ((unhide B11).trans (hb12.mono (unhide B11).size))
  have z12 : w11.heap.size ≤ w12.heap.size := hb12.size
  clear hb12 M11 P11 hA11 B11
  obtain ⟨x0, x1⟩ := unhide hA12
  go_wp2_with fail
  refine (toSession_any nx a cap l _ ((unhide HC).below (unhide B12) (Nat.le_refl _)) hlen).mono ?_
  rintro e w13 ⟨b13, rfl, hb13, hrow13, hbel13⟩
  have hrow13 := hide hrow13
  have M13 := hide ((unhide M12).below hbel13 (Nat.le_refl _))
  have P13 := hide ((unhide P12).below hbel13 (Nat.le_refl _))
  have B13 := hide ((unhide B12).trans (hbel13.mono (unhide B12).size))
  clear hbel13 M12 P12 hA12 B12 x0 x1
  go_wp2_with fail
  refine (unhide HIM b13 _ (unhide hrow13).lt (at_row (unhide hrow13))).mono ?_
  rintro e w14 ⟨a14, c14, r14, rfl, ho14, hr14, hb14⟩
  have O14 := hide ho14
  have M14 := hide ((unhide M13).below hb14 (Nat.le_refl _))
  have P14 := hide ((unhide P13).below hb14 (Nat.le_refl _))
  have B14 := hide ((unhide B13).trans (hb14.mono (unhide B13).size))
  clear hb14 ho14 hr14 M13 P13 B13 hrow13
  go_wp2_with fail
  refine (Ints.eq_same a14 a4 c14 c4 R _ (Ints.ours_at (unhide O14)) (Ints.ours_at (unhide P14)) (by unfold maxLen; omega)).mono ?_
  rintro e w15 ⟨rfl, hb15⟩
  have M15 := hide ((unhide M14).below hb15 (Nat.le_refl _))
  have B15 := hide ((unhide B14).trans (hb15.mono (unhide B14).size))
  clear hb15 M14 P14 B14 O14
  go_wp2_with fail
  refine (IntsM.held_any a6 c6 R.length r6 1 _ (unhide M15) (by omega) (by omega) (by omega)).mono ?_
  rintro e w16 ⟨rfl, hb16⟩
  have B16 := hide ((unhide B15).trans (hb16.mono (unhide B15).size))
  clear hb16 M15 B15
  go_wp2
  go_ret
  exact ⟨rfl, unhide B16⟩

theorem own : ownKnob Try.prog.godebug = none := by kernel_rfl
theorem laidOut : laidOutB Try.prog = true := by kernel_rfl

set_option maxRecDepth 100000 in
theorem lifted (himpl : Impl) (os : Os) (started : os.Started) (H : Type) (enc : TypeId × Value → H) :
    ReturnsInHanded {} Try.checked os 6 .any (Rows.fnExactOpenIdsSpec.pre6 enc Try.prog Try.f6 Rows.fnExactOpenIdsRow.domain false) (Rows.fnExactOpenIdsSpec.post enc Try.prog Try.f6 false true false false) := by
  refine returnsInHanded_of_change (C := Try.checked) own started (by kernel_rfl) Try.func6
    (ChangeSpec.witness6 (enc := enc) (C := Try.checked) false ⟨#[], #[.agg #[.int .i64 0, .slice none 0 0]], []⟩ 8 (by kernel_rfl) (by kernel_rfl) (by kernel_rfl) (by kernel_rfl)) ?_
  intro W base args ds gs before hval0 hW hcnd _
  have hval : ∀ (j : Nat) t v, Try.f6.params[j]? = some t → args[j]? = some v → Value.okWide Try.prog W .any base t v := hval0
  have hW' := hW
  obtain ⟨p, q, hA0, hV, rfl, hfz, hnd⟩ := hW
  have hA : DataW.TrodAll enc Try.prog W 0 (fun _ => true) true Try.f6.params.toList args.toList ds p := hA0
  rw [Try.params6] at hA hval
  obtain ⟨v0, vs0, d0, ds0, p0, q0, hargs, rfl, rfl, h0, r0⟩ := trodAll_cons hA
  obtain ⟨rfl, rfl, rfl⟩ := trodAll_nil r0
  obtain rfl : args = #[v0] := by cases args; simp_all
  obtain ⟨rfl, rfl⟩ := trodVars_none hV
  have k0 := h0
  have lt0 : ∀ x ∈ p0, x.block < W.heap.size := by obtain ⟨m, hm⟩ := k0; exact DataW.trod_lt m _ _ _ hm
  obtain ⟨cs0, rfl, sz0⟩ := okWide_struct Try.underlying24 (hval 0 24 v0 rfl rfl)
  obtain ⟨ca0, cb0, rfl⟩ := Slots.array2 (sz0.trans (show Try.prog.cellsOf 24 = 2 by kernel_rfl))
  obtain ⟨_, _, g0a⟩ := Open.field_at Try.underlying24 (by kernel_rfl) h0 0 _ rfl _ rfl
  obtain ⟨_, _, g0b⟩ := Open.field_at Try.underlying24 (by kernel_rfl) h0 1 _ rfl _ rfl
  obtain ⟨nx0, e0a, _, _⟩ := DataW.trod_int Try.underlying3 g0a
  obtain ⟨P0, C0, L0, e0b, f0, u0, i0, t0⟩ := Slots.open_of Try.underlying22 Try.underlying76 (by kernel_rfl) (by kernel_rfl) Try.underlying3 Try.underlying4 Try.underlying9 g0b
  simp only [List.cons.injEq, and_true] at e0a
  subst e0a e0b
  clear hA0 hval0
  refine (walk himpl nx0 P0 C0 L0 W f0 u0 i0 t0).mono fun e W' ⟨he, bel⟩ => ?_
  subst he
  exact ⟨_, rfl, _, _, _, [], _, [], hW', trodAll_mk1 (shut_bool Try.underlying4 _), (trodAll_cons_mk (Below.trod laidOut (by kernel_rfl) (of_decide_eq_true (by kernel_rfl)) k0 bel lt0) trodAll_mk0), rfl, bel.frame _, fun h => by cases h⟩

theorem over (himpl : Impl) : Rows.fnExactOpenIdsRow.holds Try.pinned (OpenSpec.ofChange Rows.fnExactOpenIdsSpec) :=
  OpenClaim.holds_of_wide 6 Try.f6 rfl rfl rfl rfl rfl rfl rfl ⟨rfl, rfl, rfl, rfl, rfl⟩ rfl rfl rfl rfl rfl (by kernel_rfl) Try.func6 (by kernel_rfl)
    (of_decide_eq_true (by kernel_rfl)) (by unfold Func.isWrapper; first | (rw [if_pos (by decide +kernel)]; kernel_rfl) | (rw [if_neg (by decide +kernel)]; exact ⟨rfl, rfl⟩))
    (fun os started H enc _ => lifted himpl os started H enc)

end OpenIdsL
end Go.Proofs.Ytmbkdejlbeailaa
