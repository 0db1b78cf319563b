/-
  FnExactLateOn returns true for every lane and times, given the contract of the program's LateOn.
-/
import Derived.Test.YtncdoghnfgnafaaLaneH
import Derived.Test.YtncdoghnfgnafaaLateP
import Derived.Test.YtncdoghnfgnafaaWaitO
import Derived.OpenShut
import Derived.ChangeOld
import Derived.Deep.RegionWith
namespace Go.Proofs.Ytncdoghnfgnafaa
namespace LateOnL
open Go.ChangeShapes Go.WideShapes Go.ChangeAt Go.RowKit Base Waits Lanes
set_option linter.unusedVariables false

/-- What the program's LateOn must be shown to do. -/
def Impl : Prop := ∀ (ep fa : Int) (b off cap : Nat) (l : List D) (now most : Int) (w : World), b < w.heap.size → (∀ i, i < l.length → At w b (off + i * 2) (l.getD i zero)) →
  l.length ≤ 1048576 → l.length ≤ cap →
  Calls Try.prog 26 #[.agg #[.int .i64 ep, .int .i64 fa, .slice (some ⟨b, off, none⟩) l.length cap], .int .i64 now, .int .i64 most] w fun e w' => e = .returned (.tuple #[.bool (lateB ep fa l now most), .bool (lateOk ep fa l now most)]) ∧ Below w.heap.size w w'

set_option maxHeartbeats 1000000 in
theorem walk (himpl : Impl) (ep fa : Int) (a : Option Addr) (cap : Nat) (l : List D) (now most : Int) (w : World) (hc : LAt w a l) (hcap : l.length ≤ cap) (hl : l.length ≤ maxLen) (hs : ∀ x ∈ l, Fits x) (wf1 : (Lit.int .i64 now).wf = true) (wf2 : (Lit.int .i64 most).wf = true) :
    Calls Try.prog 7 #[.agg #[.int .i64 ep, .int .i64 fa, .slice a l.length cap], .int .i64 now, .int .i64 most] w fun e w' => e = .returned (.bool true) ∧ Below w.heap.size w w' := by
  have HC := hide hc
  have HS := hide hs
  have hzl := @szL_len l 1048576
  have hsz := fun w' (h : LAt w' a l) => szLane_any ep fa a cap l 1048576 w' h hl hs (by omega) (by omega)
  generalize szL l 1048576 = z at hzl hsz
  have HSZ := hide hsz
  clear hc hs hsz
  by_cases hz : z < 0
  · clear hzl
    go_enter Try.func7, Try.ntmps7
    go_wp2_with fail
    refine (unhide HSZ _ ((unhide HC).below (bel1 w _) (Nat.le_refl _))).mono ?_
    rintro e w2 ⟨rfl, hb2⟩
    have hB2 := hide ((bel1 w _).trans (hb2.mono (by simp)))
    clear hb2
    go_wp2
    go_ret
    exact ⟨rfl, unhide hB2⟩
  have hlen : l.length ≤ 1048576 := by have := hzl hz; omega
  clear hzl
  have hsp := fun b w hb hc => lateS_some ep fa b 0 l.length l now most w hb hc hlen (Nat.le_refl _)
  have him := fun b w hb hc => himpl ep fa b 0 l.length l now most w hb hc hlen (Nat.le_refl _)
  generalize lateB ep fa l now most = lt at hsp him
  generalize lateOk ep fa l now most = ok at hsp him
  have HSP := hide hsp
  have HIM := hide him
  clear hsp him wf1 wf2
  have hlt : (lt != lt) = false := by cases lt <;> rfl
  have hok : (ok != ok) = false := by cases ok <;> rfl
  cases lt <;> cases ok
  all_goals
    clear hlt hok
    go_enter Try.func7, Try.ntmps7
    go_wp2_with fail
    refine (unhide HSZ _ ((unhide HC).below (bel1 w _) (Nat.le_refl _))).mono ?_
    rintro e w2 ⟨rfl, hb2⟩
    simp only [World.size_alloc] at hb2
    have hx2 := boxcell hb2
    have H2 := hide hb2
    have hz2 : w.heap.size + 1 ≤ w2.heap.size := by have := hb2.size; simp at this; omega
    clear hb2
    go_wp2_with fail
    refine (toLane_any ep fa a cap l _ ((unhide HC).below ((bel1 w _).trans ((unhide H2).mono (by omega))) (Nat.le_refl _)) hlen).mono ?_
    rintro e w3 ⟨b3, rfl, hb3, hrow3, hbel3⟩
    have hrow3 := hide hrow3
    have H3 := hide ((unhide H2).trans (hbel3.mono hz2))
    have hx3 := boxcell (unhide H3)
    have hz3 : w.heap.size + 1 ≤ w3.heap.size := by have := hbel3.size; omega
    clear hx2 hbel3
    go_wp2_with fail
    refine (unhide HSP b3 _ (unhide hrow3).lt (at_row (unhide hrow3))).mono ?_
    rintro e w4 ⟨rfl, hb4⟩
    have H4 := hide ((unhide H3).trans (hb4.mono hz3))
    have hx4 := boxcell (unhide H4)
    have hz4 : w.heap.size + 1 ≤ w4.heap.size := by have := hb4.size; omega
    clear hx3 hb4
    go_wp2_with fail
    refine (toLane_any ep fa a cap l _ ((unhide HC).below ((bel1 w _).trans ((unhide H4).mono (by omega))) (Nat.le_refl _)) hlen).mono ?_
    rintro e w5 ⟨b5, rfl, hb5, hrow5, hbel5⟩
    have hrow5 := hide hrow5
    have H5 := hide ((unhide H4).trans (hbel5.mono hz4))
    have hx5 := boxcell (unhide H5)
    have hz5 : w.heap.size + 1 ≤ w5.heap.size := by have := hbel5.size; omega
    clear hx4 hbel5
    go_wp2_with fail
    refine (unhide HIM b5 _ ?_ (at_row ((unhide hrow5).alloc _))).mono ?_
    · have := (unhide hrow5).lt; simp; omega
    rintro e w6 ⟨rfl, hb6⟩
    simp only [World.size_alloc] at hb6
    have hrow6 := hide (((unhide hrow5).alloc _).of_block (hb6.block b5 (by have := (unhide hrow5).lt; omega)))
    have H6 := hide (((unhide H5).alloc hz5 _).trans (hb6.mono (by omega)))
    have hx6 := boxcell (unhide H6)
    have hX6 := boxcell hb6
    have hz6 : w5.heap.size + 1 ≤ w6.heap.size := by have := hb6.size; simp at this; omega
    clear hx5 hb6
    go_wp2_with fail
    have HS0 : Hid (LAt w6.drew a l) := (unhide HC).below (((bel1 w _).trans ((unhide H6).mono (by omega))).drew) (Nat.le_refl _)
    have HS6 : Hid (LAt w6.drew (some ⟨b5, 0, none⟩) l) := LAt.row (unhide hrow6).drew
    have HB6 : Hid (Below w.heap.size w w6.drew) := ((bel1 w _).trans ((unhide H6).mono (by omega))).drew
    go_region_with (first | (go_at_call 11; refine (toLane_any ep fa a cap l _ (unhide HS0) hlen).mono ?_; rintro e w7 ⟨b7, rfl, hb7, hrow7, hbel7⟩; have hX7 := fun o => hbel7.cell (p := ⟨w5.heap.size, o, none⟩) (by simp; omega); have hrow7 := hide hrow7; have hbel7 := hide hbel7) | (go_at_call 13; refine (eqLane_same ep fa (some ⟨b5, 0, none⟩) (some ⟨b7, 0, none⟩) l.length l.length l _ ((unhide HS6).below (unhide hbel7) (Nat.le_refl _)) (LAt.row (unhide hrow7)) hl).mono ?_; rintro e w8 ⟨rfl, hbel8⟩; have hbel8 := hide hbel8))
    all_goals go_wp2
    all_goals
      go_ret
      exact ⟨rfl, ((unhide HB6).trans ((unhide hbel7).mono (unhide HB6).size)).trans ((unhide hbel8).mono (Nat.le_trans (unhide HB6).size (unhide hbel7).size))⟩

theorem own : ownKnob Try.prog.godebug = none := by kernel_rfl
theorem laidOut : laidOutB Try.prog = true := by kernel_rfl

set_option maxRecDepth 100000 in
theorem lifted (himpl : Impl) (os : Os) (started : os.Started) (H : Type) (enc : TypeId × Value → H) :
    ReturnsInHanded {} Try.checked os 7 .any (Rows.fnExactLateOnSpec.pre6 enc Try.prog Try.f7 Rows.fnExactLateOnRow.domain false) (Rows.fnExactLateOnSpec.post enc Try.prog Try.f7 false true false false) := by
  refine returnsInHanded_of_change (C := Try.checked) own started (by kernel_rfl) Try.func7
    (ChangeSpec.witness6 (enc := enc) (C := Try.checked) false ⟨#[], #[.agg #[.int .i64 0, .int .i64 0, .slice none 0 0], .int .i64 0, .int .i64 0], []⟩ 8 (by kernel_rfl) (by kernel_rfl) (by kernel_rfl) (by kernel_rfl)) ?_
  intro W base args ds gs before hval0 hW hcnd _
  have hval : ∀ (j : Nat) t v, Try.f7.params[j]? = some t → args[j]? = some v → Value.okWide Try.prog W .any base t v := hval0
  have hW' := hW
  obtain ⟨p, q, hA0, hV, rfl, hfz, hnd⟩ := hW
  have hA : DataW.TrodAll enc Try.prog W 0 (fun _ => true) true Try.f7.params.toList args.toList ds p := hA0
  rw [Try.params7] at hA hval
  obtain ⟨v0, vs0, d0, ds0, p0, q0, hargs, rfl, rfl, h0, r0⟩ := trodAll_cons hA
  obtain ⟨v1, vs1, d1, ds1, p1, q1, rfl, rfl, rfl, h1, r1⟩ := trodAll_cons r0
  obtain ⟨v2, vs2, d2, ds2, p2, q2, rfl, rfl, rfl, h2, r2⟩ := trodAll_cons r1
  obtain ⟨rfl, rfl, rfl⟩ := trodAll_nil r2
  obtain rfl : args = #[v0, v1, v2] := by cases args; simp_all
  obtain ⟨rfl, rfl⟩ := trodVars_none hV
  have k0 := h0
  have lt0 : ∀ x ∈ p0, x.block < W.heap.size := by obtain ⟨m, hm⟩ := k0; exact DataW.trod_lt m _ _ _ hm
  obtain ⟨cs0, rfl, sz0⟩ := okWide_struct Try.underlying24 (hval 0 24 v0 rfl rfl)
  obtain ⟨ca0, cb0, cc0, rfl⟩ := Open.array3 (sz0.trans (show Try.prog.cellsOf 24 = 3 by kernel_rfl))
  obtain ⟨_, _, g0a⟩ := Open.field_at Try.underlying24 (by kernel_rfl) h0 0 _ rfl _ rfl
  obtain ⟨_, _, g0b⟩ := Open.field_at Try.underlying24 (by kernel_rfl) h0 1 _ rfl _ rfl
  obtain ⟨_, _, g0c⟩ := Open.field_at Try.underlying24 (by kernel_rfl) h0 2 _ rfl _ rfl
  obtain ⟨lim0, e0a, _, _⟩ := DataW.trod_int Try.underlying3 g0a
  obtain ⟨nx0, e0b, _, _⟩ := DataW.trod_int Try.underlying3 g0b
  obtain ⟨P0, C0, L0, e0c, f0, u0, i0, t0⟩ := Waits.open_of Try.underlying22 Try.underlying71 (by kernel_rfl) (by kernel_rfl) Try.underlying3 Try.underlying3 g0c
  simp only [List.cons.injEq, and_true] at e0a e0b
  subst e0a e0b e0c
  have k1 := h1
  have lt1 : ∀ x ∈ p1, x.block < W.heap.size := by obtain ⟨m, hm⟩ := k1; exact DataW.trod_lt m _ _ _ hm
  obtain ⟨a1, rfl, rfl, rfl, w1⟩ := open_int Try.underlying3 (hval 1 3 v1 rfl rfl) h1
  have k2 := h2
  have lt2 : ∀ x ∈ p2, x.block < W.heap.size := by obtain ⟨m, hm⟩ := k2; exact DataW.trod_lt m _ _ _ hm
  obtain ⟨a2, rfl, rfl, rfl, w2⟩ := open_int Try.underlying3 (hval 2 3 v2 rfl rfl) h2
  clear hA0 hval0
  refine (walk himpl lim0 nx0 P0 C0 L0 a1 a2 W f0 u0 i0 t0 w1 w2).mono fun e W' ⟨he, bel⟩ => ?_
  subst he
  exact ⟨_, rfl, _, _, _, [], _, [], hW', trodAll_mk1 (shut_bool Try.underlying4 _), (trodAll_cons_mk (Below.trod laidOut (by kernel_rfl) (of_decide_eq_true (by kernel_rfl)) k0 bel lt0) (trodAll_cons_mk (Below.trod laidOut (by kernel_rfl) (of_decide_eq_true (by kernel_rfl)) k1 bel lt1) (trodAll_cons_mk (Below.trod laidOut (by kernel_rfl) (of_decide_eq_true (by kernel_rfl)) k2 bel lt2) trodAll_mk0))), rfl, bel.frame _, fun h => by cases h⟩

theorem over (himpl : Impl) : Rows.fnExactLateOnRow.holds Try.pinned (OpenSpec.ofChange Rows.fnExactLateOnSpec) :=
  OpenClaim.holds_of_wide 7 Try.f7 rfl rfl rfl rfl rfl rfl rfl ⟨rfl, rfl, rfl, rfl, rfl⟩ rfl rfl rfl rfl rfl (by kernel_rfl) Try.func7 (by kernel_rfl)
    (of_decide_eq_true (by kernel_rfl)) (by unfold Func.isWrapper; first | (rw [if_pos (by decide +kernel)]; kernel_rfl) | (rw [if_neg (by decide +kernel)]; exact ⟨rfl, rfl⟩))
    (fun os started H enc _ => lifted himpl os started H enc)

end LateOnL
end Go.Proofs.Ytncdoghnfgnafaa
