/-
  FnExactGoodSession returns true for every session, given the contract of the program's GoodSession: it answers as the model's does and leaves its argument alone.
-/
import Derived.Test.YtmbkdejlbeailaaSessH
import Derived.Test.YtmbkdejlbeailaaSessS
import Derived.Test.YtmbkdejlbeailaaSlotO
import Derived.OpenShut
import Derived.ChangeOld
import Derived.Deep.RegionWith
namespace Go.Proofs.Ytmbkdejlbeailaa
namespace GoodSessionL
open Go.ChangeShapes Go.WideShapes Go.ChangeAt Go.RowKit Base Slots Sess
set_option linter.unusedVariables false

/-- What the program's GoodSession must be shown to do. -/
def Impl : Prop := ∀ (nx : Int) (b off cap : Nat) (l : List D) (w : World), b < w.heap.size → (∀ i, i < l.length → At w b (off + i * 3) (l.getD i zero)) →
  l.length ≤ 1048576 → l.length ≤ cap →
  Calls Try.prog 11 #[.agg #[.int .i64 nx, .slice (some ⟨b, off, none⟩) l.length cap]] w fun e w' => e = .returned (.bool (gsB nx l)) ∧ Below w.heap.size w w'

set_option maxHeartbeats 1000000 in
theorem walk (himpl : Impl) (nx : Int) (a : Option Addr) (cap : Nat) (l : List D) (w : World) (hc : LAt w a l) (hcap : l.length ≤ cap) (hl : l.length ≤ maxLen) (hs : ∀ x ∈ l, Fits x) :
    Calls Try.prog 3 #[.agg #[.int .i64 nx, .slice a l.length cap]] w fun e w' => e = .returned (.bool true) ∧ Below w.heap.size w w' := by
  have HC := hide hc
  have HS := hide hs
  have hzl := @szL_len l 1048576
  have hsz := fun w' (h : LAt w' a l) => szSession_any nx a cap l 1048576 w' h hl hs (by omega) (by omega)
  generalize szL l 1048576 = z at hzl hsz
  have HSZ := hide hsz
  clear hc hs hsz
  by_cases hz : z < 0
  · clear hzl
    go_enter Try.func3, Try.ntmps3
    go_wp2_with fail
    refine (unhide HSZ _ ((unhide HC).below (bel1 w _) (Nat.le_refl _))).mono ?_
    rintro e w2 ⟨rfl, hb2⟩
    have hB2 := hide ((bel1 w _).trans (hb2.mono (by simp)))
    clear hb2
    go_wp2
    go_ret
    exact ⟨rfl, unhide hB2⟩
  have hlen : l.length ≤ 1048576 := by have := hzl hz; omega
  clear hzl
  cases hG : gsB nx l
  all_goals
    have HG := hide hG
    clear hG
    go_enter Try.func3, Try.ntmps3
    go_wp2_with fail
    refine (unhide HSZ _ ((unhide HC).below (bel1 w _) (Nat.le_refl _))).mono ?_
    rintro e w2 ⟨rfl, hb2⟩
    simp only [World.size_alloc] at hb2
    have hx2 := boxcell hb2
    have H2 := hide hb2
    have hz2 : w.heap.size + 1 ≤ w2.heap.size := by have := hb2.size; simp at this; omega
    clear hb2
    go_wp2_with fail
    refine (toSession_any nx a cap l _ ((unhide HC).below ((bel1 w _).trans ((unhide H2).mono (by omega))) (Nat.le_refl _)) hlen).mono ?_
    rintro e w3 ⟨b3, rfl, hb3, hrow3, hbel3⟩
    have hrow3 := hide hrow3
    have H3 := hide ((unhide H2).trans (hbel3.mono hz2))
    have hx3 := boxcell (unhide H3)
    have hz3 : w.heap.size + 1 ≤ w3.heap.size := by have := hbel3.size; omega
    clear hx2 hbel3
    go_wp2_with fail
    refine (spec_some nx b3 0 l.length l _ (unhide hrow3).lt (at_row (unhide hrow3)) hl (Nat.le_refl _)).mono ?_
    rintro e w4 ⟨rfl, hb4⟩
    rw [unhide HG]
    have H4 := hide ((unhide H3).trans (hb4.mono hz3))
    have hx4 := boxcell (unhide H4)
    have hz4 : w.heap.size + 1 ≤ w4.heap.size := by have := hb4.size; omega
    clear hx3 hb4
    go_wp2_with fail
    refine (toSession_any nx a cap l _ ((unhide HC).below ((bel1 w _).trans ((unhide H4).mono (by omega))) (Nat.le_refl _)) hlen).mono ?_
    rintro e w5 ⟨b5, rfl, hb5, hrow5, hbel5⟩
    have hrow5 := hide hrow5
    have H5 := hide ((unhide H4).trans (hbel5.mono hz4))
    have hx5 := boxcell (unhide H5)
    have hz5 : w.heap.size + 1 ≤ w5.heap.size := by have := hbel5.size; omega
    clear hx4 hbel5
    go_wp2_with fail
    refine (himpl nx b5 0 l.length l _ ?_ (at_row ((unhide hrow5).alloc _)) hlen (Nat.le_refl _)).mono ?_
    · have := (unhide hrow5).lt; simp; omega
    rintro e w6 ⟨rfl, hb6⟩
    rw [unhide HG]
    simp only [World.size_alloc] at hb6
    have hrow6 := hide (((unhide hrow5).alloc _).of_block (hb6.block b5 (by have := (unhide hrow5).lt; omega)))
    have H6 := hide (((unhide H5).alloc hz5 _).trans (hb6.mono (by omega)))
    have hx6 := boxcell (unhide H6)
    have hX6 := boxcell hb6
    have hz6 : w5.heap.size + 1 ≤ w6.heap.size := by have := hb6.size; simp at this; omega
    clear hx5 hb6
    go_wp2_with fail
    have HS0 : Hid (LAt w6.drew a l) := (unhide HC).below (((bel1 w _).trans ((unhide H6).mono (by omega))).drew) (Nat.le_refl _)
    have HS6 : Hid (LAt w6.drew (some ⟨b5, 0, none⟩) l) := LAt.row (unhide hrow6).drew
    have HB6 : Hid (Below w.heap.size w w6.drew) := ((bel1 w _).trans ((unhide H6).mono (by omega))).drew
    go_region_with (first | (go_at_call 10; refine (toSession_any nx a cap l _ (unhide HS0) hlen).mono ?_; rintro e w7 ⟨b7, rfl, hb7, hrow7, hbel7⟩; have hX7 := fun o => hbel7.cell (p := ⟨w5.heap.size, o, none⟩) (by simp; omega); have hrow7 := hide hrow7; have hbel7 := hide hbel7) | (go_at_call 12; refine (eqSession_same nx (some ⟨b5, 0, none⟩) (some ⟨b7, 0, none⟩) l.length l.length l _ ((unhide HS6).below (unhide hbel7) (Nat.le_refl _)) (LAt.row (unhide hrow7)) hl).mono ?_; rintro e w8 ⟨rfl, hbel8⟩; have hbel8 := hide hbel8))
    all_goals go_wp2
    all_goals
      go_ret
      exact ⟨rfl, ((unhide HB6).trans ((unhide hbel7).mono (unhide HB6).size)).trans ((unhide hbel8).mono (Nat.le_trans (unhide HB6).size (unhide hbel7).size))⟩

theorem own : ownKnob Try.prog.godebug = none := by kernel_rfl
theorem laidOut : laidOutB Try.prog = true := by kernel_rfl

set_option maxRecDepth 100000 in
theorem lifted (himpl : Impl) (os : Os) (started : os.Started) (H : Type) (enc : TypeId × Value → H) :
    ReturnsInHanded {} Try.checked os 3 .any (Rows.fnExactGoodSessionSpec.pre6 enc Try.prog Try.f3 Rows.fnExactGoodSessionRow.domain false) (Rows.fnExactGoodSessionSpec.post enc Try.prog Try.f3 false true false false) := by
  refine returnsInHanded_of_change (C := Try.checked) own started (by kernel_rfl) Try.func3
    (ChangeSpec.witness6 (enc := enc) (C := Try.checked) false ⟨#[], #[.agg #[.int .i64 0, .slice none 0 0]], []⟩ 8 (by kernel_rfl) (by kernel_rfl) (by kernel_rfl) (by kernel_rfl)) ?_
  intro W base args ds gs before hval0 hW hcnd _
  have hval : ∀ (j : Nat) t v, Try.f3.params[j]? = some t → args[j]? = some v → Value.okWide Try.prog W .any base t v := hval0
  have hW' := hW
  obtain ⟨p, q, hA0, hV, rfl, hfz, hnd⟩ := hW
  have hA : DataW.TrodAll enc Try.prog W 0 (fun _ => true) true Try.f3.params.toList args.toList ds p := hA0
  rw [Try.params3] at hA hval
  obtain ⟨v0, vs0, d0, ds0, p0, q0, hargs, rfl, rfl, h0, r0⟩ := trodAll_cons hA
  obtain ⟨rfl, rfl, rfl⟩ := trodAll_nil r0
  obtain rfl : args = #[v0] := by cases args; simp_all
  obtain ⟨rfl, rfl⟩ := trodVars_none hV
  have k0 := h0
  have lt0 : ∀ x ∈ p0, x.block < W.heap.size := by obtain ⟨m, hm⟩ := k0; exact DataW.trod_lt m _ _ _ hm
  obtain ⟨cs0, rfl, sz0⟩ := okWide_struct Try.underlying24 (hval 0 24 v0 rfl rfl)
  obtain ⟨ca0, cb0, rfl⟩ := Slots.array2 (sz0.trans (show Try.prog.cellsOf 24 = 2 by kernel_rfl))
  obtain ⟨_, _, g0a⟩ := Open.field_at Try.underlying24 (by kernel_rfl) h0 0 _ rfl _ rfl
  obtain ⟨_, _, g0b⟩ := Open.field_at Try.underlying24 (by kernel_rfl) h0 1 _ rfl _ rfl
  obtain ⟨nx0, e0a, _, _⟩ := DataW.trod_int Try.underlying3 g0a
  obtain ⟨P0, C0, L0, e0b, f0, u0, i0, t0⟩ := Slots.open_of Try.underlying22 Try.underlying76 (by kernel_rfl) (by kernel_rfl) Try.underlying3 Try.underlying4 Try.underlying9 g0b
  simp only [List.cons.injEq, and_true] at e0a
  subst e0a e0b
  clear hA0 hval0
  refine (walk himpl nx0 P0 C0 L0 W f0 u0 i0 t0).mono fun e W' ⟨he, bel⟩ => ?_
  subst he
  exact ⟨_, rfl, _, _, _, [], _, [], hW', trodAll_mk1 (shut_bool Try.underlying4 _), (trodAll_cons_mk (Below.trod laidOut (by kernel_rfl) (of_decide_eq_true (by kernel_rfl)) k0 bel lt0) trodAll_mk0), rfl, bel.frame _, fun h => by cases h⟩

theorem over (himpl : Impl) : Rows.fnExactGoodSessionRow.holds Try.pinned (OpenSpec.ofChange Rows.fnExactGoodSessionSpec) :=
  OpenClaim.holds_of_wide 3 Try.f3 rfl rfl rfl rfl rfl rfl rfl ⟨rfl, rfl, rfl, rfl, rfl⟩ rfl rfl rfl rfl rfl (by kernel_rfl) Try.func3 (by kernel_rfl)
    (of_decide_eq_true (by kernel_rfl)) (by unfold Func.isWrapper; first | (rw [if_pos (by decide +kernel)]; kernel_rfl) | (rw [if_neg (by decide +kernel)]; exact ⟨rfl, rfl⟩))
    (fun os started H enc _ => lifted himpl os started H enc)

end GoodSessionL
end Go.Proofs.Ytmbkdejlbeailaa
