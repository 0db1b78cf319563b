/-
  FnExactGoodStore returns true for every store, given the contract of the program's GoodStore: it answers as the model's does and leaves its argument alone.
-/
import Derived.Test.YthlcmnjaimffdaaItems
import Derived.Test.YthlcmnjaimffdaaStoreS
import Derived.Test.YthlcmnjaimffdaaOpenItems
import Derived.OpenShut
import Derived.ChangeOld
import Derived.Deep.RegionWith
namespace Go.Proofs.Ythlcmnjaimffdaa
namespace GoodStoreL
open Go.ChangeShapes Go.WideShapes Go.ChangeAt Go.RowKit Base Items Store
set_option linter.unusedVariables false

/-- What the program's GoodStore must be shown to do. -/
def Impl : Prop := ∀ (lim nx : Int) (b off cap : Nat) (its : List Itm) (w : World), b < w.heap.size → (∀ i, i < its.length → At w b (off + i * 5) (its.getD i zero)) →
  its.length ≤ 1048576 → its.length ≤ cap → (∀ x ∈ its, Fits x) →
  Calls Try.prog 10 #[.agg #[.int .i64 lim, .int .i64 nx, .slice (some ⟨b, off, none⟩) its.length cap]] w fun e w' => e = .returned (.bool (gsB lim nx its)) ∧ Below w.heap.size w w'

set_option maxHeartbeats 1000000 in
theorem walk (himpl : Impl) (lim nx : Int) (a : Option Addr) (cap : Nat) (its : List Itm) (w : World) (hc : ItemsAt w a its) (hl : its.length ≤ maxLen) (hs : ∀ x ∈ its, Fits x) :
    Calls Try.prog 3 #[.agg #[.int .i64 lim, .int .i64 nx, .slice a its.length cap]] w fun e w' => e = .returned (.bool true) ∧ Below w.heap.size w w' := by
  have HC := hide hc
  have HS := hide hs
  have hzl := @szIs_len its 1048576
  have hsz := fun w' (h : ItemsAt w' a its) => szStore_any lim nx a cap its 1048576 w' h hl hs (by omega) (by omega)
  generalize szIs its 1048576 = z at hzl hsz
  have HSZ := hide hsz
  clear hc hs hsz
  by_cases hz : z < 0
  · clear hzl
    go_enter Try.func3, Try.ntmps3
    go_wp2_with fail
    refine (unhide HSZ _ ((unhide HC).below (bel1 w _) (Nat.le_refl _))).mono ?_
    rintro e w2 ⟨rfl, hb2⟩
    have hB2 := hide ((bel1 w _).trans (hb2.mono (by simp)))
    clear hb2
    go_wp2
    go_ret
    exact ⟨rfl, unhide hB2⟩
  have hlen : its.length ≤ 1048576 := by have := hzl hz; omega
  clear hzl
  cases hG : gsB lim nx its
  all_goals
    have HG := hide hG
    clear hG
    go_enter Try.func3, Try.ntmps3
    go_wp2_with fail
    refine (unhide HSZ _ ((unhide HC).below (bel1 w _) (Nat.le_refl _))).mono ?_
    rintro e w2 ⟨rfl, hb2⟩
    simp only [World.size_alloc] at hb2
    have hx2 := boxcell hb2
    have H2 := hide hb2
    have hz2 : w.heap.size + 1 ≤ w2.heap.size := by have := hb2.size; simp at this; omega
    clear hb2
    go_wp2_with fail
    refine (toStore_any lim nx a cap its _ ((unhide HC).below ((bel1 w _).trans ((unhide H2).mono (by omega))) (Nat.le_refl _)) hlen).mono ?_
    rintro e w3 ⟨b3, rfl, hb3, hrow3, hbel3⟩
    have hrow3 := hide hrow3
    have H3 := hide ((unhide H2).trans (hbel3.mono hz2))
    have hx3 := boxcell (unhide H3)
    have hz3 : w.heap.size + 1 ≤ w3.heap.size := by have := hbel3.size; omega
    clear hx2 hbel3
    go_wp2_with fail
    refine (spec_some lim nx b3 0 its.length its _ (unhide hrow3).lt (at_row (unhide hrow3)) hl (Nat.le_refl _) (unhide HS)).mono ?_
    rintro e w4 ⟨rfl, hb4⟩
    rw [unhide HG]
    have H4 := hide ((unhide H3).trans (hb4.mono hz3))
    have hx4 := boxcell (unhide H4)
    have hz4 : w.heap.size + 1 ≤ w4.heap.size := by have := hb4.size; omega
    clear hx3 hb4
    go_wp2_with fail
    refine (toStore_any lim nx a cap its _ ((unhide HC).below ((bel1 w _).trans ((unhide H4).mono (by omega))) (Nat.le_refl _)) hlen).mono ?_
    rintro e w5 ⟨b5, rfl, hb5, hrow5, hbel5⟩
    have hrow5 := hide hrow5
    have H5 := hide ((unhide H4).trans (hbel5.mono hz4))
    have hx5 := boxcell (unhide H5)
    have hz5 : w.heap.size + 1 ≤ w5.heap.size := by have := hbel5.size; omega
    clear hx4 hbel5
    go_wp2_with fail
    refine (himpl lim nx b5 0 its.length its _ ?_ (at_row ((unhide hrow5).alloc _)) hlen (Nat.le_refl _) (unhide HS)).mono ?_
    · have := (unhide hrow5).lt; simp; omega
    rintro e w6 ⟨rfl, hb6⟩
    rw [unhide HG]
    simp only [World.size_alloc] at hb6
    have hrow6 := hide (((unhide hrow5).alloc _).of_block (hb6.block b5 (by have := (unhide hrow5).lt; omega)))
    have H6 := hide (((unhide H5).alloc hz5 _).trans (hb6.mono (by omega)))
    have hx6 := boxcell (unhide H6)
    have hX6 := boxcell hb6
    have hz6 : w5.heap.size + 1 ≤ w6.heap.size := by have := hb6.size; simp at this; omega
    clear hx5 hb6
    go_wp2_with fail
    have HS0 : Hid (ItemsAt w6.drew a its) := (unhide HC).below (((bel1 w _).trans ((unhide H6).mono (by omega))).drew) (Nat.le_refl _)
    have HS6 : Hid (ItemsAt w6.drew (some ⟨b5, 0, none⟩) its) := ItemsAt.row (unhide hrow6).drew
    have HB6 : Hid (Below w.heap.size w w6.drew) := ((bel1 w _).trans ((unhide H6).mono (by omega))).drew
    go_region_with (first | (go_at_call 9; refine (toStore_any lim nx a cap its _ (unhide HS0) hlen).mono ?_; rintro e w7 ⟨b7, rfl, hb7, hrow7, hbel7⟩; have hX7 := fun o => hbel7.cell (p := ⟨w5.heap.size, o, none⟩) (by simp; omega); have hrow7 := hide hrow7; have hbel7 := hide hbel7) | (go_at_call 11; refine (eqStore_same lim nx (some ⟨b5, 0, none⟩) (some ⟨b7, 0, none⟩) its.length its.length its _ ((unhide HS6).below (unhide hbel7) (Nat.le_refl _)) (ItemsAt.row (unhide hrow7)) hl).mono ?_; rintro e w8 ⟨rfl, hbel8⟩; have hbel8 := hide hbel8))
    all_goals go_wp2
    all_goals
      go_ret
      exact ⟨rfl, ((unhide HB6).trans ((unhide hbel7).mono (unhide HB6).size)).trans ((unhide hbel8).mono (Nat.le_trans (unhide HB6).size (unhide hbel7).size))⟩

theorem own : ownKnob Try.prog.godebug = none := by kernel_rfl
theorem laidOut : laidOutB Try.prog = true := by kernel_rfl

set_option maxRecDepth 100000 in
theorem lifted (himpl : Impl) (os : Os) (started : os.Started) (H : Type) (enc : TypeId × Value → H) :
    ReturnsInHanded {} Try.checked os 3 .any (Rows.fnExactGoodStoreSpec.pre6 enc Try.prog Try.f3 Rows.fnExactGoodStoreRow.domain false) (Rows.fnExactGoodStoreSpec.post enc Try.prog Try.f3 false true false false) := by
  refine returnsInHanded_of_change (C := Try.checked) own started (by kernel_rfl) Try.func3
    (ChangeSpec.witness6 (enc := enc) (C := Try.checked) false ⟨#[], #[.agg #[.int .i64 0, .int .i64 0, .slice none 0 0]], []⟩ 8 (by kernel_rfl) (by kernel_rfl) (by kernel_rfl) (by kernel_rfl)) ?_
  intro W base args ds gs before hval0 hW hcnd _
  have hval : ∀ (j : Nat) t v, Try.f3.params[j]? = some t → args[j]? = some v → Value.okWide Try.prog W .any base t v := hval0
  have hW' := hW
  obtain ⟨p, q, hA0, hV, rfl, hfz, hnd⟩ := hW
  have hA : DataW.TrodAll enc Try.prog W 0 (fun _ => true) true Try.f3.params.toList args.toList ds p := hA0
  rw [Try.params3] at hA hval
  obtain ⟨v0, vs0, d0, ds0, p0, q0, hargs, rfl, rfl, h0, r0⟩ := trodAll_cons hA
  obtain ⟨rfl, rfl, rfl⟩ := trodAll_nil r0
  obtain rfl : args = #[v0] := by cases args; simp_all
  obtain ⟨rfl, rfl⟩ := trodVars_none hV
  obtain ⟨cs, rfl, hsz⟩ := okWide_struct Try.underlying24 (hval 0 24 v0 rfl rfl)
  obtain ⟨c0, c1, c2, rfl⟩ := Open.array3 (hsz.trans (show Try.prog.cellsOf 24 = 3 by kernel_rfl))
  have k0 := h0
  have lt0 : ∀ x ∈ p0, x.block < W.heap.size := by obtain ⟨m, hm⟩ := k0; exact DataW.trod_lt m _ _ _ hm
  obtain ⟨n0, y0, g0⟩ := Open.field_at Try.underlying24 (by kernel_rfl) h0 0 _ rfl _ rfl
  obtain ⟨n1, y1, g1⟩ := Open.field_at Try.underlying24 (by kernel_rfl) h0 1 _ rfl _ rfl
  obtain ⟨n2, y2, g2⟩ := Open.field_at Try.underlying24 (by kernel_rfl) h0 2 _ rfl _ rfl
  obtain ⟨lim, e0, _, _⟩ := DataW.trod_int Try.underlying3 g0
  obtain ⟨nx, e1, _, _⟩ := DataW.trod_int Try.underlying3 g1
  obtain ⟨a, cap, its, e2, hit, hcap, hil, hif⟩ := Open.items_of Try.underlying22 Try.underlying75 (by kernel_rfl) (by kernel_rfl) Try.underlying9 Try.underlying3 Try.underlying9 Try.underlying3 Try.underlying3 g2
  simp only [List.cons.injEq, and_true] at e0 e1
  subst e0 e1 e2
  clear hA0 hval0
  refine (walk himpl lim nx a cap its W hit hil hif).mono fun e W' ⟨he, bel⟩ => ?_
  subst he
  exact ⟨_, rfl, _, _, _, [], _, [], hW', trodAll_mk1 (shut_bool Try.underlying4 _), (trodAll_cons_mk (Below.trod laidOut (by kernel_rfl) (of_decide_eq_true (by kernel_rfl)) k0 bel lt0) trodAll_mk0), rfl, bel.frame _, fun h => by cases h⟩

theorem over (himpl : Impl) : Rows.fnExactGoodStoreRow.holds Try.pinned (OpenSpec.ofChange Rows.fnExactGoodStoreSpec) :=
  OpenClaim.holds_of_wide 3 Try.f3 rfl rfl rfl rfl rfl rfl rfl ⟨rfl, rfl, rfl, rfl, rfl⟩ rfl rfl rfl rfl rfl (by kernel_rfl) Try.func3 (by kernel_rfl)
    (of_decide_eq_true (by kernel_rfl)) (by unfold Func.isWrapper; first | (rw [if_pos (by decide +kernel)]; kernel_rfl) | (rw [if_neg (by decide +kernel)]; exact ⟨rfl, rfl⟩))
    (fun os started H enc _ => lifted himpl os started H enc)
end GoodStoreL
end Go.Proofs.Ythlcmnjaimffdaa
