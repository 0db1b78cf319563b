/-
  FnExactGoodCmd returns true for every command: the program's GoodCmd answers as the model's does and leaves its argument alone. No condition.
-/
import Derived.Test.YtncmehgjpifinacCmd
import Derived.Test.YtncmehgjpifinacGoodCmdS
import Derived.Test.YtncmehgjpifinacGoodCmdJ
import Derived.OpenShut
import Derived.Test.YtncmehgjpifinacOpen
import Derived.ChangeOld
import Derived.Deep.RegionWith
namespace Go.Proofs.Ytncmehgjpifinac
namespace GoodCmdL
open Go.ChangeShapes Go.WideShapes Go.ChangeAt Go.RowKit Base
set_option linter.unusedVariables false

set_option maxHeartbeats 1000000 in
theorem walk (nm : ByteArray) (a : Option Addr) (cap : Nat) (ks : List ByteArray) (f x n : Int) (dt : ByteArray) (q : Bool) (w : World) (hc : StrsAt w a ks)
    (hnm : nm.size ≤ maxLen) (hdt : dt.size ≤ maxLen) (hl : ks.length ≤ maxLen) (hs : ∀ s ∈ ks, s.size ≤ maxLen) :
    Calls Try.prog 3 #[.agg #[.string nm, .slice a ks.length cap, .int .i64 f, .int .i64 x, .int .i64 n, .string dt, .bool q]] w fun e w' =>
      e = .returned (.bool true) ∧ Below w.heap.size w w' := by
  have HC := hide hc
  have HS := hide hs
  have hzl := @CmdC.szC_len nm ks dt 1048576
  have hsz := fun w' (h : StrsAt w' a ks) => CmdC.sz_any nm a cap ks f x n dt q 1048576 w' h hnm hdt hl hs (by omega) (by omega)
  generalize CmdC.szC nm ks dt 1048576 = z at hzl hsz
  have HSZ := hide hsz
  clear hc hs hsz
  by_cases hz : z < 0
  · clear hzl
    go_enter Try.func3, Try.ntmps3
    go_wp2_with fail
    refine (unhide HSZ _ ((unhide HC).below (bel1 w _) (Nat.le_refl _))).mono ?_
    rintro e w2 ⟨rfl, hb2⟩
    have hB2 := hide ((bel1 w _).trans (hb2.mono (by simp)))
    clear hb2
    go_wp2
    go_ret
    exact ⟨rfl, unhide hB2⟩
  have hlen : ks.length ≤ 1048576 := by have := hzl hz; omega
  clear hzl
  cases hG : GoodCmd.gcB (Kind.kindN nm.toList) ks f x n dt q
  all_goals
    have HG := hide hG
    clear hG
    go_enter Try.func3, Try.ntmps3
    go_wp2_with fail
    refine (unhide HSZ _ ((unhide HC).below (bel1 w _) (Nat.le_refl _))).mono ?_
    rintro e w2 ⟨rfl, hb2⟩
    simp only [World.size_alloc] at hb2
    have hx2 := boxcell hb2
    have H2 := hide hb2
    have hz2 : w.heap.size + 1 ≤ w2.heap.size := by have := hb2.size; simp at this; omega
    clear hb2
    go_wp2_with fail
    refine (CmdC.to_any nm a cap ks f x n dt q _ ((unhide HC).below ((bel1 w _).trans ((unhide H2).mono (by omega))) (Nat.le_refl _)) hlen).mono ?_
    rintro e w3 ⟨b3, rfl, hb3, hrow3, hbel3⟩
    have hrow3 := hide hrow3
    have H3 := hide ((unhide H2).trans (hbel3.mono hz2))
    have hx3 := boxcell (unhide H3)
    have hz3 : w.heap.size + 1 ≤ w3.heap.size := by have := hbel3.size; omega
    clear hx2 hbel3
    go_wp2_with fail
    refine (GoodCmd.spec_any nm b3 0 ks.length ks f x n dt q _ (unhide hrow3).lt (fun i hi => by rw [Nat.zero_add]; exact (unhide hrow3).cell hi) hl (unhide HS) hdt).mono ?_
    rintro e w4 ⟨rfl, hb4⟩
    rw [unhide HG]
    have H4 := hide ((unhide H3).trans (hb4.mono hz3))
    have hx4 := boxcell (unhide H4)
    have hz4 : w.heap.size + 1 ≤ w4.heap.size := by have := hb4.size; omega
    clear hx3 hb4
    go_wp2_with fail
    refine (CmdC.to_any nm a cap ks f x n dt q _ ((unhide HC).below ((bel1 w _).trans ((unhide H4).mono (by omega))) (Nat.le_refl _)) hlen).mono ?_
    rintro e w5 ⟨b5, rfl, hb5, hrow5, hbel5⟩
    have hrow5 := hide hrow5
    have H5 := hide ((unhide H4).trans (hbel5.mono hz4))
    have hx5 := boxcell (unhide H5)
    have hz5 : w.heap.size + 1 ≤ w5.heap.size := by have := hbel5.size; omega
    clear hx4 hbel5
    go_wp2_with fail
    refine (GoodCmdI.impl_any nm b5 0 ks.length ks f x n dt q _ ?_ ?_ hl (unhide HS) hdt).mono ?_
    · have := (unhide hrow5).lt; simp; omega
    · intro i hi; rw [Nat.zero_add]; exact ((unhide hrow5).alloc _).cell hi
    rintro e w6 ⟨rfl, hb6⟩
    rw [unhide HG]
    simp only [World.size_alloc] at hb6
    have hrow6 := hide (((unhide hrow5).alloc _).of_block (hb6.block b5 (by have := (unhide hrow5).lt; omega)))
    have H6 := hide (((unhide H5).alloc hz5 _).trans (hb6.mono (by omega)))
    have hx6 := boxcell (unhide H6)
    have hX6 := boxcell hb6
    have hz6 : w5.heap.size + 1 ≤ w6.heap.size := by have := hb6.size; simp at this; omega
    clear hx5 hb6
    go_wp2_with fail
    have HS0 : Hid (StrsAt w6.drew a ks) := (unhide HC).below (((bel1 w _).trans ((unhide H6).mono (by omega))).drew) (Nat.le_refl _)
    have HS6 : Hid (StrsAt w6.drew (some ⟨b5, 0, none⟩) ks) := StrsAt.row (unhide hrow6).drew
    have HB6 : Hid (Below w.heap.size w w6.drew) := ((bel1 w _).trans ((unhide H6).mono (by omega))).drew
    go_region_with (first | (go_at_call 8; refine (CmdC.to_any nm a cap ks f x n dt q _ (unhide HS0) hlen).mono ?_; rintro e w7 ⟨b7, rfl, hb7, hrow7, hbel7⟩; have hX7 := fun o => hbel7.cell (p := ⟨w5.heap.size, o, none⟩) (by simp; omega); have hrow7 := hide hrow7; have hbel7 := hide hbel7) | (go_at_call 10; refine (CmdC.eq_same nm (some ⟨b5, 0, none⟩) (some ⟨b7, 0, none⟩) ks.length ks.length ks f x n dt q _ ((unhide HS6).below (unhide hbel7) (Nat.le_refl _)) (StrsAt.row (unhide hrow7)) hl).mono ?_; rintro e w8 ⟨rfl, hbel8⟩; have hbel8 := hide hbel8))
    all_goals go_wp2
    all_goals
      go_ret
      exact ⟨rfl, ((unhide HB6).trans ((unhide hbel7).mono (unhide HB6).size)).trans ((unhide hbel8).mono (Nat.le_trans (unhide HB6).size (unhide hbel7).size))⟩

theorem own : ownKnob Try.prog.godebug = none := by kernel_rfl
theorem laidOut : laidOutB Try.prog = true := by kernel_rfl

set_option maxRecDepth 100000 in
theorem lifted (os : Os) (started : os.Started) (H : Type) (enc : TypeId × Value → H) :
    ReturnsInHanded {} Try.checked os 3 .any (Rows.fnExactGoodCmdSpec.pre6 enc Try.prog Try.f3 Rows.fnExactGoodCmdRow.domain false) (Rows.fnExactGoodCmdSpec.post enc Try.prog Try.f3 false true false false) := by
  refine returnsInHanded_of_change (C := Try.checked) own started (by kernel_rfl) Try.func3
    (ChangeSpec.witness6 (enc := enc) (C := Try.checked) false ⟨#[], #[.agg #[.string ByteArray.empty, .slice none 0 0, .int .i64 0, .int .i64 0, .int .i64 0, .string ByteArray.empty, .bool false]], []⟩ 8 (by kernel_rfl) (by kernel_rfl) (by kernel_rfl) (by kernel_rfl)) ?_
  intro W base args ds gs before hval0 hW hcnd _
  have hval : ∀ (j : Nat) t v, Try.f3.params[j]? = some t → args[j]? = some v → Value.okWide Try.prog W .any base t v := hval0
  have hW' := hW
  obtain ⟨p, q, hA0, hV, rfl, hfz, hnd⟩ := hW
  have hA : DataW.TrodAll enc Try.prog W 0 (fun _ => true) true Try.f3.params.toList args.toList ds p := hA0
  rw [Try.params3] at hA hval
  obtain ⟨v0, vs0, d0, ds0, p0, q0, hargs, rfl, rfl, h0, r0⟩ := trodAll_cons hA
  obtain ⟨rfl, rfl, rfl⟩ := trodAll_nil r0
  obtain rfl : args = #[v0] := by cases args; simp_all
  obtain ⟨rfl, rfl⟩ := trodVars_none hV
  obtain ⟨cs, rfl, hsz⟩ := okWide_struct Try.underlying24 (hval 0 24 v0 rfl rfl)
  obtain ⟨c0, c1, c2, c3, c4, c5, c6, rfl⟩ := Open.array7 (hsz.trans (show Try.prog.cellsOf 24 = 7 by kernel_rfl))
  have k0 := h0
  have lt0 : ∀ x ∈ p0, x.block < W.heap.size := by obtain ⟨m, hm⟩ := k0; exact DataW.trod_lt m _ _ _ hm
  obtain ⟨n0, y0, g0⟩ := Open.field_at Try.underlying24 (by kernel_rfl) h0 0 _ rfl _ rfl
  obtain ⟨n1, y1, g1⟩ := Open.field_at Try.underlying24 (by kernel_rfl) h0 1 _ rfl _ rfl
  obtain ⟨n2, y2, g2⟩ := Open.field_at Try.underlying24 (by kernel_rfl) h0 2 _ rfl _ rfl
  obtain ⟨n3, y3, g3⟩ := Open.field_at Try.underlying24 (by kernel_rfl) h0 3 _ rfl _ rfl
  obtain ⟨n4, y4, g4⟩ := Open.field_at Try.underlying24 (by kernel_rfl) h0 4 _ rfl _ rfl
  obtain ⟨n5, y5, g5⟩ := Open.field_at Try.underlying24 (by kernel_rfl) h0 5 _ rfl _ rfl
  obtain ⟨n6, y6, g6⟩ := Open.field_at Try.underlying24 (by kernel_rfl) h0 6 _ rfl _ rfl
  obtain ⟨nm, e0, _, hnm⟩ := DataW.trod_string Try.underlying9 g0
  obtain ⟨a, cap, ks, e1, hks, hkl, hkb⟩ := Open.strs_of Try.underlying22 Try.underlying9 (by kernel_rfl) g1
  obtain ⟨f, e2, _, _⟩ := DataW.trod_int Try.underlying3 g2
  obtain ⟨x, e3, _, _⟩ := DataW.trod_int Try.underlying3 g3
  obtain ⟨n, e4, _, _⟩ := DataW.trod_int Try.underlying3 g4
  obtain ⟨dt, e5, _, hdt⟩ := DataW.trod_string Try.underlying9 g5
  obtain ⟨q, e6, _⟩ := DataW.trod_bool Try.underlying4 g6
  simp only [List.cons.injEq, and_true] at e0 e2 e3 e4 e5 e6
  subst e0 e1 e2 e3 e4 e5 e6
  clear hA0 hval0
  refine (walk nm a cap ks f x n dt q W hks hnm hdt hkl hkb).mono fun e W' ⟨he, bel⟩ => ?_
  subst he
  exact ⟨_, rfl, _, _, _, [], _, [], hW', trodAll_mk1 (shut_bool Try.underlying4 _), (trodAll_cons_mk (Below.trod laidOut (by kernel_rfl) (of_decide_eq_true (by kernel_rfl)) k0 bel lt0) trodAll_mk0), rfl, bel.frame _, fun h => by cases h⟩

theorem over : Rows.fnExactGoodCmdRow.holds Try.pinned (OpenSpec.ofChange Rows.fnExactGoodCmdSpec) :=
  OpenClaim.holds_of_wide 3 Try.f3 rfl rfl rfl rfl rfl rfl rfl ⟨rfl, rfl, rfl, rfl, rfl⟩ rfl rfl rfl rfl rfl (by kernel_rfl) Try.func3 (by kernel_rfl)
    (of_decide_eq_true (by kernel_rfl)) (by unfold Func.isWrapper; first | (rw [if_pos (by decide +kernel)]; kernel_rfl) | (rw [if_neg (by decide +kernel)]; exact ⟨rfl, rfl⟩))
    (fun os started H enc _ => lifted os started H enc)
end GoodCmdL

theorem goodCmd_holds : Rows.FnExactGoodCmdSaid := GoodCmdL.over
end Go.Proofs.Ytncmehgjpifinac
