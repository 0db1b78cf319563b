/-
  FnExactValuesText returns true for every slice of items and either token, where strconv's and math/bits' variables hold what the program's text lays in them; and the card that ties them to that text. No other condition.
-/
import Derived.Test.YtjlmhkclokjpnaaDoorItemsA
import Derived.Test.YtjlmhkclokjpnaaDoorValsS
import Derived.Test.YtjlmhkclokjpnaaDoorValsI
import Derived.Test.YtjlmhkclokjpnaaDoorOpenItems
import Derived.Test.YtjlmhkclokjpnaaDoorTie
import Derived.Test.YtjlmhkclokjpnaaDoorCards
import Derived.ProofKit
import Derived.LaidMore
import Derived.OpenShut
import Derived.ChangeOld
import Derived.Stop.Joined
import Derived.Stop.LaidErr
import Derived.Lib.LaidTab
import Derived.SevenTiedAt
namespace Go.Proofs.YtjlmhkclokjpnaaDoor
namespace ValuesTextL
open Go.ChangeShapes Go.WideShapes Go.ChangeAt Go.RowKit Base Items Vals
set_option linter.unusedVariables false

set_option maxRecDepth 10000 in
set_option maxHeartbeats 2000000 in
theorem walk (a : Option Addr) (cap : Nat) (its : List Itm) (token : Bool) (w : World) (hc : ItemsAt w a its) (hcap : its.length ≤ cap) (hl : its.length ≤ maxLen) (hs : ∀ x ∈ its, Fits x) (hv : Tab.Has w) :
    Calls Tryd.prog 5 #[.slice a its.length cap, .bool token] w fun e w' => e = .returned (.bool true) ∧ Below w.heap.size w w' := by
  have HC := hide hc
  have HS := hide hs
  have HV := hide hv
  have hzl := @szIs_len its 1048576
  have hsz := fun w' (h : ItemsAt w' a its) => szItemS_any a cap its 1048576 w' h hl hs (by omega) (by omega)
  generalize szIs its 1048576 = z at hzl hsz
  have HSZ := hide hsz
  clear hc hs hsz hv
  by_cases hz : z < 0
  · clear hzl
    go_enter Tryd.func5, Tryd.ntmps5
    go_wp2_with fail
    refine (unhide HSZ _ (unhide HC)).mono ?_
    rintro e w2 ⟨rfl, hb2⟩
    have hb2 := hide hb2
    go_wp2
    go_ret
    exact ⟨rfl, unhide hb2⟩
  have hlen : its.length ≤ 1048576 := by have := hzl hz; omega
  clear hzl
  have HT := hide (fun w' (h : ItemsAt w' a its) => toItemS_any a cap its w' h hlen)
  have HM := hide (fun w' b (h : ItemsAt w' (some ⟨b, 0, none⟩) its) => Vals.spec_any (some ⟨b, 0, none⟩) its.length its token w' h hlen (unhide HS))
  have HI := hide (fun w' b (h : ItemsAt w' (some ⟨b, 0, none⟩) its) (hv : Tab.Has w') => Vals.impl_any (some ⟨b, 0, none⟩) its.length its token w' h hlen (unhide HS) hv)
  have HE := hide (fun w' b b' (h : ItemsAt w' (some ⟨b, 0, none⟩) its) (h' : ItemsAt w' (some ⟨b', 0, none⟩) its) => eqItemS_same (some ⟨b, 0, none⟩) (some ⟨b', 0, none⟩) its.length its.length its w' h h' hl)
  generalize vtR its token = R at HM HI
  obtain ⟨rs, rk⟩ := R
  cases rk
  all_goals
    go_enter Tryd.func5, Tryd.ntmps5
    go_wp2_with fail
    refine (unhide HSZ _ (unhide HC)).mono ?_
    rintro e w2 ⟨rfl, hb2⟩
    have H2 := hide hb2
    clear hb2
    go_wp2_with fail
    refine (unhide HT _ ((unhide HC).below (unhide H2) (Nat.le_refl _))).mono ?_
    rintro e w3 ⟨rfl, hrow3, hbel3⟩
    have HR3 := hide hrow3
    have H3 := hide ((unhide H2).trans (hbel3.mono (unhide H2).size))
    clear hbel3 hrow3
    go_wp2_with fail
    refine (unhide HM _ _ (ItemsAt.row (unhide HR3))).mono ?_
    rintro e w4 ⟨rfl, hb4⟩
    have H4 := hide ((unhide H3).trans (hb4.mono (unhide H3).size))
    clear hb4
    unfold vtV
    go_wp2_with fail
    refine (unhide HT _ ((unhide HC).below (unhide H4) (Nat.le_refl _))).mono ?_
    rintro e w5 ⟨rfl, hrow5, hbel5⟩
    have HR5 := hide (ItemsAt.row hrow5)
    have H5 := hide ((unhide H4).trans (hbel5.mono (unhide H4).size))
    clear hbel5 hrow5
    go_wp2_with fail
    refine (unhide HI _ _ (unhide HR5) ((unhide HV).below (unhide H5))).mono ?_
    rintro e w6 ⟨rfl, hb6⟩
    have HR6 := hide ((unhide HR5).below hb6 (Nat.le_refl _))
    have H6 := hide ((unhide H5).trans (hb6.mono (unhide H5).size))
    clear hb6
    unfold vtW
    go_wp2_with fail
    refine (unhide HT _ ((unhide HC).below (unhide H6) (Nat.le_refl _))).mono ?_
    rintro e w7 ⟨rfl, hrow7, hbel7⟩
    have HR7 := hide (ItemsAt.row hrow7)
    have HR8 := hide ((unhide HR6).below hbel7 (Nat.le_refl _))
    have H7 := hide ((unhide H6).trans (hbel7.mono (unhide H6).size))
    clear hbel7 hrow7
    go_wp2_with fail
    refine (unhide HE _ _ _ (unhide HR8) (unhide HR7)).mono ?_
    rintro e w8 ⟨rfl, hb8⟩
    have H8 := hide ((unhide H7).trans (hb8.mono (unhide H7).size))
    clear hb8
    go_wp2
    go_ret
    exact ⟨rfl, unhide H8⟩

theorem own : ownKnob Tryd.prog.godebug = none := by kernel_rfl
theorem laidOut : laidOutB Tryd.prog = true := by kernel_rfl


abbrev laid5 : List (String × DataW Unit) := Rows.fnExactValuesTextRow.laid
theorem gTab : Tryd.prog.globalNamed "internal/strconv.uint64pow10" = some 1 := by kernel_rfl
theorem tTab : (Tryd.prog.globals[1]?).map (·.type) = some 155 := by kernel_rfl
theorem cellsU : Tryd.prog.cellsOf 141 = 1 := by kernel_rfl
theorem cellsT : Tryd.prog.cellsOf 155 = 20 := by kernel_rfl
theorem tabD : (Rows.laid_internal_strconv_uint64pow10 : DataW Unit) = Lib.tabData .u64 Lib.pow10Tab := by kernel_rfl
/-- What the row's list gives the walk. -/
theorem of_laid {W : World} (h : laidMetH Tryd.prog laid5 W) : Tab.Has W := by
  rw [MakeChecks.laidMetH_plain _ _ _ (by kernel_rfl)] at h
  have h3 : laidMet Tryd.prog _ W := h.tail.tail
  rw [tabD] at h3
  exact Lib.tabIs_of_head gTab tTab Tryd.underlying155 Tryd.underlying141 cellsU cellsT h3
/-- The heap that the program's own laying leaves meets the list. -/
theorem door_met (os : Os) (args : Array Value) : laidMetH Tryd.prog laid5 ((World.doorLaid Tryd.prog 4000 os).forCall (fun _ _ => 0) ⟨#[], args, []⟩).memory :=
  laidMetH_of_parts3 (fuel := 8) (laidMet_of_run' 8 (by kernel_rfl) (by kernel_rfl)) (by kernel_rfl) (by kernel_rfl)

set_option maxRecDepth 100000 in
theorem lifted (os : Os) (started : os.Started) (H : Type) (enc : TypeId × Value → H) :
    ReturnsInHanded {} Tryd.checked os 5 .any (fun w args => (Rows.fnExactValuesTextSpec.pre enc Tryd.prog Tryd.f5 [] false w args ∧ laidMetH Tryd.prog laid5 w) ∧ sizedMet enc Tryd.prog Tryd.f5 (OpenSpec.ofChange Rows.fnExactValuesTextSpec) false w args)
      (Rows.fnExactValuesTextSpec.post enc Tryd.prog Tryd.f5 false true false false) := by
  refine returnsInHanded_of_change_and (C := Tryd.checked) (X := fun w _ => laidMetH Tryd.prog laid5 w) (fun _ _ _ hh h => h.of_heap hh) own started (by kernel_rfl) Tryd.func5
    (ChangeSpec.witness_shaped (enc := enc) (C := Tryd.checked) (os := os) (X := fun w _ => laidMetH Tryd.prog laid5 w) false (World.doorLaid Tryd.prog 4000 os) #[.slice none 0 0, .bool false] 8 rfl (World.shaped_of_RefB (by kernel_rfl) (by kernel_rfl)) (by kernel_rfl) (by kernel_rfl) (by kernel_rfl) (door_met os _)) ?_
  intro W base args ds gs before hval0 hW _ _ hL _
  have hval : ∀ (j : Nat) t v, Tryd.f5.params[j]? = some t → args[j]? = some v → Value.okWide Tryd.prog W .any base t v := hval0
  have hW' := hW
  obtain ⟨p, q, hA0, hV, rfl, hfz, hnd⟩ := hW
  have hA : DataW.TrodAll enc Tryd.prog W 0 (fun _ => true) true Tryd.f5.params.toList args.toList ds p := hA0
  rw [Tryd.params5] at hA hval
  obtain ⟨v0, vs0, d0, ds0, p0, q0, hargs, rfl, rfl, h0, r0⟩ := trodAll_cons hA
  obtain ⟨v1, vs1, d1, ds1, p1, q1, rfl, rfl, rfl, h1, r1⟩ := trodAll_cons r0
  obtain ⟨rfl, rfl, rfl⟩ := trodAll_nil r1
  obtain rfl : args = #[v0, v1] := by cases args; simp_all
  obtain ⟨rfl, rfl⟩ := trodVars_none hV
  have k0 := h0
  have lt0 : ∀ x ∈ p0, x.block < W.heap.size := by obtain ⟨m, hm⟩ := k0; exact DataW.trod_lt m _ _ _ hm
  obtain ⟨x0, y0, z0, rfl⟩ := okWide_slice Tryd.underlying44 (hval 0 44 v0 rfl rfl)
  obtain ⟨P0, C0, L0, e0, f0, g0, i0, u0⟩ : ∃ (a : Option Addr) (cap : Nat) (its : List Itm), Value.slice x0 y0 z0 = .slice a its.length cap ∧ ItemsAt W a its ∧ its.length ≤ cap ∧ its.length ≤ maxLen ∧ ∀ x ∈ its, Fits x := by
    obtain ⟨fuel, hf⟩ := h0
    exact Open.items_of Tryd.underlying44 Tryd.underlying76 (by kernel_rfl) (by kernel_rfl) Tryd.underlying9 Tryd.underlying3 Tryd.underlying9 Tryd.underlying3 Tryd.underlying3 hf
  simp only [Value.slice.injEq] at e0
  obtain ⟨ex0, ey0, ez0⟩ := e0
  subst x0 y0 z0
  have k1 := h1
  have lt1 : ∀ x ∈ p1, x.block < W.heap.size := by obtain ⟨m, hm⟩ := k1; exact DataW.trod_lt m _ _ _ hm
  obtain ⟨a1, rfl, rfl, rfl⟩ := open_bool Tryd.underlying4 (hval 1 4 v1 rfl rfl) h1
  clear hA0 hval0
  refine (walk P0 C0 L0 a1 W f0 g0 i0 u0 (of_laid hL)).mono fun e W' ⟨he, bel⟩ => ?_
  subst he
  exact ⟨_, rfl, _, _, _, [], _, [], hW', trodAll_mk1 (shut_bool Tryd.underlying4 _), (trodAll_cons_mk (Below.trod laidOut (by kernel_rfl) (of_decide_eq_true (by kernel_rfl)) k0 bel lt0) (trodAll_cons_mk (Below.trod laidOut (by kernel_rfl) (of_decide_eq_true (by kernel_rfl)) k1 bel lt1) trodAll_mk0)), rfl, bel.frame _, fun h => by cases h⟩

theorem over : Rows.fnExactValuesTextRow.holds Tryd.pinned (OpenSpec.ofChange Rows.fnExactValuesTextSpec) :=
  OpenClaim.holds_of_wide 5 Tryd.f5 rfl rfl rfl rfl rfl rfl rfl ⟨rfl, rfl, rfl, rfl, rfl⟩ rfl rfl rfl rfl rfl (by kernel_rfl) Tryd.func5 (by kernel_rfl)
    (of_decide_eq_true (by kernel_rfl)) (by unfold Func.isWrapper; first | (rw [if_pos (by decide +kernel)]; kernel_rfl) | (rw [if_neg (by decide +kernel)]; exact ⟨rfl, rfl⟩))
    (fun os started H enc _ => lifted os started H enc)
end ValuesTextL
theorem valuesText_card : Rows.FnExactValuesTextCardSaid :=
  Claim7.holds_tied_plain_at .later [] Rows.fnExactValuesTextCard.laidKinds true Rows.fnExactValuesTextCard.stood.harness Rows.fnExactValuesTextCard.stood.looks
    ValuesTextL.over (fun _ h => by cases h) (by kernel_rfl) (fun _ h => by cases h) fnExactValuesText_row_tie rfl ⟨rfl, rfl⟩ (by kernel_rfl) rfl
    (fun f fn hf hfn => by
      obtain rfl : f = 5 := Option.some.inj ((show Tryd.prog.funcNamed Rows.fnExactValuesTextRow.func = some 5 by kernel_rfl).symm.trans hf) |>.symm
      obtain rfl : fn = Tryd.f5 := (Option.some.inj (Tryd.func5.symm.trans hfn)).symm
      exact ⟨by kernel_rfl, fun j t ht => by
        rw [Tryd.params5] at ht
        have hm : t ∈ [44, 4] := by simpa using Array.mem_of_getElem? ht
        have hall : ([44, 4].all fun u => !Tryd.prog.wantsStandIn u) = true := by kernel_rfl
        exact (show Tryd.prog.wantsStandIn t = false by simpa using List.all_eq_true.1 hall t hm)⟩)
    (by kernel_rfl)
end Go.Proofs.YtjlmhkclokjpnaaDoor
