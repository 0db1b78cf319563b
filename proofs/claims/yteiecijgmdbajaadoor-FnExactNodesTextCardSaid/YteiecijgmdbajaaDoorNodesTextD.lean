/-
  FnExactNodesText returns true for every slice of nodes, where strconv's and math/bits' variables hold what the program's text lays in them; and the card that ties them to that text. No other condition.
-/
import Derived.Test.YteiecijgmdbajaaDoorNodeH
import Derived.Test.YteiecijgmdbajaaDoorNtS
import Derived.Test.YteiecijgmdbajaaDoorNtI
import Derived.Test.YteiecijgmdbajaaDoorNodeO
import Derived.Test.YteiecijgmdbajaaDoorTie
import Derived.Test.YteiecijgmdbajaaDoorCards
import Derived.ProofKit
import Derived.LaidMore
import Derived.OpenShut
import Derived.ShutString
import Derived.ChangeOld
import Derived.Stop.Joined
import Derived.Stop.LaidErr
import Derived.Lib.LaidTab
import Derived.SevenTiedAt
namespace Go.Proofs.YteiecijgmdbajaaDoor
namespace NodesTextL
open Go.ChangeShapes Go.WideShapes Go.ChangeAt Go.RowKit Base
open Go.ChangeMaps (open_string shut_string)
set_option linter.unusedVariables false

set_option maxRecDepth 100000 in
set_option maxHeartbeats 4000000 in
theorem walk (a : Option Addr) (cap : Nat) (l : List Nodes.D) (w : World) (hc : Nodes.LAt w a l) (hcap : l.length ≤ cap) (hl : l.length ≤ maxLen) (hs : ∀ x ∈ l, Nodes.Fits x) (hv : Tab.Has w) :
    Calls Tryd.prog 4 #[.slice a l.length cap] w fun e w' => e = .returned (.bool true) ∧ Below w.heap.size w w' := by
  have HC := hide hc
  have HV := hide hv
  have HS := hide hs
  have HLM := hide hl
  have hzl := @Nodes.szL_len l 1048576
  have hsz := Nodes.sz_any a cap l 1048576 w hc hl hs (by omega) (by omega)
  generalize Nodes.szL l 1048576 = z at hzl hsz
  have HSZ := hide hsz
  clear hc hs hsz hv
  by_cases hz : z < 0
  · clear hzl
    go_enter Tryd.func4, Tryd.ntmps4
    go_wp2_with fail
    refine (unhide HSZ).mono ?_
    rintro e w2 ⟨rfl, hb2⟩
    have hB2 := hide hb2
    clear hb2
    go_wp2
    go_ret
    exact ⟨rfl, unhide hB2⟩
  have hlen : l.length ≤ 1048576 := by have := hzl hz; omega
  clear hzl hl
  have hsp := fun b w hb hc => Nt.snt_any b 0 l.length l w hb hc (unhide HLM) (unhide HS)
  have him := fun b w hb hc hv => Nt.int_any b 0 l.length l w hb hc (unhide HLM) (unhide HS) hv
  unfold Nt.ntV at hsp him
  generalize (Nt.ntR l).s = R at hsp him
  generalize (Nt.ntR l).ok = gd at hsp him
  have HSP := hide hsp
  have HIM := hide him
  clear hsp him
  have hok : (gd != gd) = false := by cases gd <;> rfl
  go_enter Tryd.func4, Tryd.ntmps4
  go_wp2_with fail
  refine (unhide HSZ).mono ?_
  rintro e w2 ⟨rfl, hb2⟩
  have B2 := hide hb2
  clear hb2
  go_wp2_with fail
  refine (Nodes.to_any a cap l _ ((unhide HC).below (unhide B2) (Nat.le_refl _)) hlen).mono ?_
  rintro e w3 ⟨rfl, hrow3, hb3⟩
  have hrow3 := hide hrow3
  have B3 := hide ((unhide B2).trans (hb3.mono (unhide B2).size))
  clear hb3
  go_wp2_with fail
  refine (unhide HSP _ _ (unhide hrow3).lt (Nodes.at_row (unhide hrow3))).mono ?_
  rintro e w4 ⟨rfl, hb4⟩
  have B4 := hide ((unhide B3).trans (hb4.mono (unhide B3).size))
  clear hb4
  go_wp2_with fail
  refine (Nodes.to_any a cap l _ ((unhide HC).below (unhide B4) (Nat.le_refl _)) hlen).mono ?_
  rintro e w5 ⟨rfl, hrow5, hb5⟩
  have hrow5 := hide hrow5
  have B5 := hide ((unhide B4).trans (hb5.mono (unhide B4).size))
  clear hb5
  go_wp2_with fail
  refine (unhide HIM _ _ (unhide hrow5).lt (Nodes.at_row (unhide hrow5)) ((unhide HV).below (unhide B5))).mono ?_
  rintro e w6 ⟨rfl, hb6⟩
  have hrow6 := hide ((unhide hrow5).of_block (hb6.block _ (unhide hrow5).lt))
  have B6 := hide ((unhide B5).trans (hb6.mono (unhide B5).size))
  clear hb6
  go_wp2_with fail
  refine (Nodes.to_any a cap l _ ((unhide HC).below (unhide B6) (Nat.le_refl _)) hlen).mono ?_
  rintro e w8 ⟨rfl, hrow8, hb8⟩
  have hrow8 := hide hrow8
  have hrow78 := hide ((unhide hrow6).of_block (hb8.block _ (unhide hrow6).lt))
  have B8 := hide ((unhide B6).trans (hb8.mono (unhide B6).size))
  clear hb8
  go_wp2_with fail
  refine (Nodes.eq_same _ _ _ _ l _ (Nodes.LAt.row (unhide hrow78)) (Nodes.LAt.row (unhide hrow8)) (unhide HLM)).mono ?_
  rintro e w9 ⟨rfl, hb9⟩
  have B9 := hide ((unhide B8).trans (hb9.mono (unhide B8).size))
  clear hb9
  go_wp2
  go_ret
  exact ⟨rfl, unhide B9⟩

theorem own : ownKnob Tryd.prog.godebug = none := by kernel_rfl
theorem laidOut : laidOutB Tryd.prog = true := by kernel_rfl


abbrev laid5 : List (String × DataW Unit) := Rows.fnExactNodesTextRow.laid
theorem gTab : Tryd.prog.globalNamed "internal/strconv.uint64pow10" = some 1 := by kernel_rfl
theorem tTab : (Tryd.prog.globals[1]?).map (·.type) = some 94 := by kernel_rfl
theorem cellsU : Tryd.prog.cellsOf 77 = 1 := by kernel_rfl
theorem cellsT : Tryd.prog.cellsOf 94 = 20 := by kernel_rfl
theorem tabD : (Rows.laid_internal_strconv_uint64pow10 : DataW Unit) = Lib.tabData .u64 Lib.pow10Tab := by kernel_rfl
/-- What the row's list gives the walk. -/
theorem of_laid {W : World} (h : laidMetH Tryd.prog laid5 W) : Tab.Has W := by
  rw [MakeChecks.laidMetH_plain _ _ _ (by kernel_rfl)] at h
  have h3 : laidMet Tryd.prog _ W := h.tail.tail
  rw [tabD] at h3
  exact Lib.tabIs_of_head gTab tTab Tryd.underlying94 Tryd.underlying77 cellsU cellsT h3
/-- The heap that the program's own laying leaves meets the list. -/
theorem door_met (os : Os) (args : Array Value) : laidMetH Tryd.prog laid5 ((World.doorLaid Tryd.prog 4000 os).forCall (fun _ _ => 0) ⟨#[], args, []⟩).memory :=
  laidMetH_of_parts3 (fuel := 8) (laidMet_of_run' 8 (by kernel_rfl) (by kernel_rfl)) (by kernel_rfl) (by kernel_rfl)

set_option maxRecDepth 100000 in
theorem lifted (os : Os) (started : os.Started) (H : Type) (enc : TypeId × Value → H) :
    ReturnsInHanded {} Tryd.checked os 4 .any (fun w args => (Rows.fnExactNodesTextSpec.pre enc Tryd.prog Tryd.f4 [] false w args ∧ laidMetH Tryd.prog laid5 w) ∧ sizedMet enc Tryd.prog Tryd.f4 (OpenSpec.ofChange Rows.fnExactNodesTextSpec) false w args)
      (Rows.fnExactNodesTextSpec.post enc Tryd.prog Tryd.f4 false true false false) := by
  refine returnsInHanded_of_change_and (C := Tryd.checked) (X := fun w _ => laidMetH Tryd.prog laid5 w) (fun _ _ _ hh h => h.of_heap hh) own started (by kernel_rfl) Tryd.func4
    (ChangeSpec.witness_shaped (enc := enc) (C := Tryd.checked) (os := os) (X := fun w _ => laidMetH Tryd.prog laid5 w) false (World.doorLaid Tryd.prog 4000 os) #[.slice none 0 0] 8 rfl (World.shaped_of_RefB (by kernel_rfl) (by kernel_rfl)) (by kernel_rfl) (by kernel_rfl) (by kernel_rfl) (door_met os _)) ?_
  intro W base args ds gs before hval0 hW _ _ hL _
  have hval : ∀ (j : Nat) t v, Tryd.f4.params[j]? = some t → args[j]? = some v → Value.okWide Tryd.prog W .any base t v := hval0
  have hW' := hW
  obtain ⟨p, q, hA0, hV, rfl, hfz, hnd⟩ := hW
  have hA : DataW.TrodAll enc Tryd.prog W 0 (fun _ => true) true Tryd.f4.params.toList args.toList ds p := hA0
  rw [Tryd.params4] at hA hval
  obtain ⟨v0, vs0, d0, ds0, p0, q0, hargs, rfl, rfl, h0, r0⟩ := trodAll_cons hA
  obtain ⟨rfl, rfl, rfl⟩ := trodAll_nil r0
  obtain rfl : args = #[v0] := by cases args; simp_all
  obtain ⟨rfl, rfl⟩ := trodVars_none hV
  have k0 := h0
  have lt0 : ∀ x ∈ p0, x.block < W.heap.size := by obtain ⟨m, hm⟩ := k0; exact DataW.trod_lt m _ _ _ hm
  obtain ⟨x0, y0, z0, rfl⟩ := okWide_slice Tryd.underlying28 (hval 0 28 v0 rfl rfl)
  obtain ⟨P0, C0, L0, e0, f0, g0, i0, u0⟩ : ∃ (a : Option Addr) (cap : Nat) (l : List Nodes.D), Value.slice x0 y0 z0 = .slice a l.length cap ∧ Nodes.LAt W a l ∧ l.length ≤ cap ∧ l.length ≤ maxLen ∧ ∀ x ∈ l, Nodes.Fits x := by
    obtain ⟨fuel, hf⟩ := h0
    exact Nodes.open_of Tryd.underlying28 Tryd.underlying46 (by kernel_rfl) (by kernel_rfl) Tryd.underlying9 Tryd.underlying3 hf
  simp only [Value.slice.injEq] at e0
  obtain ⟨ex0, ey0, ez0⟩ := e0
  subst x0 y0 z0
  clear hA0 hval0
  refine (walk P0 C0 L0 W f0 g0 i0 u0 (of_laid hL)).mono fun e W' ⟨he, bel⟩ => ?_
  subst he
  exact ⟨_, rfl, _, _, _, [], _, [], hW', trodAll_mk1 (shut_bool Tryd.underlying4 _), (trodAll_cons_mk (Below.trod laidOut (by kernel_rfl) (of_decide_eq_true (by kernel_rfl)) k0 bel lt0) trodAll_mk0), rfl, bel.frame _, fun h => by cases h⟩

theorem over : Rows.fnExactNodesTextRow.holds Tryd.pinned (OpenSpec.ofChange Rows.fnExactNodesTextSpec) :=
  OpenClaim.holds_of_wide 4 Tryd.f4 rfl rfl rfl rfl rfl rfl rfl ⟨rfl, rfl, rfl, rfl, rfl⟩ rfl rfl rfl rfl rfl (by kernel_rfl) Tryd.func4 (by kernel_rfl)
    (of_decide_eq_true (by kernel_rfl)) (by unfold Func.isWrapper; first | (rw [if_pos (by decide +kernel)]; kernel_rfl) | (rw [if_neg (by decide +kernel)]; exact ⟨rfl, rfl⟩))
    (fun os started H enc _ => lifted os started H enc)

end NodesTextL
theorem nodesText_card : Rows.FnExactNodesTextCardSaid :=
  Claim7.holds_tied_plain_at .later [] Rows.fnExactNodesTextCard.laidKinds true Rows.fnExactNodesTextCard.stood.harness Rows.fnExactNodesTextCard.stood.looks
    NodesTextL.over (fun _ h => by cases h) (by kernel_rfl) (fun _ h => by cases h) fnExactNodesText_row_tie rfl ⟨rfl, rfl⟩ (by kernel_rfl) rfl
    (fun f fn hf hfn => by
      obtain rfl : f = 4 := Option.some.inj ((show Tryd.prog.funcNamed Rows.fnExactNodesTextRow.func = some 4 by kernel_rfl).symm.trans hf) |>.symm
      obtain rfl : fn = Tryd.f4 := (Option.some.inj (Tryd.func4.symm.trans hfn)).symm
      exact ⟨by kernel_rfl, fun j t ht => by
        rw [Tryd.params4] at ht
        have hm : t ∈ [28] := by simpa using Array.mem_of_getElem? ht
        have hall : ([28].all fun u => !Tryd.prog.wantsStandIn u) = true := by kernel_rfl
        exact (show Tryd.prog.wantsStandIn t = false by simpa using List.all_eq_true.1 hall t hm)⟩)
    (by kernel_rfl)

end Go.Proofs.YteiecijgmdbajaaDoor
