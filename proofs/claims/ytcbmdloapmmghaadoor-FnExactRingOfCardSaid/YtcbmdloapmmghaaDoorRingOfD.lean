/-
  FnExactRingOf returns true for every slice of nodes, where strconv's and math/bits' variables hold what the program's text lays in them; and the card that ties them to that text. No other condition.
-/
import Derived.Test.YtcbmdloapmmghaaDoorRingB
import Derived.Test.YtcbmdloapmmghaaDoorPointE
import Derived.Test.YtcbmdloapmmghaaDoorPointL
import Derived.Test.YtcbmdloapmmghaaDoorNodeM
import Derived.Test.YtcbmdloapmmghaaDoorNodeO
import Derived.Test.YtcbmdloapmmghaaDoorTie
import Derived.Test.YtcbmdloapmmghaaDoorCards
import Derived.ProofKit
import Derived.LaidMore
import Derived.OpenShut
import Derived.ChangeOld
import Derived.Stop.Joined
import Derived.Stop.LaidErr
import Derived.Lib.LaidTab
import Derived.SevenTiedAt
namespace Go.Proofs.YtcbmdloapmmghaaDoor
namespace RingOfL
open Go.ChangeShapes Go.WideShapes Go.ChangeAt Go.RowKit Base Ring
set_option linter.unusedVariables false

set_option maxRecDepth 100000 in
set_option maxHeartbeats 4000000 in
theorem walk (a : Option Addr) (cap : Nat) (l : List Nodes.D) (w : World) (hc : Nodes.LAt w a l) (hcap : l.length ≤ cap) (hl : l.length ≤ maxLen) (hs : ∀ x ∈ l, Nodes.Fits x) (hv : Vars w) :
    Calls Tryd.prog 3 #[.slice a l.length cap] w fun e w' => e = .returned (.bool true) ∧ Below w.heap.size w w' := by
  have HC := hide hc
  have HV := hide hv
  have HS := hide hs
  have HLM := hide hl
  have hzl := @Nodes.szL_len l 1048576
  have hsz := Nodes.sz_any a cap l 1048576 w hc hl hs (by omega) (by omega)
  generalize Nodes.szL l 1048576 = z at hzl hsz
  have HSZ := hide hsz
  clear hc hs hsz hv
  by_cases hz : z < 0
  · clear hzl
    go_enter Tryd.func3, Tryd.ntmps3
    go_wp2_with fail
    refine (unhide HSZ).mono ?_
    rintro e w2 ⟨rfl, hb2⟩
    have hB2 := hide hb2
    clear hb2
    go_wp2
    go_ret
    exact ⟨rfl, unhide hB2⟩
  have hlen : l.length ≤ 1048576 := by have := hzl hz; omega
  clear hzl hl
  have hsp := fun b w hb hc => mring_any b 0 l.length l w hb hc (unhide HLM) (unhide HS)
  have him := fun b w hb hc hv => ringOf_any b 0 l.length l w hb hc (unhide HLM) (unhide HS) hv
  have hrl : (ringL l).length ≤ 320 := by
    unfold ringL
    cases e : NodesM.gnB l
    · simp
    · simp only [if_true]; rw [ring_length]; exact points_len e
  generalize ringL l = R at hsp him hrl
  generalize NodesM.gnB l = gd at hsp him
  have HSP := hide hsp
  have HIM := hide him
  clear hsp him
  have hok : (gd != gd) = false := by cases gd <;> rfl
  go_enter Tryd.func3, Tryd.ntmps3
  go_wp2_with fail
  refine (unhide HSZ).mono ?_
  rintro e w2 ⟨rfl, hb2⟩
  have B2 := hide hb2
  clear hb2
  -- the model
  go_wp2_with fail
  refine (Nodes.to_any a cap l _ ((unhide HC).below (unhide B2) (Nat.le_refl _)) hlen).mono ?_
  rintro e w3 ⟨rfl, hrow3, hb3⟩
  have hrow3 := hide hrow3
  have B3 := hide ((unhide B2).trans (hb3.mono (unhide B2).size))
  clear hb3
  go_wp2_with fail
  refine (unhide HSP _ _ (unhide hrow3).lt (Nodes.at_row (unhide hrow3))).mono ?_
  rintro e w4 ⟨a4, c4, r4, rfl, ho4, hr4, hb4⟩
  have P4 := hide ho4
  have L4 := hide ho4.lt
  have B4 := hide ((unhide B3).trans (hb4.mono (unhide B3).size))
  clear hb4 ho4 hr4
  -- the program
  go_wp2_with fail
  refine (Nodes.to_any a cap l _ ((unhide HC).below (unhide B4) (Nat.le_refl _)) hlen).mono ?_
  rintro e w5 ⟨rfl, hrow5, hb5⟩
  have X5 := hide (NodesM.Ours.row hrow5)
  have hrow5 := hide hrow5
  have P5 := hide ((unhide P4).below hb5 (Nat.le_refl _))
  have B5 := hide ((unhide B4).trans (hb5.mono (unhide B4).size))
  have z5 : w4.heap.size + 1 ≤ w5.heap.size := (unhide hrow5).lt
  clear hb5
  go_wp2_with fail
  refine (unhide HIM _ _ (unhide hrow5).lt (Nodes.at_row (unhide hrow5)) ((unhide HV).below (unhide B5))).mono ?_
  rintro e w6 ⟨a6, c6, r6, rfl, ho6, hr6, hb6⟩
  have O6 := hide ho6
  have R6 := hide hr6
  have P6 := hide ((unhide P5).below hb6 (Nat.le_refl _))
  have X6 := hide ((unhide X5).below hb6 (Nat.le_refl _))
  have hrow6 := hide ((unhide hrow5).of_block (hb6.block _ (unhide hrow5).lt))
  have B6 := hide ((unhide B5).trans (hb6.mono (unhide B5).size))
  have z6 : w5.heap.size ≤ w6.heap.size := hb6.size
  clear hb6 ho6 hr6
  go_wp2_with fail
  refine (Points.eq_same a6 a4 c6 c4 R _ (PointsW.ours_at (unhide O6)) (PointsW.ours_at (unhide P6)) (by unfold maxLen; omega)).mono ?_
  rintro e w7 ⟨rfl, hb7⟩
  have O7 := hide ((unhide O6).below hb7 (Nat.le_refl _))
  have P7 := hide ((unhide P6).below hb7 (Nat.le_refl _))
  have X7 := hide ((unhide X6).below hb7 (Nat.le_refl _))
  have hrow7 := hide ((unhide hrow6).of_block (hb7.block _ (unhide hrow6).lt))
  have B7 := hide ((unhide B6).trans (hb7.mono (unhide B6).size))
  have z7 : w6.heap.size ≤ w7.heap.size := hb7.size
  clear hb7
  -- the argument is as it was
  go_wp2_with fail
  refine (Nodes.to_any a cap l _ ((unhide HC).below (unhide B7) (Nat.le_refl _)) hlen).mono ?_
  rintro e w8 ⟨rfl, hrow8, hb8⟩
  have hrow8 := hide hrow8
  have O8 := hide ((unhide O7).below hb8 (Nat.le_refl _))
  have P8 := hide ((unhide P7).below hb8 (Nat.le_refl _))
  have X8 := hide ((unhide X7).below hb8 (Nat.le_refl _))
  have hrow78 := hide ((unhide hrow7).of_block (hb8.block _ (unhide hrow7).lt))
  have B8 := hide ((unhide B7).trans (hb8.mono (unhide B7).size))
  have z8 : w7.heap.size ≤ w8.heap.size := hb8.size
  clear hb8
  go_wp2_with fail
  refine (Nodes.eq_same _ _ _ _ l _ (Nodes.LAt.row (unhide hrow78)) (Nodes.LAt.row (unhide hrow8)) (unhide HLM)).mono ?_
  rintro e w9 ⟨rfl, hb9⟩
  have O9 := hide ((unhide O8).below hb9 (Nat.le_refl _))
  have P9 := hide ((unhide P8).below hb9 (Nat.le_refl _))
  have X9 := hide ((unhide X8).below hb9 (Nat.le_refl _))
  have B9 := hide ((unhide B8).trans (hb9.mono (unhide B8).size))
  have z9 : w8.heap.size ≤ w9.heap.size := hb9.size
  clear hb9
  -- the argument is marked
  go_wp2_with fail
  refine (NodesM.mark_any _ _ l.length _ _ 1 _ (unhide X9) (by omega) (by omega) (by omega)).mono ?_
  rintro e w10 ⟨rfl, _, hg10⟩
  have O10 := hide ((unhide O9).gb hg10 (fun g h e => by have h6 := unhide R6 g h; simp at e; omega))
  have P10 := hide ((unhide P9).gb hg10 (fun g h e => by have h4 := unhide L4 g h; simp at e; omega))
  have B10 := hide (Marks.below_gb (unhide B9) hg10 (unhide B9).size (unhide B4).size)
  have z10 : w9.heap.size ≤ w10.heap.size := hg10.size
  have hk1 : ¬ 1 + (l.length : Int) * 2 < 0 := by omega
  clear hg10
  go_wp2_with fail
  refine (Points.eq_same a6 a4 c6 c4 R _ (PointsW.ours_at (unhide O10)) (PointsW.ours_at (unhide P10)) (by unfold maxLen; omega)).mono ?_
  rintro e w11 ⟨rfl, hb11⟩
  have O11 := hide ((unhide O10).below hb11 (Nat.le_refl _))
  have P11 := hide ((unhide P10).below hb11 (Nat.le_refl _))
  have B11 := hide ((unhide B10).trans (hb11.mono (unhide B10).size))
  have z11 : w10.heap.size ≤ w11.heap.size := hb11.size
  clear hb11
  -- the answer is marked
  go_wp2_with fail
  refine (PointsM.mark_any a6 c6 R.length _ r6 1 _ (unhide O11) (by omega) (by omega) (by omega)).mono ?_
  rintro e w12 ⟨rfl, hm12, hg12⟩
  have M12 := hide hm12
  have P12 := hide ((unhide P11).gb hg12 (fun g h e => by have h4 := unhide L4 g h; have h6 := unhide R6 g e.symm; omega))
  have B12 := hide ((unhide B11).grown hg12 (unhide B11).size (fun k e => by have h6 := unhide R6 k e; have := (unhide B5).size; omega))
  have z12 : w11.heap.size ≤ w12.heap.size := hg12.size
  have hk2 : ¬ 1 + (R.length : Int) * 2 < 0 := by omega
  clear hm12 hg12
  go_wp2_with fail
  refine (PointsM.held_any a6 c6 R.length r6 1 _ (unhide M12) (by omega) (by omega) (by omega)).mono ?_
  rintro e w13 ⟨rfl, hb13⟩
  have M13 := hide ((unhide M12).below hb13 (Nat.le_refl _))
  have P13 := hide ((unhide P12).below hb13 (Nat.le_refl _))
  have B13 := hide ((unhide B12).trans (hb13.mono (unhide B12).size))
  clear hb13
  -- once more
  go_wp2_with fail
  refine (Nodes.to_any a cap l _ ((unhide HC).below (unhide B13) (Nat.le_refl _)) hlen).mono ?_
  rintro e w14 ⟨rfl, hrow14, hb14⟩
  have hrow14 := hide hrow14
  have M14 := hide ((unhide M13).below hb14 (Nat.le_refl _))
  have P14 := hide ((unhide P13).below hb14 (Nat.le_refl _))
  have B14 := hide ((unhide B13).trans (hb14.mono (unhide B13).size))
  clear hb14
  go_wp2_with fail
  refine (unhide HIM _ _ (unhide hrow14).lt (Nodes.at_row (unhide hrow14)) ((unhide HV).below (unhide B14))).mono ?_
  rintro e w15 ⟨a15, c15, r15, rfl, ho15, hr15, hb15⟩
  have O15 := hide ho15
  have M15 := hide ((unhide M14).below hb15 (Nat.le_refl _))
  have P15 := hide ((unhide P14).below hb15 (Nat.le_refl _))
  have B15 := hide ((unhide B14).trans (hb15.mono (unhide B14).size))
  clear hb15 ho15 hr15
  go_wp2_with fail
  refine (Points.eq_same a15 a4 c15 c4 R _ (PointsW.ours_at (unhide O15)) (PointsW.ours_at (unhide P15)) (by unfold maxLen; omega)).mono ?_
  rintro e w16 ⟨rfl, hb16⟩
  have M16 := hide ((unhide M15).below hb16 (Nat.le_refl _))
  have B16 := hide ((unhide B15).trans (hb16.mono (unhide B15).size))
  clear hb16
  go_wp2_with fail
  refine (PointsM.held_any a6 c6 R.length r6 1 _ (unhide M16) (by omega) (by omega) (by omega)).mono ?_
  rintro e w17 ⟨rfl, hb17⟩
  have B17 := hide ((unhide B16).trans (hb17.mono (unhide B16).size))
  clear hb17
  go_wp2
  go_ret
  exact ⟨rfl, unhide B17⟩

theorem own : ownKnob Tryd.prog.godebug = none := by kernel_rfl
theorem laidOut : laidOutB Tryd.prog = true := by kernel_rfl


abbrev laid5 : List (String × DataW Unit) := Rows.fnExactRingOfRow.laid
theorem gTab : Tryd.prog.globalNamed "internal/strconv.uint64pow10" = some 0 := by kernel_rfl
theorem tTab : (Tryd.prog.globals[0]?).map (·.type) = some 95 := by kernel_rfl
theorem cellsU : Tryd.prog.cellsOf 88 = 1 := by kernel_rfl
theorem cellsT : Tryd.prog.cellsOf 95 = 20 := by kernel_rfl
theorem tabD : (Rows.laid_internal_strconv_uint64pow10 : DataW Unit) = Lib.tabData .u64 Lib.pow10Tab := by kernel_rfl
/-- What the row's list gives the walk. -/
theorem of_laid {W : World} (h : laidMetH Tryd.prog laid5 W) : Ring.Vars W := by
  rw [MakeChecks.laidMetH_plain _ _ _ (by kernel_rfl)] at h
  have h3 : laidMet Tryd.prog _ W := h.tail.tail
  rw [tabD] at h3
  exact Lib.tabIs_of_head gTab tTab Tryd.underlying95 Tryd.underlying88 cellsU cellsT h3
/-- The heap that the program's own laying leaves meets the list. -/
theorem door_met (os : Os) (args : Array Value) : laidMetH Tryd.prog laid5 ((World.doorLaid Tryd.prog 4000 os).forCall (fun _ _ => 0) ⟨#[], args, []⟩).memory :=
  laidMetH_of_parts3 (fuel := 8) (laidMet_of_run' 8 (by kernel_rfl) (by kernel_rfl)) (by kernel_rfl) (by kernel_rfl)

set_option maxRecDepth 100000 in
theorem lifted (os : Os) (started : os.Started) (H : Type) (enc : TypeId × Value → H) :
    ReturnsInHanded {} Tryd.checked os 3 .any (fun w args => (Rows.fnExactRingOfSpec.pre enc Tryd.prog Tryd.f3 [] false w args ∧ laidMetH Tryd.prog laid5 w) ∧ sizedMet enc Tryd.prog Tryd.f3 (OpenSpec.ofChange Rows.fnExactRingOfSpec) false w args)
      (Rows.fnExactRingOfSpec.post enc Tryd.prog Tryd.f3 false true false false) := by
  refine returnsInHanded_of_change_and (C := Tryd.checked) (X := fun w _ => laidMetH Tryd.prog laid5 w) (fun _ _ _ hh h => h.of_heap hh) own started (by kernel_rfl) Tryd.func3
    (ChangeSpec.witness_shaped (enc := enc) (C := Tryd.checked) (os := os) (X := fun w _ => laidMetH Tryd.prog laid5 w) false (World.doorLaid Tryd.prog 4000 os) #[.slice none 0 0] 8 rfl (World.shaped_of_RefB (by kernel_rfl) (by kernel_rfl)) (by kernel_rfl) (by kernel_rfl) (by kernel_rfl) (door_met os _)) ?_
  intro W base args ds gs before hval0 hW _ _ hL _
  have hval : ∀ (j : Nat) t v, Tryd.f3.params[j]? = some t → args[j]? = some v → Value.okWide Tryd.prog W .any base t v := hval0
  have hW' := hW
  obtain ⟨p, q, hA0, hV, rfl, hfz, hnd⟩ := hW
  have hA : DataW.TrodAll enc Tryd.prog W 0 (fun _ => true) true Tryd.f3.params.toList args.toList ds p := hA0
  rw [Tryd.params3] at hA hval
  obtain ⟨v0, vs0, d0, ds0, p0, q0, hargs, rfl, rfl, h0, r0⟩ := trodAll_cons hA
  obtain ⟨rfl, rfl, rfl⟩ := trodAll_nil r0
  obtain rfl : args = #[v0] := by cases args; simp_all
  obtain ⟨rfl, rfl⟩ := trodVars_none hV
  have k0 := h0
  have lt0 : ∀ x ∈ p0, x.block < W.heap.size := by obtain ⟨m, hm⟩ := k0; exact DataW.trod_lt m _ _ _ hm
  obtain ⟨x0, y0, z0, rfl⟩ := okWide_slice Tryd.underlying22 (hval 0 22 v0 rfl rfl)
  obtain ⟨P0, C0, L0, e0, f0, g0, i0, u0⟩ : ∃ (a : Option Addr) (cap : Nat) (l : List Nodes.D), Value.slice x0 y0 z0 = .slice a l.length cap ∧ Nodes.LAt W a l ∧ l.length ≤ cap ∧ l.length ≤ maxLen ∧ ∀ x ∈ l, Nodes.Fits x := by
    obtain ⟨fuel, hf⟩ := h0
    exact Nodes.open_of Tryd.underlying22 Tryd.underlying52 (by kernel_rfl) (by kernel_rfl) Tryd.underlying9 Tryd.underlying3 hf
  simp only [Value.slice.injEq] at e0
  obtain ⟨ex0, ey0, ez0⟩ := e0
  subst x0 y0 z0
  clear hA0 hval0
  refine (walk P0 C0 L0 W f0 g0 i0 u0 (of_laid hL)).mono fun e W' ⟨he, bel⟩ => ?_
  subst he
  exact ⟨_, rfl, _, _, _, [], _, [], hW', trodAll_mk1 (shut_bool Tryd.underlying4 _), (trodAll_cons_mk (Below.trod laidOut (by kernel_rfl) (of_decide_eq_true (by kernel_rfl)) k0 bel lt0) trodAll_mk0), rfl, bel.frame _, fun h => by cases h⟩

theorem over : Rows.fnExactRingOfRow.holds Tryd.pinned (OpenSpec.ofChange Rows.fnExactRingOfSpec) :=
  OpenClaim.holds_of_wide 3 Tryd.f3 rfl rfl rfl rfl rfl rfl rfl ⟨rfl, rfl, rfl, rfl, rfl⟩ rfl rfl rfl rfl rfl (by kernel_rfl) Tryd.func3 (by kernel_rfl)
    (of_decide_eq_true (by kernel_rfl)) (by unfold Func.isWrapper; first | (rw [if_pos (by decide +kernel)]; kernel_rfl) | (rw [if_neg (by decide +kernel)]; exact ⟨rfl, rfl⟩))
    (fun os started H enc _ => lifted os started H enc)

end RingOfL
theorem ringOf_card : Rows.FnExactRingOfCardSaid :=
  Claim7.holds_tied_plain_at .later [] Rows.fnExactRingOfCard.laidKinds true Rows.fnExactRingOfCard.stood.harness Rows.fnExactRingOfCard.stood.looks
    RingOfL.over (fun _ h => by cases h) (by kernel_rfl) (fun _ h => by cases h) fnExactRingOf_row_tie rfl ⟨rfl, rfl⟩ (by kernel_rfl) rfl
    (fun f fn hf hfn => by
      obtain rfl : f = 3 := Option.some.inj ((show Tryd.prog.funcNamed Rows.fnExactRingOfRow.func = some 3 by kernel_rfl).symm.trans hf) |>.symm
      obtain rfl : fn = Tryd.f3 := (Option.some.inj (Tryd.func3.symm.trans hfn)).symm
      exact ⟨by kernel_rfl, fun j t ht => by
        rw [Tryd.params3] at ht
        have hm : t ∈ [22] := by simpa using Array.mem_of_getElem? ht
        have hall : ([22].all fun u => !Tryd.prog.wantsStandIn u) = true := by kernel_rfl
        exact (show Tryd.prog.wantsStandIn t = false by simpa using List.all_eq_true.1 hall t hm)⟩)
    (by kernel_rfl)

end Go.Proofs.YtcbmdloapmmghaaDoor
