/-
  FnCounted returns true for every slice of bytes, where strconv's and math/bits' variables hold what the program's text lays in them: a number counted up and down again by as much is the number; and the card that ties the variables to that text. No other condition.
-/
import Derived.Test.YtmihnfdepnhbjaaDoorCountS
import Derived.Test.YtmihnfdepnhbjaaDoorCountI
import Derived.Test.YtmihnfdepnhbjaaDoorCountU
import Derived.Test.YtmihnfdepnhbjaaDoorCurC
import Derived.Test.YtmihnfdepnhbjaaDoorCurO
import Derived.Test.YtmihnfdepnhbjaaDoorTie
import Derived.Test.YtmihnfdepnhbjaaDoorCards
import Derived.ProofKit
import Derived.LaidMore
import Derived.OpenShut
import Derived.ShutString
import Derived.ChangeOld
import Derived.Stop.Joined
import Derived.Stop.LaidErr
import Derived.Lib.LaidTab
import Derived.SevenTiedAt
namespace Go.Proofs.YtmihnfdepnhbjaaDoor
namespace CountedL
open Go.ChangeShapes Go.WideShapes Go.ChangeAt Go.RowKit Base Count
open Go.ChangeMaps (open_string shut_string)
set_option linter.unusedVariables false

theorem wf_of {v : Int} (h : -1 ≤ v ∧ v ≤ 1000000001) : (Lit.int .i64 v).wf = true := by
  simp [Lit.wf, IntKind.min, IntKind.max, IntKind.signed, IntKind.bits]
  omega
set_option maxHeartbeats 2000000 in
theorem walk (a : Option Addr) (cap n : Nat) (z : Nat → Int) (w : World) (hz : Cur.BAt w a n z) (hn : n ≤ maxLen) (hv : Vars w) :
    Calls Tryd.prog 3 #[.slice a n cap] w fun e w' => e = .returned (.bool true) ∧ Below w.heap.size w w' := by
  unfold maxLen at hn
  by_cases g : 1048576 < (n : Int)
  · clear hz hv
    go_enter Tryd.func3, Tryd.ntmps3
    go_wp2
    go_ret
    exact ⟨rfl, Below.refl _ _⟩
  have HD := hide (Cur.drawCount_any a n cap z w hz (by omega))
  have HVV := hide hv
  clear hz hv
  go_enter Tryd.func3, Tryd.ntmps3
  go_wp2_with fail
  refine (unhide HD).mono ?_
  rintro e w1 ⟨s, m, down, rfl, hs, hm, hb1⟩
  have HM := hide (wf_of hm)
  have B1 := hide hb1
  have V1 := hide ((unhide HVV).below hb1)
  have hsp := hide (fun w => spec_any s m down w (by unfold maxLen; omega))
  have him := hide (fun w (h : Vars w) => count_any s m down w (by omega) (unhide HM) h)
  have hup := hide (fun w (h : Vars w) => count_any s m false w (by omega) (unhide HM) h)
  have hba := hide (fun (t : ByteArray) (ht : t.size ≤ 18) w (h : Vars w) => count_any t m true w (by omega) (unhide HM) h)
  have hud := hide (fun (t : ByteArray) (h : countB s.data.toList m false = some t) => up_down h)
  have hsz : Hid (∀ t, countB s.data.toList m false = some t → t.size ≤ 18) := fun t h => by
    unfold countB at h
    repeat' split at h
    all_goals first | (simp at h; done) | (rw [← Option.some.inj h]; omega)
  clear hb1 HVV hm
  generalize countB s.data.toList m down = r at hsp him
  generalize hu : countB s.data.toList m false = u at hup hud hsz
  clear hu
  cases r
  all_goals
    go_wp2_with fail
    refine (unhide him _ (unhide V1)).mono ?_
    rintro e w2 ⟨rfl, hb2⟩
    have B2 := hide ((unhide B1).trans (hb2.mono (unhide B1).size))
    have V2 := hide ((unhide V1).below hb2)
    clear hb2
    unfold countV
    go_wp2_with fail
    refine (unhide hsp _).mono ?_
    rintro e w3 ⟨rfl, hb3⟩
    have B3 := hide ((unhide B2).trans (hb3.mono (unhide B2).size))
    have V3 := hide ((unhide V2).below hb3)
    clear hb3
    unfold countV
    go_wp2_with fail
    refine (unhide hup _ (unhide V3)).mono ?_
    rintro e w4 ⟨rfl, hb4⟩
    have B4 := hide ((unhide B3).trans (hb4.mono (unhide B3).size))
    have V4 := hide ((unhide V3).below hb4)
    clear hb4
    rcases u with _ | t
    · unfold countV
      go_wp2
      go_ret
      exact ⟨rfl, unhide B4⟩
    · have HBA : Hid (∀ w, Vars w → Calls Tryd.prog 5 #[.string t, .int .i64 m, .bool true] w fun e w' => e = .returned (countV (some s)) ∧ Below w.heap.size w w') := fun w h => by
        have := unhide hba t (unhide hsz t rfl) w h
        rw [unhide hud t rfl] at this
        exact this
      clear hba hud hsz
      unfold countV
      go_wp2_with fail
      refine (unhide HBA _ (unhide V4)).mono ?_
      rintro e w5 ⟨rfl, hb5⟩
      have B5 := hide ((unhide B4).trans (hb5.mono (unhide B4).size))
      clear hb5
      unfold countV
      go_wp2
      go_ret
      exact ⟨rfl, unhide B5⟩

theorem own : ownKnob Tryd.prog.godebug = none := by kernel_rfl
theorem laidOut : laidOutB Tryd.prog = true := by kernel_rfl


abbrev laid5 : List (String × DataW Unit) := Rows.fnCountedRow.laid
theorem gSyn : Tryd.prog.globalNamed "strconv.ErrSyntax" = some 0 := by kernel_rfl
theorem gRng : Tryd.prog.globalNamed "strconv.ErrRange" = some 1 := by kernel_rfl
theorem gTab : Tryd.prog.globalNamed "internal/strconv.uint64pow10" = some 2 := by kernel_rfl
theorem tSyn : (Tryd.prog.globals[0]?).map (·.type) = some 44 := by kernel_rfl
theorem tRng : (Tryd.prog.globals[1]?).map (·.type) = some 44 := by kernel_rfl
theorem tTab : (Tryd.prog.globals[2]?).map (·.type) = some 68 := by kernel_rfl
theorem cellsE : Tryd.prog.cellsOf 77 = 1 := by kernel_rfl
theorem cellsS : Tryd.prog.cellsOf 9 = 1 := by kernel_rfl
theorem cellsU : Tryd.prog.cellsOf 29 = 1 := by kernel_rfl
theorem cellsT : Tryd.prog.cellsOf 68 = 20 := by kernel_rfl
theorem star : "*" ++ "errors.errorString" = "*errors.errorString" := by decide
theorem rowE (u : TypeId) (h : Tryd.prog.typeName? 3 u = some "*errors.errorString") : u = 75 :=
  typeName_ptr_named (nm := "errors.errorString") (by rw [star]; kernel_rfl) (by kernel_rfl) (by decide) u (by rw [star]; exact h)
theorem tabD : (Rows.laid_internal_strconv_uint64pow10 : DataW Unit) = Lib.tabData .u64 Lib.pow10Tab := by kernel_rfl
/-- What the row's list gives the walk. -/
theorem of_laid {W : World} (h : laidMetH Tryd.prog laid5 W) : Count.Vars W := by
  rw [MakeChecks.laidMetH_plain _ _ _ (by kernel_rfl)] at h
  have h3 : laidMet Tryd.prog _ W := h.tail.tail
  have h4 : laidMet Tryd.prog _ W := h3.tail
  have h5 : laidMet Tryd.prog _ W := h4.tail
  refine ⟨?_, ?_, ?_⟩
  · rw [tabD] at h3
    exact Lib.tabIs_of_head gTab tTab Tryd.underlying68 Tryd.underlying29 cellsU cellsT h3
  · obtain ⟨a1, s1, hv1, -, -, -⟩ := laid_sentinel h5 gSyn tSyn Tryd.underlying44 rowE Tryd.underlying75 Tryd.underlying77 rfl rfl Tryd.underlying9 cellsE cellsS
    exact ⟨_, _, hv1⟩
  · obtain ⟨a0, s0, hv0, -, -, -⟩ := laid_sentinel h4 gRng tRng Tryd.underlying44 rowE Tryd.underlying75 Tryd.underlying77 rfl rfl Tryd.underlying9 cellsE cellsS
    exact ⟨_, _, hv0⟩
/-- The heap that the program's own laying leaves meets the list. -/
theorem door_met (os : Os) (args : Array Value) : laidMetH Tryd.prog laid5 ((World.doorLaid Tryd.prog 4000 os).forCall (fun _ _ => 0) ⟨#[], args, []⟩).memory :=
  laidMetH_of_parts3 (fuel := 8) (laidMet_of_run' 8 (by kernel_rfl) (by kernel_rfl)) (by kernel_rfl) (by kernel_rfl)

set_option maxRecDepth 100000 in
theorem lifted (os : Os) (started : os.Started) (H : Type) (enc : TypeId × Value → H) :
    ReturnsInHanded {} Tryd.checked os 3 .any (fun w args => (Rows.fnCountedSpec.pre enc Tryd.prog Tryd.f3 [] false w args ∧ laidMetH Tryd.prog laid5 w) ∧ sizedMet enc Tryd.prog Tryd.f3 (OpenSpec.ofChange Rows.fnCountedSpec) false w args)
      (Rows.fnCountedSpec.post enc Tryd.prog Tryd.f3 false true false false) := by
  refine returnsInHanded_of_change_and (C := Tryd.checked) (X := fun w _ => laidMetH Tryd.prog laid5 w) (fun _ _ _ hh h => h.of_heap hh) own started (by kernel_rfl) Tryd.func3
    (ChangeSpec.witness_shaped (enc := enc) (C := Tryd.checked) (os := os) (X := fun w _ => laidMetH Tryd.prog laid5 w) false (World.doorLaid Tryd.prog 4000 os) #[.slice none 0 0] 8 rfl (World.shaped_of_RefB (by kernel_rfl) (by kernel_rfl)) (by kernel_rfl) (by kernel_rfl) (by kernel_rfl) (door_met os _)) ?_
  intro W base args ds gs before hval0 hW _ _ hL _
  have hval : ∀ (j : Nat) t v, Tryd.f3.params[j]? = some t → args[j]? = some v → Value.okWide Tryd.prog W .any base t v := hval0
  have hW' := hW
  obtain ⟨p, q, hA0, hV, rfl, hfz, hnd⟩ := hW
  have hA : DataW.TrodAll enc Tryd.prog W 0 (fun _ => true) true Tryd.f3.params.toList args.toList ds p := hA0
  rw [Tryd.params3] at hA hval
  obtain ⟨v0, vs0, d0, ds0, p0, q0, hargs, rfl, rfl, h0, r0⟩ := trodAll_cons hA
  obtain ⟨rfl, rfl, rfl⟩ := trodAll_nil r0
  obtain rfl : args = #[v0] := by cases args; simp_all
  obtain ⟨rfl, rfl⟩ := trodVars_none hV
  have k0 := h0
  have lt0 : ∀ x ∈ p0, x.block < W.heap.size := by obtain ⟨m, hm⟩ := k0; exact DataW.trod_lt m _ _ _ hm
  obtain ⟨x0, y0, z0, rfl⟩ := okWide_slice Tryd.underlying22 (hval 0 22 v0 rfl rfl)
  obtain ⟨P0, C0, L0, Z0, e0, f0, i0⟩ : ∃ (a : Option Addr) (cap n : Nat) (z : Nat → Int), Value.slice x0 y0 z0 = .slice a n cap ∧ Cur.BAt W a n z ∧ n ≤ maxLen := by
    obtain ⟨fuel, hf⟩ := h0
    exact Cur.open_of Tryd.underlying22 Tryd.underlying5 (by kernel_rfl) hf
  simp only [Value.slice.injEq] at e0
  obtain ⟨ex0, ey0, ez0⟩ := e0
  subst x0 y0 z0
  clear hA0 hval0
  refine (walk P0 C0 L0 Z0 W f0 i0 (of_laid hL)).mono fun e W' ⟨he, bel⟩ => ?_
  subst he
  exact ⟨_, rfl, _, _, _, [], _, [], hW', trodAll_mk1 (shut_bool Tryd.underlying4 _), (trodAll_cons_mk (Below.trod laidOut (by kernel_rfl) (of_decide_eq_true (by kernel_rfl)) k0 bel lt0) trodAll_mk0), rfl, bel.frame _, fun h => by cases h⟩

theorem over : Rows.fnCountedRow.holds Tryd.pinned (OpenSpec.ofChange Rows.fnCountedSpec) :=
  OpenClaim.holds_of_wide 3 Tryd.f3 rfl rfl rfl rfl rfl rfl rfl ⟨rfl, rfl, rfl, rfl, rfl⟩ rfl rfl rfl rfl rfl (by kernel_rfl) Tryd.func3 (by kernel_rfl)
    (of_decide_eq_true (by kernel_rfl)) (by unfold Func.isWrapper; first | (rw [if_pos (by decide +kernel)]; kernel_rfl) | (rw [if_neg (by decide +kernel)]; exact ⟨rfl, rfl⟩))
    (fun os started H enc _ => lifted os started H enc)

end CountedL
theorem fnCounted_card : Rows.FnCountedCardSaid :=
  Claim7.holds_tied_plain_at .later [] Rows.fnCountedCard.laidKinds true Rows.fnCountedCard.stood.harness Rows.fnCountedCard.stood.looks
    CountedL.over (fun _ h => by cases h) (by kernel_rfl) (fun _ h => by cases h) fnCounted_row_tie rfl ⟨rfl, rfl⟩ (by kernel_rfl) rfl
    (fun f fn hf hfn => by
      obtain rfl : f = 3 := Option.some.inj ((show Tryd.prog.funcNamed Rows.fnCountedRow.func = some 3 by kernel_rfl).symm.trans hf) |>.symm
      obtain rfl : fn = Tryd.f3 := (Option.some.inj (Tryd.func3.symm.trans hfn)).symm
      exact ⟨by kernel_rfl, fun j t ht => by
        rw [Tryd.params3] at ht
        have hm : t ∈ [22] := by simpa using Array.mem_of_getElem? ht
        have hall : ([22].all fun u => !Tryd.prog.wantsStandIn u) = true := by kernel_rfl
        exact (show Tryd.prog.wantsStandIn t = false by simpa using List.all_eq_true.1 hall t hm)⟩)
    (by kernel_rfl)

end Go.Proofs.YtmihnfdepnhbjaaDoor
