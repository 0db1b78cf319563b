/-
  The card of FnExactBeginMove: it returns true for every cluster and all nodes, where strconv's and math/bits' variables hold what the program's text lays in them. No other condition.
-/
import Derived.Test.YtkodgbalhnbhcaaGreatDoorBeginMoveW
import Derived.Test.YtkodgbalhnbhcaaGreatDoorZ32
import Derived.Test.YtkodgbalhnbhcaaGreatDoorCards
import Derived.Test.YtkodgbalhnbhcaaGreatDoorTie
import Derived.ProofKit
import Derived.LaidMore
import Derived.OpenShut
import Derived.ShutString
import Derived.ChangeOld
import Derived.Stop.Joined
import Derived.Stop.LaidErr
import Derived.Lib.LaidTab
import Derived.SevenTiedAt
namespace Go.Proofs.YtkodgbalhnbhcaaGreatDoor
namespace BeginMoveL
open Go.ChangeShapes Go.WideShapes Go.ChangeAt Go.RowKit Base Clus Marks
open Go.ChangeMaps (open_string shut_string)
set_option linter.unusedVariables false

theorem own : ownKnob Tryz.prog.godebug = none := by kernel_rfl
theorem laidOut : laidOutB Tryz.prog = true := by kernel_rfl


abbrev laid5 : List (String × DataW Unit) := Rows.fnExactBeginMoveRow.laid
theorem gTab : Tryz.prog.globalNamed "internal/strconv.uint64pow10" = some 0 := by kernel_rfl
theorem tTab : (Tryz.prog.globals[0]?).map (·.type) = some 227 := by kernel_rfl
theorem cellsU : Tryz.prog.cellsOf 209 = 1 := by kernel_rfl
theorem cellsT : Tryz.prog.cellsOf 227 = 20 := by kernel_rfl
theorem tabD : (Rows.laid_internal_strconv_uint64pow10 : DataW Unit) = Lib.tabData .u64 Lib.pow10Tab := by kernel_rfl
/-- What the row's list gives the walk. -/
theorem of_laid {W : World} (h : laidMetH Tryz.prog laid5 W) : Ring.Vars W := by
  rw [MakeChecks.laidMetH_plain _ _ _ (by kernel_rfl)] at h
  have h3 : laidMet Tryz.prog _ W := h.tail.tail
  rw [tabD] at h3
  exact Lib.tabIs_of_head gTab tTab Tryz.underlying227 Tryz.underlying209 cellsU cellsT h3
/-- The heap that the program's own laying leaves meets the list. -/
theorem door_met (os : Os) (args : Array Value) : laidMetH Tryz.prog laid5 ((World.doorLaid Tryz.prog 4000 os).forCall (fun _ _ => 0) ⟨#[], args, []⟩).memory :=
  laidMetH_of_parts3 (fuel := 8) (laidMet_of_run' 8 (by kernel_rfl) (by kernel_rfl)) (by kernel_rfl) (by kernel_rfl)

set_option maxRecDepth 100000 in
theorem lifted (os : Os) (started : os.Started) (H : Type) (enc : TypeId × Value → H) :
    ReturnsInHanded {} Tryz.checked os 5 .any (fun w args => (Rows.fnExactBeginMoveSpec.pre enc Tryz.prog Tryz.f5 [] false w args ∧ laidMetH Tryz.prog laid5 w) ∧ sizedMet enc Tryz.prog Tryz.f5 (OpenSpec.ofChange Rows.fnExactBeginMoveSpec) false w args)
      (Rows.fnExactBeginMoveSpec.post enc Tryz.prog Tryz.f5 false true false false) := by
  refine returnsInHanded_of_change_and (C := Tryz.checked) (X := fun w _ => laidMetH Tryz.prog laid5 w) (fun _ _ _ hh h => h.of_heap hh) own started (by kernel_rfl) Tryz.func5
    (ChangeSpec.witness_shaped (enc := enc) (C := Tryz.checked) (os := os) (X := fun w _ => laidMetH Tryz.prog laid5 w) false (World.doorLaid Tryz.prog 4000 os) #[.agg #[.int .i64 0, .int .i64 0, .int .i64 0, .int .i64 0, .slice none 0 0, .slice none 0 0, .slice none 0 0], .slice none 0 0] 8 rfl (World.shaped_of_RefB (by kernel_rfl) (by kernel_rfl)) (by kernel_rfl) (by kernel_rfl) (by kernel_rfl) (door_met os _)) ?_
  intro W base args ds gs before hval0 hW _ _ hL _
  have hval : ∀ (j : Nat) t v, Tryz.f5.params[j]? = some t → args[j]? = some v → Value.okWide Tryz.prog W .any base t v := hval0
  have hW' := hW
  obtain ⟨p, q, hA0, hV, rfl, hfz, hnd⟩ := hW
  have hA : DataW.TrodAll enc Tryz.prog W 0 (fun _ => true) true Tryz.f5.params.toList args.toList ds p := hA0
  rw [Tryz.params5] at hA hval
  obtain ⟨v0, vs0, d0, ds0, p0, q0, hargs, rfl, rfl, h0, r0⟩ := trodAll_cons hA
  obtain ⟨v1, vs1, d1, ds1, p1, q1, rfl, rfl, rfl, h1, r1⟩ := trodAll_cons r0
  obtain ⟨rfl, rfl, rfl⟩ := trodAll_nil r1
  obtain rfl : args = #[v0, v1] := by cases args; simp_all
  obtain ⟨rfl, rfl⟩ := trodVars_none hV
  have k0 := h0
  have lt0 : ∀ x ∈ p0, x.block < W.heap.size := by obtain ⟨m, hm⟩ := k0; exact DataW.trod_lt m _ _ _ hm
  obtain ⟨cs0, rfl, sz0⟩ := okWide_struct Tryz.underlying25 (hval 0 25 v0 rfl rfl)
  obtain ⟨ca0, cb0, cc0, cd0, ce0, cf0, cg0, rfl⟩ := Open.array7 (sz0.trans (show Tryz.prog.cellsOf 25 = 7 by kernel_rfl))
  obtain ⟨_, _, g0a⟩ := Open.field_at Tryz.underlying25 (by kernel_rfl) h0 0 _ rfl _ rfl
  obtain ⟨_, _, g0b⟩ := Open.field_at Tryz.underlying25 (by kernel_rfl) h0 1 _ rfl _ rfl
  obtain ⟨_, _, g0c⟩ := Open.field_at Tryz.underlying25 (by kernel_rfl) h0 2 _ rfl _ rfl
  obtain ⟨_, _, g0d⟩ := Open.field_at Tryz.underlying25 (by kernel_rfl) h0 3 _ rfl _ rfl
  obtain ⟨_, _, g0e⟩ := Open.field_at Tryz.underlying25 (by kernel_rfl) h0 4 _ rfl _ rfl
  obtain ⟨_, _, g0f⟩ := Open.field_at Tryz.underlying25 (by kernel_rfl) h0 5 _ rfl _ rfl
  obtain ⟨_, _, g0g⟩ := Open.field_at Tryz.underlying25 (by kernel_rfl) h0 6 _ rfl _ rfl
  obtain ⟨i0a, e0a, _, _⟩ := DataW.trod_int Tryz.underlying3 g0a
  obtain ⟨i0b, e0b, _, _⟩ := DataW.trod_int Tryz.underlying3 g0b
  obtain ⟨i0c, e0c, _, _⟩ := DataW.trod_int Tryz.underlying3 g0c
  obtain ⟨i0d, e0d, _, _⟩ := DataW.trod_int Tryz.underlying3 g0d
  obtain ⟨P0e, C0e, L0e, e0e, f0e, k0e, l0e, u0e⟩ := Nodes.open_of Tryz.underlying22 Tryz.underlying73 (by kernel_rfl) (by kernel_rfl) Tryz.underlying9 Tryz.underlying3 g0e
  obtain ⟨P0f, C0f, L0f, e0f, f0f, k0f, l0f, u0f⟩ := Nodes.open_of Tryz.underlying22 Tryz.underlying73 (by kernel_rfl) (by kernel_rfl) Tryz.underlying9 Tryz.underlying3 g0f
  obtain ⟨P0g, C0g, L0g, e0g, f0g, k0g, l0g, u0g⟩ := Pls.open_of Tryz.underlying23 Tryz.underlying98 (by kernel_rfl) rfl (by kernel_rfl) rfl (by kernel_rfl) Tryz.underlying9 Tryz.underlying96 (by kernel_rfl) Tryz.underlying3 Tryz.underlying3 Tryz.underlying94 Tryz.underlying192 (by kernel_rfl) (by kernel_rfl) Tryz.underlying9 Tryz.underlying3 Tryz.underlying9 Tryz.underlying3 Tryz.underlying3 g0g
  simp only [List.cons.injEq, and_true] at e0a e0b e0c e0d
  subst e0a e0b e0c e0d e0e e0f e0g
  have k1 := h1
  have lt1 : ∀ x ∈ p1, x.block < W.heap.size := by obtain ⟨m, hm⟩ := k1; exact DataW.trod_lt m _ _ _ hm
  obtain ⟨x1, y1, z1, rfl⟩ := okWide_slice Tryz.underlying22 (hval 1 22 v1 rfl rfl)
  obtain ⟨P1, C1, L1, e1, f1, g1, i1, u1⟩ : ∃ (a : Option Addr) (cap : Nat) (l : List Nodes.D), Value.slice x1 y1 z1 = .slice a l.length cap ∧ Nodes.LAt W a l ∧ l.length ≤ cap ∧ l.length ≤ maxLen ∧ ∀ x ∈ l, Nodes.Fits x := by
    obtain ⟨fuel, hf⟩ := h1
    exact Nodes.open_of Tryz.underlying22 Tryz.underlying73 (by kernel_rfl) (by kernel_rfl) Tryz.underlying9 Tryz.underlying3 hf
  simp only [Value.slice.injEq] at e1
  obtain ⟨ex1, ey1, ez1⟩ := e1
  subst x1 y1 z1
  clear hA0 hval0
  refine (walk ⟨i0a, i0b, i0c, i0d, P0e, C0e, L0e, P0f, C0f, L0f, P0g, C0g, L0g⟩ P1 C1 L1 W ⟨f0e, f0f, f0g⟩ ⟨l0e, u0e, k0e, l0f, u0f, k0f, l0g, u0g, k0g⟩ f1 g1 i1 u1 (of_laid hL)).mono fun e W' ⟨he, bel⟩ => ?_
  subst he
  exact ⟨_, rfl, _, _, _, [], _, [], hW', trodAll_mk1 (shut_bool Tryz.underlying4 _), (trodAll_cons_mk (Below.trod laidOut (by kernel_rfl) (of_decide_eq_true (by kernel_rfl)) k0 bel lt0) (trodAll_cons_mk (Below.trod laidOut (by kernel_rfl) (of_decide_eq_true (by kernel_rfl)) k1 bel lt1) trodAll_mk0)), rfl, bel.frame _, fun h => by cases h⟩

theorem over : Rows.fnExactBeginMoveRow.holds Tryz.pinned (OpenSpec.ofChange Rows.fnExactBeginMoveSpec) :=
  OpenClaim.holds_of_wide 5 Tryz.f5 rfl rfl rfl rfl rfl rfl rfl ⟨rfl, rfl, rfl, rfl, rfl⟩ rfl rfl rfl rfl rfl (by kernel_rfl) Tryz.func5 (by kernel_rfl)
    (of_decide_eq_true (by kernel_rfl)) (by unfold Func.isWrapper; first | (rw [if_pos (by decide +kernel)]; kernel_rfl) | (rw [if_neg (by decide +kernel)]; exact ⟨rfl, rfl⟩))
    (fun os started H enc _ => lifted os started H enc)

end BeginMoveL
theorem beginMove_card : Rows.FnExactBeginMoveCardSaid :=
  Claim7.holds_tied_plain_at .later [] Rows.fnExactBeginMoveCard.laidKinds true Rows.fnExactBeginMoveCard.stood.harness Rows.fnExactBeginMoveCard.stood.looks
    BeginMoveL.over (fun _ h => by cases h) (by kernel_rfl) (fun _ h => by cases h) fnExactBeginMove_row_tie rfl ⟨rfl, rfl⟩ (by kernel_rfl) rfl
    (fun f fn hf hfn => by
      obtain rfl : f = 5 := Option.some.inj ((show Tryz.prog.funcNamed Rows.fnExactBeginMoveRow.func = some 5 by kernel_rfl).symm.trans hf) |>.symm
      obtain rfl : fn = Tryz.f5 := (Option.some.inj (Tryz.func5.symm.trans hfn)).symm
      exact ⟨by kernel_rfl, fun j t ht => by
        rw [Tryz.params5] at ht
        have hm : t ∈ [25, 22] := by simpa using Array.mem_of_getElem? ht
        have hall : ([25, 22].all fun u => !Tryz.prog.wantsStandIn u) = true := by kernel_rfl
        exact (show Tryz.prog.wantsStandIn t = false by simpa using List.all_eq_true.1 hall t hm)⟩)
    (by kernel_rfl)


end Go.Proofs.YtkodgbalhnbhcaaGreatDoor
