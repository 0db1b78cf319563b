/-
  The card of FnStored: it returns true for every slice of bytes, where strconv's and math/bits' variables and the program's own errFull hold what the program's text lays in them; tied to that text. No other condition.
-/
import Derived.Test.YtkdcofmpbmiloaaGreatDoorStkL
import Derived.Test.YtkdcofmpbmiloaaGreatDoorY13
import Derived.Test.YtkdcofmpbmiloaaGreatDoorTie
import Derived.Test.YtkdcofmpbmiloaaGreatDoorCards
import Derived.ProofKit
import Derived.LaidMore
import Derived.OpenShut
import Derived.ChangeOld
import Derived.Stop.Joined
import Derived.Stop.LaidErr
import Derived.Lib.LaidTab
import Derived.SevenTiedAt
namespace Go.Proofs.YtkdcofmpbmiloaaGreatDoor
namespace FnStoredL
open Go.ChangeShapes Go.WideShapes Go.ChangeAt Go.RowKit Base
set_option linter.unusedVariables false

theorem own : ownKnob Tryz.prog.godebug = none := by kernel_rfl
theorem laidOut : laidOutB Tryz.prog = true := by kernel_rfl


abbrev laid5 : List (String × DataW Unit) := Rows.fnStoredRow.laid
theorem gSyn : Tryz.prog.globalNamed "strconv.ErrSyntax" = some 1 := by kernel_rfl
theorem gRng : Tryz.prog.globalNamed "strconv.ErrRange" = some 2 := by kernel_rfl
theorem gTab : Tryz.prog.globalNamed "internal/strconv.uint64pow10" = some 3 := by kernel_rfl
theorem gFul : Tryz.prog.globalNamed "loop.example/g00170/impl.errFull" = some 0 := by kernel_rfl
theorem tFul : (Tryz.prog.globals[0]?).map (·.type) = some 99 := by kernel_rfl
theorem tSyn : (Tryz.prog.globals[1]?).map (·.type) = some 99 := by kernel_rfl
theorem tRng : (Tryz.prog.globals[2]?).map (·.type) = some 99 := by kernel_rfl
theorem tTab : (Tryz.prog.globals[3]?).map (·.type) = some 140 := by kernel_rfl
theorem cellsE : Tryz.prog.cellsOf 147 = 1 := by kernel_rfl
theorem cellsS : Tryz.prog.cellsOf 9 = 1 := by kernel_rfl
theorem cellsU : Tryz.prog.cellsOf 42 = 1 := by kernel_rfl
theorem cellsT : Tryz.prog.cellsOf 140 = 20 := by kernel_rfl
theorem star : "*" ++ "errors.errorString" = "*errors.errorString" := by decide
theorem rowE (u : TypeId) (h : Tryz.prog.typeName? 3 u = some "*errors.errorString") : u = 145 :=
  typeName_ptr_named (nm := "errors.errorString") (by rw [star]; kernel_rfl) (by kernel_rfl) (by decide) u (by rw [star]; exact h)
theorem tabD : (Rows.laid_internal_strconv_uint64pow10 : DataW Unit) = Lib.tabData .u64 Lib.pow10Tab := by kernel_rfl
/-- What the row's list gives the walk. -/
theorem of_laid {W : World} (h : laidMetH Tryz.prog laid5 W) : Shelf.VarsF W := by
  rw [MakeChecks.laidMetH_plain _ _ _ (by kernel_rfl)] at h
  have h3 : laidMet Tryz.prog _ W := h.tail.tail
  have h4 : laidMet Tryz.prog _ W := h3.tail
  have h5 : laidMet Tryz.prog _ W := h4.tail
  have h6 : laidMet Tryz.prog _ W := h5.tail
  refine ⟨⟨?_, ?_, ?_⟩, ?_⟩
  · rw [tabD] at h3
    exact Lib.tabIs_of_head gTab tTab Tryz.underlying140 Tryz.underlying42 cellsU cellsT h3
  · obtain ⟨a1, s1, hv1, -, -, -⟩ := laid_sentinel h5 gSyn tSyn Tryz.underlying99 rowE Tryz.underlying145 Tryz.underlying147 rfl rfl Tryz.underlying9 cellsE cellsS
    exact ⟨_, _, hv1⟩
  · obtain ⟨a0, s0, hv0, -, -, -⟩ := laid_sentinel h4 gRng tRng Tryz.underlying99 rowE Tryz.underlying145 Tryz.underlying147 rfl rfl Tryz.underlying9 cellsE cellsS
    exact ⟨_, _, hv0⟩
  · obtain ⟨a2, s2, hv2, -, -, -⟩ := laid_sentinel h6 gFul tFul Tryz.underlying99 rowE Tryz.underlying145 Tryz.underlying147 rfl rfl Tryz.underlying9 cellsE cellsS
    have hc := World.var?_cell gFul hv2 0
    exact ⟨a2, hc, Shelf.lt_of_cell hc⟩
theorem full_laid {W : World} (h : laidMetH Tryz.prog laid5 W) : ∃ a, W.var? Tryz.prog "loop.example/g00170/impl.errFull" = some #[.iface 145 (.pointer (some a))] := by
  rw [MakeChecks.laidMetH_plain _ _ _ (by kernel_rfl)] at h
  have h3 : laidMet Tryz.prog _ W := h.tail.tail
  have h4 : laidMet Tryz.prog _ W := h3.tail
  have h5 : laidMet Tryz.prog _ W := h4.tail
  have h6 : laidMet Tryz.prog _ W := h5.tail
  obtain ⟨a2, s2, hv2, -, -, -⟩ := laid_sentinel h6 gFul tFul Tryz.underlying99 rowE Tryz.underlying145 Tryz.underlying147 rfl rfl Tryz.underlying9 cellsE cellsS
  exact ⟨a2, hv2⟩
/-- The heap that the program's own laying leaves meets the list. -/
theorem door_met (os : Os) (args : Array Value) : laidMetH Tryz.prog laid5 ((World.doorLaid Tryz.prog 4000 os).forCall (fun _ _ => 0) ⟨#[], args, []⟩).memory :=
  laidMetH_of_parts3 (fuel := 8) (laidMet_of_run' 8 (by kernel_rfl) (by kernel_rfl)) (by kernel_rfl) (by kernel_rfl)

set_option maxRecDepth 100000 in
theorem lifted (os : Os) (started : os.Started) (H : Type) (enc : TypeId × Value → H) :
    ReturnsInHanded {} Tryz.checked os 3 .any (fun w args => (Rows.fnStoredSpec.pre enc Tryz.prog Tryz.f3 [] false w args ∧ laidMetH Tryz.prog laid5 w) ∧ sizedMet enc Tryz.prog Tryz.f3 (OpenSpec.ofChange Rows.fnStoredSpec) false w args)
      (Rows.fnStoredSpec.post enc Tryz.prog Tryz.f3 false true false false) := by
  refine returnsInHanded_of_change_and (C := Tryz.checked) (X := fun w _ => laidMetH Tryz.prog laid5 w) (fun _ _ _ hh h => h.of_heap hh) own started (by kernel_rfl) Tryz.func3
    (ChangeSpec.witness_shaped (enc := enc) (C := Tryz.checked) (os := os) (X := fun w _ => laidMetH Tryz.prog laid5 w) false (World.doorLaid Tryz.prog 4000 os) #[.slice none 0 0] 8 rfl (World.shaped_of_RefB (by kernel_rfl) (by kernel_rfl)) (by kernel_rfl) (by kernel_rfl) (by kernel_rfl) (door_met os _)) ?_
  intro W base args ds gs before hval0 hW _ _ hL _
  have hval : ∀ (j : Nat) t v, Tryz.f3.params[j]? = some t → args[j]? = some v → Value.okWide Tryz.prog W .any base t v := hval0
  have hW' := hW
  obtain ⟨p, q, hA0, hV, rfl, hfz, hnd⟩ := hW
  have hA : DataW.TrodAll enc Tryz.prog W 0 (fun _ => true) true Tryz.f3.params.toList args.toList ds p := hA0
  rw [Tryz.params3] at hA hval
  obtain ⟨v0, vs0, d0, ds0, p0, q0, hargs, rfl, rfl, h0, r0⟩ := trodAll_cons hA
  obtain ⟨rfl, rfl, rfl⟩ := trodAll_nil r0
  obtain rfl : args = #[v0] := by cases args; simp_all
  have hV1 : DataW.TrodVars enc Tryz.prog W (fun _ => true) ["loop.example/g00170/impl.errFull"] gs q := hV
  obtain ⟨gv, tv, csv, fuelv, dv, pv, rfl, hgv, htv, hvarv, hdv, hqv⟩ := trodVars_one hV1
  obtain ⟨av, hav⟩ := full_laid hL
  obtain rfl : csv = #[.iface 145 (.pointer (some av))] := Option.some.inj (hvarv.symm.trans hav)
  obtain rfl := Option.some.inj (gFul.symm.trans hgv)
  obtain rfl := Option.some.inj (tFul.symm.trans htv)
  have kv : DataW.Trod enc Tryz.prog W 0 (fun _ => true) true 99 (.iface 145 (.pointer (some av))) dv pv := ⟨fuelv, hdv⟩
  have ltv : ∀ x ∈ pv, x.block < W.heap.size := DataW.trod_lt fuelv _ _ _ hdv
  have k0 := h0
  have lt0 : ∀ x ∈ p0, x.block < W.heap.size := by obtain ⟨m, hm⟩ := k0; exact DataW.trod_lt m _ _ _ hm
  obtain ⟨x0, y0, z0, rfl⟩ := okWide_slice Tryz.underlying22 (hval 0 22 v0 rfl rfl)
  obtain ⟨P0, C0, L0, Z0, e0, f0, i0⟩ : ∃ (a : Option Addr) (cap n : Nat) (z : Nat → Int), Value.slice x0 y0 z0 = .slice a n cap ∧ Cur.BAt W a n z ∧ n ≤ maxLen := by
    obtain ⟨fuel, hf⟩ := h0
    exact Cur.open_of Tryz.underlying22 Tryz.underlying5 (by kernel_rfl) hf
  simp only [Value.slice.injEq] at e0
  obtain ⟨ex0, ey0, ez0⟩ := e0
  subst x0 y0 z0
  clear hA0 hval0
  refine (walk P0 C0 L0 Z0 W f0 i0 (of_laid hL)).mono fun e W' ⟨he, bel⟩ => ?_
  subst he
  exact ⟨_, rfl, _, _, _, [], _, _, hW', trodAll_mk1 (shut_bool Tryz.underlying4 _), (trodAll_cons_mk (Below.trod laidOut (by kernel_rfl) (of_decide_eq_true (by kernel_rfl)) k0 bel lt0) trodAll_mk0), (by obtain ⟨mv, hmv⟩ := Below.trod laidOut (by kernel_rfl) (of_decide_eq_true (by kernel_rfl)) kv bel ltv; exact trodVars_mk1 hgv htv (Count.var_below hvarv bel) hmv), bel.frame _, fun h => by cases h⟩

theorem over : Rows.fnStoredRow.holds Tryz.pinned (OpenSpec.ofChange Rows.fnStoredSpec) :=
  OpenClaim.holds_of_wide 3 Tryz.f3 rfl rfl rfl rfl rfl rfl rfl ⟨rfl, rfl, rfl, rfl, rfl⟩ rfl rfl rfl rfl rfl (by kernel_rfl) Tryz.func3 (by kernel_rfl)
    (of_decide_eq_true (by kernel_rfl)) (by unfold Func.isWrapper; first | (rw [if_pos (by decide +kernel)]; kernel_rfl) | (rw [if_neg (by decide +kernel)]; exact ⟨rfl, rfl⟩))
    (fun os started H enc _ => lifted os started H enc)

end FnStoredL
theorem fnStored_card : Rows.FnStoredCardSaid :=
  Claim7.holds_tied_plain_at .later [] Rows.fnStoredCard.laidKinds true Rows.fnStoredCard.stood.harness Rows.fnStoredCard.stood.looks
    FnStoredL.over (fun _ h => by cases h) (by kernel_rfl) (fun _ h => by cases h) fnStored_row_tie rfl ⟨rfl, rfl⟩ (by kernel_rfl) rfl
    (fun f fn hf hfn => by
      obtain rfl : f = 3 := Option.some.inj ((show Tryz.prog.funcNamed Rows.fnStoredRow.func = some 3 by kernel_rfl).symm.trans hf) |>.symm
      obtain rfl : fn = Tryz.f3 := (Option.some.inj (Tryz.func3.symm.trans hfn)).symm
      exact ⟨by kernel_rfl, fun j t ht => by
        rw [Tryz.params3] at ht
        have hm : t ∈ [22] := by simpa using Array.mem_of_getElem? ht
        have hall : ([22].all fun u => !Tryz.prog.wantsStandIn u) = true := by kernel_rfl
        exact (show Tryz.prog.wantsStandIn t = false by simpa using List.all_eq_true.1 hall t hm)⟩)
    (by kernel_rfl)

end Go.Proofs.YtkdcofmpbmiloaaGreatDoor
