/-
  FnExactDoStore returns true for every store, time and command, where strconv's and math/bits' variables hold what the program's text lays in them: the program's DoStore answers as the model's, leaves its arguments alone, and what it hands back is its own; and the card that ties the variables to that text. No other condition.
-/
import Derived.Test.YthlcmnjaimffdaaGreatDoorDoStoreL
import Derived.Test.YthlcmnjaimffdaaGreatDoorDoI
import Derived.Test.YthlcmnjaimffdaaGreatDoorDoF
import Derived.Test.YthlcmnjaimffdaaGreatDoorOpens
import Derived.Test.YthlcmnjaimffdaaGreatDoorTie
import Derived.Test.YthlcmnjaimffdaaGreatDoorCards
import Derived.ProofKit
import Derived.LaidMore
import Derived.OpenShut
import Derived.ShutString
import Derived.ChangeOld
import Derived.Stop.Joined
import Derived.Stop.LaidErr
import Derived.Lib.LaidTab
import Derived.SevenTiedAt
namespace Go.Proofs.YthlcmnjaimffdaaGreatDoor
namespace DoStoreL
open Go.ChangeShapes Go.WideShapes Go.ChangeAt Go.RowKit Base Items
open Go.ChangeMaps (open_string shut_string)
set_option linter.unusedVariables false

theorem walk (lim nx : Int) (a : Option Addr) (cap : Nat) (its : List Itm) (now : Int) (nm : ByteArray) (ka : Option Addr) (kcap : Nat) (ks : List ByteArray) (f x n : Int) (dt : ByteArray) (q : Bool) (w : World)
    (hc : ItemsAt w a its) (hcap : its.length ≤ cap) (hl : its.length ≤ maxLen) (hs : ∀ x ∈ its, Fits x) (hnow : (Lit.int .i64 now).wf = true) (hck : StrsAt w ka ks) (hnm : nm.size ≤ maxLen) (hdt : dt.size ≤ maxLen) (hkl : ks.length ≤ maxLen) (hks : ∀ s ∈ ks, s.size ≤ maxLen) (hv : Shelf.VarsF w) :
    Calls Tryz.prog 3 #[.agg #[.int .i64 lim, .int .i64 nx, .slice a its.length cap], .int .i64 now, .agg #[.string nm, .slice ka ks.length kcap, .int .i64 f, .int .i64 x, .int .i64 n, .string dt, .bool q]] w fun e w' => e = .returned (.bool true) ∧ Below w.heap.size w w' :=
  walk0 (fun lim nx b off cap its now nm kb ko kc ks f x n dt q w h1 h2 h3 h4 h5 h6 h7 h8 h9 h10 => Rw.doStore_spec lim nx b off cap its now nm kb ko kc ks f x n dt q w h1 h2 h3 h4 h5 h6 h7 h8 h9 h10)
    (fun lim nx b off cap its now nm kb ko kc ks f x n dt q w h1 h2 h3 h4 h5 h6 h7 h8 h9 h10 h11 => Shelf.doStore_impl lim nx b off cap its now nm kb ko kc ks f x n dt q w h1 h2 h3 h4 h5 h6 h7 h8 h9 h10 h11)
    lim nx a cap its now nm ka kcap ks f x n dt q w hc hcap hl hs hnow hck hnm hdt hkl hks hv
theorem own : ownKnob Tryz.prog.godebug = none := by kernel_rfl
theorem laidOut : laidOutB Tryz.prog = true := by kernel_rfl


abbrev laid5 : List (String × DataW Unit) := Rows.fnExactDoStoreRow.laid
theorem gSyn : Tryz.prog.globalNamed "strconv.ErrSyntax" = some 1 := by kernel_rfl
theorem gRng : Tryz.prog.globalNamed "strconv.ErrRange" = some 2 := by kernel_rfl
theorem gTab : Tryz.prog.globalNamed "internal/strconv.uint64pow10" = some 3 := by kernel_rfl
theorem gFul : Tryz.prog.globalNamed "loop.example/g00170/impl.errFull" = some 0 := by kernel_rfl
theorem tFul : (Tryz.prog.globals[0]?).map (·.type) = some 109 := by kernel_rfl
theorem tSyn : (Tryz.prog.globals[1]?).map (·.type) = some 109 := by kernel_rfl
theorem tRng : (Tryz.prog.globals[2]?).map (·.type) = some 109 := by kernel_rfl
theorem tTab : (Tryz.prog.globals[3]?).map (·.type) = some 150 := by kernel_rfl
theorem cellsE : Tryz.prog.cellsOf 157 = 1 := by kernel_rfl
theorem cellsS : Tryz.prog.cellsOf 9 = 1 := by kernel_rfl
theorem cellsU : Tryz.prog.cellsOf 138 = 1 := by kernel_rfl
theorem cellsT : Tryz.prog.cellsOf 150 = 20 := by kernel_rfl
theorem star : "*" ++ "errors.errorString" = "*errors.errorString" := by decide
theorem rowE (u : TypeId) (h : Tryz.prog.typeName? 3 u = some "*errors.errorString") : u = 155 :=
  typeName_ptr_named (nm := "errors.errorString") (by rw [star]; kernel_rfl) (by kernel_rfl) (by decide) u (by rw [star]; exact h)
theorem tabD : (Rows.laid_internal_strconv_uint64pow10 : DataW Unit) = Lib.tabData .u64 Lib.pow10Tab := by kernel_rfl
/-- What the row's list gives the walk. -/
theorem of_laid {W : World} (h : laidMetH Tryz.prog laid5 W) : Shelf.VarsF W := by
  rw [MakeChecks.laidMetH_plain _ _ _ (by kernel_rfl)] at h
  have h3 : laidMet Tryz.prog _ W := h.tail.tail
  have h4 : laidMet Tryz.prog _ W := h3.tail
  have h5 : laidMet Tryz.prog _ W := h4.tail
  have h6 : laidMet Tryz.prog _ W := h5.tail
  refine ⟨⟨?_, ?_, ?_⟩, ?_⟩
  · rw [tabD] at h3
    exact Lib.tabIs_of_head gTab tTab Tryz.underlying150 Tryz.underlying138 cellsU cellsT h3
  · obtain ⟨a1, s1, hv1, -, -, -⟩ := laid_sentinel h5 gSyn tSyn Tryz.underlying109 rowE Tryz.underlying155 Tryz.underlying157 rfl rfl Tryz.underlying9 cellsE cellsS
    exact ⟨_, _, hv1⟩
  · obtain ⟨a0, s0, hv0, -, -, -⟩ := laid_sentinel h4 gRng tRng Tryz.underlying109 rowE Tryz.underlying155 Tryz.underlying157 rfl rfl Tryz.underlying9 cellsE cellsS
    exact ⟨_, _, hv0⟩
  · obtain ⟨a2, s2, hv2, -, -, -⟩ := laid_sentinel h6 gFul tFul Tryz.underlying109 rowE Tryz.underlying155 Tryz.underlying157 rfl rfl Tryz.underlying9 cellsE cellsS
    have hc := World.var?_cell gFul hv2 0
    exact ⟨a2, hc, Shelf.lt_of_cell hc⟩
theorem full_laid {W : World} (h : laidMetH Tryz.prog laid5 W) : ∃ a, W.var? Tryz.prog "loop.example/g00170/impl.errFull" = some #[.iface 155 (.pointer (some a))] := by
  rw [MakeChecks.laidMetH_plain _ _ _ (by kernel_rfl)] at h
  have h3 : laidMet Tryz.prog _ W := h.tail.tail
  have h4 : laidMet Tryz.prog _ W := h3.tail
  have h5 : laidMet Tryz.prog _ W := h4.tail
  have h6 : laidMet Tryz.prog _ W := h5.tail
  obtain ⟨a2, s2, hv2, -, -, -⟩ := laid_sentinel h6 gFul tFul Tryz.underlying109 rowE Tryz.underlying155 Tryz.underlying157 rfl rfl Tryz.underlying9 cellsE cellsS
  exact ⟨a2, hv2⟩
/-- The heap that the program's own laying leaves meets the list. -/
theorem door_met (os : Os) (args : Array Value) : laidMetH Tryz.prog laid5 ((World.doorLaid Tryz.prog 4000 os).forCall (fun _ _ => 0) ⟨#[], args, []⟩).memory :=
  laidMetH_of_parts3 (fuel := 8) (laidMet_of_run' 8 (by kernel_rfl) (by kernel_rfl)) (by kernel_rfl) (by kernel_rfl)

set_option maxRecDepth 100000 in
theorem lifted (os : Os) (started : os.Started) (H : Type) (enc : TypeId × Value → H) :
    ReturnsInHanded {} Tryz.checked os 3 .any (fun w args => (Rows.fnExactDoStoreSpec.pre enc Tryz.prog Tryz.f3 [] false w args ∧ laidMetH Tryz.prog laid5 w) ∧ sizedMet enc Tryz.prog Tryz.f3 (OpenSpec.ofChange Rows.fnExactDoStoreSpec) false w args)
      (Rows.fnExactDoStoreSpec.post enc Tryz.prog Tryz.f3 false true false false) := by
  refine returnsInHanded_of_change_and (C := Tryz.checked) (X := fun w _ => laidMetH Tryz.prog laid5 w) (fun _ _ _ hh h => h.of_heap hh) own started (by kernel_rfl) Tryz.func3
    (ChangeSpec.witness_shaped (enc := enc) (C := Tryz.checked) (os := os) (X := fun w _ => laidMetH Tryz.prog laid5 w) false (World.doorLaid Tryz.prog 4000 os) #[.agg #[.int .i64 0, .int .i64 0, .slice none 0 0], .int .i64 0, .agg #[.string ByteArray.empty, .slice none 0 0, .int .i64 0, .int .i64 0, .int .i64 0, .string ByteArray.empty, .bool false]] 8 rfl (World.shaped_of_RefB (by kernel_rfl) (by kernel_rfl)) (by kernel_rfl) (by kernel_rfl) (by kernel_rfl) (door_met os _)) ?_
  intro W base args ds gs before hval0 hW _ _ hL _
  have hval : ∀ (j : Nat) t v, Tryz.f3.params[j]? = some t → args[j]? = some v → Value.okWide Tryz.prog W .any base t v := hval0
  have hW' := hW
  obtain ⟨p, q, hA0, hV, rfl, hfz, hnd⟩ := hW
  have hA : DataW.TrodAll enc Tryz.prog W 0 (fun _ => true) true Tryz.f3.params.toList args.toList ds p := hA0
  rw [Tryz.params3] at hA hval
  obtain ⟨v0, vs0, d0, ds0, p0, q0, hargs, rfl, rfl, h0, r0⟩ := trodAll_cons hA
  obtain ⟨v1, vs1, d1, ds1, p1, q1, rfl, rfl, rfl, h1, r1⟩ := trodAll_cons r0
  obtain ⟨v2, vs2, d2, ds2, p2, q2, rfl, rfl, rfl, h2, r2⟩ := trodAll_cons r1
  obtain ⟨rfl, rfl, rfl⟩ := trodAll_nil r2
  obtain rfl : args = #[v0, v1, v2] := by cases args; simp_all
  have hV1 : DataW.TrodVars enc Tryz.prog W (fun _ => true) ["loop.example/g00170/impl.errFull"] gs q := hV
  obtain ⟨gv, tv, csv, fuelv, dv, pv, rfl, hgv, htv, hvarv, hdv, hqv⟩ := trodVars_one hV1
  obtain ⟨av, hav⟩ := full_laid hL
  obtain rfl : csv = #[.iface 155 (.pointer (some av))] := Option.some.inj (hvarv.symm.trans hav)
  obtain rfl := Option.some.inj (gFul.symm.trans hgv)
  obtain rfl := Option.some.inj (tFul.symm.trans htv)
  have kv : DataW.Trod enc Tryz.prog W 0 (fun _ => true) true 109 (.iface 155 (.pointer (some av))) dv pv := ⟨fuelv, hdv⟩
  have ltv : ∀ x ∈ pv, x.block < W.heap.size := DataW.trod_lt fuelv _ _ _ hdv
  have k0 := h0
  have lt0 : ∀ x ∈ p0, x.block < W.heap.size := by obtain ⟨m, hm⟩ := k0; exact DataW.trod_lt m _ _ _ hm
  obtain ⟨cs0, rfl, sz0⟩ := okWide_struct Tryz.underlying24 (hval 0 24 v0 rfl rfl)
  obtain ⟨ca0, cb0, cc0, rfl⟩ := Open.array3 (sz0.trans (show Tryz.prog.cellsOf 24 = 3 by kernel_rfl))
  obtain ⟨_, _, g0a⟩ := Open.field_at Tryz.underlying24 (by kernel_rfl) h0 0 _ rfl _ rfl
  obtain ⟨_, _, g0b⟩ := Open.field_at Tryz.underlying24 (by kernel_rfl) h0 1 _ rfl _ rfl
  obtain ⟨_, _, g0c⟩ := Open.field_at Tryz.underlying24 (by kernel_rfl) h0 2 _ rfl _ rfl
  obtain ⟨lim0, e0a, _, _⟩ := DataW.trod_int Tryz.underlying3 g0a
  obtain ⟨nx0, e0b, _, _⟩ := DataW.trod_int Tryz.underlying3 g0b
  obtain ⟨P0, C0, L0, e0c, f0, u0, i0, t0⟩ := Open.items_of Tryz.underlying22 Tryz.underlying69 (by kernel_rfl) (by kernel_rfl) Tryz.underlying9 Tryz.underlying3 Tryz.underlying9 Tryz.underlying3 Tryz.underlying3 g0c
  simp only [List.cons.injEq, and_true] at e0a e0b
  subst e0a e0b e0c
  have k1 := h1
  have lt1 : ∀ x ∈ p1, x.block < W.heap.size := by obtain ⟨m, hm⟩ := k1; exact DataW.trod_lt m _ _ _ hm
  obtain ⟨a1, rfl, rfl, rfl, w1⟩ := open_int Tryz.underlying3 (hval 1 3 v1 rfl rfl) h1
  have k2 := h2
  have lt2 : ∀ x ∈ p2, x.block < W.heap.size := by obtain ⟨m, hm⟩ := k2; exact DataW.trod_lt m _ _ _ hm
  obtain ⟨cs2, rfl, sz2⟩ := okWide_struct Tryz.underlying27 (hval 2 27 v2 rfl rfl)
  obtain ⟨ca2, cb2, cc2, cd2, ce2, cf2, cg2, rfl⟩ := Open.array7 (sz2.trans (show Tryz.prog.cellsOf 27 = 7 by kernel_rfl))
  obtain ⟨_, _, g2a⟩ := Open.field_at Tryz.underlying27 (by kernel_rfl) h2 0 _ rfl _ rfl
  obtain ⟨_, _, g2b⟩ := Open.field_at Tryz.underlying27 (by kernel_rfl) h2 1 _ rfl _ rfl
  obtain ⟨_, _, g2c⟩ := Open.field_at Tryz.underlying27 (by kernel_rfl) h2 2 _ rfl _ rfl
  obtain ⟨_, _, g2d⟩ := Open.field_at Tryz.underlying27 (by kernel_rfl) h2 3 _ rfl _ rfl
  obtain ⟨_, _, g2e⟩ := Open.field_at Tryz.underlying27 (by kernel_rfl) h2 4 _ rfl _ rfl
  obtain ⟨_, _, g2f⟩ := Open.field_at Tryz.underlying27 (by kernel_rfl) h2 5 _ rfl _ rfl
  obtain ⟨_, _, g2g⟩ := Open.field_at Tryz.underlying27 (by kernel_rfl) h2 6 _ rfl _ rfl
  obtain ⟨nm2, e2a, _, hnm2⟩ := DataW.trod_string Tryz.underlying9 g2a
  obtain ⟨P2, C2, L2, e2b, f2, i2, t2⟩ := Open.strs_of Tryz.underlying25 Tryz.underlying9 (by kernel_rfl) g2b
  obtain ⟨fl2, e2c, _, _⟩ := DataW.trod_int Tryz.underlying3 g2c
  obtain ⟨ex2, e2d, _, _⟩ := DataW.trod_int Tryz.underlying3 g2d
  obtain ⟨nu2, e2e, _, _⟩ := DataW.trod_int Tryz.underlying3 g2e
  obtain ⟨dt2, e2f, _, hdt2⟩ := DataW.trod_string Tryz.underlying9 g2f
  obtain ⟨qu2, e2g, _⟩ := DataW.trod_bool Tryz.underlying4 g2g
  simp only [List.cons.injEq, and_true] at e2a e2c e2d e2e e2f e2g
  subst e2a e2b e2c e2d e2e e2f e2g
  clear hA0 hval0
  refine (walk lim0 nx0 P0 C0 L0 a1 nm2 P2 C2 L2 fl2 ex2 nu2 dt2 qu2 W f0 u0 i0 t0 w1 f2 hnm2 hdt2 i2 t2 (of_laid hL)).mono fun e W' ⟨he, bel⟩ => ?_
  subst he
  exact ⟨_, rfl, _, _, _, [], _, _, hW', trodAll_mk1 (shut_bool Tryz.underlying4 _), (trodAll_cons_mk (Below.trod laidOut (by kernel_rfl) (of_decide_eq_true (by kernel_rfl)) k0 bel lt0) (trodAll_cons_mk (Below.trod laidOut (by kernel_rfl) (of_decide_eq_true (by kernel_rfl)) k1 bel lt1) (trodAll_cons_mk (Below.trod laidOut (by kernel_rfl) (of_decide_eq_true (by kernel_rfl)) k2 bel lt2) trodAll_mk0))), (by obtain ⟨mv, hmv⟩ := Below.trod laidOut (by kernel_rfl) (of_decide_eq_true (by kernel_rfl)) kv bel ltv; exact trodVars_mk1 hgv htv (Count.var_below hvarv bel) hmv), bel.frame _, fun h => by cases h⟩

theorem over : Rows.fnExactDoStoreRow.holds Tryz.pinned (OpenSpec.ofChange Rows.fnExactDoStoreSpec) :=
  OpenClaim.holds_of_wide 3 Tryz.f3 rfl rfl rfl rfl rfl rfl rfl ⟨rfl, rfl, rfl, rfl, rfl⟩ rfl rfl rfl rfl rfl (by kernel_rfl) Tryz.func3 (by kernel_rfl)
    (of_decide_eq_true (by kernel_rfl)) (by unfold Func.isWrapper; first | (rw [if_pos (by decide +kernel)]; kernel_rfl) | (rw [if_neg (by decide +kernel)]; exact ⟨rfl, rfl⟩))
    (fun os started H enc _ => lifted os started H enc)

end DoStoreL
theorem doStore_card : Rows.FnExactDoStoreCardSaid :=
  Claim7.holds_tied_plain_at .later [] Rows.fnExactDoStoreCard.laidKinds true Rows.fnExactDoStoreCard.stood.harness Rows.fnExactDoStoreCard.stood.looks
    DoStoreL.over (fun _ h => by cases h) (by kernel_rfl) (fun _ h => by cases h) fnExactDoStore_row_tie rfl ⟨rfl, rfl⟩ (by kernel_rfl) rfl
    (fun f fn hf hfn => by
      obtain rfl : f = 3 := Option.some.inj ((show Tryz.prog.funcNamed Rows.fnExactDoStoreRow.func = some 3 by kernel_rfl).symm.trans hf) |>.symm
      obtain rfl : fn = Tryz.f3 := (Option.some.inj (Tryz.func3.symm.trans hfn)).symm
      exact ⟨by kernel_rfl, fun j t ht => by
        rw [Tryz.params3] at ht
        have hm : t ∈ [24, 3, 27] := by simpa using Array.mem_of_getElem? ht
        have hall : ([24, 3, 27].all fun u => !Tryz.prog.wantsStandIn u) = true := by kernel_rfl
        exact (show Tryz.prog.wantsStandIn t = false by simpa using List.all_eq_true.1 hall t hm)⟩)
    (by kernel_rfl)

end Go.Proofs.YthlcmnjaimffdaaGreatDoor
