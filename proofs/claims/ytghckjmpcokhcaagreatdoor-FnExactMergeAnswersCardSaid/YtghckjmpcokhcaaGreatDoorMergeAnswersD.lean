/-
  FnExactMergeAnswers returns true for every slice of nodes, every two slices of texts and every bool, where the variables that the row lists hold what the program's text lays in them; and the card that ties them to that text. No other condition.
-/
import Derived.Test.YtghckjmpcokhcaaGreatDoorMergeI
import Derived.Test.YtghckjmpcokhcaaGreatDoorMergeU
import Derived.Test.YtghckjmpcokhcaaGreatDoorNodeH
import Derived.Test.YtghckjmpcokhcaaGreatDoorStrZ
import Derived.Test.YtghckjmpcokhcaaGreatDoorOpenZ
import Derived.Test.YtghckjmpcokhcaaGreatDoorTie
import Derived.Test.YtghckjmpcokhcaaGreatDoorCards
import Derived.ProofKit
import Derived.LaidMore
import Derived.OpenShut
import Derived.ShutString
import Derived.ChangeOld
import Derived.ChangeMaps5
import Derived.Stop.Joined
import Derived.Stop.LaidErr
import Derived.Lib.LaidTab
import Derived.Lay
import Derived.Shelf.Vars
import Derived.SevenTiedAt
namespace Go.Proofs.YtghckjmpcokhcaaGreatDoor
namespace MergeAnswersL
open Go.ChangeShapes Go.WideShapes Go.ChangeAt Go.RowKit Base Ring Merge Rd
set_option linter.unusedVariables false

theorem mgW_form (R : Option ByteArray) : ∃ s b, mgW R = .tuple #[.string s, .bool b] := by
  cases R with
  | none => exact ⟨_, _, rfl⟩
  | some t => exact ⟨_, _, rfl⟩

set_option maxRecDepth 100000 in
set_option maxHeartbeats 8000000 in
theorem walk (a : Option Addr) (cap : Nat) (l : List Nodes.D) (ak : Option Addr) (kcap : Nat) (ks : List ByteArray) (an : Option Addr) (ncap : Nat) (ns : List ByteArray) (token : Bool) (w : World)
    (hc : Nodes.LAt w a l) (hcap : l.length ≤ cap) (hl : l.length ≤ maxLen) (hs : ∀ x ∈ l, Nodes.Fits x)
    (hck : StrsAt w ak ks) (hkl : ks.length ≤ maxLen) (hks : ∀ s ∈ ks, s.size ≤ maxLen) (hcn : StrsAt w an ns) (hnl : ns.length ≤ maxLen) (hns : ∀ s ∈ ns, s.size ≤ maxLen) (hv : V2 w) :
    Calls Tryz.prog 4 #[.slice a l.length cap, .slice ak ks.length kcap, .slice an ns.length ncap, .bool token] w fun e w' => e = .returned (.bool true) ∧ Below w.heap.size w w' := by
  have HC := hide hc
  have HCK := hide hck
  have HCN := hide hcn
  have HV := hide hv
  have HS := hide hs
  have HKS := hide hks
  have HNS := hide hns
  have HLM := hide hl
  have HKM := hide hkl
  have HNM := hide hnl
  have hzl := @Nodes.szL_len l 1048576
  have hbd := Nodes.szL_bd l 1048576 (by omega)
  have hsz := Nodes.sz_any a cap l 1048576 w hc hl hs (by omega) (by omega)
  generalize Nodes.szL l 1048576 = z at hzl hsz hbd
  have HSZ := hide hsz
  clear hc hs hsz hv hck hks hcn hns
  by_cases hz : z < 0
  · clear hzl hbd
    go_enter Tryz.func4, Tryz.ntmps4
    go_wp2_with fail
    refine (unhide HSZ).mono ?_
    rintro e w2 ⟨rfl, hb2⟩
    have hB2 := hide hb2
    clear hb2
    go_wp2
    go_ret
    exact ⟨rfl, unhide hB2⟩
  have hlen : l.length ≤ 1048576 := by have := hzl hz; omega
  have hzk := szS_len ks z
  have hbk := (szS_bd ks z (by omega)).2
  have hszk := fun w1 h => Strs.sz_bel ak kcap ks z w1 h hkl (unhide HKS) (by omega) (by omega)
  generalize szS ks z = zk at hzk hszk hbk
  have HSZK := hide hszk
  clear hzl hszk
  by_cases hzk0 : zk < 0
  · clear hzk hbd hbk
    go_enter Tryz.func4, Tryz.ntmps4
    go_wp2_with fail
    refine (unhide HSZ).mono ?_
    rintro e w2 ⟨rfl, hb2⟩
    have hB2 := hide hb2
    clear hb2
    go_wp2_with fail
    refine (unhide HSZK _ ((unhide HCK).below (unhide hB2) (Nat.le_refl _))).mono ?_
    rintro e w3 ⟨rfl, hb3⟩
    have hB3 := hide ((unhide hB2).trans (hb3.mono (unhide hB2).size))
    clear hb3
    go_wp2
    go_ret
    exact ⟨rfl, unhide hB3⟩
  have hlenk : ks.length ≤ 1048576 := by have := (hzk (by omega)).1; omega
  have hzn : 0 ≤ szS ns zk → (ns.length : Int) ≤ zk ∧ ∀ s ∈ ns, (s.size : Int) ≤ zk := fun h => by
    obtain ⟨h1, h2⟩ := szS_len ns zk h
    rw [h2] at h
    exact ⟨h1, fun s hs => by have := szGo_sizes ns _ h s hs; omega⟩
  have hszn := fun w1 h => Strs.sz_bel an ncap ns zk w1 h hnl (unhide HNS) (by omega) (by omega)
  generalize szS ns zk = zn at hzn hszn
  have HSZN := hide hszn
  clear hzk hszn
  by_cases hzn0 : zn < 0
  · clear hzn hbd hbk
    go_enter Tryz.func4, Tryz.ntmps4
    go_wp2_with fail
    refine (unhide HSZ).mono ?_
    rintro e w2 ⟨rfl, hb2⟩
    have hB2 := hide hb2
    clear hb2
    go_wp2_with fail
    refine (unhide HSZK _ ((unhide HCK).below (unhide hB2) (Nat.le_refl _))).mono ?_
    rintro e w3 ⟨rfl, hb3⟩
    have hB3 := hide ((unhide hB2).trans (hb3.mono (unhide hB2).size))
    clear hb3
    go_wp2_with fail
    refine (unhide HSZN _ ((unhide HCN).below (unhide hB3) (Nat.le_refl _))).mono ?_
    rintro e w4 ⟨rfl, hb4⟩
    have hB4 := hide ((unhide hB3).trans (hb4.mono (unhide hB3).size))
    clear hb4
    go_wp2
    go_ret
    exact ⟨rfl, unhide hB4⟩
  have hlenn : ns.length ≤ 1048576 := by have := (hzn (by omega)).1; omega
  have HNZ : Hid (∀ s ∈ ns, s.size ≤ 1048576) := fun s hs => by have := (hzn (by omega)).2 s hs; omega
  clear hzn hbd hl hkl hnl hbk
  have hsp := fun ba kb nb w h1 h2 h5 h6 h7 h8 => Merge.spec_any ba 0 l.length l kb 0 ks.length ks nb 0 ns.length ns token w h1 h2 (unhide HLM) (unhide HS) h5 h6 (unhide HKM) (unhide HKS) h7 h8 hlenn (unhide HNZ)
  have him := fun ba kb nb w h1 h2 h5 h6 h7 h8 hv => Merge.impl_any ba 0 l.length l kb 0 ks.length ks nb 0 ns.length ns token w h1 h2 (unhide HLM) (unhide HS) h5 h6 (unhide HKM) (unhide HKS) h7 h8 hlenn (unhide HNZ) hv
  obtain ⟨rs, gd, hres⟩ := mgW_form (outM l ks ns token)
  rw [hres] at hsp him
  have HSP := hide hsp
  have HIM := hide him
  clear hsp him hres
  have hok : (gd != gd) = false := by cases gd <;> rfl
  have hst : (rs.toList != rs.toList) = false := by simp
  have hst2 : (rs.toList == rs.toList) = true := by simp
  go_enter Tryz.func4, Tryz.ntmps4
  go_wp2_with fail
  refine (unhide HSZ).mono ?_
  rintro e w2 ⟨rfl, hb2⟩
  have B2 := hide hb2
  have z2 : w.heap.size ≤ w2.heap.size := hb2.size
  clear hb2
  go_wp2_with fail
  refine (unhide HSZK _ ((unhide HCK).below (unhide B2) (Nat.le_refl _))).mono ?_
  rintro e w3 ⟨rfl, hb3⟩
  have B3 := hide ((unhide B2).trans (hb3.mono (unhide B2).size))
  have z3 : w2.heap.size ≤ w3.heap.size := hb3.size
  clear hb3
  go_wp2_with fail
  refine (unhide HSZN _ ((unhide HCN).below (unhide B3) (Nat.le_refl _))).mono ?_
  rintro e w4 ⟨rfl, hb4⟩
  have B4 := hide ((unhide B3).trans (hb4.mono (unhide B3).size))
  have z4 : w3.heap.size ≤ w4.heap.size := hb4.size
  clear hb4
  go_wp2_with fail
  refine (Nodes.to_any a cap l _ ((unhide HC).below (unhide B4) (Nat.le_refl _)) hlen).mono ?_
  rintro e w5 ⟨rfl, hrow, hb5⟩
  have ra5 := hide hrow
  have ya : w4.heap.size < w5.heap.size := hrow.lt
  clear hrow
  have B5 := hide ((unhide B4).trans (hb5.mono (unhide B4).size))
  have z5 : w4.heap.size ≤ w5.heap.size := hb5.size
  clear hb5
  go_wp2_with fail
  refine (Strs.to_bel ak kcap ks _ ((unhide HCK).below (unhide B5) (Nat.le_refl _)) hlenk).mono ?_
  rintro e w6 ⟨rfl, hrow, hb6⟩
  have rk6 := hide hrow
  have yk : w5.heap.size < w6.heap.size := hrow.lt
  clear hrow
  have ra6 := hide ((unhide ra5).of_block (hb6.block _ (unhide ra5).lt))
  have B6 := hide ((unhide B5).trans (hb6.mono (unhide B5).size))
  have z6 : w5.heap.size ≤ w6.heap.size := hb6.size
  clear hb6
  go_wp2_with fail
  refine (Strs.to_bel an ncap ns _ ((unhide HCN).below (unhide B6) (Nat.le_refl _)) hlenn).mono ?_
  rintro e w7 ⟨rfl, hrow, hb7⟩
  have rn7 := hide hrow
  have yn : w6.heap.size < w7.heap.size := hrow.lt
  clear hrow
  have ra7 := hide ((unhide ra6).of_block (hb7.block _ (unhide ra6).lt))
  have rk7 := hide ((unhide rk6).of_block (hb7.block _ (unhide rk6).lt))
  have B7 := hide ((unhide B6).trans (hb7.mono (unhide B6).size))
  have z7 : w6.heap.size ≤ w7.heap.size := hb7.size
  clear hb7
  go_wp2_with fail
  refine (unhide HSP _ _ _ _ (unhide ra7).lt (Nodes.at_row (unhide ra7)) (unhide rk7).lt (Strs.at_row (unhide rk7)) (unhide rn7).lt (Strs.at_row (unhide rn7))).mono ?_
  rintro e w8 ⟨rfl, hb8⟩
  have B8 := hide ((unhide B7).trans (hb8.mono (unhide B7).size))
  have z8 : w7.heap.size ≤ w8.heap.size := hb8.size
  clear hb8
  go_wp2_with fail
  refine (Nodes.to_any a cap l _ ((unhide HC).below (unhide B8) (Nat.le_refl _)) hlen).mono ?_
  rintro e w9 ⟨rfl, hrow, hb9⟩
  have xa9 := hide hrow
  have ua : w8.heap.size < w9.heap.size := hrow.lt
  clear hrow
  have B9 := hide ((unhide B8).trans (hb9.mono (unhide B8).size))
  have z9 : w8.heap.size ≤ w9.heap.size := hb9.size
  clear hb9
  go_wp2_with fail
  refine (Strs.to_bel ak kcap ks _ ((unhide HCK).below (unhide B9) (Nat.le_refl _)) hlenk).mono ?_
  rintro e w10 ⟨rfl, hrow, hb10⟩
  have xk10 := hide hrow
  have uk : w9.heap.size < w10.heap.size := hrow.lt
  clear hrow
  have xa10 := hide ((unhide xa9).of_block (hb10.block _ (unhide xa9).lt))
  have B10 := hide ((unhide B9).trans (hb10.mono (unhide B9).size))
  have z10 : w9.heap.size ≤ w10.heap.size := hb10.size
  clear hb10
  go_wp2_with fail
  refine (Strs.to_bel an ncap ns _ ((unhide HCN).below (unhide B10) (Nat.le_refl _)) hlenn).mono ?_
  rintro e w11 ⟨rfl, hrow, hb11⟩
  have xn11 := hide hrow
  have un : w10.heap.size < w11.heap.size := hrow.lt
  clear hrow
  have xa11 := hide ((unhide xa10).of_block (hb11.block _ (unhide xa10).lt))
  have xk11 := hide ((unhide xk10).of_block (hb11.block _ (unhide xk10).lt))
  have B11 := hide ((unhide B10).trans (hb11.mono (unhide B10).size))
  have z11 : w10.heap.size ≤ w11.heap.size := hb11.size
  clear hb11
  go_wp2_with fail
  refine (unhide HIM _ _ _ _ (unhide xa11).lt (Nodes.at_row (unhide xa11)) (unhide xk11).lt (Strs.at_row (unhide xk11)) (unhide xn11).lt (Strs.at_row (unhide xn11)) ((unhide HV).below (unhide B11))).mono ?_
  rintro e w12 ⟨rfl, hb12⟩
  have xa12 := hide ((unhide xa11).of_block (hb12.block _ (unhide xa11).lt))
  have xk12 := hide ((unhide xk11).of_block (hb12.block _ (unhide xk11).lt))
  have xn12 := hide ((unhide xn11).of_block (hb12.block _ (unhide xn11).lt))
  have B12 := hide ((unhide B11).trans (hb12.mono (unhide B11).size))
  have z12 : w11.heap.size ≤ w12.heap.size := hb12.size
  clear hb12
  go_wp2_with fail
  refine (Nodes.to_any a cap l _ ((unhide HC).below (unhide B12) (Nat.le_refl _)) hlen).mono ?_
  rintro e w13 ⟨rfl, hrow, hb13⟩
  have ta13 := hide hrow
  have va : w12.heap.size < w13.heap.size := hrow.lt
  clear hrow
  have xa13 := hide ((unhide xa12).of_block (hb13.block _ (unhide xa12).lt))
  have xk13 := hide ((unhide xk12).of_block (hb13.block _ (unhide xk12).lt))
  have xn13 := hide ((unhide xn12).of_block (hb13.block _ (unhide xn12).lt))
  have B13 := hide ((unhide B12).trans (hb13.mono (unhide B12).size))
  have z13 : w12.heap.size ≤ w13.heap.size := hb13.size
  clear hb13
  go_wp2_with fail
  refine (Nodes.eq_same _ _ _ _ l _ (Nodes.LAt.row (unhide xa13)) (Nodes.LAt.row (unhide ta13)) (unhide HLM)).mono ?_
  rintro e w14 ⟨rfl, hb14⟩
  have xk14 := hide ((unhide xk13).of_block (hb14.block _ (unhide xk13).lt))
  have xn14 := hide ((unhide xn13).of_block (hb14.block _ (unhide xn13).lt))
  have B14 := hide ((unhide B13).trans (hb14.mono (unhide B13).size))
  have z14 : w13.heap.size ≤ w14.heap.size := hb14.size
  clear hb14
  go_wp2_with fail
  refine (Strs.to_bel ak kcap ks _ ((unhide HCK).below (unhide B14) (Nat.le_refl _)) hlenk).mono ?_
  rintro e w15 ⟨rfl, hrow, hb15⟩
  have tk15 := hide hrow
  have vk : w14.heap.size < w15.heap.size := hrow.lt
  clear hrow
  have xk15 := hide ((unhide xk14).of_block (hb15.block _ (unhide xk14).lt))
  have xn15 := hide ((unhide xn14).of_block (hb15.block _ (unhide xn14).lt))
  have B15 := hide ((unhide B14).trans (hb15.mono (unhide B14).size))
  have z15 : w14.heap.size ≤ w15.heap.size := hb15.size
  clear hb15
  go_wp2_with fail
  refine (Strs.eq_bel _ _ ks _ _ _ (StrsAt.row (unhide xk15)) (StrsAt.row (unhide tk15)) (unhide HKM)).mono ?_
  rintro e w16 ⟨rfl, hb16⟩
  have xn16 := hide ((unhide xn15).of_block (hb16.block _ (unhide xn15).lt))
  have B16 := hide ((unhide B15).trans (hb16.mono (unhide B15).size))
  have z16 : w15.heap.size ≤ w16.heap.size := hb16.size
  clear hb16
  go_wp2_with fail
  refine (Strs.to_bel an ncap ns _ ((unhide HCN).below (unhide B16) (Nat.le_refl _)) hlenn).mono ?_
  rintro e w17 ⟨rfl, hrow, hb17⟩
  have tn17 := hide hrow
  have vn : w16.heap.size < w17.heap.size := hrow.lt
  clear hrow
  have xn17 := hide ((unhide xn16).of_block (hb17.block _ (unhide xn16).lt))
  have B17 := hide ((unhide B16).trans (hb17.mono (unhide B16).size))
  have z17 : w16.heap.size ≤ w17.heap.size := hb17.size
  clear hb17
  go_wp2_with fail
  refine (Strs.eq_bel _ _ ns _ _ _ (StrsAt.row (unhide xn17)) (StrsAt.row (unhide tn17)) (unhide HNM)).mono ?_
  rintro e w18 ⟨rfl, hb18⟩
  have B18 := hide ((unhide B17).trans (hb18.mono (unhide B17).size))
  have z18 : w17.heap.size ≤ w18.heap.size := hb18.size
  clear hb18
  go_wp2
  go_ret
  exact ⟨rfl, unhide B18⟩

theorem own : ownKnob Tryz.prog.godebug = none := by kernel_rfl
theorem laidOut : laidOutB Tryz.prog = true := by kernel_rfl


abbrev laid5 : List (String × DataW Unit) := Rows.fnExactMergeAnswersRow.laid
theorem gSyn : Tryz.prog.globalNamed "strconv.ErrSyntax" = some 6 := by kernel_rfl
theorem gRng : Tryz.prog.globalNamed "strconv.ErrRange" = some 7 := by kernel_rfl
theorem gTab : Tryz.prog.globalNamed "internal/strconv.uint64pow10" = some 0 := by kernel_rfl
theorem tSyn : (Tryz.prog.globals[6]?).map (·.type) = some 70 := by kernel_rfl
theorem tRng : (Tryz.prog.globals[7]?).map (·.type) = some 70 := by kernel_rfl
theorem tTab : (Tryz.prog.globals[0]?).map (·.type) = some 152 := by kernel_rfl
theorem cellsE : Tryz.prog.cellsOf 182 = 1 := by kernel_rfl
theorem cellsS : Tryz.prog.cellsOf 9 = 1 := by kernel_rfl
theorem cellsU : Tryz.prog.cellsOf 50 = 1 := by kernel_rfl
theorem cellsT : Tryz.prog.cellsOf 152 = 20 := by kernel_rfl
theorem star : "*" ++ "errors.errorString" = "*errors.errorString" := by decide
theorem rowE (u : TypeId) (h : Tryz.prog.typeName? 3 u = some "*errors.errorString") : u = 180 :=
  typeName_ptr_named (nm := "errors.errorString") (by rw [star]; kernel_rfl) (by kernel_rfl) (by decide) u (by rw [star]; exact h)
theorem tabD : (Rows.laid_internal_strconv_uint64pow10 : DataW Unit) = Lib.tabData .u64 Lib.pow10Tab := by kernel_rfl
/-- What the row's list gives the walk. -/
theorem of_laid {W : World} (h : laidMetH Tryz.prog laid5 W) : Count.Vars W := by
  rw [MakeChecks.laidMetH_plain _ _ _ (by kernel_rfl)] at h
  have h3 : laidMet Tryz.prog _ W := h.tail.tail
  have h4 : laidMet Tryz.prog _ W := h3.tail.tail
  have h5 : laidMet Tryz.prog _ W := h4.tail
  refine ⟨?_, ?_, ?_⟩
  · rw [tabD] at h3
    exact Lib.tabIs_of_head gTab tTab Tryz.underlying152 Tryz.underlying50 cellsU cellsT h3
  · obtain ⟨a1, s1, hv1, -, -, -⟩ := laid_sentinel h5 gSyn tSyn Tryz.underlying70 rowE Tryz.underlying180 Tryz.underlying182 rfl rfl Tryz.underlying9 cellsE cellsS
    exact ⟨_, _, hv1⟩
  · obtain ⟨a0, s0, hv0, -, -, -⟩ := laid_sentinel h4 gRng tRng Tryz.underlying70 rowE Tryz.underlying180 Tryz.underlying182 rfl rfl Tryz.underlying9 cellsE cellsS
    exact ⟨_, _, hv0⟩
/-- What the world's shape gives of the one that is not listed. -/
theorem of_shape {W : World} (h : W.ShapedOpen Tryz.prog) : ∃ m, W.cell? ⟨1, 0, none⟩ = some (.int .i64 m) :=
  cell_of_shapedOpen_int (t := 3) (zero := #[.int .i64 0]) h (of_decide_eq_true (by kernel_rfl)) (by kernel_rfl) rfl (by kernel_rfl) (by kernel_rfl) (by kernel_rfl)
/-- A world in which the list is laid. -/
theorem door_met (os : Os) (args : Array Value) : laidMetH Tryz.prog laid5 ((World.laidAll Tryz.prog os laid5).forCall (fun _ _ => 0) ⟨#[], args, []⟩).memory := by
  rw [MakeChecks.laidMetH_plain _ _ _ (by kernel_rfl)]
  exact laidMet_laidAll _ (by kernel_rfl) (by kernel_rfl)
/-- The wrap that keeps both what is listed and the world's shape. -/
theorem wrapped {H : Type} {enc : TypeId × Value → H} {a : Assume} {C : Checked} {os : Os} {f : FuncId} {fn : Func} {s : ChangeSpec} {conds : List PathCond} {apart fresh handsOn again : Bool} {X : World → Array Value → Prop}
    (hX : ∀ (w w' : World) (args : Array Value), w.heap = w'.heap → X w args → X w' args)
    (own : ownKnob C.prog.godebug = none) (started : os.Started) (noInit : C.prog.inits.idxOf? f = none) (hfn : C.prog.funcs[f]? = some fn)
    (witness : ∃ (w : World) (tape : Tape) (i : Input), w.os = os ∧ (w.forCall tape i).Shaped C.prog ∧ i.vars = [] ∧ Input.okWide C.prog (w.forCall tape i) .any w.heap.size f i ∧
      ((s.pre enc C.prog fn conds apart (w.forCall tape i).memory i.args ∧ X (w.forCall tape i).memory i.args) ∧ sizedMet enc C.prog fn (OpenSpec.ofChange s) apart (w.forCall tape i).memory i.args) ∧ a.holds C.prog (lone (Frame.enter C.prog f i.args .normal) [] (w.forCall tape i)))
    (contract : ∀ (W : World) (base : Nat) (args : Array Value) (ds gs : List (DataW H)) (before : List MemPlace),
      (∀ (j : Nat) t v, fn.params[j]? = some t → args[j]? = some v → Value.okWide C.prog W .any base t v) →
      DataW.Whole enc C.prog fn.params.toList s.vars apart W args.toList ds gs before → X W args → W.ShapedOpen C.prog →
      Calls C.prog f args W fun e W' => ∃ v, e = .returned v ∧ s.post enc C.prog fn apart fresh handsOn again W args v W') :
    ReturnsInHanded a C os f .any (fun w args => (s.pre enc C.prog fn conds apart w args ∧ X w args) ∧ sizedMet enc C.prog fn (OpenSpec.ofChange s) apart w args) (s.post enc C.prog fn apart fresh handsOn again) := by
  refine returnsInHanded_of_calls own started noInit witness ?_
  intro w tape i _ hsh _ hok hpre _
  obtain ⟨_, _, _, fn', hfn', _, _, _, _, hval⟩ := hok
  obtain rfl : fn' = fn := Option.some.inj (hfn'.symm.trans hfn)
  obtain ⟨⟨⟨ds, gs, before, hw, _⟩, hx⟩, _⟩ := hpre
  refine (contract (w.forCall tape i) w.heap.size i.args ds gs before hval (DataW.Whole.of_heap (w' := w.forCall tape i) (by rfl) hw) (hX _ _ _ (by rfl) hx) hsh).mono fun e W' ⟨v, he, hp⟩ => ?_
  subst he
  exact ChangeSpec.post_blind hp

set_option maxRecDepth 100000 in
theorem lifted (os : Os) (started : os.Started) (H : Type) (enc : TypeId × Value → H) :
    ReturnsInHanded {} Tryz.checked os 4 .any (fun w args => (Rows.fnExactMergeAnswersSpec.pre enc Tryz.prog Tryz.f4 [] false w args ∧ laidMetH Tryz.prog laid5 w) ∧ sizedMet enc Tryz.prog Tryz.f4 (OpenSpec.ofChange Rows.fnExactMergeAnswersSpec) false w args)
      (Rows.fnExactMergeAnswersSpec.post enc Tryz.prog Tryz.f4 false true false false) := by
  refine wrapped (C := Tryz.checked) (X := fun w _ => laidMetH Tryz.prog laid5 w) (fun _ _ _ hh h => h.of_heap hh) own started (by kernel_rfl) Tryz.func4
    (ChangeSpec.witness_shaped (enc := enc) (C := Tryz.checked) (os := os) (X := fun w _ => laidMetH Tryz.prog laid5 w) false (World.laidAll Tryz.prog os laid5) #[.slice none 0 0, .slice none 0 0, .slice none 0 0, .bool false] 8 (World.laidAll_os _ _ _) (World.shaped_of_ZipB (by kernel_rfl) (by kernel_rfl)) (by kernel_rfl) (by kernel_rfl) (by kernel_rfl) (door_met os _)) ?_
  intro W base args ds gs before hval0 hW hL hsh
  have hval : ∀ (j : Nat) t v, Tryz.f4.params[j]? = some t → args[j]? = some v → Value.okWide Tryz.prog W .any base t v := hval0
  have hW' := hW
  obtain ⟨p, q, hA0, hV, rfl, hfz, hnd⟩ := hW
  have hA : DataW.TrodAll enc Tryz.prog W 0 (fun _ => true) true Tryz.f4.params.toList args.toList ds p := hA0
  rw [Tryz.params4] at hA hval
  obtain ⟨v0, vs0, d0, ds0, p0, q0, hargs, rfl, rfl, h0, r0⟩ := trodAll_cons hA
  obtain ⟨v1, vs1, d1, ds1, p1, q1, rfl, rfl, rfl, h1, r1⟩ := trodAll_cons r0
  obtain ⟨v2, vs2, d2, ds2, p2, q2, rfl, rfl, rfl, h2, r2⟩ := trodAll_cons r1
  obtain ⟨v3, vs3, d3, ds3, p3, q3, rfl, rfl, rfl, h3, r3⟩ := trodAll_cons r2
  obtain ⟨rfl, rfl, rfl⟩ := trodAll_nil r3
  obtain rfl : args = #[v0, v1, v2, v3] := by cases args; simp_all
  obtain ⟨rfl, rfl⟩ := trodVars_none hV
  have k0 := h0
  have lt0 : ∀ x ∈ p0, x.block < W.heap.size := by obtain ⟨m, hm⟩ := k0; exact DataW.trod_lt m _ _ _ hm
  obtain ⟨x0, y0, z0, rfl⟩ := okWide_slice Tryz.underlying42 (hval 0 42 v0 rfl rfl)
  obtain ⟨P0, C0, L0, e0, f0, g0, i0, u0⟩ : ∃ (a : Option Addr) (cap : Nat) (l : List Nodes.D), Value.slice x0 y0 z0 = .slice a l.length cap ∧ Nodes.LAt W a l ∧ l.length ≤ cap ∧ l.length ≤ maxLen ∧ ∀ x ∈ l, Nodes.Fits x := by
    obtain ⟨fuel, hf⟩ := h0
    exact Nodes.open_of Tryz.underlying42 Tryz.underlying84 (by kernel_rfl) (by kernel_rfl) Tryz.underlying9 Tryz.underlying3 hf
  simp only [Value.slice.injEq] at e0
  obtain ⟨ex0, ey0, ez0⟩ := e0
  subst x0 y0 z0
  have k1 := h1
  have lt1 : ∀ x ∈ p1, x.block < W.heap.size := by obtain ⟨m, hm⟩ := k1; exact DataW.trod_lt m _ _ _ hm
  obtain ⟨x1, y1, z1, rfl⟩ := okWide_slice Tryz.underlying24 (hval 1 24 v1 rfl rfl)
  obtain ⟨P1, C1, L1, e1, f1, g1, i1⟩ : ∃ (a : Option Addr) (cap : Nat) (ss : List ByteArray), Value.slice x1 y1 z1 = .slice a ss.length cap ∧ StrsAt W a ss ∧ ss.length ≤ maxLen ∧ ∀ s ∈ ss, s.size ≤ maxLen := by
    obtain ⟨fuel, hf⟩ := h1
    exact Open.strs_of Tryz.underlying24 Tryz.underlying9 (by kernel_rfl) hf
  simp only [Value.slice.injEq] at e1
  obtain ⟨ex1, ey1, ez1⟩ := e1
  subst x1 y1 z1
  have k2 := h2
  have lt2 : ∀ x ∈ p2, x.block < W.heap.size := by obtain ⟨m, hm⟩ := k2; exact DataW.trod_lt m _ _ _ hm
  obtain ⟨x2, y2, z2, rfl⟩ := okWide_slice Tryz.underlying24 (hval 2 24 v2 rfl rfl)
  obtain ⟨P2, C2, L2, e2, f2, g2, i2⟩ : ∃ (a : Option Addr) (cap : Nat) (ss : List ByteArray), Value.slice x2 y2 z2 = .slice a ss.length cap ∧ StrsAt W a ss ∧ ss.length ≤ maxLen ∧ ∀ s ∈ ss, s.size ≤ maxLen := by
    obtain ⟨fuel, hf⟩ := h2
    exact Open.strs_of Tryz.underlying24 Tryz.underlying9 (by kernel_rfl) hf
  simp only [Value.slice.injEq] at e2
  obtain ⟨ex2, ey2, ez2⟩ := e2
  subst x2 y2 z2
  have k3 := h3
  have lt3 : ∀ x ∈ p3, x.block < W.heap.size := by obtain ⟨m, hm⟩ := k3; exact DataW.trod_lt m _ _ _ hm
  obtain ⟨a3, rfl, rfl, rfl⟩ := open_bool Tryz.underlying4 (hval 3 4 v3 rfl rfl) h3
  clear hA0 hval0
  refine (walk P0 C0 L0 P1 C1 L1 P2 C2 L2 a3 W f0 g0 i0 u0 f1 g1 i1 f2 g2 i2 ⟨of_laid hL, of_shape hsh⟩).mono fun e W' ⟨he, bel⟩ => ?_
  subst he
  exact ⟨_, rfl, _, _, _, [], _, [], hW', trodAll_mk1 (shut_bool Tryz.underlying4 _), (trodAll_cons_mk (Below.trod laidOut (by kernel_rfl) (of_decide_eq_true (by kernel_rfl)) k0 bel lt0) (trodAll_cons_mk (Below.trod laidOut (by kernel_rfl) (of_decide_eq_true (by kernel_rfl)) k1 bel lt1) (trodAll_cons_mk (Below.trod laidOut (by kernel_rfl) (of_decide_eq_true (by kernel_rfl)) k2 bel lt2) (trodAll_cons_mk (Below.trod laidOut (by kernel_rfl) (of_decide_eq_true (by kernel_rfl)) k3 bel lt3) trodAll_mk0)))), rfl, bel.frame _, fun h => by cases h⟩

theorem over : Rows.fnExactMergeAnswersRow.holds Tryz.pinned (OpenSpec.ofChange Rows.fnExactMergeAnswersSpec) :=
  OpenClaim.holds_of_wide 4 Tryz.f4 rfl rfl rfl rfl rfl rfl rfl ⟨rfl, rfl, rfl, rfl, rfl⟩ rfl rfl rfl rfl rfl (by kernel_rfl) Tryz.func4 (by kernel_rfl)
    (of_decide_eq_true (by kernel_rfl)) (by unfold Func.isWrapper; first | (rw [if_pos (by decide +kernel)]; kernel_rfl) | (rw [if_neg (by decide +kernel)]; exact ⟨rfl, rfl⟩))
    (fun os started H enc _ => lifted os started H enc)

end MergeAnswersL
theorem mergeAnswers_card : Rows.FnExactMergeAnswersCardSaid :=
  Claim7.holds_tied_plain_at .later [] Rows.fnExactMergeAnswersCard.laidKinds true Rows.fnExactMergeAnswersCard.stood.harness Rows.fnExactMergeAnswersCard.stood.looks
    MergeAnswersL.over (fun _ h => by cases h) (by kernel_rfl) (fun _ h => by cases h) fnExactMergeAnswers_row_tie rfl ⟨rfl, rfl⟩ (by kernel_rfl) rfl
    (fun f fn hf hfn => by
      obtain rfl : f = 4 := Option.some.inj ((show Tryz.prog.funcNamed Rows.fnExactMergeAnswersRow.func = some 4 by kernel_rfl).symm.trans hf) |>.symm
      obtain rfl : fn = Tryz.f4 := (Option.some.inj (Tryz.func4.symm.trans hfn)).symm
      exact ⟨by kernel_rfl, fun j t ht => by
        rw [Tryz.params4] at ht
        have hm : t ∈ [42, 24, 24, 4] := by simpa using Array.mem_of_getElem? ht
        have hall : ([42, 24, 24, 4].all fun u => !Tryz.prog.wantsStandIn u) = true := by kernel_rfl
        exact (show Tryz.prog.wantsStandIn t = false by simpa using List.all_eq_true.1 hall t hm)⟩)
    (by kernel_rfl)

end Go.Proofs.YtghckjmpcokhcaaGreatDoor
