/-
  FnExactSplitKeys returns true for every slice of nodes and every slice of texts, where strconv's and math/bits' variables hold what the program's text lays in them; and the card that ties them to that text. No other condition.
-/
import Derived.Test.YtjlmhkclokjpnaaDoorSplitV
import Derived.Test.YtjlmhkclokjpnaaDoorPartH
import Derived.Test.YtjlmhkclokjpnaaDoorNodeH
import Derived.Test.YtjlmhkclokjpnaaDoorStrZ
import Derived.Test.YtjlmhkclokjpnaaDoorStringZ
import Derived.Test.YtjlmhkclokjpnaaDoorNodeZ
import Derived.Test.YtjlmhkclokjpnaaDoorOpenZ
import Derived.Test.YtjlmhkclokjpnaaDoorTie
import Derived.Test.YtjlmhkclokjpnaaDoorCards
import Derived.ProofKit
import Derived.LaidMore
import Derived.OpenShut
import Derived.ChangeOld
import Derived.Stop.Joined
import Derived.Stop.LaidErr
import Derived.Lib.LaidTab
import Derived.SevenTiedAt
namespace Go.Proofs.YtjlmhkclokjpnaaDoor
namespace SplitKeysL
open Go.ChangeShapes Go.WideShapes Go.ChangeAt Go.RowKit Base Ring Parts
set_option linter.unusedVariables false

theorem out_len (l : List Nodes.D) (ks : List ByteArray) : (Split.outL l ks).length ≤ 60 ∧ ∀ i, ((Split.outL l ks).getD i Split.zeroP).keys.length ≤ 60 := by
  unfold Split.outL
  cases h : Split.okB l ks
  · exact ⟨Nat.zero_le _, fun i => by simp [Split.zeroP]⟩
  · unfold Split.okB at h
    rw [Bool.and_eq_true] at h
    have hk := (KeysS.kB_len h.2).1
    refine ⟨?_, fun i => Nat.le_trans (Split.keys_len _ _ _ _) hk⟩
    show (Split.parts (Split.owners l ks) ks ks.length).length ≤ 60
    rw [Split.parts_len]
    exact Nat.le_trans (Split.firsts_le _ _) hk
theorem same_of {n m : Nat} {p q : Nat → Pt} {R : List Split.Part} (h1 : Tells n p R) (h2 : Tells m q R) : ∀ i, i < R.length → (p i).node = (q i).node ∧ (p i).ks = (q i).ks := by
  intro i hi
  obtain ⟨a1, a2⟩ := h1.2 i (by rw [h1.1]; exact hi)
  obtain ⟨b1, b2⟩ := h2.2 i (by rw [h2.1]; exact hi)
  exact ⟨a1.trans b1.symm, a2.trans b2.symm⟩
theorem few_of {n : Nat} {p : Nat → Pt} {R : List Split.Part} (h1 : Tells n p R) (h : ∀ i, (R.getD i Split.zeroP).keys.length ≤ 60) : ∀ i, i < R.length → (p i).ks.length ≤ 60 := by
  intro i hi
  rw [(h1.2 i (by rw [h1.1]; exact hi)).2]; exact h i

set_option maxRecDepth 100000 in
set_option maxHeartbeats 8000000 in
theorem walk (a : Option Addr) (cap : Nat) (l : List Nodes.D) (ak : Option Addr) (kcap : Nat) (ks : List ByteArray) (w : World)
    (hc : Nodes.LAt w a l) (hcap : l.length ≤ cap) (hl : l.length ≤ maxLen) (hs : ∀ x ∈ l, Nodes.Fits x)
    (hck : StrsAt w ak ks) (hkl : ks.length ≤ maxLen) (hks : ∀ s ∈ ks, s.size ≤ maxLen) (hv : Vars w) :
    Calls Tryd.prog 3 #[.slice a l.length cap, .slice ak ks.length kcap] w fun e w' => e = .returned (.bool true) ∧ Below w.heap.size w w' := by
  have HC := hide hc
  have HCK := hide hck
  have HV := hide hv
  have HS := hide hs
  have HKS := hide hks
  have HLM := hide hl
  have HKM := hide hkl
  have hzl := @Nodes.szL_len l 1048576
  have hbd := Nodes.szL_bd l 1048576 (by omega)
  have hsz := Nodes.sz_any a cap l 1048576 w hc hl hs (by omega) (by omega)
  generalize Nodes.szL l 1048576 = z at hzl hsz hbd
  have HSZ := hide hsz
  clear hc hs hsz hv hck hks
  by_cases hz : z < 0
  · clear hzl hbd
    go_enter Tryd.func3, Tryd.ntmps3
    go_wp2_with fail
    refine (unhide HSZ).mono ?_
    rintro e w2 ⟨rfl, hb2⟩
    have hB2 := hide hb2
    clear hb2
    go_wp2
    go_ret
    exact ⟨rfl, unhide hB2⟩
  have hlen : l.length ≤ 1048576 := by have := hzl hz; omega
  have hzk := szS_len ks z
  have hszk := fun w1 h => Strs.sz_bel ak kcap ks z w1 h hkl (unhide HKS) (by omega) (by omega)
  generalize szS ks z = zk at hzk hszk
  have HSZK := hide hszk
  clear hzl hszk
  by_cases hzk0 : zk < 0
  · clear hzk hbd
    go_enter Tryd.func3, Tryd.ntmps3
    go_wp2_with fail
    refine (unhide HSZ).mono ?_
    rintro e w2 ⟨rfl, hb2⟩
    have hB2 := hide hb2
    clear hb2
    go_wp2_with fail
    refine (unhide HSZK _ ((unhide HCK).below (unhide hB2) (Nat.le_refl _))).mono ?_
    rintro e w3 ⟨rfl, hb3⟩
    have hB3 := hide ((unhide hB2).trans (hb3.mono (unhide hB2).size))
    clear hb3
    go_wp2
    go_ret
    exact ⟨rfl, unhide hB3⟩
  have hlenk : ks.length ≤ 1048576 := by have := (hzk (by omega)).1; omega
  clear hzk hbd hl hkl
  have hsp := fun ba kb w h1 h2 h5 h6 => Split.spec_any ba 0 l.length l kb 0 ks.length ks w h1 h2 (unhide HLM) (unhide HS) h5 h6 (unhide HKM) (unhide HKS)
  have him := fun ba kb w h1 h2 h5 h6 hv => Split.impl_any ba 0 l.length l kb 0 ks.length ks w h1 h2 (unhide HLM) (unhide HS) h5 h6 (unhide HKM) (unhide HKS) hv
  obtain ⟨hrl, hrk⟩ := out_len l ks
  unfold Split.Ends at hsp him
  generalize Split.outL l ks = R at hsp him hrl hrk
  generalize Split.okB l ks = gd at hsp him
  have HSP := hide hsp
  have HIM := hide him
  have HRK := hide hrk
  clear hsp him hrk
  have hok : (gd != gd) = false := by cases gd <;> rfl
  go_enter Tryd.func3, Tryd.ntmps3
  go_wp2_with fail
  refine (unhide HSZ).mono ?_
  rintro e w2 ⟨rfl, hb2⟩
  have B2 := hide hb2
  have z2 : w.heap.size ≤ w2.heap.size := hb2.size
  clear hb2
  go_wp2_with fail
  refine (unhide HSZK _ ((unhide HCK).below (unhide B2) (Nat.le_refl _))).mono ?_
  rintro e w3 ⟨rfl, hb3⟩
  have B3 := hide ((unhide B2).trans (hb3.mono (unhide B2).size))
  have z3 : w2.heap.size ≤ w3.heap.size := hb3.size
  clear hb3
  go_wp2_with fail
  refine (Nodes.to_any a cap l _ ((unhide HC).below (unhide B3) (Nat.le_refl _)) hlen).mono ?_
  rintro e w4 ⟨rfl, hrow, hb4⟩
  have ra4 := hide hrow
  have ya : w3.heap.size < w4.heap.size := hrow.lt
  clear hrow
  have B4 := hide ((unhide B3).trans (hb4.mono (unhide B3).size))
  have z4 : w3.heap.size ≤ w4.heap.size := hb4.size
  clear hb4
  go_wp2_with fail
  refine (Strs.to_bel ak kcap ks _ ((unhide HCK).below (unhide B4) (Nat.le_refl _)) hlenk).mono ?_
  rintro e w5 ⟨rfl, hrow, hb5⟩
  have rk5 := hide hrow
  have yk : w4.heap.size < w5.heap.size := hrow.lt
  clear hrow
  have ra5 := hide ((unhide ra4).of_block (hb5.block _ (unhide ra4).lt))
  have B5 := hide ((unhide B4).trans (hb5.mono (unhide B4).size))
  have z5 : w4.heap.size ≤ w5.heap.size := hb5.size
  clear hb5
  go_wp2_with fail
  refine (unhide HSP _ _ _ (unhide ra5).lt (Nodes.at_row (unhide ra5)) (unhide rk5).lt (Strs.at_row (unhide rk5))).mono ?_
  rintro e w6 ⟨vP, nP, pP, rfl, ho, ht, hb6⟩
  obtain ⟨aP, cP, rfl⟩ := ho.form
  obtain rfl : nP = R.length := ht.1
  have P6 := hide (ho.own).2.rd
  have TP := hide ht
  have LP := hide (ho.own).2.rd.lt
  clear ho ht
  have B6 := hide ((unhide B5).trans (hb6.mono (unhide B5).size))
  have z6 : w5.heap.size ≤ w6.heap.size := hb6.size
  clear hb6
  go_wp2_with fail
  refine (Nodes.to_any a cap l _ ((unhide HC).below (unhide B6) (Nat.le_refl _)) hlen).mono ?_
  rintro e w7 ⟨rfl, hrow, hb7⟩
  have xa7 := hide hrow
  have ua : w6.heap.size < w7.heap.size := hrow.lt
  clear hrow
  have P7 := hide ((unhide P6).below hb7)
  have B7 := hide ((unhide B6).trans (hb7.mono (unhide B6).size))
  have z7 : w6.heap.size ≤ w7.heap.size := hb7.size
  clear hb7
  go_wp2_with fail
  refine (Strs.to_bel ak kcap ks _ ((unhide HCK).below (unhide B7) (Nat.le_refl _)) hlenk).mono ?_
  rintro e w8 ⟨rfl, hrow, hb8⟩
  have xk8 := hide hrow
  have uk : w7.heap.size < w8.heap.size := hrow.lt
  clear hrow
  have P8 := hide ((unhide P7).below hb8)
  have xa8 := hide ((unhide xa7).of_block (hb8.block _ (unhide xa7).lt))
  have B8 := hide ((unhide B7).trans (hb8.mono (unhide B7).size))
  have z8 : w7.heap.size ≤ w8.heap.size := hb8.size
  clear hb8
  go_wp2_with fail
  refine (unhide HIM _ _ _ (unhide xa8).lt (Nodes.at_row (unhide xa8)) (unhide xk8).lt (Strs.at_row (unhide xk8)) ((unhide HV).below (unhide B8))).mono ?_
  rintro e w9 ⟨vO, nO, pO, rfl, ho, ht, hb9⟩
  obtain ⟨aO, cO, rfl⟩ := ho.form
  obtain rfl : nO = R.length := ht.1
  have O9 := hide (ho.own).2
  have TO := hide ht
  clear ho ht
  have P9 := hide ((unhide P8).below hb9)
  have xa9 := hide ((unhide xa8).of_block (hb9.block _ (unhide xa8).lt))
  have xk9 := hide ((unhide xk8).of_block (hb9.block _ (unhide xk8).lt))
  have B9 := hide ((unhide B8).trans (hb9.mono (unhide B8).size))
  have z9 : w8.heap.size ≤ w9.heap.size := hb9.size
  clear hb9
  have LB : Hid (LtA w8.heap.size aP R.length pP) := (unhide P8).lt
  have HCO := hide (same_of (unhide TO) (unhide TP))
  have HFO := hide (few_of (unhide TO) (unhide HRK))
  go_wp2_with fail
  refine (eqs_same aO aP cO cP R.length pO pP _ (unhide O9).rd (unhide P9) (unhide HCO) hrl (unhide HFO)).mono ?_
  rintro e w10 ⟨rfl, hb10⟩
  have P10 := hide ((unhide P9).below hb10)
  have xa10 := hide ((unhide xa9).of_block (hb10.block _ (unhide xa9).lt))
  have xk10 := hide ((unhide xk9).of_block (hb10.block _ (unhide xk9).lt))
  have O10 := hide ((unhide O9).below hb10)
  have B10 := hide ((unhide B9).trans (hb10.mono (unhide B9).size))
  have z10 : w9.heap.size ≤ w10.heap.size := hb10.size
  clear hb10
  go_wp2_with fail
  refine (Nodes.to_any a cap l _ ((unhide HC).below (unhide B10) (Nat.le_refl _)) hlen).mono ?_
  rintro e w11 ⟨rfl, hrow, hb11⟩
  have ya11 := hide hrow
  have va : w10.heap.size < w11.heap.size := hrow.lt
  clear hrow
  have P11 := hide ((unhide P10).below hb11)
  have xa11 := hide ((unhide xa10).of_block (hb11.block _ (unhide xa10).lt))
  have xk11 := hide ((unhide xk10).of_block (hb11.block _ (unhide xk10).lt))
  have O11 := hide ((unhide O10).below hb11)
  have B11 := hide ((unhide B10).trans (hb11.mono (unhide B10).size))
  have z11 : w10.heap.size ≤ w11.heap.size := hb11.size
  clear hb11
  go_wp2_with fail
  refine (Nodes.eq_same _ _ _ _ l _ (Nodes.LAt.row (unhide xa11)) (Nodes.LAt.row (unhide ya11)) (unhide HLM)).mono ?_
  rintro e w12 ⟨rfl, hb12⟩
  have P12 := hide ((unhide P11).below hb12)
  have xa12 := hide ((unhide xa11).of_block (hb12.block _ (unhide xa11).lt))
  have xk12 := hide ((unhide xk11).of_block (hb12.block _ (unhide xk11).lt))
  have O12 := hide ((unhide O11).below hb12)
  have B12 := hide ((unhide B11).trans (hb12.mono (unhide B11).size))
  have z12 : w11.heap.size ≤ w12.heap.size := hb12.size
  clear hb12
  go_wp2_with fail
  refine (Strs.to_bel ak kcap ks _ ((unhide HCK).below (unhide B12) (Nat.le_refl _)) hlenk).mono ?_
  rintro e w13 ⟨rfl, hrow, hb13⟩
  have yk13 := hide hrow
  have vk : w12.heap.size < w13.heap.size := hrow.lt
  clear hrow
  have P13 := hide ((unhide P12).below hb13)
  have xa13 := hide ((unhide xa12).of_block (hb13.block _ (unhide xa12).lt))
  have xk13 := hide ((unhide xk12).of_block (hb13.block _ (unhide xk12).lt))
  have O13 := hide ((unhide O12).below hb13)
  have B13 := hide ((unhide B12).trans (hb13.mono (unhide B12).size))
  have z13 : w12.heap.size ≤ w13.heap.size := hb13.size
  clear hb13
  go_wp2_with fail
  refine (Strs.eq_bel _ _ ks _ _ _ (StrsAt.row (unhide xk13)) (StrsAt.row (unhide yk13)) (unhide HKM)).mono ?_
  rintro e w14 ⟨rfl, hb14⟩
  have P14 := hide ((unhide P13).below hb14)
  have xa14 := hide ((unhide xa13).of_block (hb14.block _ (unhide xa13).lt))
  have xk14 := hide ((unhide xk13).of_block (hb14.block _ (unhide xk13).lt))
  have O14 := hide ((unhide O13).below hb14)
  have B14 := hide ((unhide B13).trans (hb14.mono (unhide B13).size))
  have z14 : w13.heap.size ≤ w14.heap.size := hb14.size
  clear hb14
  have hk1 : ¬ 1 + (l.length : Int) * 2 < 0 := by omega
  go_wp2_with fail
  refine (NodesM.mark_any _ _ l.length _ _ 1 _ (NodesM.Ours.row (unhide xa14)) (by omega) (by omega) (by omega)).mono ?_
  rintro e w15 ⟨rfl, _, hg15⟩
  have P15 := hide ((unhide P14).gbl (unhide LP) hg15 (by omega))
  have xk15 := hide ((unhide xk14).of_block (hg15.block _ (unhide xk14).lt (fun e => by simp at e; omega)))
  have O15 := hide ((unhide O14).gb hg15 (fun k e => by simp at e; omega))
  have B15 := hide (Marks.below_gb (unhide B14) hg15 (unhide B14).size (by have := (unhide B6).size; omega))
  have z15 : w14.heap.size ≤ w15.heap.size := hg15.size
  clear hg15
  go_wp2_with fail
  refine (StringsM.mark_any _ _ ks.length _ _ _ _ (StringsM.Ours.row (unhide xk15)) (by omega) (by omega) (by omega)).mono ?_
  rintro e w16 ⟨rfl, _, hg16⟩
  have P16 := hide ((unhide P15).gbl (unhide LP) hg16 (by omega))
  have O16 := hide ((unhide O15).gb hg16 (fun k e => by simp at e; omega))
  have B16 := hide (Marks.below_gb (unhide B15) hg16 (unhide B15).size (by have := (unhide B7).size; omega))
  have z16 : w15.heap.size ≤ w16.heap.size := hg16.size
  clear hg16
  have hk3 : ¬ 1 + (l.length : Int) * 2 + (ks.length : Int) < 0 := by omega
  go_wp2_with fail
  refine (eqs_same aO aP cO cP R.length pO pP _ (unhide O16).rd (unhide P16) (unhide HCO) hrl (unhide HFO)).mono ?_
  rintro e w17 ⟨rfl, hb17⟩
  have P17 := hide ((unhide P16).below hb17)
  have O17 := hide ((unhide O16).below hb17)
  have B17 := hide ((unhide B16).trans (hb17.mono (unhide B16).size))
  have z17 : w16.heap.size ≤ w17.heap.size := hb17.size
  clear hb17
  have hkb := kAt_bd pO 1 R.length (unhide HFO) R.length (Nat.le_refl _)
  have HMK := hide (marks_any w8.heap.size aO cO R.length pO 1 _ (unhide O17) (by omega) (by omega) (by omega) hrl (unhide HFO))
  have HHD := hide (fun w h => held_any w8.heap.size aO cO R.length pO 1 w h (by omega) (by omega) hrl (unhide HFO))
  generalize kAt pO 1 R.length = km at hkb HMK HHD
  go_wp2_with fail
  refine (unhide HMK).mono ?_
  rintro e w18 ⟨rfl, hm, hb18⟩
  have M18 := hide hm
  have P18 := hide ((unhide P17).keep (unhide LB) hb18)
  have B18 := hide ((unhide B17).trans (hb18.mono (by have := (unhide B8).size; omega)))
  have z18 : w17.heap.size ≤ w18.heap.size := hb18.size
  clear hm hb18 HMK
  have hk2 : ¬ km < 0 := by omega
  go_wp2_with fail
  refine (unhide HHD _ (unhide M18)).mono ?_
  rintro e w19 ⟨rfl, hb19⟩
  have P19 := hide ((unhide P18).below hb19)
  have M19 := hide ((unhide M18).below hb19)
  have B19 := hide ((unhide B18).trans (hb19.mono (unhide B18).size))
  have z19 : w18.heap.size ≤ w19.heap.size := hb19.size
  clear hb19
  go_wp2_with fail
  refine (Nodes.to_any a cap l _ ((unhide HC).below (unhide B19) (Nat.le_refl _)) hlen).mono ?_
  rintro e w20 ⟨rfl, hrow, hb20⟩
  have ta20 := hide hrow
  have qa : w19.heap.size < w20.heap.size := hrow.lt
  clear hrow
  have P20 := hide ((unhide P19).below hb20)
  have M20 := hide ((unhide M19).below hb20)
  have B20 := hide ((unhide B19).trans (hb20.mono (unhide B19).size))
  have z20 : w19.heap.size ≤ w20.heap.size := hb20.size
  clear hb20
  go_wp2_with fail
  refine (Strs.to_bel ak kcap ks _ ((unhide HCK).below (unhide B20) (Nat.le_refl _)) hlenk).mono ?_
  rintro e w21 ⟨rfl, hrow, hb21⟩
  have tk21 := hide hrow
  have qk : w20.heap.size < w21.heap.size := hrow.lt
  clear hrow
  have P21 := hide ((unhide P20).below hb21)
  have M21 := hide ((unhide M20).below hb21)
  have ta21 := hide ((unhide ta20).of_block (hb21.block _ (unhide ta20).lt))
  have B21 := hide ((unhide B20).trans (hb21.mono (unhide B20).size))
  have z21 : w20.heap.size ≤ w21.heap.size := hb21.size
  clear hb21
  go_wp2_with fail
  refine (unhide HIM _ _ _ (unhide ta21).lt (Nodes.at_row (unhide ta21)) (unhide tk21).lt (Strs.at_row (unhide tk21)) ((unhide HV).below (unhide B21))).mono ?_
  rintro e w22 ⟨vQ, nQ, pQ, rfl, ho, ht, hb22⟩
  obtain ⟨aQ, cQ, rfl⟩ := ho.form
  obtain rfl : nQ = R.length := ht.1
  have Q22 := hide (ho.own).2
  have TQ := hide ht
  clear ho ht
  have P22 := hide ((unhide P21).below hb22)
  have M22 := hide ((unhide M21).below hb22)
  have B22 := hide ((unhide B21).trans (hb22.mono (unhide B21).size))
  have z22 : w21.heap.size ≤ w22.heap.size := hb22.size
  clear hb22
  have HCQ := hide (same_of (unhide TQ) (unhide TP))
  have HFQ := hide (few_of (unhide TQ) (unhide HRK))
  go_wp2_with fail
  refine (eqs_same aQ aP cQ cP R.length pQ pP _ (unhide Q22).rd (unhide P22) (unhide HCQ) hrl (unhide HFQ)).mono ?_
  rintro e w23 ⟨rfl, hb23⟩
  have M23 := hide ((unhide M22).below hb23)
  have B23 := hide ((unhide B22).trans (hb23.mono (unhide B22).size))
  have z23 : w22.heap.size ≤ w23.heap.size := hb23.size
  clear hb23
  go_wp2_with fail
  refine (unhide HHD _ (unhide M23)).mono ?_
  rintro e w24 ⟨rfl, hb24⟩
  have B24 := hide ((unhide B23).trans (hb24.mono (unhide B23).size))
  have z24 : w23.heap.size ≤ w24.heap.size := hb24.size
  clear hb24
  go_wp2
  go_ret
  exact ⟨rfl, unhide B24⟩

theorem own : ownKnob Tryd.prog.godebug = none := by kernel_rfl
theorem laidOut : laidOutB Tryd.prog = true := by kernel_rfl


abbrev laid5 : List (String × DataW Unit) := Rows.fnExactSplitKeysRow.laid
theorem gTab : Tryd.prog.globalNamed "internal/strconv.uint64pow10" = some 1 := by kernel_rfl
theorem tTab : (Tryd.prog.globals[1]?).map (·.type) = some 155 := by kernel_rfl
theorem cellsU : Tryd.prog.cellsOf 141 = 1 := by kernel_rfl
theorem cellsT : Tryd.prog.cellsOf 155 = 20 := by kernel_rfl
theorem tabD : (Rows.laid_internal_strconv_uint64pow10 : DataW Unit) = Lib.tabData .u64 Lib.pow10Tab := by kernel_rfl
/-- What the row's list gives the walk. -/
theorem of_laid {W : World} (h : laidMetH Tryd.prog laid5 W) : Ring.Vars W := by
  rw [MakeChecks.laidMetH_plain _ _ _ (by kernel_rfl)] at h
  have h3 : laidMet Tryd.prog _ W := h.tail.tail
  rw [tabD] at h3
  exact Lib.tabIs_of_head gTab tTab Tryd.underlying155 Tryd.underlying141 cellsU cellsT h3
/-- The heap that the program's own laying leaves meets the list. -/
theorem door_met (os : Os) (args : Array Value) : laidMetH Tryd.prog laid5 ((World.doorLaid Tryd.prog 4000 os).forCall (fun _ _ => 0) ⟨#[], args, []⟩).memory :=
  laidMetH_of_parts3 (fuel := 8) (laidMet_of_run' 8 (by kernel_rfl) (by kernel_rfl)) (by kernel_rfl) (by kernel_rfl)

set_option maxRecDepth 100000 in
theorem lifted (os : Os) (started : os.Started) (H : Type) (enc : TypeId × Value → H) :
    ReturnsInHanded {} Tryd.checked os 3 .any (fun w args => (Rows.fnExactSplitKeysSpec.pre enc Tryd.prog Tryd.f3 [] false w args ∧ laidMetH Tryd.prog laid5 w) ∧ sizedMet enc Tryd.prog Tryd.f3 (OpenSpec.ofChange Rows.fnExactSplitKeysSpec) false w args)
      (Rows.fnExactSplitKeysSpec.post enc Tryd.prog Tryd.f3 false true false false) := by
  refine returnsInHanded_of_change_and (C := Tryd.checked) (X := fun w _ => laidMetH Tryd.prog laid5 w) (fun _ _ _ hh h => h.of_heap hh) own started (by kernel_rfl) Tryd.func3
    (ChangeSpec.witness_shaped (enc := enc) (C := Tryd.checked) (os := os) (X := fun w _ => laidMetH Tryd.prog laid5 w) false (World.doorLaid Tryd.prog 4000 os) #[.slice none 0 0, .slice none 0 0] 8 rfl (World.shaped_of_RefB (by kernel_rfl) (by kernel_rfl)) (by kernel_rfl) (by kernel_rfl) (by kernel_rfl) (door_met os _)) ?_
  intro W base args ds gs before hval0 hW _ _ hL _
  have hval : ∀ (j : Nat) t v, Tryd.f3.params[j]? = some t → args[j]? = some v → Value.okWide Tryd.prog W .any base t v := hval0
  have hW' := hW
  obtain ⟨p, q, hA0, hV, rfl, hfz, hnd⟩ := hW
  have hA : DataW.TrodAll enc Tryd.prog W 0 (fun _ => true) true Tryd.f3.params.toList args.toList ds p := hA0
  rw [Tryd.params3] at hA hval
  obtain ⟨v0, vs0, d0, ds0, p0, q0, hargs, rfl, rfl, h0, r0⟩ := trodAll_cons hA
  obtain ⟨v1, vs1, d1, ds1, p1, q1, rfl, rfl, rfl, h1, r1⟩ := trodAll_cons r0
  obtain ⟨rfl, rfl, rfl⟩ := trodAll_nil r1
  obtain rfl : args = #[v0, v1] := by cases args; simp_all
  obtain ⟨rfl, rfl⟩ := trodVars_none hV
  have k0 := h0
  have lt0 : ∀ x ∈ p0, x.block < W.heap.size := by obtain ⟨m, hm⟩ := k0; exact DataW.trod_lt m _ _ _ hm
  obtain ⟨x0, y0, z0, rfl⟩ := okWide_slice Tryd.underlying22 (hval 0 22 v0 rfl rfl)
  obtain ⟨P0, C0, L0, e0, f0, g0, i0, u0⟩ : ∃ (a : Option Addr) (cap : Nat) (l : List Nodes.D), Value.slice x0 y0 z0 = .slice a l.length cap ∧ Nodes.LAt W a l ∧ l.length ≤ cap ∧ l.length ≤ maxLen ∧ ∀ x ∈ l, Nodes.Fits x := by
    obtain ⟨fuel, hf⟩ := h0
    exact Nodes.open_of Tryd.underlying22 Tryd.underlying52 (by kernel_rfl) (by kernel_rfl) Tryd.underlying9 Tryd.underlying3 hf
  simp only [Value.slice.injEq] at e0
  obtain ⟨ex0, ey0, ez0⟩ := e0
  subst x0 y0 z0
  have k1 := h1
  have lt1 : ∀ x ∈ p1, x.block < W.heap.size := by obtain ⟨m, hm⟩ := k1; exact DataW.trod_lt m _ _ _ hm
  obtain ⟨x1, y1, z1, rfl⟩ := okWide_slice Tryd.underlying23 (hval 1 23 v1 rfl rfl)
  obtain ⟨P1, C1, L1, e1, f1, g1, i1⟩ : ∃ (a : Option Addr) (cap : Nat) (ss : List ByteArray), Value.slice x1 y1 z1 = .slice a ss.length cap ∧ StrsAt W a ss ∧ ss.length ≤ maxLen ∧ ∀ s ∈ ss, s.size ≤ maxLen := by
    obtain ⟨fuel, hf⟩ := h1
    exact Open.strs_of Tryd.underlying23 Tryd.underlying9 (by kernel_rfl) hf
  simp only [Value.slice.injEq] at e1
  obtain ⟨ex1, ey1, ez1⟩ := e1
  subst x1 y1 z1
  clear hA0 hval0
  refine (walk P0 C0 L0 P1 C1 L1 W f0 g0 i0 u0 f1 g1 i1 (of_laid hL)).mono fun e W' ⟨he, bel⟩ => ?_
  subst he
  exact ⟨_, rfl, _, _, _, [], _, [], hW', trodAll_mk1 (shut_bool Tryd.underlying4 _), (trodAll_cons_mk (Below.trod laidOut (by kernel_rfl) (of_decide_eq_true (by kernel_rfl)) k0 bel lt0) (trodAll_cons_mk (Below.trod laidOut (by kernel_rfl) (of_decide_eq_true (by kernel_rfl)) k1 bel lt1) trodAll_mk0)), rfl, bel.frame _, fun h => by cases h⟩

theorem over : Rows.fnExactSplitKeysRow.holds Tryd.pinned (OpenSpec.ofChange Rows.fnExactSplitKeysSpec) :=
  OpenClaim.holds_of_wide 3 Tryd.f3 rfl rfl rfl rfl rfl rfl rfl ⟨rfl, rfl, rfl, rfl, rfl⟩ rfl rfl rfl rfl rfl (by kernel_rfl) Tryd.func3 (by kernel_rfl)
    (of_decide_eq_true (by kernel_rfl)) (by unfold Func.isWrapper; first | (rw [if_pos (by decide +kernel)]; kernel_rfl) | (rw [if_neg (by decide +kernel)]; exact ⟨rfl, rfl⟩))
    (fun os started H enc _ => lifted os started H enc)

end SplitKeysL
theorem splitKeys_card : Rows.FnExactSplitKeysCardSaid :=
  Claim7.holds_tied_plain_at .later [] Rows.fnExactSplitKeysCard.laidKinds true Rows.fnExactSplitKeysCard.stood.harness Rows.fnExactSplitKeysCard.stood.looks
    SplitKeysL.over (fun _ h => by cases h) (by kernel_rfl) (fun _ h => by cases h) fnExactSplitKeys_row_tie rfl ⟨rfl, rfl⟩ (by kernel_rfl) rfl
    (fun f fn hf hfn => by
      obtain rfl : f = 3 := Option.some.inj ((show Tryd.prog.funcNamed Rows.fnExactSplitKeysRow.func = some 3 by kernel_rfl).symm.trans hf) |>.symm
      obtain rfl : fn = Tryd.f3 := (Option.some.inj (Tryd.func3.symm.trans hfn)).symm
      exact ⟨by kernel_rfl, fun j t ht => by
        rw [Tryd.params3] at ht
        have hm : t ∈ [22, 23] := by simpa using Array.mem_of_getElem? ht
        have hall : ([22, 23].all fun u => !Tryd.prog.wantsStandIn u) = true := by kernel_rfl
        exact (show Tryd.prog.wantsStandIn t = false by simpa using List.all_eq_true.1 hall t hm)⟩)
    (by kernel_rfl)

end Go.Proofs.YtjlmhkclokjpnaaDoor
