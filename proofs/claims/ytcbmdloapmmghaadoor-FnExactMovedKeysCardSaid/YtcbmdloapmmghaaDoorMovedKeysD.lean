/-
  FnExactMovedKeys returns true for every two slices of nodes and every slice of texts, where strconv's and math/bits' variables hold what the program's text lays in them; and the card that ties them to that text. No other condition.
-/
import Derived.Test.YtcbmdloapmmghaaDoorMovedI
import Derived.Test.YtcbmdloapmmghaaDoorMovedS
import Derived.Test.YtcbmdloapmmghaaDoorStrsB
import Derived.Test.YtcbmdloapmmghaaDoorStringL
import Derived.Test.YtcbmdloapmmghaaDoorNodeM
import Derived.Test.YtcbmdloapmmghaaDoorNodeO
import Derived.Test.YtcbmdloapmmghaaDoorTie
import Derived.Test.YtcbmdloapmmghaaDoorCards
import Derived.ProofKit
import Derived.LaidMore
import Derived.OpenShut
import Derived.ChangeOld
import Derived.Stop.Joined
import Derived.Stop.LaidErr
import Derived.Lib.LaidTab
import Derived.SevenTiedAt
namespace Go.Proofs.YtcbmdloapmmghaaDoor
namespace MovedKeysL
open Go.ChangeShapes Go.WideShapes Go.ChangeAt Go.RowKit Base Ring
set_option linter.unusedVariables false

set_option maxRecDepth 100000 in
set_option maxHeartbeats 8000000 in
theorem walk (a : Option Addr) (cap : Nat) (l : List Nodes.D) (a' : Option Addr) (cap' : Nat) (l' : List Nodes.D) (ak : Option Addr) (kcap : Nat) (ks : List ByteArray) (w : World)
    (hc : Nodes.LAt w a l) (hcap : l.length ≤ cap) (hl : l.length ≤ maxLen) (hs : ∀ x ∈ l, Nodes.Fits x)
    (hc' : Nodes.LAt w a' l') (hcap' : l'.length ≤ cap') (hl' : l'.length ≤ maxLen) (hs' : ∀ x ∈ l', Nodes.Fits x)
    (hck : StrsAt w ak ks) (hkl : ks.length ≤ maxLen) (hks : ∀ s ∈ ks, s.size ≤ maxLen) (hv : Vars w) :
    Calls Tryd.prog 5 #[.slice a l.length cap, .slice a' l'.length cap', .slice ak ks.length kcap] w fun e w' => e = .returned (.bool true) ∧ Below w.heap.size w w' := by
  have HC := hide hc
  have HC' := hide hc'
  have HCK := hide hck
  have HV := hide hv
  have HS := hide hs
  have HS' := hide hs'
  have HKS := hide hks
  have HLM := hide hl
  have HLM' := hide hl'
  have HKM := hide hkl
  have hzl := @Nodes.szL_len l 1048576
  have hbd := Nodes.szL_bd l 1048576 (by omega)
  have hsz := Nodes.sz_any a cap l 1048576 w hc hl hs (by omega) (by omega)
  generalize Nodes.szL l 1048576 = z at hzl hsz hbd
  have HSZ := hide hsz
  clear hc hs hsz hv hc' hs' hck hks
  by_cases hz : z < 0
  · clear hzl hbd
    go_enter Tryd.func5, Tryd.ntmps5
    go_wp2_with fail
    refine (unhide HSZ).mono ?_
    rintro e w2 ⟨rfl, hb2⟩
    have hB2 := hide hb2
    clear hb2
    go_wp2
    go_ret
    exact ⟨rfl, unhide hB2⟩
  have hlen : l.length ≤ 1048576 := by have := hzl hz; omega
  have hzl' := @Nodes.szL_len l' z
  have hbd' := Nodes.szL_bd l' z (by omega)
  have hsz' := fun w1 h => Nodes.sz_any a' cap' l' z w1 h hl' (unhide HS') (by omega) (by omega)
  generalize Nodes.szL l' z = z' at hzl' hsz' hbd'
  have HSZ' := hide hsz'
  clear hzl hsz'
  by_cases hz' : z' < 0
  · clear hzl' hbd hbd'
    go_enter Tryd.func5, Tryd.ntmps5
    go_wp2_with fail
    refine (unhide HSZ).mono ?_
    rintro e w2 ⟨rfl, hb2⟩
    have hB2 := hide hb2
    clear hb2
    go_wp2_with fail
    refine (unhide HSZ' _ ((unhide HC').below (unhide hB2) (Nat.le_refl _))).mono ?_
    rintro e w3 ⟨rfl, hb3⟩
    have hB3 := hide ((unhide hB2).trans (hb3.mono (unhide hB2).size))
    clear hb3
    go_wp2
    go_ret
    exact ⟨rfl, unhide hB3⟩
  have hlen' : l'.length ≤ 1048576 := by have := hzl' hz'; omega
  have hzk := szS_len ks z'
  have hszk := fun w1 h => Strs.sz_bel ak kcap ks z' w1 h hkl (unhide HKS) (by omega) (by omega)
  generalize szS ks z' = zk at hzk hszk
  have HSZK := hide hszk
  clear hzl' hszk
  by_cases hzk0 : zk < 0
  · clear hzk hbd hbd'
    go_enter Tryd.func5, Tryd.ntmps5
    go_wp2_with fail
    refine (unhide HSZ).mono ?_
    rintro e w2 ⟨rfl, hb2⟩
    have hB2 := hide hb2
    clear hb2
    go_wp2_with fail
    refine (unhide HSZ' _ ((unhide HC').below (unhide hB2) (Nat.le_refl _))).mono ?_
    rintro e w3 ⟨rfl, hb3⟩
    have hB3 := hide ((unhide hB2).trans (hb3.mono (unhide hB2).size))
    clear hb3
    go_wp2_with fail
    refine (unhide HSZK _ ((unhide HCK).below (unhide hB3) (Nat.le_refl _))).mono ?_
    rintro e w4 ⟨rfl, hb4⟩
    have hB4 := hide ((unhide hB3).trans (hb4.mono (unhide hB3).size))
    clear hb4
    go_wp2
    go_ret
    exact ⟨rfl, unhide hB4⟩
  have hlenk : ks.length ≤ 1048576 := by have := (hzk (by omega)).1; omega
  clear hzk hbd hbd' hl hl' hkl
  have hsp := fun ba bb kb w h1 h2 h3 h4 h5 h6 => mmoved_any ba 0 l.length l bb 0 l'.length l' kb 0 ks.length ks w h1 h2 (unhide HLM) (unhide HS) h3 h4 (unhide HLM') (unhide HS') h5 h6 (unhide HKM) (unhide HKS)
  have him := fun ba bb kb w h1 h2 h3 h4 h5 h6 hv => moved_any ba 0 l.length l bb 0 l'.length l' kb 0 ks.length ks w h1 h2 (unhide HLM) (unhide HS) h3 h4 (unhide HLM') (unhide HS') h5 h6 (unhide HKM) (unhide HKS) hv
  have hrl := movL_len l l' ks
  generalize movL l l' ks = R at hsp him hrl
  generalize movOk l l' ks = gd at hsp him
  have HSP := hide hsp
  have HIM := hide him
  clear hsp him
  have hok : (gd != gd) = false := by cases gd <;> rfl
  go_enter Tryd.func5, Tryd.ntmps5
  go_wp2_with fail
  refine (unhide HSZ).mono ?_
  rintro e w2 ⟨rfl, hb2⟩
  have B2 := hide hb2
  have z2 : w.heap.size ≤ w2.heap.size := hb2.size
  clear hb2
  go_wp2_with fail
  refine (unhide HSZ' _ ((unhide HC').below (unhide B2) (Nat.le_refl _))).mono ?_
  rintro e w3 ⟨rfl, hb3⟩
  have B3 := hide ((unhide B2).trans (hb3.mono (unhide B2).size))
  have z3 : w2.heap.size ≤ w3.heap.size := hb3.size
  clear hb3
  go_wp2_with fail
  refine (unhide HSZK _ ((unhide HCK).below (unhide B3) (Nat.le_refl _))).mono ?_
  rintro e w4 ⟨rfl, hb4⟩
  have B4 := hide ((unhide B3).trans (hb4.mono (unhide B3).size))
  have z4 : w3.heap.size ≤ w4.heap.size := hb4.size
  clear hb4
  go_wp2_with fail
  refine (Nodes.to_any a cap l _ ((unhide HC).below (unhide B4) (Nat.le_refl _)) hlen).mono ?_
  rintro e w5 ⟨rfl, hrow, hb5⟩
  have ra5 := hide hrow
  have ya : w4.heap.size < w5.heap.size := hrow.lt
  clear hrow
  have B5 := hide ((unhide B4).trans (hb5.mono (unhide B4).size))
  have z5 : w4.heap.size ≤ w5.heap.size := hb5.size
  clear hb5
  go_wp2_with fail
  refine (Nodes.to_any a' cap' l' _ ((unhide HC').below (unhide B5) (Nat.le_refl _)) hlen').mono ?_
  rintro e w6 ⟨rfl, hrow, hb6⟩
  have rb6 := hide hrow
  have yb : w5.heap.size < w6.heap.size := hrow.lt
  clear hrow
  have ra6 := hide ((unhide ra5).of_block (hb6.block _ (unhide ra5).lt))
  have B6 := hide ((unhide B5).trans (hb6.mono (unhide B5).size))
  have z6 : w5.heap.size ≤ w6.heap.size := hb6.size
  clear hb6
  go_wp2_with fail
  refine (Strs.to_bel ak kcap ks _ ((unhide HCK).below (unhide B6) (Nat.le_refl _)) hlenk).mono ?_
  rintro e w7 ⟨rfl, hrow, hb7⟩
  have rk7 := hide hrow
  have yk : w6.heap.size < w7.heap.size := hrow.lt
  clear hrow
  have ra7 := hide ((unhide ra6).of_block (hb7.block _ (unhide ra6).lt))
  have rb7 := hide ((unhide rb6).of_block (hb7.block _ (unhide rb6).lt))
  have B7 := hide ((unhide B6).trans (hb7.mono (unhide B6).size))
  have z7 : w6.heap.size ≤ w7.heap.size := hb7.size
  clear hb7
  go_wp2_with fail
  refine (unhide HSP _ _ _ _ (unhide ra7).lt (Nodes.at_row (unhide ra7)) (unhide rb7).lt (Nodes.at_row (unhide rb7)) (unhide rk7).lt (Strs.at_row (unhide rk7))).mono ?_
  rintro e w8 ⟨aP, cP, rP, rfl, ho, hr, hb8⟩
  have P8 := hide ho
  have LP : Hid (∀ g, rP = some g → w7.heap.size ≤ g ∧ g < w8.heap.size) := fun g h => ⟨hr g h, ho.lt g h⟩
  clear ho hr
  have B8 := hide ((unhide B7).trans (hb8.mono (unhide B7).size))
  have z8 : w7.heap.size ≤ w8.heap.size := hb8.size
  clear hb8
  go_wp2_with fail
  refine (Nodes.to_any a cap l _ ((unhide HC).below (unhide B8) (Nat.le_refl _)) hlen).mono ?_
  rintro e w9 ⟨rfl, hrow, hb9⟩
  have xa9 := hide hrow
  have ua : w8.heap.size < w9.heap.size := hrow.lt
  clear hrow
  have P9 := hide ((unhide P8).below hb9 (Nat.le_refl _))
  have B9 := hide ((unhide B8).trans (hb9.mono (unhide B8).size))
  have z9 : w8.heap.size ≤ w9.heap.size := hb9.size
  clear hb9
  go_wp2_with fail
  refine (Nodes.to_any a' cap' l' _ ((unhide HC').below (unhide B9) (Nat.le_refl _)) hlen').mono ?_
  rintro e w10 ⟨rfl, hrow, hb10⟩
  have xb10 := hide hrow
  have ub : w9.heap.size < w10.heap.size := hrow.lt
  clear hrow
  have P10 := hide ((unhide P9).below hb10 (Nat.le_refl _))
  have xa10 := hide ((unhide xa9).of_block (hb10.block _ (unhide xa9).lt))
  have B10 := hide ((unhide B9).trans (hb10.mono (unhide B9).size))
  have z10 : w9.heap.size ≤ w10.heap.size := hb10.size
  clear hb10
  go_wp2_with fail
  refine (Strs.to_bel ak kcap ks _ ((unhide HCK).below (unhide B10) (Nat.le_refl _)) hlenk).mono ?_
  rintro e w11 ⟨rfl, hrow, hb11⟩
  have xk11 := hide hrow
  have uk : w10.heap.size < w11.heap.size := hrow.lt
  clear hrow
  have P11 := hide ((unhide P10).below hb11 (Nat.le_refl _))
  have xa11 := hide ((unhide xa10).of_block (hb11.block _ (unhide xa10).lt))
  have xb11 := hide ((unhide xb10).of_block (hb11.block _ (unhide xb10).lt))
  have B11 := hide ((unhide B10).trans (hb11.mono (unhide B10).size))
  have z11 : w10.heap.size ≤ w11.heap.size := hb11.size
  clear hb11
  go_wp2_with fail
  refine (unhide HIM _ _ _ _ (unhide xa11).lt (Nodes.at_row (unhide xa11)) (unhide xb11).lt (Nodes.at_row (unhide xb11)) (unhide xk11).lt (Strs.at_row (unhide xk11)) ((unhide HV).below (unhide B11))).mono ?_
  rintro e w12 ⟨aO, cO, rO, rfl, ho, hr, hb12⟩
  have O12 := hide ho
  have LO : Hid (∀ g, rO = some g → w11.heap.size ≤ g ∧ g < w12.heap.size) := fun g h => ⟨hr g h, ho.lt g h⟩
  clear ho hr
  have P12 := hide ((unhide P11).below hb12 (Nat.le_refl _))
  have xa12 := hide ((unhide xa11).of_block (hb12.block _ (unhide xa11).lt))
  have xb12 := hide ((unhide xb11).of_block (hb12.block _ (unhide xb11).lt))
  have xk12 := hide ((unhide xk11).of_block (hb12.block _ (unhide xk11).lt))
  have B12 := hide ((unhide B11).trans (hb12.mono (unhide B11).size))
  have z12 : w11.heap.size ≤ w12.heap.size := hb12.size
  clear hb12
  go_wp2_with fail
  refine (Strs.eq_bel aO cO R aP cP _ (StringsW.ours_at (unhide O12)) (StringsW.ours_at (unhide P12)) (by unfold maxLen; omega)).mono ?_
  rintro e w13 ⟨rfl, hb13⟩
  have P13 := hide ((unhide P12).below hb13 (Nat.le_refl _))
  have xa13 := hide ((unhide xa12).of_block (hb13.block _ (unhide xa12).lt))
  have xb13 := hide ((unhide xb12).of_block (hb13.block _ (unhide xb12).lt))
  have xk13 := hide ((unhide xk12).of_block (hb13.block _ (unhide xk12).lt))
  have O13 := hide ((unhide O12).below hb13 (Nat.le_refl _))
  have B13 := hide ((unhide B12).trans (hb13.mono (unhide B12).size))
  have z13 : w12.heap.size ≤ w13.heap.size := hb13.size
  clear hb13
  go_wp2_with fail
  refine (Nodes.to_any a cap l _ ((unhide HC).below (unhide B13) (Nat.le_refl _)) hlen).mono ?_
  rintro e w14 ⟨rfl, hrow, hb14⟩
  have ya14 := hide hrow
  have va : w13.heap.size < w14.heap.size := hrow.lt
  clear hrow
  have P14 := hide ((unhide P13).below hb14 (Nat.le_refl _))
  have xa14 := hide ((unhide xa13).of_block (hb14.block _ (unhide xa13).lt))
  have xb14 := hide ((unhide xb13).of_block (hb14.block _ (unhide xb13).lt))
  have xk14 := hide ((unhide xk13).of_block (hb14.block _ (unhide xk13).lt))
  have O14 := hide ((unhide O13).below hb14 (Nat.le_refl _))
  have B14 := hide ((unhide B13).trans (hb14.mono (unhide B13).size))
  have z14 : w13.heap.size ≤ w14.heap.size := hb14.size
  clear hb14
  go_wp2_with fail
  refine (Nodes.eq_same _ _ _ _ l _ (Nodes.LAt.row (unhide xa14)) (Nodes.LAt.row (unhide ya14)) (unhide HLM)).mono ?_
  rintro e w15 ⟨rfl, hb15⟩
  have P15 := hide ((unhide P14).below hb15 (Nat.le_refl _))
  have xa15 := hide ((unhide xa14).of_block (hb15.block _ (unhide xa14).lt))
  have xb15 := hide ((unhide xb14).of_block (hb15.block _ (unhide xb14).lt))
  have xk15 := hide ((unhide xk14).of_block (hb15.block _ (unhide xk14).lt))
  have O15 := hide ((unhide O14).below hb15 (Nat.le_refl _))
  have B15 := hide ((unhide B14).trans (hb15.mono (unhide B14).size))
  have z15 : w14.heap.size ≤ w15.heap.size := hb15.size
  clear hb15
  go_wp2_with fail
  refine (Nodes.to_any a' cap' l' _ ((unhide HC').below (unhide B15) (Nat.le_refl _)) hlen').mono ?_
  rintro e w16 ⟨rfl, hrow, hb16⟩
  have yb16 := hide hrow
  have vb : w15.heap.size < w16.heap.size := hrow.lt
  clear hrow
  have P16 := hide ((unhide P15).below hb16 (Nat.le_refl _))
  have xa16 := hide ((unhide xa15).of_block (hb16.block _ (unhide xa15).lt))
  have xb16 := hide ((unhide xb15).of_block (hb16.block _ (unhide xb15).lt))
  have xk16 := hide ((unhide xk15).of_block (hb16.block _ (unhide xk15).lt))
  have O16 := hide ((unhide O15).below hb16 (Nat.le_refl _))
  have B16 := hide ((unhide B15).trans (hb16.mono (unhide B15).size))
  have z16 : w15.heap.size ≤ w16.heap.size := hb16.size
  clear hb16
  go_wp2_with fail
  refine (Nodes.eq_same _ _ _ _ l' _ (Nodes.LAt.row (unhide xb16)) (Nodes.LAt.row (unhide yb16)) (unhide HLM')).mono ?_
  rintro e w17 ⟨rfl, hb17⟩
  have P17 := hide ((unhide P16).below hb17 (Nat.le_refl _))
  have xa17 := hide ((unhide xa16).of_block (hb17.block _ (unhide xa16).lt))
  have xb17 := hide ((unhide xb16).of_block (hb17.block _ (unhide xb16).lt))
  have xk17 := hide ((unhide xk16).of_block (hb17.block _ (unhide xk16).lt))
  have O17 := hide ((unhide O16).below hb17 (Nat.le_refl _))
  have B17 := hide ((unhide B16).trans (hb17.mono (unhide B16).size))
  have z17 : w16.heap.size ≤ w17.heap.size := hb17.size
  clear hb17
  go_wp2_with fail
  refine (Strs.to_bel ak kcap ks _ ((unhide HCK).below (unhide B17) (Nat.le_refl _)) hlenk).mono ?_
  rintro e w18 ⟨rfl, hrow, hb18⟩
  have yk18 := hide hrow
  have vk : w17.heap.size < w18.heap.size := hrow.lt
  clear hrow
  have P18 := hide ((unhide P17).below hb18 (Nat.le_refl _))
  have xa18 := hide ((unhide xa17).of_block (hb18.block _ (unhide xa17).lt))
  have xb18 := hide ((unhide xb17).of_block (hb18.block _ (unhide xb17).lt))
  have xk18 := hide ((unhide xk17).of_block (hb18.block _ (unhide xk17).lt))
  have O18 := hide ((unhide O17).below hb18 (Nat.le_refl _))
  have B18 := hide ((unhide B17).trans (hb18.mono (unhide B17).size))
  have z18 : w17.heap.size ≤ w18.heap.size := hb18.size
  clear hb18
  go_wp2_with fail
  refine (Strs.eq_bel _ _ ks _ _ _ (StrsAt.row (unhide xk18)) (StrsAt.row (unhide yk18)) (unhide HKM)).mono ?_
  rintro e w19 ⟨rfl, hb19⟩
  have P19 := hide ((unhide P18).below hb19 (Nat.le_refl _))
  have xa19 := hide ((unhide xa18).of_block (hb19.block _ (unhide xa18).lt))
  have xb19 := hide ((unhide xb18).of_block (hb19.block _ (unhide xb18).lt))
  have xk19 := hide ((unhide xk18).of_block (hb19.block _ (unhide xk18).lt))
  have O19 := hide ((unhide O18).below hb19 (Nat.le_refl _))
  have B19 := hide ((unhide B18).trans (hb19.mono (unhide B18).size))
  have z19 : w18.heap.size ≤ w19.heap.size := hb19.size
  clear hb19
  have hk1 : ¬ 1 + (l.length : Int) * 2 < 0 := by omega
  go_wp2_with fail
  refine (NodesM.mark_any _ _ l.length _ _ 1 _ (NodesM.Ours.row (unhide xa19)) (by omega) (by omega) (by omega)).mono ?_
  rintro e w20 ⟨rfl, _, hg20⟩
  have P20 := hide ((unhide P19).gb hg20 (fun g h e => by have h4 := unhide LP g h; simp at e; omega))
  have xb20 := hide ((unhide xb19).of_block (hg20.block _ (unhide xb19).lt (fun e => by simp at e; omega)))
  have xk20 := hide ((unhide xk19).of_block (hg20.block _ (unhide xk19).lt (fun e => by simp at e; omega)))
  have O20 := hide ((unhide O19).gb hg20 (fun g h e => by have h4 := unhide LO g h; simp at e; omega))
  have B20 := hide (Marks.below_gb (unhide B19) hg20 (unhide B19).size (by have := (unhide B8).size; omega))
  have z20 : w19.heap.size ≤ w20.heap.size := hg20.size
  clear hg20
  go_wp2_with fail
  refine (NodesM.mark_any _ _ l'.length _ _ _ _ (NodesM.Ours.row (unhide xb20)) (by omega) (by omega) (by omega)).mono ?_
  rintro e w21 ⟨rfl, _, hg21⟩
  have P21 := hide ((unhide P20).gb hg21 (fun g h e => by have h4 := unhide LP g h; simp at e; omega))
  have xk21 := hide ((unhide xk20).of_block (hg21.block _ (unhide xk20).lt (fun e => by simp at e; omega)))
  have O21 := hide ((unhide O20).gb hg21 (fun g h e => by have h4 := unhide LO g h; simp at e; omega))
  have B21 := hide (Marks.below_gb (unhide B20) hg21 (unhide B20).size (by have := (unhide B9).size; omega))
  have z21 : w20.heap.size ≤ w21.heap.size := hg21.size
  clear hg21
  go_wp2_with fail
  refine (StringsM.mark_any _ _ ks.length _ _ _ _ (StringsM.Ours.row (unhide xk21)) (by omega) (by omega) (by omega)).mono ?_
  rintro e w22 ⟨rfl, _, hg22⟩
  have P22 := hide ((unhide P21).gb hg22 (fun g h e => by have h4 := unhide LP g h; simp at e; omega))
  have O22 := hide ((unhide O21).gb hg22 (fun g h e => by have h4 := unhide LO g h; simp at e; omega))
  have B22 := hide (Marks.below_gb (unhide B21) hg22 (unhide B21).size (by have := (unhide B10).size; omega))
  have z22 : w21.heap.size ≤ w22.heap.size := hg22.size
  clear hg22
  have hk3 : ¬ 1 + (l.length : Int) * 2 + (l'.length : Int) * 2 + (ks.length : Int) < 0 := by omega
  go_wp2_with fail
  refine (Strs.eq_bel aO cO R aP cP _ (StringsW.ours_at (unhide O22)) (StringsW.ours_at (unhide P22)) (by unfold maxLen; omega)).mono ?_
  rintro e w23 ⟨rfl, hb23⟩
  have P23 := hide ((unhide P22).below hb23 (Nat.le_refl _))
  have O23 := hide ((unhide O22).below hb23 (Nat.le_refl _))
  have B23 := hide ((unhide B22).trans (hb23.mono (unhide B22).size))
  have z23 : w22.heap.size ≤ w23.heap.size := hb23.size
  clear hb23
  go_wp2_with fail
  refine (StringsM.mark_any aO cO R.length _ rO 1 _ (unhide O23) (by omega) (by omega) (by omega)).mono ?_
  rintro e w24 ⟨rfl, hm, hg24⟩
  have M24 := hide hm
  clear hm
  have P24 := hide ((unhide P23).gb hg24 (fun g h e => by have h4 := unhide LP g h; have h6 := unhide LO g e.symm; omega))
  have B24 := hide ((unhide B23).grown hg24 (unhide B23).size (fun k e => by have h6 := unhide LO k e; have := (unhide B10).size; omega))
  have z24 : w23.heap.size ≤ w24.heap.size := hg24.size
  clear hg24
  have hk2 : ¬ 1 + (R.length : Int) < 0 := by omega
  go_wp2_with fail
  refine (StringsM.held_any aO cO R.length rO 1 _ (unhide M24) (by omega) (by omega) (by omega)).mono ?_
  rintro e w25 ⟨rfl, hb25⟩
  have P25 := hide ((unhide P24).below hb25 (Nat.le_refl _))
  have M25 := hide ((unhide M24).below hb25 (Nat.le_refl _))
  have B25 := hide ((unhide B24).trans (hb25.mono (unhide B24).size))
  have z25 : w24.heap.size ≤ w25.heap.size := hb25.size
  clear hb25
  go_wp2_with fail
  refine (Nodes.to_any a cap l _ ((unhide HC).below (unhide B25) (Nat.le_refl _)) hlen).mono ?_
  rintro e w26 ⟨rfl, hrow, hb26⟩
  have ta26 := hide hrow
  have qa : w25.heap.size < w26.heap.size := hrow.lt
  clear hrow
  have P26 := hide ((unhide P25).below hb26 (Nat.le_refl _))
  have M26 := hide ((unhide M25).below hb26 (Nat.le_refl _))
  have B26 := hide ((unhide B25).trans (hb26.mono (unhide B25).size))
  have z26 : w25.heap.size ≤ w26.heap.size := hb26.size
  clear hb26
  go_wp2_with fail
  refine (Nodes.to_any a' cap' l' _ ((unhide HC').below (unhide B26) (Nat.le_refl _)) hlen').mono ?_
  rintro e w27 ⟨rfl, hrow, hb27⟩
  have tb27 := hide hrow
  have qb : w26.heap.size < w27.heap.size := hrow.lt
  clear hrow
  have P27 := hide ((unhide P26).below hb27 (Nat.le_refl _))
  have M27 := hide ((unhide M26).below hb27 (Nat.le_refl _))
  have ta27 := hide ((unhide ta26).of_block (hb27.block _ (unhide ta26).lt))
  have B27 := hide ((unhide B26).trans (hb27.mono (unhide B26).size))
  have z27 : w26.heap.size ≤ w27.heap.size := hb27.size
  clear hb27
  go_wp2_with fail
  refine (Strs.to_bel ak kcap ks _ ((unhide HCK).below (unhide B27) (Nat.le_refl _)) hlenk).mono ?_
  rintro e w28 ⟨rfl, hrow, hb28⟩
  have tk28 := hide hrow
  have qk : w27.heap.size < w28.heap.size := hrow.lt
  clear hrow
  have P28 := hide ((unhide P27).below hb28 (Nat.le_refl _))
  have M28 := hide ((unhide M27).below hb28 (Nat.le_refl _))
  have ta28 := hide ((unhide ta27).of_block (hb28.block _ (unhide ta27).lt))
  have tb28 := hide ((unhide tb27).of_block (hb28.block _ (unhide tb27).lt))
  have B28 := hide ((unhide B27).trans (hb28.mono (unhide B27).size))
  have z28 : w27.heap.size ≤ w28.heap.size := hb28.size
  clear hb28
  go_wp2_with fail
  refine (unhide HIM _ _ _ _ (unhide ta28).lt (Nodes.at_row (unhide ta28)) (unhide tb28).lt (Nodes.at_row (unhide tb28)) (unhide tk28).lt (Strs.at_row (unhide tk28)) ((unhide HV).below (unhide B28))).mono ?_
  rintro e w29 ⟨aQ, cQ, rQ, rfl, ho, hr, hb29⟩
  have Q29 := hide ho
  clear ho hr
  have P29 := hide ((unhide P28).below hb29 (Nat.le_refl _))
  have M29 := hide ((unhide M28).below hb29 (Nat.le_refl _))
  have B29 := hide ((unhide B28).trans (hb29.mono (unhide B28).size))
  have z29 : w28.heap.size ≤ w29.heap.size := hb29.size
  clear hb29
  go_wp2_with fail
  refine (Strs.eq_bel aQ cQ R aP cP _ (StringsW.ours_at (unhide Q29)) (StringsW.ours_at (unhide P29)) (by unfold maxLen; omega)).mono ?_
  rintro e w30 ⟨rfl, hb30⟩
  have M30 := hide ((unhide M29).below hb30 (Nat.le_refl _))
  have B30 := hide ((unhide B29).trans (hb30.mono (unhide B29).size))
  have z30 : w29.heap.size ≤ w30.heap.size := hb30.size
  clear hb30
  go_wp2_with fail
  refine (StringsM.held_any aO cO R.length rO 1 _ (unhide M30) (by omega) (by omega) (by omega)).mono ?_
  rintro e w31 ⟨rfl, hb31⟩
  have B31 := hide ((unhide B30).trans (hb31.mono (unhide B30).size))
  have z31 : w30.heap.size ≤ w31.heap.size := hb31.size
  clear hb31
  go_wp2
  go_ret
  exact ⟨rfl, unhide B31⟩

theorem own : ownKnob Tryd.prog.godebug = none := by kernel_rfl
theorem laidOut : laidOutB Tryd.prog = true := by kernel_rfl


abbrev laid5 : List (String × DataW Unit) := Rows.fnExactMovedKeysRow.laid
theorem gTab : Tryd.prog.globalNamed "internal/strconv.uint64pow10" = some 0 := by kernel_rfl
theorem tTab : (Tryd.prog.globals[0]?).map (·.type) = some 95 := by kernel_rfl
theorem cellsU : Tryd.prog.cellsOf 88 = 1 := by kernel_rfl
theorem cellsT : Tryd.prog.cellsOf 95 = 20 := by kernel_rfl
theorem tabD : (Rows.laid_internal_strconv_uint64pow10 : DataW Unit) = Lib.tabData .u64 Lib.pow10Tab := by kernel_rfl
/-- What the row's list gives the walk. -/
theorem of_laid {W : World} (h : laidMetH Tryd.prog laid5 W) : Ring.Vars W := by
  rw [MakeChecks.laidMetH_plain _ _ _ (by kernel_rfl)] at h
  have h3 : laidMet Tryd.prog _ W := h.tail.tail
  rw [tabD] at h3
  exact Lib.tabIs_of_head gTab tTab Tryd.underlying95 Tryd.underlying88 cellsU cellsT h3
/-- The heap that the program's own laying leaves meets the list. -/
theorem door_met (os : Os) (args : Array Value) : laidMetH Tryd.prog laid5 ((World.doorLaid Tryd.prog 4000 os).forCall (fun _ _ => 0) ⟨#[], args, []⟩).memory :=
  laidMetH_of_parts3 (fuel := 8) (laidMet_of_run' 8 (by kernel_rfl) (by kernel_rfl)) (by kernel_rfl) (by kernel_rfl)

set_option maxRecDepth 100000 in
theorem lifted (os : Os) (started : os.Started) (H : Type) (enc : TypeId × Value → H) :
    ReturnsInHanded {} Tryd.checked os 5 .any (fun w args => (Rows.fnExactMovedKeysSpec.pre enc Tryd.prog Tryd.f5 [] false w args ∧ laidMetH Tryd.prog laid5 w) ∧ sizedMet enc Tryd.prog Tryd.f5 (OpenSpec.ofChange Rows.fnExactMovedKeysSpec) false w args)
      (Rows.fnExactMovedKeysSpec.post enc Tryd.prog Tryd.f5 false true false false) := by
  refine returnsInHanded_of_change_and (C := Tryd.checked) (X := fun w _ => laidMetH Tryd.prog laid5 w) (fun _ _ _ hh h => h.of_heap hh) own started (by kernel_rfl) Tryd.func5
    (ChangeSpec.witness_shaped (enc := enc) (C := Tryd.checked) (os := os) (X := fun w _ => laidMetH Tryd.prog laid5 w) false (World.doorLaid Tryd.prog 4000 os) #[.slice none 0 0, .slice none 0 0, .slice none 0 0] 8 rfl (World.shaped_of_RefB (by kernel_rfl) (by kernel_rfl)) (by kernel_rfl) (by kernel_rfl) (by kernel_rfl) (door_met os _)) ?_
  intro W base args ds gs before hval0 hW _ _ hL _
  have hval : ∀ (j : Nat) t v, Tryd.f5.params[j]? = some t → args[j]? = some v → Value.okWide Tryd.prog W .any base t v := hval0
  have hW' := hW
  obtain ⟨p, q, hA0, hV, rfl, hfz, hnd⟩ := hW
  have hA : DataW.TrodAll enc Tryd.prog W 0 (fun _ => true) true Tryd.f5.params.toList args.toList ds p := hA0
  rw [Tryd.params5] at hA hval
  obtain ⟨v0, vs0, d0, ds0, p0, q0, hargs, rfl, rfl, h0, r0⟩ := trodAll_cons hA
  obtain ⟨v1, vs1, d1, ds1, p1, q1, rfl, rfl, rfl, h1, r1⟩ := trodAll_cons r0
  obtain ⟨v2, vs2, d2, ds2, p2, q2, rfl, rfl, rfl, h2, r2⟩ := trodAll_cons r1
  obtain ⟨rfl, rfl, rfl⟩ := trodAll_nil r2
  obtain rfl : args = #[v0, v1, v2] := by cases args; simp_all
  obtain ⟨rfl, rfl⟩ := trodVars_none hV
  have k0 := h0
  have lt0 : ∀ x ∈ p0, x.block < W.heap.size := by obtain ⟨m, hm⟩ := k0; exact DataW.trod_lt m _ _ _ hm
  obtain ⟨x0, y0, z0, rfl⟩ := okWide_slice Tryd.underlying22 (hval 0 22 v0 rfl rfl)
  obtain ⟨P0, C0, L0, e0, f0, g0, i0, u0⟩ : ∃ (a : Option Addr) (cap : Nat) (l : List Nodes.D), Value.slice x0 y0 z0 = .slice a l.length cap ∧ Nodes.LAt W a l ∧ l.length ≤ cap ∧ l.length ≤ maxLen ∧ ∀ x ∈ l, Nodes.Fits x := by
    obtain ⟨fuel, hf⟩ := h0
    exact Nodes.open_of Tryd.underlying22 Tryd.underlying52 (by kernel_rfl) (by kernel_rfl) Tryd.underlying9 Tryd.underlying3 hf
  simp only [Value.slice.injEq] at e0
  obtain ⟨ex0, ey0, ez0⟩ := e0
  subst x0 y0 z0
  have k1 := h1
  have lt1 : ∀ x ∈ p1, x.block < W.heap.size := by obtain ⟨m, hm⟩ := k1; exact DataW.trod_lt m _ _ _ hm
  obtain ⟨x1, y1, z1, rfl⟩ := okWide_slice Tryd.underlying22 (hval 1 22 v1 rfl rfl)
  obtain ⟨P1, C1, L1, e1, f1, g1, i1, u1⟩ : ∃ (a : Option Addr) (cap : Nat) (l : List Nodes.D), Value.slice x1 y1 z1 = .slice a l.length cap ∧ Nodes.LAt W a l ∧ l.length ≤ cap ∧ l.length ≤ maxLen ∧ ∀ x ∈ l, Nodes.Fits x := by
    obtain ⟨fuel, hf⟩ := h1
    exact Nodes.open_of Tryd.underlying22 Tryd.underlying52 (by kernel_rfl) (by kernel_rfl) Tryd.underlying9 Tryd.underlying3 hf
  simp only [Value.slice.injEq] at e1
  obtain ⟨ex1, ey1, ez1⟩ := e1
  subst x1 y1 z1
  have k2 := h2
  have lt2 : ∀ x ∈ p2, x.block < W.heap.size := by obtain ⟨m, hm⟩ := k2; exact DataW.trod_lt m _ _ _ hm
  obtain ⟨x2, y2, z2, rfl⟩ := okWide_slice Tryd.underlying37 (hval 2 37 v2 rfl rfl)
  obtain ⟨P2, C2, L2, e2, f2, g2, i2⟩ : ∃ (a : Option Addr) (cap : Nat) (ss : List ByteArray), Value.slice x2 y2 z2 = .slice a ss.length cap ∧ StrsAt W a ss ∧ ss.length ≤ maxLen ∧ ∀ s ∈ ss, s.size ≤ maxLen := by
    obtain ⟨fuel, hf⟩ := h2
    exact Open.strs_of Tryd.underlying37 Tryd.underlying9 (by kernel_rfl) hf
  simp only [Value.slice.injEq] at e2
  obtain ⟨ex2, ey2, ez2⟩ := e2
  subst x2 y2 z2
  clear hA0 hval0
  refine (walk P0 C0 L0 P1 C1 L1 P2 C2 L2 W f0 g0 i0 u0 f1 g1 i1 u1 f2 g2 i2 (of_laid hL)).mono fun e W' ⟨he, bel⟩ => ?_
  subst he
  exact ⟨_, rfl, _, _, _, [], _, [], hW', trodAll_mk1 (shut_bool Tryd.underlying4 _), (trodAll_cons_mk (Below.trod laidOut (by kernel_rfl) (of_decide_eq_true (by kernel_rfl)) k0 bel lt0) (trodAll_cons_mk (Below.trod laidOut (by kernel_rfl) (of_decide_eq_true (by kernel_rfl)) k1 bel lt1) (trodAll_cons_mk (Below.trod laidOut (by kernel_rfl) (of_decide_eq_true (by kernel_rfl)) k2 bel lt2) trodAll_mk0))), rfl, bel.frame _, fun h => by cases h⟩

theorem over : Rows.fnExactMovedKeysRow.holds Tryd.pinned (OpenSpec.ofChange Rows.fnExactMovedKeysSpec) :=
  OpenClaim.holds_of_wide 5 Tryd.f5 rfl rfl rfl rfl rfl rfl rfl ⟨rfl, rfl, rfl, rfl, rfl⟩ rfl rfl rfl rfl rfl (by kernel_rfl) Tryd.func5 (by kernel_rfl)
    (of_decide_eq_true (by kernel_rfl)) (by unfold Func.isWrapper; first | (rw [if_pos (by decide +kernel)]; kernel_rfl) | (rw [if_neg (by decide +kernel)]; exact ⟨rfl, rfl⟩))
    (fun os started H enc _ => lifted os started H enc)

end MovedKeysL
theorem movedKeys_card : Rows.FnExactMovedKeysCardSaid :=
  Claim7.holds_tied_plain_at .later [] Rows.fnExactMovedKeysCard.laidKinds true Rows.fnExactMovedKeysCard.stood.harness Rows.fnExactMovedKeysCard.stood.looks
    MovedKeysL.over (fun _ h => by cases h) (by kernel_rfl) (fun _ h => by cases h) fnExactMovedKeys_row_tie rfl ⟨rfl, rfl⟩ (by kernel_rfl) rfl
    (fun f fn hf hfn => by
      obtain rfl : f = 5 := Option.some.inj ((show Tryd.prog.funcNamed Rows.fnExactMovedKeysRow.func = some 5 by kernel_rfl).symm.trans hf) |>.symm
      obtain rfl : fn = Tryd.f5 := (Option.some.inj (Tryd.func5.symm.trans hfn)).symm
      exact ⟨by kernel_rfl, fun j t ht => by
        rw [Tryd.params5] at ht
        have hm : t ∈ [22, 22, 37] := by simpa using Array.mem_of_getElem? ht
        have hall : ([22, 22, 37].all fun u => !Tryd.prog.wantsStandIn u) = true := by kernel_rfl
        exact (show Tryd.prog.wantsStandIn t = false by simpa using List.all_eq_true.1 hall t hm)⟩)
    (by kernel_rfl)

end Go.Proofs.YtcbmdloapmmghaaDoor
