/-
  FnExactBreakLane returns true for every lane, given the contract of the program's BreakLane.
-/
import Derived.Test.YtncdoghnfgnafaaLaneH
import Derived.Test.YtncdoghnfgnafaaLaneM
import Derived.Test.YtncdoghnfgnafaaBreakS
import Derived.Test.YtncdoghnfgnafaaWaitO
import Derived.OpenShut
import Derived.ChangeOld
import Derived.Deep.RegionWith
import Derived.Deep.DeepCutAuto
namespace Go.Proofs.Ytncdoghnfgnafaa
namespace BreakLaneL
open Go.ChangeShapes Go.WideShapes Go.ChangeAt Go.RowKit Base Waits Lanes Marks WaitsW
set_option linter.unusedVariables false

/-- Three cells of a block. -/
def Box3 (W : World) (b : Nat) (v0 v1 v2 : Value) : Prop := W.cell? ⟨b, 0, none⟩ = some v0 ∧ W.cell? ⟨b, 1, none⟩ = some v1 ∧ W.cell? ⟨b, 2, none⟩ = some v2
theorem Box3.below {W W' : World} {b B : Nat} {v0 v1 v2 : Value} (h : Box3 W b v0 v1 v2) (hb : Below B W W') (hB : b < B) : Box3 W' b v0 v1 v2 := by
  refine ⟨?_, ?_, ?_⟩
  · rw [hb.cell (p := ⟨b, 0, none⟩) hB]; exact h.1
  · rw [hb.cell (p := ⟨b, 1, none⟩) hB]; exact h.2.1
  · rw [hb.cell (p := ⟨b, 2, none⟩) hB]; exact h.2.2
theorem Box3.gb {W W' : World} {b : Nat} {v0 v1 v2 : Value} {r : Option Nat} (h : Box3 W b v0 v1 v2) (hg : W.grownBy W' r) (hb : b < W.heap.size) (hne : some b ≠ r) : Box3 W' b v0 v1 v2 := by
  have e := hg.block b hb hne
  refine ⟨?_, ?_, ?_⟩
  · rw [World.cell?_of_block (w := W) (a := ⟨b, 0, none⟩) e]; exact h.1
  · rw [World.cell?_of_block (w := W) (a := ⟨b, 1, none⟩) e]; exact h.2.1
  · rw [World.cell?_of_block (w := W) (a := ⟨b, 2, none⟩) e]; exact h.2.2
theorem box3 (w : World) (t : TypeId) (v0 v1 v2 : Value) : Box3 (w.alloc (.cells #[v0, v1, v2] t)) w.heap.size v0 v1 v2 := by
  refine ⟨?_, ?_, ?_⟩
  · rw [World.cell?_alloc_new]; rfl
  · rw [World.cell?_alloc_new]; rfl
  · rw [World.cell?_alloc_new]; rfl

/-- What the program's BreakLane must be shown to do. -/
def Impl : Prop := ∀ (ep fa : Int) (b off cap : Nat) (l : List D) (w : World), b < w.heap.size → (∀ i, i < l.length → At w b (off + i * 2) (l.getD i zero)) →
  l.length ≤ 1048576 → l.length ≤ cap →
  Calls Try.prog 21 #[.agg #[.int .i64 ep, .int .i64 fa, .slice (some ⟨b, off, none⟩) l.length cap]] w (BreakEnd (breakR ep fa l) w)

set_option maxRecDepth 100000 in
set_option maxHeartbeats 8000000 in
theorem walk (himpl : Impl) (ep fa : Int) (a : Option Addr) (cap : Nat) (l : List D) (w : World) (hc : LAt w a l) (hcap : l.length ≤ cap) (hl : l.length ≤ maxLen) (hs : ∀ x ∈ l, Fits x) :
    Calls Try.prog 6 #[.agg #[.int .i64 ep, .int .i64 fa, .slice a l.length cap]] w fun e w' => e = .returned (.bool true) ∧ Below w.heap.size w w' := by
  have HC := hide hc
  have HS := hide hs
  have hzl := @szL_len l 1048576
  have hsz := fun w' (h : LAt w' a l) => szLane_any ep fa a cap l 1048576 w' h hl hs (by omega) (by omega)
  generalize szL l 1048576 = z at hzl hsz
  have HSZ := hide hsz
  clear hc hs hsz
  by_cases hz : z < 0
  · clear hzl
    go_enter Try.func6, Try.ntmps6
    go_wp2_with fail
    refine (unhide HSZ _ ((unhide HC).below (bel1 w _) (Nat.le_refl _))).mono ?_
    rintro e w2 ⟨rfl, hb2⟩
    have hB2 := hide ((bel1 w _).trans (hb2.mono (by simp)))
    clear hb2
    go_wp2
    go_ret
    exact ⟨rfl, unhide hB2⟩
  have hlen : l.length ≤ 1048576 := by have := hzl hz; omega
  clear hzl
  have hsp := fun b w hb hc => breakS_some ep fa b 0 l.length l w hb hc hlen (Nat.le_refl _)
  have him := fun b w hb hc => himpl ep fa b 0 l.length l w hb hc hlen (Nat.le_refl _)
  have hdl := breakR_len ep fa l
  generalize breakR ep fa l = T at hsp him hdl
  obtain ⟨tl, tn, ti, tq, tc⟩ := T
  dsimp only at hdl
  have HSP := hide hsp
  have HIM := hide him
  clear hsp him
  have hti : ti.length ≤ 1048576 := by omega
  have htq : tq.length ≤ 1048576 := by omega
  clear hdl
  go_enter Try.func6, Try.ntmps6
  go_wp2_with fail
  refine (unhide HSZ _ ((unhide HC).below (bel1 w _) (Nat.le_refl _))).mono ?_
  rintro e w2 ⟨rfl, hb2⟩
  simp only [World.size_alloc] at hb2
  have A2 := hide ((box3 w _ _ _ _).below hb2 (Nat.lt_succ_self _))
  have B2 := hide ((bel1 w _).trans (hb2.mono (by omega)))
  have z2 : w.heap.size < w2.heap.size := by have := hb2.size; simp at this; omega
  clear hb2
  have t0 : w.heap.size < w2.heap.size := by omega
  obtain ⟨x0, x1, x2⟩ := unhide A2
  go_wp2_with fail
  refine (toLane_any ep fa a cap l _ ((unhide HC).below (unhide B2) (Nat.le_refl _)) hlen).mono ?_
  rintro e w3 ⟨bR, rfl, hbR, hrow, hb3⟩
  have R3 := hide hrow
  clear hrow hbR
  have A3 := hide ((unhide A2).below hb3 (by omega))
  have B3 := hide ((unhide B2).trans (hb3.mono (by omega)))
  have z3 : w2.heap.size ≤ w3.heap.size := hb3.size
  clear hb3 x0 x1 x2 t0 A2 B2
  go_wp2_with fail
  refine (unhide HSP bR _ (unhide R3).lt (at_row (unhide R3))).mono ?_
  rintro e w4 ⟨aP, cP, iP, dP, rfl, rP, qP, ho, hi, hr, hq, hd, hb4⟩
  have P4 := hide ho
  have Pi4 := hide hi
  have LP : Hid ((∀ g, rP = some g → w3.heap.size ≤ g ∧ g < w4.heap.size) ∧ (∀ g, qP = some g → w3.heap.size ≤ g ∧ g < w4.heap.size) ∧ (rP = none ∨ qP = none)) := ⟨fun g h => ⟨hr g h, ho.lt g h⟩, fun g h => ⟨hq g h, hi.lt g h⟩, hd⟩
  clear ho hi hr hq hd
  have A4 := hide ((unhide A3).below hb4 (by omega))
  have B4 := hide ((unhide B3).trans (hb4.mono (by omega)))
  have z4 : w3.heap.size ≤ w4.heap.size := hb4.size
  clear hb4  A3 R3 B3
  have t0 : w.heap.size < w4.heap.size := by omega
  obtain ⟨x0, x1, x2⟩ := unhide A4
  go_wp2_with fail
  clear x0 x1 x2 t0
  have ba4a : Below w4.heap.size w4 (w4.alloc (.cells #[.int .i64 tl, .int .i64 tn, .slice aP ti.length cP] 29)) := bel1 w4 _
  have zz4a : (w4.alloc (.cells #[.int .i64 tl, .int .i64 tn, .slice aP ti.length cP] 29)).heap.size = w4.heap.size + 1 := by simp
  have W4a : Hid (Box3 (w4.alloc (.cells #[.int .i64 tl, .int .i64 tn, .slice aP ti.length cP] 29)) w4.heap.size (.int .i64 tl) (.int .i64 tn) (.slice aP ti.length cP)) := box3 w4 _ _ _ _
  generalize w4.alloc (.cells #[.int .i64 tl, .int .i64 tn, .slice aP ti.length cP] 29) = w4a at ba4a zz4a W4a ⊢
  have A4a := hide ((unhide A4).below ba4a (by omega))
  have P4a := hide ((unhide P4).below ba4a (Nat.le_refl _))
  have Pi4a := hide ((unhide Pi4).below ba4a (Nat.le_refl _))
  have B4a := hide ((unhide B4).trans (ba4a.mono (by omega)))
  clear ba4a A4 P4 Pi4 B4
  refine (toLane_any ep fa a cap l _ ((unhide HC).below (unhide B4a) (Nat.le_refl _)) hlen).mono ?_
  rintro e w5 ⟨bX, rfl, hbX, hrow, hb5⟩
  have X5 := hide hrow
  have yX : w4a.heap.size ≤ bX ∧ bX < w5.heap.size := ⟨hbX, hrow.lt⟩
  clear hrow hbX
  have A5 := hide ((unhide A4a).below hb5 (by omega))
  have P5 := hide ((unhide P4a).below hb5 (Nat.le_refl _))
  have Pi5 := hide ((unhide Pi4a).below hb5 (Nat.le_refl _))
  have W5 := hide ((unhide W4a).below hb5 (by omega))
  have B5 := hide ((unhide B4a).trans (hb5.mono (by omega)))
  have z5 : w4a.heap.size ≤ w5.heap.size := hb5.size
  clear hb5  A4a P4a Pi4a W4a B4a
  go_wp2_with fail
  have ba5a : Below w5.heap.size w5 (w5.alloc (.cells #[.int .i64 ep, .int .i64 fa, .slice (some ⟨bX, 0, none⟩) l.length l.length] 29)) := bel1 w5 _
  have zz5a : (w5.alloc (.cells #[.int .i64 ep, .int .i64 fa, .slice (some ⟨bX, 0, none⟩) l.length l.length] 29)).heap.size = w5.heap.size + 1 := by simp
  have XB5a : Hid (Box3 (w5.alloc (.cells #[.int .i64 ep, .int .i64 fa, .slice (some ⟨bX, 0, none⟩) l.length l.length] 29)) w5.heap.size (.int .i64 ep) (.int .i64 fa) (.slice (some ⟨bX, 0, none⟩) l.length l.length)) := box3 w5 _ _ _ _
  generalize w5.alloc (.cells #[.int .i64 ep, .int .i64 fa, .slice (some ⟨bX, 0, none⟩) l.length l.length] 29) = w5a at ba5a zz5a XB5a ⊢
  have A5a := hide ((unhide A5).below ba5a (by omega))
  have P5a := hide ((unhide P5).below ba5a (Nat.le_refl _))
  have Pi5a := hide ((unhide Pi5).below ba5a (Nat.le_refl _))
  have W5a := hide ((unhide W5).below ba5a (by omega))
  have X5a := hide ((unhide X5).of_block (ba5a.block _ (unhide X5).lt))
  have B5a := hide ((unhide B5).trans (ba5a.mono (by omega)))
  clear ba5a A5 P5 Pi5 W5 X5 B5
  refine (unhide HIM bX _ (unhide X5a).lt (at_row (unhide X5a))).mono ?_
  rintro e w6 ⟨aO, cO, iO, dO, rfl, rO, qO, ho, hi, hr, hq, hd, hb6⟩
  have O6 := hide ho
  have Oi6 := hide hi
  have LO : Hid ((∀ g, rO = some g → w5a.heap.size ≤ g ∧ g < w6.heap.size) ∧ (∀ g, qO = some g → w5a.heap.size ≤ g ∧ g < w6.heap.size) ∧ (rO = none ∨ qO = none)) := ⟨fun g h => ⟨hr g h, ho.lt g h⟩, fun g h => ⟨hq g h, hi.lt g h⟩, hd⟩
  clear ho hi hr hq hd
  have A6 := hide ((unhide A5a).below hb6 (by omega))
  have P6 := hide ((unhide P5a).below hb6 (Nat.le_refl _))
  have Pi6 := hide ((unhide Pi5a).below hb6 (Nat.le_refl _))
  have W6 := hide ((unhide W5a).below hb6 (by omega))
  have X6 := hide ((unhide X5a).of_block (hb6.block _ (unhide X5a).lt))
  have XB6 := hide ((unhide XB5a).below hb6 (by omega))
  have B6 := hide ((unhide B5a).trans (hb6.mono (by omega)))
  have z6 : w5a.heap.size ≤ w6.heap.size := hb6.size
  clear hb6  A5a P5a Pi5a W5a X5a XB5a B5a
  have t0 : w4.heap.size < w6.heap.size := by omega
  obtain ⟨x0, x1, x2⟩ := unhide W6
  go_wp2_with fail
  clear x0 x1 x2 t0
  have ba6a : Below w6.heap.size w6 (w6.alloc (.cells #[.int .i64 tl, .int .i64 tn, .slice aO ti.length cO] 29)) := bel1 w6 _
  have zz6a : (w6.alloc (.cells #[.int .i64 tl, .int .i64 tn, .slice aO ti.length cO] 29)).heap.size = w6.heap.size + 1 := by simp
  have G6a : Hid (Box3 (w6.alloc (.cells #[.int .i64 tl, .int .i64 tn, .slice aO ti.length cO] 29)) w6.heap.size (.int .i64 tl) (.int .i64 tn) (.slice aO ti.length cO)) := box3 w6 _ _ _ _
  generalize w6.alloc (.cells #[.int .i64 tl, .int .i64 tn, .slice aO ti.length cO] 29) = w6a at ba6a zz6a G6a ⊢
  have A6a := hide ((unhide A6).below ba6a (by omega))
  have P6a := hide ((unhide P6).below ba6a (Nat.le_refl _))
  have Pi6a := hide ((unhide Pi6).below ba6a (Nat.le_refl _))
  have W6a := hide ((unhide W6).below ba6a (by omega))
  have X6a := hide ((unhide X6).of_block (ba6a.block _ (unhide X6).lt))
  have XB6a := hide ((unhide XB6).below ba6a (by omega))
  have O6a := hide ((unhide O6).below ba6a (Nat.le_refl _))
  have Oi6a := hide ((unhide Oi6).below ba6a (Nat.le_refl _))
  have B6a := hide ((unhide B6).trans (ba6a.mono (by omega)))
  clear ba6a A6 P6 Pi6 W6 X6 XB6 O6 Oi6 B6
  refine (eqLane_same tl tn aO aP cO cP ti _ (ours_at (unhide O6a)) (ours_at (unhide P6a)) (by unfold maxLen; omega)).mono ?_
  rintro e w7 ⟨rfl, hb7⟩
  have A7 := hide ((unhide A6a).below hb7 (by omega))
  have P7 := hide ((unhide P6a).below hb7 (Nat.le_refl _))
  have Pi7 := hide ((unhide Pi6a).below hb7 (Nat.le_refl _))
  have W7 := hide ((unhide W6a).below hb7 (by omega))
  have X7 := hide ((unhide X6a).of_block (hb7.block _ (unhide X6a).lt))
  have XB7 := hide ((unhide XB6a).below hb7 (by omega))
  have O7 := hide ((unhide O6a).below hb7 (Nat.le_refl _))
  have Oi7 := hide ((unhide Oi6a).below hb7 (Nat.le_refl _))
  have G7 := hide ((unhide G6a).below hb7 (by omega))
  have B7 := hide ((unhide B6a).trans (hb7.mono (by omega)))
  have z7 : w6a.heap.size ≤ w7.heap.size := hb7.size
  clear hb7  A6a P6a Pi6a W6a X6a XB6a O6a Oi6a G6a B6a
  go_wp2_with fail
  refine (Ints.eq_same iO iP dO dP tq _ (Ints.ours_at (unhide Oi7)) (Ints.ours_at (unhide Pi7)) (by unfold maxLen; omega)).mono ?_
  rintro e w8 ⟨rfl, hb8⟩
  have A8 := hide ((unhide A7).below hb8 (by omega))
  have P8 := hide ((unhide P7).below hb8 (Nat.le_refl _))
  have Pi8 := hide ((unhide Pi7).below hb8 (Nat.le_refl _))
  have W8 := hide ((unhide W7).below hb8 (by omega))
  have X8 := hide ((unhide X7).of_block (hb8.block _ (unhide X7).lt))
  have XB8 := hide ((unhide XB7).below hb8 (by omega))
  have O8 := hide ((unhide O7).below hb8 (Nat.le_refl _))
  have Oi8 := hide ((unhide Oi7).below hb8 (Nat.le_refl _))
  have G8 := hide ((unhide G7).below hb8 (by omega))
  have B8 := hide ((unhide B7).trans (hb8.mono (by omega)))
  have z8 : w7.heap.size ≤ w8.heap.size := hb8.size
  clear hb8  A7 P7 Pi7 W7 X7 XB7 O7 Oi7 G7 B7
  go_upto_region 10 with fail
  go_cut [56] (fun s wx => s = .bool false ∧ Hid (Below w8.heap.size w8 wx))
  case first =>
    obtain ⟨x0, x1, x2⟩ := unhide A8
    obtain ⟨y0, y1, y2⟩ := unhide XB8
    have HS0 : Hid (LAt w8.drew a l) := (unhide HC).below (unhide B8).drew (Nat.le_refl _)
    have HS6 : Hid (LAt w8.drew (some ⟨bX, 0, none⟩) l) := LAt.row (unhide X8).drew
    have zb : w5.heap.size < w8.heap.size := by omega
    go_region_with (first | (go_at_call 11; refine (toLane_any ep fa a cap l _ (unhide HS0) hlen).mono ?_; rintro e wa ⟨ba, rfl, hba, hrowa, hbela⟩; have hXa := fun o => hbela.cell (p := ⟨w5.heap.size, o, none⟩) (by simp; omega); have hrowa := hide hrowa; have hbela := hide hbela) | (go_at_call 13; refine (eqLane_same ep fa (some ⟨bX, 0, none⟩) (some ⟨ba, 0, none⟩) l.length l.length l _ ((unhide HS6).below (unhide hbela) (Nat.le_refl _)) (LAt.row (unhide hrowa)) hl).mono ?_; rintro e wb ⟨rfl, hbelb⟩; have hbelb := hide hbelb))
    all_goals
      go_wp2_with fail
      go_meet
      exact ⟨rfl, hide (((Below.refl _ _).drew.trans (unhide hbela)).trans ((unhide hbelb).mono (unhide hbela).size))⟩
  case rest =>
  obtain ⟨rfl, BC⟩ := hcut
  generalize wc = w9 at BC ⊢
  have hb9 := unhide BC
  have A9 := hide ((unhide A8).below hb9 (by omega))
  have P9 := hide ((unhide P8).below hb9 (Nat.le_refl _))
  have Pi9 := hide ((unhide Pi8).below hb9 (Nat.le_refl _))
  have W9 := hide ((unhide W8).below hb9 (by omega))
  have X9 := hide ((unhide X8).of_block (hb9.block _ (unhide X8).lt))
  have XB9 := hide ((unhide XB8).below hb9 (by omega))
  have O9 := hide ((unhide O8).below hb9 (Nat.le_refl _))
  have Oi9 := hide ((unhide Oi8).below hb9 (Nat.le_refl _))
  have G9 := hide ((unhide G8).below hb9 (by omega))
  have B9 := hide ((unhide B8).trans (hb9.mono (by omega)))
  have z9 : w8.heap.size ≤ w9.heap.size := hb9.size
  clear hb9 BC A8 P8 Pi8 W8 X8 XB8 O8 Oi8 G8 B8
  have t0 : w5.heap.size < w9.heap.size := by omega
  obtain ⟨x0, x1, x2⟩ := unhide XB9
  go_wp2_with fail
  refine (WaitsM.lane_mark ep fa (some ⟨bX, 0, none⟩) l.length l.length (icell l) (some bX) 1 _ (WaitsM.Ours.row (unhide X9)) (by omega) (by omega) (by omega)).mono ?_
  rintro e w10 ⟨rfl, _, hg10⟩
  have A10 := hide ((unhide A9).gb hg10 (by omega) (fun e => by simp at e; omega))
  have P10 := hide ((unhide P9).gb hg10 (fun g h e => by have h4 := (unhide LP).1 g h; simp at e; omega))
  have Pi10 := hide ((unhide Pi9).gb hg10 (fun g h e => by have h4 := (unhide LP).2.1 g h; simp at e; omega))
  have W10 := hide ((unhide W9).gb hg10 (by omega) (fun e => by simp at e; omega))
  have XB10 := hide ((unhide XB9).gb hg10 (by omega) (fun e => by simp at e; omega))
  have O10 := hide ((unhide O9).gb hg10 (fun g h e => by have h4 := (unhide LO).1 g h; simp at e; omega))
  have Oi10 := hide ((unhide Oi9).gb hg10 (fun g h e => by have h4 := (unhide LO).2.1 g h; simp at e; omega))
  have G10 := hide ((unhide G9).gb hg10 (by omega) (fun e => by simp at e; omega))
  have B10 := hide (below_gb (unhide B9) hg10 (by omega) (by omega))
  have z10 : w9.heap.size ≤ w10.heap.size := hg10.size
  clear hg10 x0 x1 x2 t0 A9 P9 Pi9 W9 X9 XB9 O9 Oi9 G9 B9
  have hk1 : ¬ 1 + (l.length : Int) * 2 < 0 := by omega
  have t0 : w4.heap.size < w10.heap.size := by omega
  obtain ⟨x0, x1, x2⟩ := unhide W10
  have t1 : w6.heap.size < w10.heap.size := by omega
  obtain ⟨y0, y1, y2⟩ := unhide G10
  go_wp2_with fail
  refine (eqLane_same tl tn aO aP cO cP ti _ (ours_at (unhide O10)) (ours_at (unhide P10)) (by unfold maxLen; omega)).mono ?_
  rintro e w11 ⟨rfl, hb11⟩
  have A11 := hide ((unhide A10).below hb11 (by omega))
  have P11 := hide ((unhide P10).below hb11 (Nat.le_refl _))
  have Pi11 := hide ((unhide Pi10).below hb11 (Nat.le_refl _))
  have W11 := hide ((unhide W10).below hb11 (by omega))
  have O11 := hide ((unhide O10).below hb11 (Nat.le_refl _))
  have Oi11 := hide ((unhide Oi10).below hb11 (Nat.le_refl _))
  have G11 := hide ((unhide G10).below hb11 (by omega))
  have B11 := hide ((unhide B10).trans (hb11.mono (by omega)))
  have z11 : w10.heap.size ≤ w11.heap.size := hb11.size
  clear hb11 x0 x1 x2 t0 y0 y1 y2 t1 A10 P10 Pi10 W10 O10 Oi10 G10 B10
  go_wp2_with fail
  refine (Ints.eq_same iO iP dO dP tq _ (Ints.ours_at (unhide Oi11)) (Ints.ours_at (unhide Pi11)) (by unfold maxLen; omega)).mono ?_
  rintro e w12 ⟨rfl, hb12⟩
  have A12 := hide ((unhide A11).below hb12 (by omega))
  have P12 := hide ((unhide P11).below hb12 (Nat.le_refl _))
  have Pi12 := hide ((unhide Pi11).below hb12 (Nat.le_refl _))
  have W12 := hide ((unhide W11).below hb12 (by omega))
  have O12 := hide ((unhide O11).below hb12 (Nat.le_refl _))
  have Oi12 := hide ((unhide Oi11).below hb12 (Nat.le_refl _))
  have G12 := hide ((unhide G11).below hb12 (by omega))
  have B12 := hide ((unhide B11).trans (hb12.mono (by omega)))
  have z12 : w11.heap.size ≤ w12.heap.size := hb12.size
  clear hb12  A11 P11 Pi11 W11 O11 Oi11 G11 B11
  have t0 : w6.heap.size < w12.heap.size := by omega
  obtain ⟨x0, x1, x2⟩ := unhide G12
  go_wp2_with fail
  refine (WaitsM.lane_mark tl tn aO cO ti.length (icell ti) rO 1 _ (unhide O12) (by omega) (by omega) (by omega)).mono ?_
  rintro e w13 ⟨rfl, hm, hg13⟩
  have M13 := hide hm
  clear hm
  have A13 := hide ((unhide A12).gb hg13 (by omega) (fun e => by have h6 := (unhide LO).1 _ e.symm; omega))
  have P13 := hide ((unhide P12).gb hg13 (fun g h e => by have h4 := (unhide LP).1 g h; have h6 := (unhide LO).1 g e.symm; omega))
  have Pi13 := hide ((unhide Pi12).gb hg13 (fun g h e => by have h4 := (unhide LP).2.1 g h; have h6 := (unhide LO).1 g e.symm; omega))
  have W13 := hide ((unhide W12).gb hg13 (by omega) (fun e => by have h6 := (unhide LO).1 _ e.symm; omega))
  have Oi13 := hide ((unhide Oi12).gb hg13 (fun g h e => by exact (unhide LO).2.2.elim (fun hh => by rw [hh] at e; exact absurd e (by simp)) (fun hh => by rw [hh] at h; exact absurd h (by simp))))
  have G13 := hide ((unhide G12).gb hg13 (by omega) (fun e => by have h6 := (unhide LO).1 _ e.symm; omega))
  have B13 := hide ((unhide B12).grown hg13 (unhide B12).size (fun k e => by have h6 := (unhide LO).1 k e; omega))
  have z13 : w12.heap.size ≤ w13.heap.size := hg13.size
  clear hg13 x0 x1 x2 t0 A12 P12 Pi12 W12 O12 Oi12 G12 B12
  go_wp2_with fail
  refine (IntsM.mark_any iO dO tq.length _ qO _ _ (unhide Oi13) (by omega) (by omega) (by omega)).mono ?_
  rintro e w14 ⟨rfl, hm, hg14⟩
  have N14 := hide hm
  clear hm
  have A14 := hide ((unhide A13).gb hg14 (by omega) (fun e => by have h6 := (unhide LO).2.1 _ e.symm; omega))
  have P14 := hide ((unhide P13).gb hg14 (fun g h e => by have h4 := (unhide LP).1 g h; have h6 := (unhide LO).2.1 g e.symm; omega))
  have Pi14 := hide ((unhide Pi13).gb hg14 (fun g h e => by have h4 := (unhide LP).2.1 g h; have h6 := (unhide LO).2.1 g e.symm; omega))
  have W14 := hide ((unhide W13).gb hg14 (by omega) (fun e => by have h6 := (unhide LO).2.1 _ e.symm; omega))
  have G14 := hide ((unhide G13).gb hg14 (by omega) (fun e => by have h6 := (unhide LO).2.1 _ e.symm; omega))
  have M14 := hide ((unhide M13).gb hg14 (fun g h e => by exact (unhide LO).2.2.elim (fun hh => by rw [hh] at h; exact absurd h (by simp)) (fun hh => by rw [hh] at e; exact absurd e (by simp))))
  have B14 := hide ((unhide B13).grown hg14 (unhide B13).size (fun k e => by have h6 := (unhide LO).2.1 k e; omega))
  have z14 : w13.heap.size ≤ w14.heap.size := hg14.size
  clear hg14  A13 P13 Pi13 W13 Oi13 G13 M13 B13
  have hk2 : ¬ 1 + (ti.length : Int) * 2 < 0 := by omega
  have hk3 : ¬ 1 + (ti.length : Int) * 2 + (tq.length : Int) < 0 := by omega
  have t0 : w6.heap.size < w14.heap.size := by omega
  obtain ⟨x0, x1, x2⟩ := unhide G14
  go_wp2_with fail
  refine (WaitsM.lane_held tl tn aO cO ti.length rO 1 _ (unhide M14) (by omega) (by omega) (by omega)).mono ?_
  rintro e w15 ⟨rfl, hb15⟩
  have A15 := hide ((unhide A14).below hb15 (by omega))
  have P15 := hide ((unhide P14).below hb15 (Nat.le_refl _))
  have Pi15 := hide ((unhide Pi14).below hb15 (Nat.le_refl _))
  have W15 := hide ((unhide W14).below hb15 (by omega))
  have G15 := hide ((unhide G14).below hb15 (by omega))
  have M15 := hide ((unhide M14).below hb15 (Nat.le_refl _))
  have N15 := hide ((unhide N14).below hb15 (Nat.le_refl _))
  have B15 := hide ((unhide B14).trans (hb15.mono (by omega)))
  have z15 : w14.heap.size ≤ w15.heap.size := hb15.size
  clear hb15 x0 x1 x2 t0 A14 P14 Pi14 W14 G14 M14 N14 B14
  go_wp2_with fail
  refine (IntsM.held_any iO dO tq.length qO _ _ (unhide N15) (by omega) (by omega) (by omega)).mono ?_
  rintro e w16 ⟨rfl, hb16⟩
  have A16 := hide ((unhide A15).below hb16 (by omega))
  have P16 := hide ((unhide P15).below hb16 (Nat.le_refl _))
  have Pi16 := hide ((unhide Pi15).below hb16 (Nat.le_refl _))
  have W16 := hide ((unhide W15).below hb16 (by omega))
  have G16 := hide ((unhide G15).below hb16 (by omega))
  have M16 := hide ((unhide M15).below hb16 (Nat.le_refl _))
  have N16 := hide ((unhide N15).below hb16 (Nat.le_refl _))
  have B16 := hide ((unhide B15).trans (hb16.mono (by omega)))
  have z16 : w15.heap.size ≤ w16.heap.size := hb16.size
  clear hb16  A15 P15 Pi15 W15 G15 M15 N15 B15
  have t0 : w.heap.size < w16.heap.size := by omega
  obtain ⟨x0, x1, x2⟩ := unhide A16
  go_wp2_with fail
  refine (toLane_any ep fa a cap l _ ((unhide HC).below (unhide B16) (Nat.le_refl _)) hlen).mono ?_
  rintro e w17 ⟨bY, rfl, hbY, hrow, hb17⟩
  have R17 := hide hrow
  clear hrow hbY
  have A17 := hide ((unhide A16).below hb17 (by omega))
  have P17 := hide ((unhide P16).below hb17 (Nat.le_refl _))
  have Pi17 := hide ((unhide Pi16).below hb17 (Nat.le_refl _))
  have W17 := hide ((unhide W16).below hb17 (by omega))
  have G17 := hide ((unhide G16).below hb17 (by omega))
  have M17 := hide ((unhide M16).below hb17 (Nat.le_refl _))
  have N17 := hide ((unhide N16).below hb17 (Nat.le_refl _))
  have B17 := hide ((unhide B16).trans (hb17.mono (by omega)))
  have z17 : w16.heap.size ≤ w17.heap.size := hb17.size
  clear hb17 x0 x1 x2 t0 A16 P16 Pi16 W16 G16 M16 N16 B16
  go_wp2_with fail
  refine (unhide HIM bY _ (unhide R17).lt (at_row (unhide R17))).mono ?_
  rintro e w18 ⟨aQ, cQ, iQ, dQ, rfl, rQ, qQ, ho, hi, hr, hq, hd, hb18⟩
  have Q18 := hide ho
  have Qi18 := hide hi
  have LQ : Hid ((∀ g, rQ = some g → w17.heap.size ≤ g ∧ g < w18.heap.size) ∧ (∀ g, qQ = some g → w17.heap.size ≤ g ∧ g < w18.heap.size) ∧ (rQ = none ∨ qQ = none)) := ⟨fun g h => ⟨hr g h, ho.lt g h⟩, fun g h => ⟨hq g h, hi.lt g h⟩, hd⟩
  clear ho hi hr hq hd
  have A18 := hide ((unhide A17).below hb18 (by omega))
  have P18 := hide ((unhide P17).below hb18 (Nat.le_refl _))
  have Pi18 := hide ((unhide Pi17).below hb18 (Nat.le_refl _))
  have W18 := hide ((unhide W17).below hb18 (by omega))
  have G18 := hide ((unhide G17).below hb18 (by omega))
  have M18 := hide ((unhide M17).below hb18 (Nat.le_refl _))
  have N18 := hide ((unhide N17).below hb18 (Nat.le_refl _))
  have B18 := hide ((unhide B17).trans (hb18.mono (by omega)))
  have z18 : w17.heap.size ≤ w18.heap.size := hb18.size
  clear hb18  A17 P17 Pi17 W17 G17 M17 N17 R17 B17
  have t0 : w4.heap.size < w18.heap.size := by omega
  obtain ⟨x0, x1, x2⟩ := unhide W18
  have t1 : w6.heap.size < w18.heap.size := by omega
  obtain ⟨y0, y1, y2⟩ := unhide G18
  go_wp2_with fail
  clear x0 x1 x2 t0 y0 y1 y2 t1
  have ba18a : Below w18.heap.size w18 (w18.alloc (.cells #[.int .i64 tl, .int .i64 tn, .slice aQ ti.length cQ] 29)) := bel1 w18 _
  have zz18a : (w18.alloc (.cells #[.int .i64 tl, .int .i64 tn, .slice aQ ti.length cQ] 29)).heap.size = w18.heap.size + 1 := by simp
  have Y18a : Hid (Box3 (w18.alloc (.cells #[.int .i64 tl, .int .i64 tn, .slice aQ ti.length cQ] 29)) w18.heap.size (.int .i64 tl) (.int .i64 tn) (.slice aQ ti.length cQ)) := box3 w18 _ _ _ _
  generalize w18.alloc (.cells #[.int .i64 tl, .int .i64 tn, .slice aQ ti.length cQ] 29) = w18a at ba18a zz18a Y18a ⊢
  have A18a := hide ((unhide A18).below ba18a (by omega))
  have P18a := hide ((unhide P18).below ba18a (Nat.le_refl _))
  have Pi18a := hide ((unhide Pi18).below ba18a (Nat.le_refl _))
  have W18a := hide ((unhide W18).below ba18a (by omega))
  have G18a := hide ((unhide G18).below ba18a (by omega))
  have M18a := hide ((unhide M18).below ba18a (Nat.le_refl _))
  have N18a := hide ((unhide N18).below ba18a (Nat.le_refl _))
  have Q18a := hide ((unhide Q18).below ba18a (Nat.le_refl _))
  have Qi18a := hide ((unhide Qi18).below ba18a (Nat.le_refl _))
  have B18a := hide ((unhide B18).trans (ba18a.mono (by omega)))
  clear ba18a A18 P18 Pi18 W18 G18 M18 N18 Q18 Qi18 B18
  refine (eqLane_same tl tn aQ aP cQ cP ti _ (ours_at (unhide Q18a)) (ours_at (unhide P18a)) (by unfold maxLen; omega)).mono ?_
  rintro e w19 ⟨rfl, hb19⟩
  have A19 := hide ((unhide A18a).below hb19 (by omega))
  have P19 := hide ((unhide P18a).below hb19 (Nat.le_refl _))
  have Pi19 := hide ((unhide Pi18a).below hb19 (Nat.le_refl _))
  have W19 := hide ((unhide W18a).below hb19 (by omega))
  have G19 := hide ((unhide G18a).below hb19 (by omega))
  have M19 := hide ((unhide M18a).below hb19 (Nat.le_refl _))
  have N19 := hide ((unhide N18a).below hb19 (Nat.le_refl _))
  have Q19 := hide ((unhide Q18a).below hb19 (Nat.le_refl _))
  have Qi19 := hide ((unhide Qi18a).below hb19 (Nat.le_refl _))
  have Y19 := hide ((unhide Y18a).below hb19 (by omega))
  have B19 := hide ((unhide B18a).trans (hb19.mono (by omega)))
  have z19 : w18a.heap.size ≤ w19.heap.size := hb19.size
  clear hb19  A18a P18a Pi18a W18a G18a M18a N18a Q18a Qi18a Y18a B18a
  go_wp2_with fail
  refine (Ints.eq_same iQ iP dQ dP tq _ (Ints.ours_at (unhide Qi19)) (Ints.ours_at (unhide Pi19)) (by unfold maxLen; omega)).mono ?_
  rintro e w20 ⟨rfl, hb20⟩
  have A20 := hide ((unhide A19).below hb20 (by omega))
  have P20 := hide ((unhide P19).below hb20 (Nat.le_refl _))
  have Pi20 := hide ((unhide Pi19).below hb20 (Nat.le_refl _))
  have W20 := hide ((unhide W19).below hb20 (by omega))
  have G20 := hide ((unhide G19).below hb20 (by omega))
  have M20 := hide ((unhide M19).below hb20 (Nat.le_refl _))
  have N20 := hide ((unhide N19).below hb20 (Nat.le_refl _))
  have Q20 := hide ((unhide Q19).below hb20 (Nat.le_refl _))
  have Qi20 := hide ((unhide Qi19).below hb20 (Nat.le_refl _))
  have Y20 := hide ((unhide Y19).below hb20 (by omega))
  have B20 := hide ((unhide B19).trans (hb20.mono (by omega)))
  have z20 : w19.heap.size ≤ w20.heap.size := hb20.size
  clear hb20  A19 P19 Pi19 W19 G19 M19 N19 Q19 Qi19 Y19 B19
  have t0 : w6.heap.size < w20.heap.size := by omega
  obtain ⟨x0, x1, x2⟩ := unhide G20
  go_wp2_with fail
  refine (WaitsM.lane_held tl tn aO cO ti.length rO 1 _ (unhide M20) (by omega) (by omega) (by omega)).mono ?_
  rintro e w21 ⟨rfl, hb21⟩
  have A21 := hide ((unhide A20).below hb21 (by omega))
  have P21 := hide ((unhide P20).below hb21 (Nat.le_refl _))
  have Pi21 := hide ((unhide Pi20).below hb21 (Nat.le_refl _))
  have W21 := hide ((unhide W20).below hb21 (by omega))
  have G21 := hide ((unhide G20).below hb21 (by omega))
  have M21 := hide ((unhide M20).below hb21 (Nat.le_refl _))
  have N21 := hide ((unhide N20).below hb21 (Nat.le_refl _))
  have Q21 := hide ((unhide Q20).below hb21 (Nat.le_refl _))
  have Qi21 := hide ((unhide Qi20).below hb21 (Nat.le_refl _))
  have Y21 := hide ((unhide Y20).below hb21 (by omega))
  have B21 := hide ((unhide B20).trans (hb21.mono (by omega)))
  have z21 : w20.heap.size ≤ w21.heap.size := hb21.size
  clear hb21 x0 x1 x2 t0 A20 P20 Pi20 W20 G20 M20 N20 Q20 Qi20 Y20 B20
  go_wp2_with fail
  refine (IntsM.held_any iO dO tq.length qO _ _ (unhide N21) (by omega) (by omega) (by omega)).mono ?_
  rintro e w22 ⟨rfl, hb22⟩
  have A22 := hide ((unhide A21).below hb22 (by omega))
  have P22 := hide ((unhide P21).below hb22 (Nat.le_refl _))
  have Pi22 := hide ((unhide Pi21).below hb22 (Nat.le_refl _))
  have W22 := hide ((unhide W21).below hb22 (by omega))
  have G22 := hide ((unhide G21).below hb22 (by omega))
  have M22 := hide ((unhide M21).below hb22 (Nat.le_refl _))
  have N22 := hide ((unhide N21).below hb22 (Nat.le_refl _))
  have Q22 := hide ((unhide Q21).below hb22 (Nat.le_refl _))
  have Qi22 := hide ((unhide Qi21).below hb22 (Nat.le_refl _))
  have Y22 := hide ((unhide Y21).below hb22 (by omega))
  have B22 := hide ((unhide B21).trans (hb22.mono (by omega)))
  have z22 : w21.heap.size ≤ w22.heap.size := hb22.size
  clear hb22  A21 P21 Pi21 W21 G21 M21 N21 Q21 Qi21 Y21 B21
  go_wp2
  go_ret
  exact ⟨rfl, unhide B22⟩

theorem own : ownKnob Try.prog.godebug = none := by kernel_rfl
theorem laidOut : laidOutB Try.prog = true := by kernel_rfl

set_option maxRecDepth 100000 in
theorem lifted (himpl : Impl) (os : Os) (started : os.Started) (H : Type) (enc : TypeId × Value → H) :
    ReturnsInHanded {} Try.checked os 6 .any (Rows.fnExactBreakLaneSpec.pre6 enc Try.prog Try.f6 Rows.fnExactBreakLaneRow.domain false) (Rows.fnExactBreakLaneSpec.post enc Try.prog Try.f6 false true false false) := by
  refine returnsInHanded_of_change (C := Try.checked) own started (by kernel_rfl) Try.func6
    (ChangeSpec.witness6 (enc := enc) (C := Try.checked) false ⟨#[], #[.agg #[.int .i64 0, .int .i64 0, .slice none 0 0]], []⟩ 8 (by kernel_rfl) (by kernel_rfl) (by kernel_rfl) (by kernel_rfl)) ?_
  intro W base args ds gs before hval0 hW hcnd _
  have hval : ∀ (j : Nat) t v, Try.f6.params[j]? = some t → args[j]? = some v → Value.okWide Try.prog W .any base t v := hval0
  have hW' := hW
  obtain ⟨p, q, hA0, hV, rfl, hfz, hnd⟩ := hW
  have hA : DataW.TrodAll enc Try.prog W 0 (fun _ => true) true Try.f6.params.toList args.toList ds p := hA0
  rw [Try.params6] at hA hval
  obtain ⟨v0, vs0, d0, ds0, p0, q0, hargs, rfl, rfl, h0, r0⟩ := trodAll_cons hA
  obtain ⟨rfl, rfl, rfl⟩ := trodAll_nil r0
  obtain rfl : args = #[v0] := by cases args; simp_all
  obtain ⟨rfl, rfl⟩ := trodVars_none hV
  have k0 := h0
  have lt0 : ∀ x ∈ p0, x.block < W.heap.size := by obtain ⟨m, hm⟩ := k0; exact DataW.trod_lt m _ _ _ hm
  obtain ⟨cs0, rfl, sz0⟩ := okWide_struct Try.underlying24 (hval 0 24 v0 rfl rfl)
  obtain ⟨ca0, cb0, cc0, rfl⟩ := Open.array3 (sz0.trans (show Try.prog.cellsOf 24 = 3 by kernel_rfl))
  obtain ⟨_, _, g0a⟩ := Open.field_at Try.underlying24 (by kernel_rfl) h0 0 _ rfl _ rfl
  obtain ⟨_, _, g0b⟩ := Open.field_at Try.underlying24 (by kernel_rfl) h0 1 _ rfl _ rfl
  obtain ⟨_, _, g0c⟩ := Open.field_at Try.underlying24 (by kernel_rfl) h0 2 _ rfl _ rfl
  obtain ⟨lim0, e0a, _, _⟩ := DataW.trod_int Try.underlying3 g0a
  obtain ⟨nx0, e0b, _, _⟩ := DataW.trod_int Try.underlying3 g0b
  obtain ⟨P0, C0, L0, e0c, f0, u0, i0, t0⟩ := Waits.open_of Try.underlying22 Try.underlying71 (by kernel_rfl) (by kernel_rfl) Try.underlying3 Try.underlying3 g0c
  simp only [List.cons.injEq, and_true] at e0a e0b
  subst e0a e0b e0c
  clear hA0 hval0
  refine (walk himpl lim0 nx0 P0 C0 L0 W f0 u0 i0 t0).mono fun e W' ⟨he, bel⟩ => ?_
  subst he
  exact ⟨_, rfl, _, _, _, [], _, [], hW', trodAll_mk1 (shut_bool Try.underlying4 _), (trodAll_cons_mk (Below.trod laidOut (by kernel_rfl) (of_decide_eq_true (by kernel_rfl)) k0 bel lt0) trodAll_mk0), rfl, bel.frame _, fun h => by cases h⟩

theorem over (himpl : Impl) : Rows.fnExactBreakLaneRow.holds Try.pinned (OpenSpec.ofChange Rows.fnExactBreakLaneSpec) :=
  OpenClaim.holds_of_wide 6 Try.f6 rfl rfl rfl rfl rfl rfl rfl ⟨rfl, rfl, rfl, rfl, rfl⟩ rfl rfl rfl rfl rfl (by kernel_rfl) Try.func6 (by kernel_rfl)
    (of_decide_eq_true (by kernel_rfl)) (by unfold Func.isWrapper; first | (rw [if_pos (by decide +kernel)]; kernel_rfl) | (rw [if_neg (by decide +kernel)]; exact ⟨rfl, rfl⟩))
    (fun os started H enc _ => lifted himpl os started H enc)

end BreakLaneL
end Go.Proofs.Ytncdoghnfgnafaa
