/-
  FnExactDropOld returns true for every store and time, given the contract of the program's DropOld.
-/
import Derived.Test.YthlcmnjaimffdaaItems
import Derived.Test.YthlcmnjaimffdaaStoreD
import Derived.Test.YthlcmnjaimffdaaMarkItems
import Derived.Test.YthlcmnjaimffdaaOpenItems
import Derived.OpenShut
import Derived.ChangeOld
import Derived.Deep.RegionWith
import Derived.Deep.DeepCutAuto
namespace Go.Proofs.Ythlcmnjaimffdaa
namespace DropOldL
open Go.ChangeShapes Go.WideShapes Go.ChangeAt Go.RowKit Base Items Store Marks
set_option linter.unusedVariables false

/-- Three cells of a block. -/
def Box3 (W : World) (b : Nat) (v0 v1 v2 : Value) : Prop := W.cell? ⟨b, 0, none⟩ = some v0 ∧ W.cell? ⟨b, 1, none⟩ = some v1 ∧ W.cell? ⟨b, 2, none⟩ = some v2
theorem Box3.below {W W' : World} {b B : Nat} {v0 v1 v2 : Value} (h : Box3 W b v0 v1 v2) (hb : Below B W W') (hB : b < B) : Box3 W' b v0 v1 v2 := by
  refine ⟨?_, ?_, ?_⟩
  · rw [hb.cell (p := ⟨b, 0, none⟩) hB]; exact h.1
  · rw [hb.cell (p := ⟨b, 1, none⟩) hB]; exact h.2.1
  · rw [hb.cell (p := ⟨b, 2, none⟩) hB]; exact h.2.2
theorem Box3.gb {W W' : World} {b : Nat} {v0 v1 v2 : Value} {r : Option Nat} (h : Box3 W b v0 v1 v2) (hg : W.grownBy W' r) (hb : b < W.heap.size) (hne : some b ≠ r) : Box3 W' b v0 v1 v2 := by
  have e := hg.block b hb hne
  refine ⟨?_, ?_, ?_⟩
  · rw [World.cell?_of_block (w := W) (a := ⟨b, 0, none⟩) e]; exact h.1
  · rw [World.cell?_of_block (w := W) (a := ⟨b, 1, none⟩) e]; exact h.2.1
  · rw [World.cell?_of_block (w := W) (a := ⟨b, 2, none⟩) e]; exact h.2.2
theorem box3 (w : World) (t : TypeId) (v0 v1 v2 : Value) : Box3 (w.alloc (.cells #[v0, v1, v2] t)) w.heap.size v0 v1 v2 := by
  refine ⟨?_, ?_, ?_⟩
  · rw [World.cell?_alloc_new]; rfl
  · rw [World.cell?_alloc_new]; rfl
  · rw [World.cell?_alloc_new]; rfl

/-- What the program's DropOld must be shown to do. -/
def Impl : Prop := ∀ (lim nx : Int) (b off cap : Nat) (its : List Itm) (now : Int) (w : World), b < w.heap.size → (∀ i, i < its.length → At w b (off + i * 5) (its.getD i zero)) →
  its.length ≤ 1048576 → its.length ≤ cap → (∀ x ∈ its, Fits x) → (Lit.int .i64 now).wf = true →
  Calls Try.prog 15 #[.agg #[.int .i64 lim, .int .i64 nx, .slice (some ⟨b, off, none⟩) its.length cap], .int .i64 now] w (DropEnd (dropR lim nx its now) w)

set_option maxRecDepth 100000 in
set_option maxHeartbeats 4000000 in
theorem walk (himpl : Impl) (lim nx : Int) (a : Option Addr) (cap : Nat) (its : List Itm) (now : Int) (w : World) (hc : ItemsAt w a its) (hcap : its.length ≤ cap) (hl : its.length ≤ maxLen) (hs : ∀ x ∈ its, Fits x) (hnow : (Lit.int .i64 now).wf = true) :
    Calls Try.prog 5 #[.agg #[.int .i64 lim, .int .i64 nx, .slice a its.length cap], .int .i64 now] w fun e w' => e = .returned (.bool true) ∧ Below w.heap.size w w' := by
  have HC := hide hc
  have HS := hide hs
  have HN := hide hnow
  have hzl := @szIs_len its 1048576
  have hsz := fun w' (h : ItemsAt w' a its) => szStore_any lim nx a cap its 1048576 w' h hl hs (by omega) (by omega)
  generalize szIs its 1048576 = z at hzl hsz
  have HSZ := hide hsz
  clear hc hs hsz hnow
  by_cases hz : z < 0
  · clear hzl
    go_enter Try.func5, Try.ntmps5
    go_wp2_with fail
    refine (unhide HSZ _ ((unhide HC).below (bel1 w _) (Nat.le_refl _))).mono ?_
    rintro e w2 ⟨rfl, hb2⟩
    have hB2 := hide ((bel1 w _).trans (hb2.mono (by simp)))
    clear hb2
    go_wp2
    go_ret
    exact ⟨rfl, unhide hB2⟩
  have hlen : its.length ≤ 1048576 := by have := hzl hz; omega
  clear hzl
  have hsp := fun b w hb hc => dropOld_some lim nx b 0 its.length its now w hb hc hlen (Nat.le_refl _) (unhide HS)
  have him := fun b w hb hc => himpl lim nx b 0 its.length its now w hb hc hlen (Nat.le_refl _) (unhide HS) (unhide HN)
  have hdl := dropR_len lim nx its now
  generalize dropR lim nx its now = T at hsp him hdl
  obtain ⟨tl, tn, ti, tm, tok⟩ := T
  dsimp only at hdl
  have HSP := hide hsp
  have HIM := hide him
  clear hsp him
  have hti : ti.length ≤ 1048576 := by omega
  have hok : (tok != tok) = false := by cases tok <;> rfl
  go_enter Try.func5, Try.ntmps5
  go_wp2_with fail
  refine (unhide HSZ _ ((unhide HC).below (bel1 w _) (Nat.le_refl _))).mono ?_
  rintro e w2 ⟨rfl, hb2⟩
  simp only [World.size_alloc] at hb2
  have hA2 := hide ((box3 w _ _ _ _).below hb2 (Nat.lt_succ_self _))
  have B2 := hide ((bel1 w _).trans (hb2.mono (by omega)))
  have z2 : w.heap.size < w2.heap.size := by have := hb2.size; simp at this; omega
  clear hb2
  -- the model
  obtain ⟨x0, x1, x2⟩ := unhide hA2
  go_wp2_with fail
  refine (toStore_any lim nx a cap its _ ((unhide HC).below (unhide B2) (Nat.le_refl _)) hlen).mono ?_
  rintro e w3 ⟨b3, rfl, hb3, hrow3, hbel3⟩
  have hrow3 := hide hrow3
  have hA3 := hide ((unhide hA2).below hbel3 z2)
  have B3 := hide ((unhide B2).trans (hbel3.mono (by omega)))
  have z3 : w.heap.size < w3.heap.size := by have := hbel3.size; omega
  clear hbel3 x0 x1 x2
  go_wp2_with fail
  refine (unhide HSP b3 _ (unhide hrow3).lt (at_row (unhide hrow3))).mono ?_
  rintro e w4 ⟨a4, c4, r4, rfl, ho4, hr4, hb4⟩
  have O4 := hide ho4
  have L4 := hide ho4.lt
  have hA4 := hide ((unhide hA3).below hb4 z3)
  have B4 := hide ((unhide B3).trans (hb4.mono (by omega)))
  have z4 : w.heap.size < w4.heap.size := by have := hb4.size; omega
  clear hb4 ho4 hr4
  obtain ⟨x0, x1, x2⟩ := unhide hA4
  go_wp2_with fail
  refine (toStore_any lim nx a cap its _ ((unhide HC).below ((unhide B4).alloc (by omega) _) (Nat.le_refl _)) hlen).mono ?_
  rintro e w5 ⟨b5, rfl, hb5, hrow5, hbel5⟩
  simp only [World.size_alloc] at hb5 hbel5
  have hrow5 := hide hrow5
  have O5 := hide (((unhide O4).below (bel1 w4 _) (Nat.le_refl _)).below hbel5 (by simp))
  have hA5 := hide (((unhide hA4).below (bel1 w4 _) z4).below hbel5 (by omega))
  have hW5 := hide ((box3 w4 _ _ _ _).below hbel5 (Nat.lt_succ_self _))
  have B5 := hide (((unhide B4).alloc (by omega) _).trans (hbel5.mono (by omega)))
  have z5 : w4.heap.size + 1 ≤ w5.heap.size := by have := hbel5.size; simp at this; omega
  have y5 : b5 < w5.heap.size := (unhide hrow5).lt
  clear hbel5 x0 x1 x2
  go_wp2_with fail
  refine (unhide HIM b5 _ (by simp; omega) (at_row ((unhide hrow5).alloc _))).mono ?_
  rintro e w6 ⟨a6, c6, r6, rfl, ho6, hr6, hb6⟩
  simp only [World.size_alloc] at hb6 hr6
  have O6 := hide ho6
  have P6 := hide (((unhide O5).below (bel1 w5 _) (Nat.le_refl _)).below hb6 (by simp))
  have hrow6 := hide (((unhide hrow5).alloc _).of_block (hb6.block b5 (by omega)))
  have hA6 := hide (((unhide hA5).below (bel1 w5 _) (by omega)).below hb6 (by omega))
  have hW6 := hide (((unhide hW5).below (bel1 w5 _) (by omega)).below hb6 (by omega))
  have hX6 := hide ((box3 w5 _ _ _ _).below hb6 (Nat.lt_succ_self _))
  have B6 := hide (((unhide B5).alloc (by omega) _).trans (hb6.mono (by omega)))
  have z6 : w5.heap.size + 1 ≤ w6.heap.size := by have := hb6.size; simp at this; omega
  have R6 := hide hr6
  have L6 := hide ho6.lt
  clear hb6 ho6 hr6
  obtain ⟨x0, x1, x2⟩ := unhide hW6
  have y6 : w4.heap.size < w6.heap.size := by omega
  go_wp2_with fail
  clear x0 x1 x2
  -- the boxes, in the world behind the fourth: one name for it
  generalize hS0 : w6.alloc (.cells #[.int .i64 tl, .int .i64 tn, .slice a6 ti.length c6] 29) = S
  have hS : S = w6.alloc (.cells #[.int .i64 tl, .int .i64 tn, .slice a6 ti.length c6] 29) := hS0.symm
  clear hS0
  have zS : w6.heap.size < S.heap.size := by rw [hS]; simp
  have OS : Hid (Ours S a6 ti.length (icell ti) r6) := by rw [hS]; exact (unhide O6).below (bel1 w6 _) (Nat.le_refl _)
  have PS : Hid (Ours S a4 ti.length (icell ti) r4) := by rw [hS]; exact (unhide P6).below (bel1 w6 _) (Nat.le_refl _)
  have rowS : Hid (S.rowIs b5 40 (its.length * 5) (icell its)) := by rw [hS]; exact (unhide hrow6).alloc _
  have hAS : Hid (Box3 S w.heap.size (.int .i64 lim) (.int .i64 nx) (.slice a its.length cap)) := by rw [hS]; exact (unhide hA6).below (bel1 w6 _) (by omega)
  have hWS : Hid (Box3 S w4.heap.size (.int .i64 tl) (.int .i64 tn) (.slice a4 ti.length c4)) := by rw [hS]; exact (unhide hW6).below (bel1 w6 _) (by omega)
  have hXS : Hid (Box3 S w5.heap.size (.int .i64 lim) (.int .i64 nx) (.slice (some ⟨b5, 0, none⟩) its.length its.length)) := by rw [hS]; exact (unhide hX6).below (bel1 w6 _) (by omega)
  have hGS : Hid (Box3 S w6.heap.size (.int .i64 tl) (.int .i64 tn) (.slice a6 ti.length c6)) := by rw [hS]; exact box3 w6 _ _ _ _
  have BS : Hid (Below w.heap.size w S) := by rw [hS]; exact (unhide B6).alloc (by omega) _
  clear hS O6 P6 hrow6 hA6 hW6 hX6 B6 O5 hA5 hW5 B5 O4 hA4 B4 hA3 B3 hA2 B2 hrow3 hrow5
  refine (eqStore_same tl tn a6 a4 c6 c4 ti _ (unhide OS).at (unhide PS).at (by unfold maxLen; omega)).mono ?_
  rintro e w7 ⟨rfl, hb7⟩
  have B7 := hide hb7
  clear hb7
  go_upto_region 10 with fail
  go_cut [59] (fun s59 wx => s59 = .bool false ∧ Hid (Below S.heap.size S wx))
  case first =>
    obtain ⟨x0, x1, x2⟩ := (unhide hAS).below (unhide B7) (by omega)
    obtain ⟨y0, y1, y2⟩ := (unhide hXS).below (unhide B7) (by omega)
    have z7 : S.heap.size ≤ w7.heap.size := (unhide B7).size
    have HS0 : Hid (ItemsAt w7.drew a its) := (unhide HC).below ((unhide BS).trans ((unhide B7).mono (unhide BS).size)).drew (Nat.le_refl _)
    have HS6 : Hid (ItemsAt w7.drew (some ⟨b5, 0, none⟩) its) := ItemsAt.row ((unhide rowS).of_block ((unhide B7).block b5 (by omega))).drew
    go_region_with (first | (go_at_call 9; refine (toStore_any lim nx a cap its _ (unhide HS0) hlen).mono ?_; rintro e w8 ⟨b8, rfl, hb8, hrow8, hbel8⟩; have hX8 := fun o => hbel8.cell (p := ⟨w5.heap.size, o, none⟩) (by simp; omega); have hrow8 := hide hrow8; have hbel8 := hide hbel8) | (go_at_call 11; refine (eqStore_same lim nx (some ⟨b5, 0, none⟩) (some ⟨b8, 0, none⟩) its.length its.length its _ ((unhide HS6).below (unhide hbel8) (Nat.le_refl _)) (ItemsAt.row (unhide hrow8)) hl).mono ?_; rintro e w9 ⟨rfl, hbel9⟩; have hbel9 := hide hbel9))
    all_goals
      go_wp2_with fail
      go_meet
      exact ⟨rfl, hide (((unhide B7).drew.trans ((unhide hbel8).mono z7)).trans ((unhide hbel9).mono (Nat.le_trans z7 (unhide hbel8).size)))⟩
  case rest =>
  obtain ⟨rfl, BC⟩ := hcut
  clear B7
  have zC : S.heap.size ≤ wc.heap.size := (unhide BC).size
  have OC := hide ((unhide OS).below (unhide BC) (Nat.le_refl _))
  have PC := hide ((unhide PS).below (unhide BC) (Nat.le_refl _))
  have XC := hide (Ours.row ((unhide rowS).of_block ((unhide BC).block b5 (by omega))))
  have hAC := hide ((unhide hAS).below (unhide BC) (by omega))
  have hWC := hide ((unhide hWS).below (unhide BC) (by omega))
  have hXC := hide ((unhide hXS).below (unhide BC) (by omega))
  have hGC := hide ((unhide hGS).below (unhide BC) (by omega))
  have BwC := hide ((unhide BS).trans ((unhide BC).mono (unhide BS).size))
  clear OS PS rowS hAS hWS hXS hGS BS BC
  obtain ⟨x0, x1, x2⟩ := unhide hXC
  go_wp2_with fail
  refine (store_mark lim nx (some ⟨b5, 0, none⟩) its.length its.length (icell its) (some b5) 1 _ (unhide XC) (by omega) (by omega) (by omega)).mono ?_
  rintro e w9 ⟨rfl, _, hg9⟩
  have O9 := hide ((unhide OC).gb hg9 (fun g h e => by have h6 := unhide R6 g h; simp at e; omega))
  have P9 := hide ((unhide PC).gb hg9 (fun g h e => by have h4 := unhide L4 g h; simp at e; omega))
  have hA9 := hide ((unhide hAC).gb hg9 (by omega) (by simp; omega))
  have hW9 := hide ((unhide hWC).gb hg9 (by omega) (by simp; omega))
  have hG9 := hide ((unhide hGC).gb hg9 (by omega) (by simp; omega))
  have B9 := hide (below_gb (unhide BwC) hg9 (by omega) (by omega))
  have z9 : wc.heap.size ≤ w9.heap.size := hg9.size
  clear hg9 OC PC XC hAC hWC hXC hGC BwC x0 x1 x2
  have hk1 : ¬ 1 + (its.length : Int) * 5 < 0 := by omega
  obtain ⟨x0, x1, x2⟩ := unhide hW9
  obtain ⟨y0, y1, y2⟩ := unhide hG9
  go_wp2_with fail
  refine (eqStore_same tl tn a6 a4 c6 c4 ti _ (unhide O9).at (unhide P9).at (by unfold maxLen; omega)).mono ?_
  rintro e w10 ⟨rfl, hb10⟩
  have O10 := hide ((unhide O9).below hb10 (Nat.le_refl _))
  have P10 := hide ((unhide P9).below hb10 (Nat.le_refl _))
  have hA10 := hide ((unhide hA9).below hb10 (by omega))
  have hW10 := hide ((unhide hW9).below hb10 (by omega))
  have hG10 := hide ((unhide hG9).below hb10 (by omega))
  have B10 := hide ((unhide B9).trans (hb10.mono (unhide B9).size))
  have z10 : w9.heap.size ≤ w10.heap.size := hb10.size
  clear hb10 O9 P9 hA9 hW9 hG9 B9 x0 x1 x2 y0 y1 y2
  obtain ⟨y0, y1, y2⟩ := unhide hG10
  go_wp2_with fail
  refine (store_mark tl tn a6 c6 ti.length (icell ti) r6 1 _ (unhide O10) (by omega) (by omega) (by omega)).mono ?_
  rintro e w11 ⟨rfl, hm11, hg11⟩
  have hne : ∀ g, some g = r6 → w5.heap.size + 1 ≤ g ∧ g < w6.heap.size := fun g e => ⟨unhide R6 g e.symm, unhide L6 g e.symm⟩
  have M11 := hide hm11
  have P11 := hide ((unhide P10).gb hg11 (fun g h e => by have h4 := unhide L4 g h; have h6 := hne g e; omega))
  have hA11 := hide ((unhide hA10).gb hg11 (by omega) (fun e => by have h6 := hne _ e; omega))
  have hW11 := hide ((unhide hW10).gb hg11 (by omega) (fun e => by have h6 := hne _ e; omega))
  have hG11 := hide ((unhide hG10).gb hg11 (by omega) (fun e => by have h6 := hne _ e; omega))
  have B11 := hide ((unhide B10).grown hg11 (unhide B10).size (fun k e => by have h6 := hne k e.symm; omega))
  have z11 : w10.heap.size ≤ w11.heap.size := hg11.size
  clear hm11 hg11 O10 P10 hA10 hW10 hG10 B10 y0 y1 y2 hne
  have hk2 : ¬ 1 + (ti.length : Int) * 5 < 0 := by omega
  obtain ⟨y0, y1, y2⟩ := unhide hG11
  go_wp2_with fail
  refine (store_held tl tn a6 c6 ti.length r6 1 _ (unhide M11) (by omega) (by omega) (by omega)).mono ?_
  rintro e w12 ⟨rfl, hb12⟩
  have M12 := hide ((unhide M11).below hb12 (Nat.le_refl _))
  have P12 := hide ((unhide P11).below hb12 (Nat.le_refl _))
  have hA12 := hide ((unhide hA11).below hb12 (by omega))
  have hW12 := hide ((unhide hW11).below hb12 (by omega))
  have hG12 := hide ((unhide hG11).below hb12 (by omega))
  have B12 := hide ((unhide B11).trans (hb12.mono (unhide B11).size))
  have z12 : w11.heap.size ≤ w12.heap.size := hb12.size
  clear hb12 M11 P11 hA11 hW11 hG11 B11 y0 y1 y2
  obtain ⟨x0, x1, x2⟩ := unhide hA12
  go_wp2_with fail
  refine (toStore_any lim nx a cap its _ ((unhide HC).below (unhide B12) (Nat.le_refl _)) hlen).mono ?_
  rintro e w13 ⟨b13, rfl, hb13, hrow13, hbel13⟩
  have hrow13 := hide hrow13
  have M13 := hide ((unhide M12).below hbel13 (Nat.le_refl _))
  have P13 := hide ((unhide P12).below hbel13 (Nat.le_refl _))
  have hW13 := hide ((unhide hW12).below hbel13 (by omega))
  have hG13 := hide ((unhide hG12).below hbel13 (by omega))
  have B13 := hide ((unhide B12).trans (hbel13.mono (unhide B12).size))
  have z13 : w12.heap.size ≤ w13.heap.size := hbel13.size
  clear hbel13 M12 P12 hA12 hW12 hG12 B12 x0 x1 x2
  go_wp2_with fail
  refine (unhide HIM b13 _ (unhide hrow13).lt (at_row (unhide hrow13))).mono ?_
  rintro e w14 ⟨a14, c14, r14, rfl, ho14, hr14, hb14⟩
  have O14 := hide ho14
  have M14 := hide ((unhide M13).below hb14 (Nat.le_refl _))
  have P14 := hide ((unhide P13).below hb14 (Nat.le_refl _))
  have hW14 := hide ((unhide hW13).below hb14 (by omega))
  have hG14 := hide ((unhide hG13).below hb14 (by omega))
  have B14 := hide ((unhide B13).trans (hb14.mono (unhide B13).size))
  have z14 : w4.heap.size < w14.heap.size := by have := hb14.size; omega
  have y14 : w6.heap.size < w14.heap.size := by have := hb14.size; omega
  clear hb14 ho14 hr14 M13 P13 hW13 hG13 B13 hrow13
  obtain ⟨x0, x1, x2⟩ := unhide hW14
  obtain ⟨y0, y1, y2⟩ := unhide hG14
  go_wp2_with fail
  refine (eqStore_same tl tn a14 a4 c14 c4 ti _ ((unhide O14).below (bel1 w14 _) (Nat.le_refl _)).at ((unhide P14).below (bel1 w14 _) (Nat.le_refl _)).at (by unfold maxLen; omega)).mono ?_
  rintro e w15 ⟨rfl, hb15⟩
  simp only [World.size_alloc] at hb15
  have M15 := hide (((unhide M14).below (bel1 w14 _) (Nat.le_refl _)).below hb15 (by simp))
  have hG15 := hide (((unhide hG14).below (bel1 w14 _) (by omega)).below hb15 (by omega))
  have B15 := hide (((unhide B14).alloc (unhide B14).size _).trans (hb15.mono (by have := (unhide B14).size; omega)))
  clear hb15 M14 P14 hW14 hG14 B14 O14 x0 x1 x2 y0 y1 y2
  obtain ⟨y0, y1, y2⟩ := unhide hG15
  go_wp2_with fail
  refine (store_held tl tn a6 c6 ti.length r6 1 _ (unhide M15) (by omega) (by omega) (by omega)).mono ?_
  rintro e w16 ⟨rfl, hb16⟩
  have B16 := hide ((unhide B15).trans (hb16.mono (unhide B15).size))
  clear hb16 M15 hG15 B15 y0 y1 y2
  go_wp2
  go_ret
  exact ⟨rfl, unhide B16⟩

theorem own : ownKnob Try.prog.godebug = none := by kernel_rfl
theorem laidOut : laidOutB Try.prog = true := by kernel_rfl

set_option maxRecDepth 100000 in
theorem lifted (himpl : Impl) (os : Os) (started : os.Started) (H : Type) (enc : TypeId × Value → H) :
    ReturnsInHanded {} Try.checked os 5 .any (Rows.fnExactDropOldSpec.pre6 enc Try.prog Try.f5 Rows.fnExactDropOldRow.domain false) (Rows.fnExactDropOldSpec.post enc Try.prog Try.f5 false true false false) := by
  refine returnsInHanded_of_change (C := Try.checked) own started (by kernel_rfl) Try.func5
    (ChangeSpec.witness6 (enc := enc) (C := Try.checked) false ⟨#[], #[.agg #[.int .i64 0, .int .i64 0, .slice none 0 0], .int .i64 0], []⟩ 8 (by kernel_rfl) (by kernel_rfl) (by kernel_rfl) (by kernel_rfl)) ?_
  intro W base args ds gs before hval0 hW hcnd _
  have hval : ∀ (j : Nat) t v, Try.f5.params[j]? = some t → args[j]? = some v → Value.okWide Try.prog W .any base t v := hval0
  have hW' := hW
  obtain ⟨p, q, hA0, hV, rfl, hfz, hnd⟩ := hW
  have hA : DataW.TrodAll enc Try.prog W 0 (fun _ => true) true Try.f5.params.toList args.toList ds p := hA0
  rw [Try.params5] at hA hval
  obtain ⟨v0, vs0, d0, ds0, p0, q0, hargs, rfl, rfl, h0, r0⟩ := trodAll_cons hA
  obtain ⟨v1, vs1, d1, ds1, p1, q1, rfl, rfl, rfl, h1, r1⟩ := trodAll_cons r0
  obtain ⟨rfl, rfl, rfl⟩ := trodAll_nil r1
  obtain rfl : args = #[v0, v1] := by cases args; simp_all
  obtain ⟨rfl, rfl⟩ := trodVars_none hV
  have k0 := h0
  have lt0 : ∀ x ∈ p0, x.block < W.heap.size := by obtain ⟨m, hm⟩ := k0; exact DataW.trod_lt m _ _ _ hm
  obtain ⟨cs0, rfl, sz0⟩ := okWide_struct Try.underlying24 (hval 0 24 v0 rfl rfl)
  obtain ⟨ca0, cb0, cc0, rfl⟩ := Open.array3 (sz0.trans (show Try.prog.cellsOf 24 = 3 by kernel_rfl))
  obtain ⟨_, _, g0a⟩ := Open.field_at Try.underlying24 (by kernel_rfl) h0 0 _ rfl _ rfl
  obtain ⟨_, _, g0b⟩ := Open.field_at Try.underlying24 (by kernel_rfl) h0 1 _ rfl _ rfl
  obtain ⟨_, _, g0c⟩ := Open.field_at Try.underlying24 (by kernel_rfl) h0 2 _ rfl _ rfl
  obtain ⟨lim0, e0a, _, _⟩ := DataW.trod_int Try.underlying3 g0a
  obtain ⟨nx0, e0b, _, _⟩ := DataW.trod_int Try.underlying3 g0b
  obtain ⟨P0, C0, L0, e0c, f0, u0, i0, t0⟩ := Open.items_of Try.underlying22 Try.underlying75 (by kernel_rfl) (by kernel_rfl) Try.underlying9 Try.underlying3 Try.underlying9 Try.underlying3 Try.underlying3 g0c
  simp only [List.cons.injEq, and_true] at e0a e0b
  subst e0a e0b e0c
  have k1 := h1
  have lt1 : ∀ x ∈ p1, x.block < W.heap.size := by obtain ⟨m, hm⟩ := k1; exact DataW.trod_lt m _ _ _ hm
  obtain ⟨a1, rfl, rfl, rfl, w1⟩ := open_int Try.underlying3 (hval 1 3 v1 rfl rfl) h1
  clear hA0 hval0
  refine (walk himpl lim0 nx0 P0 C0 L0 a1 W f0 u0 i0 t0 w1).mono fun e W' ⟨he, bel⟩ => ?_
  subst he
  exact ⟨_, rfl, _, _, _, [], _, [], hW', trodAll_mk1 (shut_bool Try.underlying4 _), (trodAll_cons_mk (Below.trod laidOut (by kernel_rfl) (of_decide_eq_true (by kernel_rfl)) k0 bel lt0) (trodAll_cons_mk (Below.trod laidOut (by kernel_rfl) (of_decide_eq_true (by kernel_rfl)) k1 bel lt1) trodAll_mk0)), rfl, bel.frame _, fun h => by cases h⟩

theorem over (himpl : Impl) : Rows.fnExactDropOldRow.holds Try.pinned (OpenSpec.ofChange Rows.fnExactDropOldSpec) :=
  OpenClaim.holds_of_wide 5 Try.f5 rfl rfl rfl rfl rfl rfl rfl ⟨rfl, rfl, rfl, rfl, rfl⟩ rfl rfl rfl rfl rfl (by kernel_rfl) Try.func5 (by kernel_rfl)
    (of_decide_eq_true (by kernel_rfl)) (by unfold Func.isWrapper; first | (rw [if_pos (by decide +kernel)]; kernel_rfl) | (rw [if_neg (by decide +kernel)]; exact ⟨rfl, rfl⟩))
    (fun os started H enc _ => lifted himpl os started H enc)
end DropOldL
end Go.Proofs.Ythlcmnjaimffdaa
