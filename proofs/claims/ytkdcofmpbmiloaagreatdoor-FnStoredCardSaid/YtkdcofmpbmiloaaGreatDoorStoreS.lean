/-
  Contracts of the model's l2Item, l2Charge, l2All and GoodStore: they answer by plain functions of the fields, for every store whose items lie in memory.
-/
import Derived.Test.YtkdcofmpbmiloaaGreatDoorY1
import Derived.Test.YtkdcofmpbmiloaaGreatDoorRows
import Derived.Deep.RegionWith
namespace Go.Proofs.YtkdcofmpbmiloaaGreatDoor
namespace Store
open Go.RowKit Base GoodKey Items
set_option linter.unusedVariables false

set_option maxHeartbeats 400000 in
theorem l2Item_any (x : Itm) (w : World) (hf : Fits x) :
    Calls Tryz.prog 50 #[.agg #[.string x.key, .int .i64 x.flags, .string x.data, .int .i64 x.upto, .int .i64 x.token]] w fun e w' => e = .returned (.bool (itemB x)) ∧ Below w.heap.size w w' := by
  obtain ⟨hk, hd⟩ := hf
  have HK := hide hk
  unfold maxLen at hk hd
  go_enter Tryz.func50, Tryz.ntmps50
  go_wp2_with (first | (go_at_call 52; refine (GoodKey.spec_any _ _ (unhide HK)).mono ?_; rintro e w1 ⟨rfl, rfl⟩) | (go_at_call 53; refine (Num.number_any _ _).mono ?_; rintro e w1 ⟨rfl, rfl⟩) | (go_at_call 49; refine (l1In_any _ _ _ _).mono ?_; rintro e w1 ⟨rfl, rfl⟩))
  all_goals
    go_ret
    refine ⟨ret_bool ?_, bel1 w _⟩
    first
      | exact item_1 ‹_›
      | exact item_2 ‹_›
      | exact item_3 (by omega)
      | exact item_4 ‹_›
      | exact item_5 ‹_› ‹_› ‹_› ‹_›

set_option maxHeartbeats 400000 in
theorem l2Charge_any (x : Itm) (w : World) (hf : Small x) :
    Calls Tryz.prog 68 #[.agg #[.string x.key, .int .i64 x.flags, .string x.data, .int .i64 x.upto, .int .i64 x.token]] w fun e w' => e = .returned (.int .i64 (charge x)) ∧ Below w.heap.size w w' := by
  obtain ⟨hk, hd⟩ := hf
  go_enter Tryz.func68, Tryz.ntmps68
  go_wp2
  go_ret
  exact ⟨ret_int rfl, bel1 w _⟩

set_option maxHeartbeats 400000 in
theorem l2All_some (lim nx : Int) (b off cap : Nat) (its : List Itm) (w : World) (hb : b < w.heap.size) (hc : ∀ i, i < its.length → At w b (off + i * 5) (its.getD i zero))
    (hl : its.length ≤ 1048576) (hs : ∀ x ∈ its, Small x) :
    Calls Tryz.prog 51 #[.agg #[.int .i64 lim, .int .i64 nx, .slice (some ⟨b, off, none⟩) its.length cap]] w fun e w' => e = .returned (.int .i64 (total its)) ∧ Below w.heap.size w w' := by
  have hcs := hide hc
  have hss := hide hs
  clear hc hs
  go_enter Tryz.func51, Tryz.ntmps51
  go_wp2
  go_loopw [3, 9] (fun t i wr => ∃ (k : Nat) (z : Int), k ≤ its.length ∧ 0 ≤ z ∧ z ≤ 1048576 * 2097162 ∧ i = .int .i64 k ∧ t = .int .i64 z ∧ Hid (z = total (its.take k)) ∧ Hid (Below w.heap.size w wr)) (fun _ i _ => its.length - (intOf i).toNat)
  case atStart => exact ⟨0, 0, Nat.zero_le _, by omega, by omega, rfl, rfl, hide (by simp [total]), hide (bel1 w _)⟩
  case round =>
    obtain ⟨k, z, hk, hz0, hz1, rfl, rfl, ht, hbel⟩ := hrel
    by_cases hlt : k < its.length
    · obtain ⟨c0, c1, c2, c3, c4⟩ := (unhide hcs k hlt).below (unhide hbel) hb
      have hsm := hide (small_getD (unhide hss) k hlt)
      have hst := hide (total_step its k hlt)
      have hbd : total (its.take (k + 1)) ≤ 1048576 * 2097162 := by
        have h1 := total_bd (its.take (k + 1)) (fun x hx => unhide hss x (List.mem_of_mem_take hx))
        have h2 : (its.take (k + 1)).length ≤ 1048576 := by rw [List.length_take]; omega
        have := h1.2
        omega
      generalize its.getD k zero = x at c0 c1 c2 c3 c4 hsm hst
      have hch : 0 ≤ charge x ∧ charge x ≤ 2097162 := by have := unhide hsm; unfold Small at this; unfold charge; omega
      have hcal := fun w => l2Charge_any x w (unhide hsm)
      have hnew : Hid (z + charge x = total (its.take (k + 1))) := by show z + charge x = _; rw [unhide hst, unhide ht]
      have hle : z + charge x ≤ 1048576 * 2097162 := by have := unhide hnew; omega
      clear hbd hst
      generalize charge x = c at hcal hnew hle hch
      have HC := hide hcal
      clear hcal
      have hzb := (unhide hbel).size
      go_wp2_with fail
      refine (unhide HC _).mono ?_
      rintro e w1 ⟨rfl, hb1⟩
      have hb1 := hide (((unhide hbel).alloc hzb _).trans (hb1.mono (by simp; omega)))
      go_wp2
      go_roundw
      case rel => exact ⟨k + 1, z + c, by omega, by omega, by omega, by go_num, rfl, hnew, hb1⟩
      case measure => simp [intOf]; omega
    · have H : Hid (z = total its) := by show z = total its; rw [unhide ht, List.take_of_length_le (by omega)]
      go_wp2
      go_ret
      exact ⟨ret_int (unhide H), unhide hbel⟩

set_option maxHeartbeats 2000000 in
theorem spec_some (lim nx : Int) (b off cap : Nat) (its : List Itm) (w : World) (hb : b < w.heap.size) (hc : ∀ i, i < its.length → At w b (off + i * 5) (its.getD i zero))
    (hl : its.length ≤ maxLen) (hcap : its.length ≤ cap) (hs : ∀ x ∈ its, Fits x) :
    Calls Tryz.prog 20 #[.agg #[.int .i64 lim, .int .i64 nx, .slice (some ⟨b, off, none⟩) its.length cap]] w fun e w' => e = .returned (.bool (gsB lim nx its)) ∧ Below w.heap.size w w' := by
  unfold maxLen at hl
  have hcs := hide hc
  have hss := hide hs
  clear hc hs
  by_cases g1 : inB lim 0 10000 = true
  case neg =>
    have H := hide (gs_1 (nx := nx) (its := its) g1)
    have g1' : inB lim 0 10000 = false := Bool.eq_false_iff.2 g1
    clear g1
    go_enter Tryz.func20, Tryz.ntmps20
    go_wp2_with (go_at_call 49; refine (l1In_any _ _ _ _).mono ?_; rintro e w1 ⟨rfl, rfl⟩)
    go_ret
    exact ⟨ret_bool (unhide H).symm, bel1 w _⟩
  by_cases g2 : inB nx 1 1000000000 = true
  case neg =>
    have H := hide (gs_2 (lim := lim) (its := its) g2)
    have g2' : inB nx 1 1000000000 = false := Bool.eq_false_iff.2 g2
    clear g2
    go_enter Tryz.func20, Tryz.ntmps20
    go_wp2_with (go_at_call 49; refine (l1In_any _ _ _ _).mono ?_; rintro e w1 ⟨rfl, rfl⟩)
    go_ret
    exact ⟨ret_bool (unhide H).symm, bel1 w _⟩
  by_cases g3 : 60 < (its.length : Int)
  · have H := hide (gs_3 (lim := lim) (nx := nx) g3)
    go_enter Tryz.func20, Tryz.ntmps20
    go_wp2_with (go_at_call 49; refine (l1In_any _ _ _ _).mono ?_; rintro e w1 ⟨rfl, rfl⟩)
    go_ret
    exact ⟨ret_bool (unhide H).symm, bel1 w _⟩
  have HG := hide (fun h => @gs_5 lim nx its g1 g2 g3 h)
  go_enter Tryz.func20, Tryz.ntmps20
  go_wp2_with (go_at_call 49; refine (l1In_any _ _ _ _).mono ?_; rintro e w1 ⟨rfl, rfl⟩)
  go_loopw [26] (fun i wr => ∃ (k : Nat), k ≤ its.length ∧ i = .int .i64 k ∧ Hid (goodTo nx its k = true) ∧ Hid (Below (w.heap.size + 1) (w.alloc (.cells #[.int .i64 lim, .int .i64 nx, .slice (some ⟨b, off, none⟩) its.length cap] 25)) wr)) (fun i _ => its.length - (intOf i).toNat)
  case atStart => exact ⟨0, Nat.zero_le _, rfl, hide rfl, hide (Below.refl _ _)⟩
  case round =>
    obtain ⟨k, hk, rfl, hgo, hbel⟩ := hrel
    obtain ⟨wo, rfl⟩ : ∃ wo : World, wo = wr := ⟨_, rfl⟩
    have hB : Hid (Below w.heap.size w wo) := (bel1 w _).trans ((unhide hbel).mono (by omega))
    have hbox := boxcell (unhide hbel)
    have hzw : w.heap.size + 1 ≤ wo.heap.size := by have := (unhide hbel).size; simp at this; omega
    by_cases hlt : k < its.length
    · obtain ⟨c0, c1, c2, c3, c4⟩ := (unhide hcs k hlt).below (unhide hB) hb
      have hfit := hide (fits_getD (unhide hss) k hlt)
      have s1 := hide (@step_1 nx its k)
      have s2 := hide (@step_2 nx its k)
      have s3 := hide (@step_3 nx its k)
      have s4 := hide (@step_4 nx its k)
      have hbad := hide (@gs_4 lim nx its k hlt)
      have hgs := hide (@goodTo_step nx its k (unhide hgo))
      generalize its.getD k zero = x at c0 c1 c2 c3 c4 hfit s1 s2 s3 s4
      cases hi : itemB x
      · have H := hide (unhide hbad (unhide s1 hi))
        have HI := hide hi
        clear hi s1 s2 s3 s4 hbad hgs
        go_wp2_with fail
        refine (l2Item_any x _ (unhide hfit)).mono ?_
        rintro e w1 ⟨rfl, hb1⟩
        rw [unhide HI]
        have hb1 := hide (((unhide hB).alloc (by omega) _).trans (hb1.mono (by simp; omega)))
        go_wp2
        go_ret
        exact ⟨ret_bool (unhide H).symm, unhide hb1⟩
      have HI := hide hi
      clear hi
      go_wp2_with fail
      refine (l2Item_any x _ (unhide hfit)).mono ?_
      rintro e w1 ⟨rfl, hb1⟩
      rw [unhide HI]
      simp only [World.size_alloc] at hb1
      have hB1 := hide ((unhide hbel).alloc (by omega) _ |>.trans (hb1.mono (by omega)))
      have hx1 := boxcell hb1
      have hbx1 := boxcell (unhide hB1)
      have hz1 : wo.heap.size + 1 ≤ w1.heap.size := by have := hb1.size; simp at this; omega
      clear hb1 hbox
      by_cases g4 : nx ≤ x.token
      · have H := hide (unhide hbad (unhide s2 g4))
        clear s1 s2 s3 s4 hbad hgs
        go_wp2
        go_ret
        exact ⟨ret_bool (unhide H).symm, (bel1 w _).trans ((unhide hB1).mono (by omega))⟩
      go_wp2_with fail
      go_loopw [46] (fun i wi => ∃ (j : Nat), j ≤ k ∧ i = .int .i64 j ∧ Hid (freshB x (its.take j) = true) ∧ Hid (Below w1.heap.size w1 wi)) (fun i _ => k - (intOf i).toNat)
      case atStart => exact ⟨0, Nat.zero_le _, rfl, hide (by simp [freshB]), hide (Below.refl _ _)⟩
      case round =>
        obtain ⟨j, hj, rfl, hfr, hbi⟩ := hrel
        have hxi : ∀ o, wr.cell? ⟨wo.heap.size, o, none⟩ = (wo.alloc (.cells #[.string x.key, .int .i64 x.flags, .string x.data, .int .i64 x.upto, .int .i64 x.token] 37)).cell? ⟨wo.heap.size, o, none⟩ := fun o => ((unhide hbi).cell (p := ⟨wo.heap.size, o, none⟩) (by simp; omega)).trans (hx1 o)
        have hBi := hide ((unhide hB1).trans ((unhide hbi).mono (by omega)))
        have hzi : wo.heap.size < wr.heap.size := by have := (unhide hbi).size; omega
        by_cases hjk : j < k
        · have hjl : j < its.length := by omega
          obtain ⟨d0, d1, d2, d3, d4⟩ := (unhide hcs j hjl).below (((bel1 w _).trans ((unhide hBi).mono (by omega)))) hb
          have hf1 := hide (@fresh_step x its j hjl (unhide hfr))
          have hf2 := hide (@fresh_bad x its j k hjk hk)
          generalize its.getD j zero = o at d0 d1 d2 d3 d4 hf1 hf2
          cases e1 : (o.key.toList == x.key.toList)
          · cases e2 : (o.token == x.token)
            · have H := hide (unhide hf1 (by simp [clash, e1, e2]))
              clear hf1 hf2 s1 s2 s3 s4 hbad hgs hx1 hbx1
              go_wp2
              go_roundw
              case rel => exact ⟨j + 1, by omega, by go_num, H, hide ((unhide hbi).alloc (unhide hbi).size _)⟩
              case measure => simp [intOf]; omega
            · have H := hide (unhide hbad (unhide s3 (unhide hf2 (by simp [clash, e1, e2]))))
              clear hf1 hf2 s1 s2 s3 s4 hbad hgs hx1 hbx1
              go_wp2
              go_ret
              exact ⟨ret_bool (unhide H).symm, ((bel1 w _).trans ((unhide hBi).mono (by omega))).alloc (by omega) _⟩
          · have H := hide (unhide hbad (unhide s3 (unhide hf2 (by simp [clash, e1]))))
            clear hf1 hf2 s1 s2 s3 s4 hbad hgs hx1 hbx1
            go_wp2
            go_ret
            exact ⟨ret_bool (unhide H).symm, ((bel1 w _).trans ((unhide hBi).mono (by omega))).alloc (by omega) _⟩
        · obtain rfl : j = k := by omega
          have H := hide (unhide hgs (unhide s4 (unhide HI) g4 (unhide hfr)))
          clear s1 s2 s3 s4 hbad hgs hx1 hbx1
          go_wp2
          go_roundw
          case rel => exact ⟨j + 1, by omega, by go_num, H, hBi⟩
          case measure => simp [intOf]; omega
    · obtain rfl : k = its.length := by omega
      have H := hide (unhide HG (unhide hgo))
      have hsm := hide (good_small (unhide hgo))
      have HA := hide (l2All_some lim nx b off cap its wo.drew (show b < wo.heap.size by omega) (fun i hi => (unhide hcs i hi).below (unhide hB).drew hb) (by omega) (unhide hsm))
      go_wp2
      go_region_with (go_at_call 51; refine (unhide HA).mono ?_; rintro e w1 ⟨rfl, hb1⟩; have hx1 := fun o => hb1.cell (p := ⟨w.heap.size, o, none⟩) (by simp; omega); have hb1 := hide hb1)
      all_goals
        go_wp2
        go_ret
        exact ⟨ret_bool (unhide H), (unhide hB).drew.trans ((unhide hb1).mono (unhide hB).size)⟩
end Store
end Go.Proofs.YtkdcofmpbmiloaaGreatDoor
