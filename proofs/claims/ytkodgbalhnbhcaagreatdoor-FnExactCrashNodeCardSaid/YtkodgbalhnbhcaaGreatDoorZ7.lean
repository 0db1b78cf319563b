/-
  Contracts of the model's l2Item, l2Charge, l2All and GoodStore: they answer by plain functions of the fields, for every store whose items lie in memory.
-/
import Derived.Test.YtkodgbalhnbhcaaGreatDoorZ6
import Derived.Test.YtkodgbalhnbhcaaGreatDoorRows
import Derived.Deep.RegionWith
import Derived.Test.YtkodgbalhnbhcaaGreatDoorZ5
import Derived.Laws.AppendOwn
namespace Go.Proofs.YtkodgbalhnbhcaaGreatDoor
namespace Store
open Go.RowKit Base GoodKey Items
set_option linter.unusedVariables false

set_option maxHeartbeats 400000 in
theorem l2Item_any (x : Itm) (w : World) (hf : Fits x) :
    Calls Tryz.prog 95 #[.agg #[.string x.key, .int .i64 x.flags, .string x.data, .int .i64 x.upto, .int .i64 x.token]] w fun e w' => e = .returned (.bool (itemB x)) ∧ Below w.heap.size w w' := by
  obtain ⟨hk, hd⟩ := hf
  have HK := hide hk
  unfold maxLen at hk hd
  go_enter Tryz.func95, Tryz.ntmps95
  go_wp2_with (first | (go_at_call 67; refine (GoodKey.spec_any _ _ (unhide HK)).mono ?_; rintro e w1 ⟨rfl, rfl⟩) | (go_at_call 130; refine (Num.number_any _ _).mono ?_; rintro e w1 ⟨rfl, rfl⟩) | (go_at_call 55; refine (l1In_any _ _ _ _).mono ?_; rintro e w1 ⟨rfl, rfl⟩))
  all_goals
    go_ret
    refine ⟨ret_bool ?_, bel1 w _⟩
    first
      | exact item_1 ‹_›
      | exact item_2 ‹_›
      | exact item_3 (by omega)
      | exact item_4 ‹_›
      | exact item_5 ‹_› ‹_› ‹_› ‹_›

set_option maxHeartbeats 400000 in
theorem l2Charge_any (x : Itm) (w : World) (hf : Small x) :
    Calls Tryz.prog 131 #[.agg #[.string x.key, .int .i64 x.flags, .string x.data, .int .i64 x.upto, .int .i64 x.token]] w fun e w' => e = .returned (.int .i64 (charge x)) ∧ Below w.heap.size w w' := by
  obtain ⟨hk, hd⟩ := hf
  go_enter Tryz.func131, Tryz.ntmps131
  go_wp2
  go_ret
  exact ⟨ret_int rfl, bel1 w _⟩

set_option maxHeartbeats 400000 in
theorem l2All_some (lim nx : Int) (b off cap : Nat) (its : List Itm) (w : World) (hb : b < w.heap.size) (hc : ∀ i, i < its.length → At w b (off + i * 5) (its.getD i zero))
    (hl : its.length ≤ 1048576) (hs : ∀ x ∈ its, Small x) :
    Calls Tryz.prog 96 #[.agg #[.int .i64 lim, .int .i64 nx, .slice (some ⟨b, off, none⟩) its.length cap]] w fun e w' => e = .returned (.int .i64 (total its)) ∧ Below w.heap.size w w' := by
  have hcs := hide hc
  have hss := hide hs
  clear hc hs
  go_enter Tryz.func96, Tryz.ntmps96
  go_wp2
  go_loopw [3, 9] (fun t i wr => ∃ (k : Nat) (z : Int), k ≤ its.length ∧ 0 ≤ z ∧ z ≤ 1048576 * 2097162 ∧ i = .int .i64 k ∧ t = .int .i64 z ∧ Hid (z = total (its.take k)) ∧ Hid (Below w.heap.size w wr)) (fun _ i _ => its.length - (intOf i).toNat)
  case atStart => exact ⟨0, 0, Nat.zero_le _, by omega, by omega, rfl, rfl, hide (by simp [total]), hide (bel1 w _)⟩
  case round =>
    obtain ⟨k, z, hk, hz0, hz1, rfl, rfl, ht, hbel⟩ := hrel
    by_cases hlt : k < its.length
    · obtain ⟨c0, c1, c2, c3, c4⟩ := (unhide hcs k hlt).below (unhide hbel) hb
      have hsm := hide (small_getD (unhide hss) k hlt)
      have hst := hide (total_step its k hlt)
      have hbd : total (its.take (k + 1)) ≤ 1048576 * 2097162 := by
        have h1 := total_bd (its.take (k + 1)) (fun x hx => unhide hss x (List.mem_of_mem_take hx))
        have h2 : (its.take (k + 1)).length ≤ 1048576 := by rw [List.length_take]; omega
        have := h1.2
        omega
      generalize its.getD k zero = x at c0 c1 c2 c3 c4 hsm hst
      have hch : 0 ≤ charge x ∧ charge x ≤ 2097162 := by have := unhide hsm; unfold Small at this; unfold charge; omega
      have hcal := fun w => l2Charge_any x w (unhide hsm)
      have hnew : Hid (z + charge x = total (its.take (k + 1))) := by show z + charge x = _; rw [unhide hst, unhide ht]
      have hle : z + charge x ≤ 1048576 * 2097162 := by have := unhide hnew; omega
      clear hbd hst
      generalize charge x = c at hcal hnew hle hch
      have HC := hide hcal
      clear hcal
      have hzb := (unhide hbel).size
      go_wp2_with fail
      refine (unhide HC _).mono ?_
      rintro e w1 ⟨rfl, hb1⟩
      have hb1 := hide (((unhide hbel).alloc hzb _).trans (hb1.mono (by simp; omega)))
      go_wp2
      go_roundw
      case rel => exact ⟨k + 1, z + c, by omega, by omega, by omega, by go_num, rfl, hnew, hb1⟩
      case measure => simp [intOf]; omega
    · have H : Hid (z = total its) := by show z = total its; rw [unhide ht, List.take_of_length_le (by omega)]
      go_wp2
      go_ret
      exact ⟨ret_int (unhide H), unhide hbel⟩

set_option maxHeartbeats 2000000 in
theorem spec_some (lim nx : Int) (b off cap : Nat) (its : List Itm) (w : World) (hb : b < w.heap.size) (hc : ∀ i, i < its.length → At w b (off + i * 5) (its.getD i zero))
    (hl : its.length ≤ maxLen) (hcap : its.length ≤ cap) (hs : ∀ x ∈ its, Fits x) :
    Calls Tryz.prog 58 #[.agg #[.int .i64 lim, .int .i64 nx, .slice (some ⟨b, off, none⟩) its.length cap]] w fun e w' => e = .returned (.bool (gsB lim nx its)) ∧ Below w.heap.size w w' := by
  unfold maxLen at hl
  have hcs := hide hc
  have hss := hide hs
  clear hc hs
  by_cases g1 : inB lim 0 10000 = true
  case neg =>
    have H := hide (gs_1 (nx := nx) (its := its) g1)
    have g1' : inB lim 0 10000 = false := Bool.eq_false_iff.2 g1
    clear g1
    go_enter Tryz.func58, Tryz.ntmps58
    go_wp2_with (go_at_call 55; refine (l1In_any _ _ _ _).mono ?_; rintro e w1 ⟨rfl, rfl⟩)
    go_ret
    exact ⟨ret_bool (unhide H).symm, bel1 w _⟩
  by_cases g2 : inB nx 1 1000000000 = true
  case neg =>
    have H := hide (gs_2 (lim := lim) (its := its) g2)
    have g2' : inB nx 1 1000000000 = false := Bool.eq_false_iff.2 g2
    clear g2
    go_enter Tryz.func58, Tryz.ntmps58
    go_wp2_with (go_at_call 55; refine (l1In_any _ _ _ _).mono ?_; rintro e w1 ⟨rfl, rfl⟩)
    go_ret
    exact ⟨ret_bool (unhide H).symm, bel1 w _⟩
  by_cases g3 : 60 < (its.length : Int)
  · have H := hide (gs_3 (lim := lim) (nx := nx) g3)
    go_enter Tryz.func58, Tryz.ntmps58
    go_wp2_with (go_at_call 55; refine (l1In_any _ _ _ _).mono ?_; rintro e w1 ⟨rfl, rfl⟩)
    go_ret
    exact ⟨ret_bool (unhide H).symm, bel1 w _⟩
  have HG := hide (fun h => @gs_5 lim nx its g1 g2 g3 h)
  go_enter Tryz.func58, Tryz.ntmps58
  go_wp2_with (go_at_call 55; refine (l1In_any _ _ _ _).mono ?_; rintro e w1 ⟨rfl, rfl⟩)
  go_loopw [26] (fun i wr => ∃ (k : Nat), k ≤ its.length ∧ i = .int .i64 k ∧ Hid (goodTo nx its k = true) ∧ Hid (Below (w.heap.size + 1) (w.alloc (.cells #[.int .i64 lim, .int .i64 nx, .slice (some ⟨b, off, none⟩) its.length cap] 57)) wr)) (fun i _ => its.length - (intOf i).toNat)
  case atStart => exact ⟨0, Nat.zero_le _, rfl, hide rfl, hide (Below.refl _ _)⟩
  case round =>
    obtain ⟨k, hk, rfl, hgo, hbel⟩ := hrel
    obtain ⟨wo, rfl⟩ : ∃ wo : World, wo = wr := ⟨_, rfl⟩
    have hB : Hid (Below w.heap.size w wo) := (bel1 w _).trans ((unhide hbel).mono (by omega))
    have hbox := boxcell (unhide hbel)
    have hzw : w.heap.size + 1 ≤ wo.heap.size := by have := (unhide hbel).size; simp at this; omega
    by_cases hlt : k < its.length
    · obtain ⟨c0, c1, c2, c3, c4⟩ := (unhide hcs k hlt).below (unhide hB) hb
      have hfit := hide (fits_getD (unhide hss) k hlt)
      have s1 := hide (@step_1 nx its k)
      have s2 := hide (@step_2 nx its k)
      have s3 := hide (@step_3 nx its k)
      have s4 := hide (@step_4 nx its k)
      have hbad := hide (@gs_4 lim nx its k hlt)
      have hgs := hide (@goodTo_step nx its k (unhide hgo))
      generalize its.getD k zero = x at c0 c1 c2 c3 c4 hfit s1 s2 s3 s4
      cases hi : itemB x
      · have H := hide (unhide hbad (unhide s1 hi))
        have HI := hide hi
        clear hi s1 s2 s3 s4 hbad hgs
        go_wp2_with fail
        refine (l2Item_any x _ (unhide hfit)).mono ?_
        rintro e w1 ⟨rfl, hb1⟩
        rw [unhide HI]
        have hb1 := hide (((unhide hB).alloc (by omega) _).trans (hb1.mono (by simp; omega)))
        go_wp2
        go_ret
        exact ⟨ret_bool (unhide H).symm, unhide hb1⟩
      have HI := hide hi
      clear hi
      go_wp2_with fail
      refine (l2Item_any x _ (unhide hfit)).mono ?_
      rintro e w1 ⟨rfl, hb1⟩
      rw [unhide HI]
      simp only [World.size_alloc] at hb1
      have hB1 := hide ((unhide hbel).alloc (by omega) _ |>.trans (hb1.mono (by omega)))
      have hx1 := boxcell hb1
      have hbx1 := boxcell (unhide hB1)
      have hz1 : wo.heap.size + 1 ≤ w1.heap.size := by have := hb1.size; simp at this; omega
      clear hb1 hbox
      by_cases g4 : nx ≤ x.token
      · have H := hide (unhide hbad (unhide s2 g4))
        clear s1 s2 s3 s4 hbad hgs
        go_wp2
        go_ret
        exact ⟨ret_bool (unhide H).symm, (bel1 w _).trans ((unhide hB1).mono (by omega))⟩
      go_wp2_with fail
      go_loopw [46] (fun i wi => ∃ (j : Nat), j ≤ k ∧ i = .int .i64 j ∧ Hid (freshB x (its.take j) = true) ∧ Hid (Below w1.heap.size w1 wi)) (fun i _ => k - (intOf i).toNat)
      case atStart => exact ⟨0, Nat.zero_le _, rfl, hide (by simp [freshB]), hide (Below.refl _ _)⟩
      case round =>
        obtain ⟨j, hj, rfl, hfr, hbi⟩ := hrel
        have hxi : ∀ o, wr.cell? ⟨wo.heap.size, o, none⟩ = (wo.alloc (.cells #[.string x.key, .int .i64 x.flags, .string x.data, .int .i64 x.upto, .int .i64 x.token] 85)).cell? ⟨wo.heap.size, o, none⟩ := fun o => ((unhide hbi).cell (p := ⟨wo.heap.size, o, none⟩) (by simp; omega)).trans (hx1 o)
        have hBi := hide ((unhide hB1).trans ((unhide hbi).mono (by omega)))
        have hzi : wo.heap.size < wr.heap.size := by have := (unhide hbi).size; omega
        by_cases hjk : j < k
        · have hjl : j < its.length := by omega
          obtain ⟨d0, d1, d2, d3, d4⟩ := (unhide hcs j hjl).below (((bel1 w _).trans ((unhide hBi).mono (by omega)))) hb
          have hf1 := hide (@fresh_step x its j hjl (unhide hfr))
          have hf2 := hide (@fresh_bad x its j k hjk hk)
          generalize its.getD j zero = o at d0 d1 d2 d3 d4 hf1 hf2
          cases e1 : (o.key.toList == x.key.toList)
          · cases e2 : (o.token == x.token)
            · have H := hide (unhide hf1 (by simp [clash, e1, e2]))
              clear hf1 hf2 s1 s2 s3 s4 hbad hgs hx1 hbx1
              go_wp2
              go_roundw
              case rel => exact ⟨j + 1, by omega, by go_num, H, hide ((unhide hbi).alloc (unhide hbi).size _)⟩
              case measure => simp [intOf]; omega
            · have H := hide (unhide hbad (unhide s3 (unhide hf2 (by simp [clash, e1, e2]))))
              clear hf1 hf2 s1 s2 s3 s4 hbad hgs hx1 hbx1
              go_wp2
              go_ret
              exact ⟨ret_bool (unhide H).symm, ((bel1 w _).trans ((unhide hBi).mono (by omega))).alloc (by omega) _⟩
          · have H := hide (unhide hbad (unhide s3 (unhide hf2 (by simp [clash, e1]))))
            clear hf1 hf2 s1 s2 s3 s4 hbad hgs hx1 hbx1
            go_wp2
            go_ret
            exact ⟨ret_bool (unhide H).symm, ((bel1 w _).trans ((unhide hBi).mono (by omega))).alloc (by omega) _⟩
        · obtain rfl : j = k := by omega
          have H := hide (unhide hgs (unhide s4 (unhide HI) g4 (unhide hfr)))
          clear s1 s2 s3 s4 hbad hgs hx1 hbx1
          go_wp2
          go_roundw
          case rel => exact ⟨j + 1, by omega, by go_num, H, hBi⟩
          case measure => simp [intOf]; omega
    · obtain rfl : k = its.length := by omega
      have H := hide (unhide HG (unhide hgo))
      have hsm := hide (good_small (unhide hgo))
      have HA := hide (l2All_some lim nx b off cap its wo.drew (show b < wo.heap.size by omega) (fun i hi => (unhide hcs i hi).below (unhide hB).drew hb) (by omega) (unhide hsm))
      go_wp2
      go_region_with (go_at_call 96; refine (unhide HA).mono ?_; rintro e w1 ⟨rfl, hb1⟩; have hx1 := fun o => hb1.cell (p := ⟨w.heap.size, o, none⟩) (by simp; omega); have hb1 := hide hb1)
      all_goals
        go_wp2
        go_ret
        exact ⟨ret_bool (unhide H), (unhide hB).drew.trans ((unhide hb1).mono (unhide hB).size)⟩
end Store
end Go.Proofs.YtkodgbalhnbhcaaGreatDoor
/-
  Contracts of the model's l2Now, l2Old and l2At, by plain functions of the items.
-/
namespace Go.Proofs.YtkodgbalhnbhcaaGreatDoor
namespace Store
open Go.RowKit Base GoodKey Items
set_option linter.unusedVariables false

def oldB (x : Itm) (now : Int) : Bool := (x.upto != 0) && decide (x.upto ≤ now)
def hasKey (key : ByteArray) (x : Itm) : Bool := x.key.toList == key.toList
def atN (its : List Itm) (key : ByteArray) : Option Nat := its.findIdx? (hasKey key)
def atI (its : List Itm) (key : ByteArray) : Int := match atN its key with | some k => k | none => -1
theorem atN_hit {its : List Itm} {key : ByteArray} {k : Nat} (hk : k < its.length) (hn : ∀ j, j < k → hasKey key (its.getD j zero) = false) (h : hasKey key (its.getD k zero) = true) : atN its key = some k := by
  unfold atN
  rw [List.findIdx?_eq_some_iff_getElem]
  refine ⟨hk, ?_, fun j hj => ?_⟩
  · simpa [List.getD_eq_getElem?_getD, List.getElem?_eq_getElem hk] using h
  · have := hn j hj
    rw [List.getD_eq_getElem?_getD, List.getElem?_eq_getElem (show j < its.length by omega)] at this
    simpa using this
theorem atN_none {its : List Itm} {key : ByteArray} (hn : ∀ j, j < its.length → hasKey key (its.getD j zero) = false) : atN its key = none := by
  unfold atN
  rw [List.findIdx?_eq_none_iff]
  intro x hx
  obtain ⟨j, hj, rfl⟩ := List.getElem_of_mem hx
  have := hn j hj
  rw [List.getD_eq_getElem?_getD, List.getElem?_eq_getElem hj] at this
  simpa using this
theorem atN_lt {its : List Itm} {key : ByteArray} {k : Nat} (h : atN its key = some k) : k < its.length := by
  unfold atN at h
  exact (List.findIdx?_eq_some_iff_getElem.1 h).1

set_option maxRecDepth 10000 in
set_option maxHeartbeats 400000 in
theorem l2Now_any (n : Int) (w : World) :
    Calls Tryz.prog 54 #[.int .i64 n] w fun e w' => e = .returned (.bool (inB n 0 1000000000)) ∧ w' = w := by
  go_enter Tryz.func54, Tryz.ntmps54
  go_wp2_with (go_at_call 55; refine (l1In_any _ _ _ _).mono ?_; rintro e w' ⟨rfl, rfl⟩)
  go_ret
  exact ⟨rfl, rfl⟩

set_option maxRecDepth 10000 in
set_option maxHeartbeats 400000 in
theorem l2Old_any (x : Itm) (now : Int) (w : World) :
    Calls Tryz.prog 69 #[.agg #[.string x.key, .int .i64 x.flags, .string x.data, .int .i64 x.upto, .int .i64 x.token], .int .i64 now] w fun e w' => e = .returned (.bool (oldB x now)) ∧ Below w.heap.size w w' := by
  cases h : (x.upto != 0)
  · have H : Hid (oldB x now = false) := by show oldB x now = false; rw [oldB, h]; rfl
    go_enter Tryz.func69, Tryz.ntmps69
    go_wp2
    go_ret
    exact ⟨ret_bool (unhide H).symm, bel1 w _⟩
  · have H : Hid (oldB x now = decide (x.upto ≤ now)) := by show oldB x now = _; rw [oldB, h]; rfl
    go_enter Tryz.func69, Tryz.ntmps69
    go_wp2
    go_ret
    exact ⟨ret_bool (unhide H).symm, bel1 w _⟩

set_option maxRecDepth 10000 in
set_option maxHeartbeats 400000 in
theorem l2At_some (lim nx : Int) (b off cap : Nat) (its : List Itm) (key : ByteArray) (w : World) (hb : b < w.heap.size) (hc : ∀ i, i < its.length → At w b (off + i * 5) (its.getD i zero)) (hl : its.length ≤ maxLen) :
    Calls Tryz.prog 68 #[.agg #[.int .i64 lim, .int .i64 nx, .slice (some ⟨b, off, none⟩) its.length cap], .string key] w fun e w' => e = .returned (.int .i64 (atI its key)) ∧ Below w.heap.size w w' := by
  unfold maxLen at hl
  have hcs := hide hc
  clear hc
  go_enter Tryz.func68, Tryz.ntmps68
  go_wp2
  go_loopw [10] (fun i wr => ∃ (k : Nat), k ≤ its.length ∧ i = .int .i64 k ∧ Hid (∀ j, j < k → hasKey key (its.getD j zero) = false) ∧ Hid (Below w.heap.size w wr)) (fun i _ => its.length - (intOf i).toNat)
  case atStart => exact ⟨0, Nat.zero_le _, rfl, hide (fun j hj => by omega), hide (bel1 w _)⟩
  case round =>
    obtain ⟨k, hk, rfl, hn, hbel⟩ := hrel
    by_cases hlt : k < its.length
    · obtain ⟨c0, c1, c2, c3, c4⟩ := (unhide hcs k hlt).below (unhide hbel) hb
      have hhit := hide (@atN_hit its key k hlt (unhide hn))
      have hmiss : Hid (hasKey key (its.getD k zero) = false → ∀ j, j < k + 1 → hasKey key (its.getD j zero) = false) := by
        intro h j hj
        by_cases e : j = k
        · rw [e]; exact h
        · exact unhide hn j (by omega)
      generalize its.getD k zero = x at c0 c1 c2 c3 c4 hhit hmiss
      have hzb := (unhide hbel).size
      cases e : (x.key.toList == key.toList)
      · have H := hide (unhide hmiss e)
        clear hhit hmiss
        go_wp2
        go_roundw
        case rel => exact ⟨k + 1, by omega, by go_num, H, hide ((unhide hbel).alloc hzb _)⟩
        case measure => simp [intOf]; omega
      · have H : Hid (atI its key = k) := by show atI its key = k; rw [atI, unhide hhit e]
        clear hhit hmiss
        go_wp2
        go_ret
        exact ⟨ret_int (unhide H).symm, (unhide hbel).alloc hzb _⟩
    · obtain rfl : k = its.length := by omega
      have H : Hid (atI its key = -1) := by show atI its key = -1; rw [atI, atN_none (unhide hn)]
      go_wp2
      go_ret
      exact ⟨ret_int (unhide H).symm, unhide hbel⟩

/-- What FindItem hands back. -/
def findB (lim nx : Int) (its : List Itm) (now : Int) (key : ByteArray) : Option Itm :=
  if gsB lim nx its = true then if inB now 0 1000000000 = true then match atN its key with | some k => if oldB (its.getD k zero) now = true then none else some (its.getD k zero) | none => none else none else none

def itemV (x : Itm) : Value := .agg #[.string x.key, .int .i64 x.flags, .string x.data, .int .i64 x.upto, .int .i64 x.token]
def findV : Option Itm → Value
  | some x => .tuple #[itemV x, .bool true]
  | none => .tuple #[itemV zero, .bool false]
theorem ret_find {o p : Option Itm} (h : o = p) : Ending.returned (findV o) = .returned (findV p) := by rw [h]

end Store
end Go.Proofs.YtkodgbalhnbhcaaGreatDoor
/-
  The contract of the model's l2Drop, by a plain function of the items, for every store whose items lie in memory; what DropOld hands back.
-/
namespace Go.Proofs.YtkodgbalhnbhcaaGreatDoor
namespace Store
open Go.RowKit Base GoodKey Items Own
set_option linter.unusedVariables false

def keepB (its : List Itm) (now : Int) : List Itm := its.filter (fun x => !oldB x now)
theorem keep_step (its : List Itm) (now : Int) (k : Nat) (h : k < its.length) : keepB (its.take (k + 1)) now = keepB (its.take k) now ++ (if oldB (its.getD k zero) now = true then [] else [its.getD k zero]) := by
  unfold keepB
  rw [List.take_succ_eq_append_getElem h, List.filter_append]
  congr 1
  rw [List.getD_eq_getElem?_getD, List.getElem?_eq_getElem h]
  simp only [Option.getD_some]
  cases e : oldB its[k] now <;> simp [e]
theorem keep_len (its : List Itm) (now : Int) (k : Nat) : (keepB (its.take k) now).length ≤ k := by
  unfold keepB
  exact Nat.le_trans (List.length_filter_le _ _) (List.length_take_le _ _)

theorem info_ex : ∃ i : TypeInfo, Tryz.prog.info? 85 = some i ∧ i.zero = some (.agg #[.string ByteArray.empty, .int .i64 0, .string ByteArray.empty, .int .i64 0, .int .i64 0]) ∧ i.size = 5 ∧ i.bytes = 56 := by
  have h : (Tryz.prog.info? 85).map (fun i => (i.zero, i.size, i.bytes)) = some (some (.agg #[.string ByteArray.empty, .int .i64 0, .string ByteArray.empty, .int .i64 0, .int .i64 0]), 5, 56) := by kernel_rfl
  obtain ⟨i, hi, hz⟩ := Option.map_eq_some_iff.1 h
  simp only [Prod.mk.injEq] at hz
  exact ⟨i, hi, hz.1, hz.2.1, hz.2.2⟩

set_option maxRecDepth 10000 in
set_option maxHeartbeats 2000000 in
theorem drop_some (lim nx : Int) (b off cap : Nat) (its : List Itm) (now : Int) (w : World) (hb : b < w.heap.size) (hc : ∀ i, i < its.length → At w b (off + i * 5) (its.getD i zero)) (hl : its.length ≤ 1048576) :
    Calls Tryz.prog 117 #[.agg #[.int .i64 lim, .int .i64 nx, .slice (some ⟨b, off, none⟩) its.length cap], .int .i64 now] w fun e w' =>
      ∃ a cap', e = .returned (.tuple #[.agg #[.int .i64 lim, .int .i64 nx, .slice a (keepB its now).length cap'], .int .i64 (its.length - (keepB its now).length)]) ∧
        w'.ownsRow w.heap.size 85 5 (.slice a (keepB its now).length cap') (keepB its now).length (flat (keepB its now)) ∧ Below w.heap.size w w' := by
  obtain ⟨i0, hi, hz0, hz1, hz2⟩ := info_ex
  have hcs := hide hc
  have HI := hide hi
  have HZ0 := hide hz0
  have HZ1 := hide hz1
  have HZ2 := hide hz2
  clear hc hi hz0 hz1 hz2
  go_enter Tryz.func117, Tryz.ntmps117
  go_wp2
  go_loopw [6, 13] (fun v iv wr => ∃ (k : Nat), k ≤ its.length ∧ iv = .int .i64 k ∧ Hid (wr.ownsRow (w.heap.size + 2) 85 5 v (keepB (its.take k) now).length (flat (keepB (its.take k) now))) ∧
      Hid (Below (w.heap.size + 2) ((w.alloc (.cells #[.int .i64 lim, .int .i64 nx, .slice (some ⟨b, off, none⟩) its.length cap] 57)).alloc (.cells #[.int .i64 0, .int .i64 0, .slice none 0 0] 57)) wr)) (fun _ iv _ => its.length - (intOf iv).toNat)
  case atStart => exact ⟨0, Nat.zero_le _, rfl, hide (World.ownsRow_nil _ _ _ _), hide (Below.refl _ _)⟩
  case round =>
    obtain ⟨k, hk, rfl, hown, hbel⟩ := hrel
    have hB : Hid (Below w.heap.size w wr) := (bel2 w _ _).trans ((unhide hbel).mono (by omega))
    have hzw : w.heap.size + 2 ≤ wr.heap.size := by have := (unhide hbel).size; simp at this; omega
    by_cases hlt : k < its.length
    · obtain ⟨c0, c1, c2, c3, c4⟩ := (unhide hcs k hlt).below (unhide hB) hb
      have hst := hide (keep_step its now k hlt)
      have hkl := keep_len its now k
      generalize its.getD k zero = x at c0 c1 c2 c3 c4 hst
      have hold := fun w => l2Old_any x now w
      generalize keepB (its.take k) now = kept at hown hst hkl
      cases g4 : oldB x now
      · rw [g4] at hst hold
        have HO := hide hold
        clear hold g4
        go_wp2_with fail
        refine (unhide HO _).mono ?_
        rintro e w1 ⟨rfl, hb1⟩
        simp only [World.size_alloc] at hb1
        have hx1 := boxcell hb1
        have hz1 : wr.heap.size < w1.heap.size := by have := hb1.size; simp at this; omega
        have B1 := hide (((unhide hbel).alloc hzw _).trans (hb1.mono (by omega)))
        have O1 := hide (own_below (unhide hown) ((bel1 wr _).trans (hb1.mono (by omega))) (Nat.le_refl _))
        clear hb1
        go_wp2_with (at_builtin; go_loud (refine wpList_append_own _ rfl _ _ 55 rfl (w.heap.size + 2) 85 i0 _ 5 56 Tryz.underlying55 (unhide HI) (unhide HZ0) (unhide HZ1) (unhide HZ2) rfl (by decide) _ _ _ rfl ((unhide O1).alloc _) ⟨w1.heap.size, 0, none⟩ 1 1 (cellsOf x) rfl rfl ?c1 ?c2 ?c3 ?c4 ?c5 ?_))
        case c1 => exact news_cells w1 x _
        case c2 => exact news_one x
        case c3 => unfold maxLen; omega
        case c4 => omega
        case c5 => simp; omega
        intro v' w2 hown' hgrow _
        have O2 : Hid (w2.ownsRow (w.heap.size + 2) 85 5 v' (keepB (its.take (k + 1)) now).length (flat (keepB (its.take (k + 1)) now))) := own_snoc hown' (by rw [unhide hst]; rfl)
        have B2 := hide (((unhide B1).alloc (by omega) _).grown hgrow (by simp; omega) (own_block (unhide O1)))
        clear hown' hgrow hx1
        go_wp2
        go_roundw
        case rel => exact ⟨k + 1, by omega, by go_num, O2, B2⟩
        case measure => simp [intOf]; omega
      · rw [g4] at hst hold
        have HO := hide hold
        have O2 : Hid (keepB (its.take (k + 1)) now = kept) := by show keepB (its.take (k + 1)) now = kept; rw [unhide hst]; simp
        clear hold g4
        go_wp2_with fail
        refine (unhide HO _).mono ?_
        rintro e w1 ⟨rfl, hb1⟩
        simp only [World.size_alloc] at hb1
        have B1 := hide (((unhide hbel).alloc hzw _).trans (hb1.mono (by omega)))
        have O1 := hide (own_below (unhide hown) ((bel1 wr _).trans (hb1.mono (by omega))) (Nat.le_refl _))
        clear hb1
        go_wp2
        go_roundw
        case rel => exact ⟨k + 1, by omega, by go_num, hide (by rw [unhide O2]; exact unhide O1), B1⟩
        case measure => simp [intOf]; omega
    · obtain rfl : k = its.length := by omega
      have et : its.take its.length = its := List.take_length
      rw [et] at hown
      have hkl := keep_len its now its.length
      rw [et] at hkl
      clear et
      obtain ⟨va, vc, hv⟩ := own_form (unhide hown)
      rw [hv] at hown ⊢
      clear hv
      have hs0 := fun o => (unhide hbel).cell (p := ⟨w.heap.size, o, none⟩) (by simp)
      have hs1 := fun o => (unhide hbel).cell (p := ⟨w.heap.size + 1, o, none⟩) (by simp)
      have hf0 := fun o => (unhide hbel).frozen (p := ⟨w.heap.size, o, none⟩) (by simp)
      have hf1 := fun o => (unhide hbel).frozen (p := ⟨w.heap.size + 1, o, none⟩) (by simp)
      go_wp2
      refine bodyPost_ret (v := .tuple #[.agg #[.int .i64 lim, .int .i64 nx, .slice va (keepB its now).length vc], .int .i64 (its.length - (keepB its now).length)]) (by simp [results, Tryz.results117, go_sem, hs1]) rfl ⟨va, vc, rfl, ?_, ?_⟩
      · refine own_le (base := w.heap.size + 2) ?_ (by omega)
        repeat (refine ownsRow_setCell_below ?_ (by first | (simp; done) | (simp; omega)) _)
        exact unhide hown
      · repeat (refine Below.setCell ?_ (by first | (simp; done) | (simp; omega)) _)
        exact unhide hB

/-- What DropOld hands back: the store's fields, how many went, whether. -/
structure Dropped where
  lim : Int
  nx : Int
  its : List Itm
  many : Int
  ok : Bool
def dropR (lim nx : Int) (its : List Itm) (now : Int) : Dropped :=
  if gsB lim nx its = true then if inB now 0 1000000000 = true then ⟨lim, nx, keepB its now, its.length - (keepB its now).length, true⟩ else ⟨0, 0, [], 0, false⟩ else ⟨0, 0, [], 0, false⟩
theorem dropR_len (lim nx : Int) (its : List Itm) (now : Int) : (dropR lim nx its now).its.length ≤ its.length := by
  unfold dropR
  split
  · split
    · exact List.length_filter_le _ _
    · exact Nat.zero_le _
  · exact Nat.zero_le _
/-- The ending of DropOld, and what it leaves in memory. -/
def DropEnd (T : Dropped) (w : World) (e : Ending) (w' : World) : Prop :=
  ∃ a cap r, e = .returned (.tuple #[.agg #[.int .i64 T.lim, .int .i64 T.nx, .slice a T.its.length cap], .int .i64 T.many, .bool T.ok]) ∧ Marks.Ours w' a T.its.length (icell T.its) r ∧ (∀ g, r = some g → w.heap.size ≤ g) ∧ Below w.heap.size w w'

end Store
end Go.Proofs.YtkodgbalhnbhcaaGreatDoor
