/-
  What a good store is, as a plain function of its fields, and the charges of items. No Go function is spoken of here.
-/
import Derived.Test.YtkodgbalhnbhcaaGreatDoorZ1
import Derived.Test.YtkodgbalhnbhcaaGreatDoorZ4
import Derived.Test.YtkodgbalhnbhcaaGreatDoorRows
import Derived.Deep.RegionWith
namespace Go.Proofs.YtkodgbalhnbhcaaGreatDoor
namespace Store
open Go.RowKit Base GoodKey Items

def itemB (x : Itm) : Bool := gk x.key.data.toList && inB x.flags 0 1000000000 && decide ((x.data.size : Int) ≤ 100) && inB x.upto 0 2000000000 && inB x.token 1 1000000000
theorem item_1 {x : Itm} (h : ¬ gk x.key.data.toList = true) : false = itemB x := by simp [itemB, h]
theorem item_2 {x : Itm} (h : ¬ inB x.flags 0 1000000000 = true) : false = itemB x := by simp [itemB, h]
theorem item_3 {x : Itm} (h : ¬ (x.data.size : Int) ≤ 100) : false = itemB x := by
  unfold itemB; rw [decide_eq_false h]; simp
theorem item_4 {x : Itm} (h : ¬ inB x.upto 0 2000000000 = true) : false = itemB x := by simp [itemB, h]
theorem item_5 {x : Itm} (h1 : gk x.key.data.toList = true) (h2 : inB x.flags 0 1000000000 = true) (h3 : (x.data.size : Int) ≤ 100) (h4 : inB x.upto 0 2000000000 = true) : inB x.token 1 1000000000 = itemB x := by
  unfold itemB; rw [h1, h2, h4, decide_eq_true h3]; simp

def charge (x : Itm) : Int := x.key.size + x.data.size + 10
def total : List Itm → Int
  | [] => 0
  | x :: r => charge x + total r
theorem total_append (a b : List Itm) : total (a ++ b) = total a + total b := by
  induction a with
  | nil => simp [total]
  | cons x r ih => simp only [List.cons_append, total, ih]; omega
theorem total_step (its : List Itm) (k : Nat) (h : k < its.length) : total (its.take (k + 1)) = total (its.take k) + charge (its.getD k zero) := by
  rw [List.take_succ_eq_append_getElem h, total_append]
  simp [total, List.getD_eq_getElem?_getD, List.getElem?_eq_getElem h]
/-- Small items: what l2All may be asked of without a wrap. -/
def Small (x : Itm) : Prop := x.key.size ≤ 1048576 ∧ x.data.size ≤ 1048576
theorem small_getD {its : List Itm} (h : ∀ x ∈ its, Small x) (k : Nat) (hk : k < its.length) : Small (its.getD k zero) := by
  rw [List.getD_eq_getElem?_getD, List.getElem?_eq_getElem hk]
  exact h _ (List.getElem_mem _)
theorem total_bd (its : List Itm) (h : ∀ x ∈ its, Small x) : 0 ≤ total its ∧ total its ≤ its.length * 2097162 := by
  induction its with
  | nil => simp [total]
  | cons x r ih =>
    have h1 := h x (by simp)
    have h2 := ih (fun y hy => h y (by simp [hy]))
    unfold Small at h1
    simp only [total, charge, List.length_cons]
    omega

def clash (o x : Itm) : Bool := (o.key.toList == x.key.toList) || (o.token == x.token)
def freshB (x : Itm) (l : List Itm) : Bool := l.all (fun o => !clash o x)
def stepB (nx : Int) (its : List Itm) (i : Nat) : Bool := itemB (its.getD i zero) && decide ((its.getD i zero).token < nx) && freshB (its.getD i zero) (its.take i)
def goodTo (nx : Int) (its : List Itm) (k : Nat) : Bool := (List.range k).all (stepB nx its)
def gsB (lim nx : Int) (its : List Itm) : Bool := inB lim 0 10000 && inB nx 1 1000000000 && decide ((its.length : Int) ≤ 60) && goodTo nx its its.length && decide (total its ≤ lim)
theorem gs_1 {lim nx : Int} {its : List Itm} (h : ¬ inB lim 0 10000 = true) : gsB lim nx its = false := by simp [gsB, h]
theorem gs_2 {lim nx : Int} {its : List Itm} (h : ¬ inB nx 1 1000000000 = true) : gsB lim nx its = false := by simp [gsB, h]
theorem gs_3 {lim nx : Int} {its : List Itm} (h : 60 < (its.length : Int)) : gsB lim nx its = false := by
  unfold gsB; rw [decide_eq_false (show ¬ (its.length : Int) ≤ 60 by omega)]; simp
theorem goodTo_step {nx : Int} {its : List Itm} {k : Nat} (h : goodTo nx its k = true) (hs : stepB nx its k = true) : goodTo nx its (k + 1) = true := by
  unfold goodTo at *
  rw [List.range_succ, List.all_append, h]
  simp [hs]
theorem goodTo_bad {nx : Int} {its : List Itm} {k : Nat} (hk : k < its.length) (hs : stepB nx its k = false) : goodTo nx its its.length = false := by
  unfold goodTo
  rw [List.all_eq_false]
  exact ⟨k, by simpa using hk, by simp [hs]⟩
theorem gs_4 {lim nx : Int} {its : List Itm} {k : Nat} (hk : k < its.length) (hs : stepB nx its k = false) : gsB lim nx its = false := by
  unfold gsB; rw [goodTo_bad hk hs]; simp
theorem gs_5 {lim nx : Int} {its : List Itm} (h1 : inB lim 0 10000 = true) (h2 : inB nx 1 1000000000 = true) (h3 : ¬ 60 < (its.length : Int)) (h4 : goodTo nx its its.length = true) : decide (total its ≤ lim) = gsB lim nx its := by
  unfold gsB; rw [h1, h2, h4, decide_eq_true (show (its.length : Int) ≤ 60 by omega)]; simp
theorem step_1 {nx : Int} {its : List Itm} {k : Nat} (h : itemB (its.getD k zero) = false) : stepB nx its k = false := by simp only [stepB, h, Bool.false_and]
theorem step_2 {nx : Int} {its : List Itm} {k : Nat} (h : nx ≤ (its.getD k zero).token) : stepB nx its k = false := by
  unfold stepB; rw [decide_eq_false (show ¬ (its.getD k zero).token < nx by omega)]; simp
theorem step_3 {nx : Int} {its : List Itm} {k : Nat} (h : freshB (its.getD k zero) (its.take k) = false) : stepB nx its k = false := by simp only [stepB, h, Bool.and_false]
theorem step_4 {nx : Int} {its : List Itm} {k : Nat} (h1 : itemB (its.getD k zero) = true) (h2 : ¬ nx ≤ (its.getD k zero).token) (h3 : freshB (its.getD k zero) (its.take k) = true) : stepB nx its k = true := by
  simp only [stepB, h1, h3, decide_eq_true (show (its.getD k zero).token < nx by omega)]; rfl
theorem fresh_step {x : Itm} {its : List Itm} {j : Nat} (hj : j < its.length) (h : freshB x (its.take j) = true) (hc : clash (its.getD j zero) x = false) : freshB x (its.take (j + 1)) = true := by
  unfold freshB at *
  rw [List.take_succ_eq_append_getElem hj, List.all_append, h]
  simp [List.getD_eq_getElem?_getD, List.getElem?_eq_getElem hj] at hc
  simp [hc]
theorem fresh_bad {x : Itm} {its : List Itm} {j k : Nat} (hjk : j < k) (hk : k ≤ its.length) (hc : clash (its.getD j zero) x = true) : freshB x (its.take k) = false := by
  unfold freshB
  rw [List.all_eq_false]
  refine ⟨its[j]'(by omega), ?_, ?_⟩
  · rw [List.mem_take_iff_getElem]
    exact ⟨j, by omega, rfl⟩
  · simp [List.getD_eq_getElem?_getD, List.getElem?_eq_getElem (show j < its.length by omega)] at hc
    simp [hc]
theorem good_small {nx : Int} {its : List Itm} (h : goodTo nx its its.length = true) : ∀ x ∈ its, Small x := by
  intro x hx
  obtain ⟨i, hi, rfl⟩ := List.getElem_of_mem hx
  unfold goodTo at h
  rw [List.all_eq_true] at h
  have := h i (by simpa using hi)
  simp only [stepB, itemB, gk, inB, List.getD_eq_getElem?_getD, List.getElem?_eq_getElem hi, Option.getD_some, Bool.and_eq_true, decide_eq_true_eq] at this
  have el : its[i].key.data.toList.length = its[i].key.size := by simp
  unfold Small
  omega
end Store
end Go.Proofs.YtkodgbalhnbhcaaGreatDoor
/-
  The contract of the model's l1Number, for every int.
-/
namespace Go.Proofs.YtkodgbalhnbhcaaGreatDoor
namespace Num
open Go.RowKit Base GoodKey

set_option maxHeartbeats 400000 in
theorem number_any (n : Int) (w : World) :
    Calls Tryz.prog 130 #[.int .i64 n] w fun e w' => e = .returned (.bool (inB n 0 1000000000)) ∧ w' = w := by
  go_enter Tryz.func130, Tryz.ntmps130
  go_wp2_with (go_at_call 55; refine (l1In_any _ _ _ _).mono ?_; rintro e w' ⟨rfl, rfl⟩)
  go_ret
  exact ⟨rfl, rfl⟩
end Num
end Go.Proofs.YtkodgbalhnbhcaaGreatDoor
/-
  Contracts of the model's l2Item, l2Charge, l2All and GoodStore: they answer by plain functions of the fields, for every store whose items lie in memory.
-/
namespace Go.Proofs.YtkodgbalhnbhcaaGreatDoor
namespace Store
open Go.RowKit Base GoodKey Items
set_option linter.unusedVariables false

set_option maxHeartbeats 400000 in
theorem l2Item_any (x : Itm) (w : World) (hf : Fits x) :
    Calls Tryz.prog 95 #[.agg #[.string x.key, .int .i64 x.flags, .string x.data, .int .i64 x.upto, .int .i64 x.token]] w fun e w' => e = .returned (.bool (itemB x)) ∧ Below w.heap.size w w' := by
  obtain ⟨hk, hd⟩ := hf
  have HK := hide hk
  unfold maxLen at hk hd
  go_enter Tryz.func95, Tryz.ntmps95
  go_wp2_with (first | (go_at_call 67; refine (GoodKey.spec_any _ _ (unhide HK)).mono ?_; rintro e w1 ⟨rfl, rfl⟩) | (go_at_call 130; refine (Num.number_any _ _).mono ?_; rintro e w1 ⟨rfl, rfl⟩) | (go_at_call 55; refine (l1In_any _ _ _ _).mono ?_; rintro e w1 ⟨rfl, rfl⟩))
  all_goals
    go_ret
    refine ⟨ret_bool ?_, bel1 w _⟩
    first
      | exact item_1 ‹_›
      | exact item_2 ‹_›
      | exact item_3 (by omega)
      | exact item_4 ‹_›
      | exact item_5 ‹_› ‹_› ‹_› ‹_›

set_option maxHeartbeats 400000 in
theorem l2Charge_any (x : Itm) (w : World) (hf : Small x) :
    Calls Tryz.prog 131 #[.agg #[.string x.key, .int .i64 x.flags, .string x.data, .int .i64 x.upto, .int .i64 x.token]] w fun e w' => e = .returned (.int .i64 (charge x)) ∧ Below w.heap.size w w' := by
  obtain ⟨hk, hd⟩ := hf
  go_enter Tryz.func131, Tryz.ntmps131
  go_wp2
  go_ret
  exact ⟨ret_int rfl, bel1 w _⟩

set_option maxHeartbeats 400000 in
theorem l2All_some (lim nx : Int) (b off cap : Nat) (its : List Itm) (w : World) (hb : b < w.heap.size) (hc : ∀ i, i < its.length → At w b (off + i * 5) (its.getD i zero))
    (hl : its.length ≤ 1048576) (hs : ∀ x ∈ its, Small x) :
    Calls Tryz.prog 96 #[.agg #[.int .i64 lim, .int .i64 nx, .slice (some ⟨b, off, none⟩) its.length cap]] w fun e w' => e = .returned (.int .i64 (total its)) ∧ Below w.heap.size w w' := by
  have hcs := hide hc
  have hss := hide hs
  clear hc hs
  go_enter Tryz.func96, Tryz.ntmps96
  go_wp2
  go_loopw [3, 9] (fun t i wr => ∃ (k : Nat) (z : Int), k ≤ its.length ∧ 0 ≤ z ∧ z ≤ 1048576 * 2097162 ∧ i = .int .i64 k ∧ t = .int .i64 z ∧ Hid (z = total (its.take k)) ∧ Hid (Below w.heap.size w wr)) (fun _ i _ => its.length - (intOf i).toNat)
  case atStart => exact ⟨0, 0, Nat.zero_le _, by omega, by omega, rfl, rfl, hide (by simp [total]), hide (bel1 w _)⟩
  case round =>
    obtain ⟨k, z, hk, hz0, hz1, rfl, rfl, ht, hbel⟩ := hrel
    by_cases hlt : k < its.length
    · obtain ⟨c0, c1, c2, c3, c4⟩ := (unhide hcs k hlt).below (unhide hbel) hb
      have hsm := hide (small_getD (unhide hss) k hlt)
      have hst := hide (total_step its k hlt)
      have hbd : total (its.take (k + 1)) ≤ 1048576 * 2097162 := by
        have h1 := total_bd (its.take (k + 1)) (fun x hx => unhide hss x (List.mem_of_mem_take hx))
        have h2 : (its.take (k + 1)).length ≤ 1048576 := by rw [List.length_take]; omega
        have := h1.2
        omega
      generalize its.getD k zero = x at c0 c1 c2 c3 c4 hsm hst
      have hch : 0 ≤ charge x ∧ charge x ≤ 2097162 := by have := unhide hsm; unfold Small at this; unfold charge; omega
      have hcal := fun w => l2Charge_any x w (unhide hsm)
      have hnew : Hid (z + charge x = total (its.take (k + 1))) := by show z + charge x = _; rw [unhide hst, unhide ht]
      have hle : z + charge x ≤ 1048576 * 2097162 := by have := unhide hnew; omega
      clear hbd hst
      generalize charge x = c at hcal hnew hle hch
      have HC := hide hcal
      clear hcal
      have hzb := (unhide hbel).size
      go_wp2_with fail
      refine (unhide HC _).mono ?_
      rintro e w1 ⟨rfl, hb1⟩
      have hb1 := hide (((unhide hbel).alloc hzb _).trans (hb1.mono (by simp; omega)))
      go_wp2
      go_roundw
      case rel => exact ⟨k + 1, z + c, by omega, by omega, by omega, by go_num, rfl, hnew, hb1⟩
      case measure => simp [intOf]; omega
    · have H : Hid (z = total its) := by show z = total its; rw [unhide ht, List.take_of_length_le (by omega)]
      go_wp2
      go_ret
      exact ⟨ret_int (unhide H), unhide hbel⟩

set_option maxHeartbeats 2000000 in
theorem spec_some (lim nx : Int) (b off cap : Nat) (its : List Itm) (w : World) (hb : b < w.heap.size) (hc : ∀ i, i < its.length → At w b (off + i * 5) (its.getD i zero))
    (hl : its.length ≤ maxLen) (hcap : its.length ≤ cap) (hs : ∀ x ∈ its, Fits x) :
    Calls Tryz.prog 58 #[.agg #[.int .i64 lim, .int .i64 nx, .slice (some ⟨b, off, none⟩) its.length cap]] w fun e w' => e = .returned (.bool (gsB lim nx its)) ∧ Below w.heap.size w w' := by
  unfold maxLen at hl
  have hcs := hide hc
  have hss := hide hs
  clear hc hs
  by_cases g1 : inB lim 0 10000 = true
  case neg =>
    have H := hide (gs_1 (nx := nx) (its := its) g1)
    have g1' : inB lim 0 10000 = false := Bool.eq_false_iff.2 g1
    clear g1
    go_enter Tryz.func58, Tryz.ntmps58
    go_wp2_with (go_at_call 55; refine (l1In_any _ _ _ _).mono ?_; rintro e w1 ⟨rfl, rfl⟩)
    go_ret
    exact ⟨ret_bool (unhide H).symm, bel1 w _⟩
  by_cases g2 : inB nx 1 1000000000 = true
  case neg =>
    have H := hide (gs_2 (lim := lim) (its := its) g2)
    have g2' : inB nx 1 1000000000 = false := Bool.eq_false_iff.2 g2
    clear g2
    go_enter Tryz.func58, Tryz.ntmps58
    go_wp2_with (go_at_call 55; refine (l1In_any _ _ _ _).mono ?_; rintro e w1 ⟨rfl, rfl⟩)
    go_ret
    exact ⟨ret_bool (unhide H).symm, bel1 w _⟩
  by_cases g3 : 60 < (its.length : Int)
  · have H := hide (gs_3 (lim := lim) (nx := nx) g3)
    go_enter Tryz.func58, Tryz.ntmps58
    go_wp2_with (go_at_call 55; refine (l1In_any _ _ _ _).mono ?_; rintro e w1 ⟨rfl, rfl⟩)
    go_ret
    exact ⟨ret_bool (unhide H).symm, bel1 w _⟩
  have HG := hide (fun h => @gs_5 lim nx its g1 g2 g3 h)
  go_enter Tryz.func58, Tryz.ntmps58
  go_wp2_with (go_at_call 55; refine (l1In_any _ _ _ _).mono ?_; rintro e w1 ⟨rfl, rfl⟩)
  go_loopw [26] (fun i wr => ∃ (k : Nat), k ≤ its.length ∧ i = .int .i64 k ∧ Hid (goodTo nx its k = true) ∧ Hid (Below (w.heap.size + 1) (w.alloc (.cells #[.int .i64 lim, .int .i64 nx, .slice (some ⟨b, off, none⟩) its.length cap] 57)) wr)) (fun i _ => its.length - (intOf i).toNat)
  case atStart => exact ⟨0, Nat.zero_le _, rfl, hide rfl, hide (Below.refl _ _)⟩
  case round =>
    obtain ⟨k, hk, rfl, hgo, hbel⟩ := hrel
    obtain ⟨wo, rfl⟩ : ∃ wo : World, wo = wr := ⟨_, rfl⟩
    have hB : Hid (Below w.heap.size w wo) := (bel1 w _).trans ((unhide hbel).mono (by omega))
    have hbox := boxcell (unhide hbel)
    have hzw : w.heap.size + 1 ≤ wo.heap.size := by have := (unhide hbel).size; simp at this; omega
    by_cases hlt : k < its.length
    · obtain ⟨c0, c1, c2, c3, c4⟩ := (unhide hcs k hlt).below (unhide hB) hb
      have hfit := hide (fits_getD (unhide hss) k hlt)
      have s1 := hide (@step_1 nx its k)
      have s2 := hide (@step_2 nx its k)
      have s3 := hide (@step_3 nx its k)
      have s4 := hide (@step_4 nx its k)
      have hbad := hide (@gs_4 lim nx its k hlt)
      have hgs := hide (@goodTo_step nx its k (unhide hgo))
      generalize its.getD k zero = x at c0 c1 c2 c3 c4 hfit s1 s2 s3 s4
      cases hi : itemB x
      · have H := hide (unhide hbad (unhide s1 hi))
        have HI := hide hi
        clear hi s1 s2 s3 s4 hbad hgs
        go_wp2_with fail
        refine (l2Item_any x _ (unhide hfit)).mono ?_
        rintro e w1 ⟨rfl, hb1⟩
        rw [unhide HI]
        have hb1 := hide (((unhide hB).alloc (by omega) _).trans (hb1.mono (by simp; omega)))
        go_wp2
        go_ret
        exact ⟨ret_bool (unhide H).symm, unhide hb1⟩
      have HI := hide hi
      clear hi
      go_wp2_with fail
      refine (l2Item_any x _ (unhide hfit)).mono ?_
      rintro e w1 ⟨rfl, hb1⟩
      rw [unhide HI]
      simp only [World.size_alloc] at hb1
      have hB1 := hide ((unhide hbel).alloc (by omega) _ |>.trans (hb1.mono (by omega)))
      have hx1 := boxcell hb1
      have hbx1 := boxcell (unhide hB1)
      have hz1 : wo.heap.size + 1 ≤ w1.heap.size := by have := hb1.size; simp at this; omega
      clear hb1 hbox
      by_cases g4 : nx ≤ x.token
      · have H := hide (unhide hbad (unhide s2 g4))
        clear s1 s2 s3 s4 hbad hgs
        go_wp2
        go_ret
        exact ⟨ret_bool (unhide H).symm, (bel1 w _).trans ((unhide hB1).mono (by omega))⟩
      go_wp2_with fail
      go_loopw [46] (fun i wi => ∃ (j : Nat), j ≤ k ∧ i = .int .i64 j ∧ Hid (freshB x (its.take j) = true) ∧ Hid (Below w1.heap.size w1 wi)) (fun i _ => k - (intOf i).toNat)
      case atStart => exact ⟨0, Nat.zero_le _, rfl, hide (by simp [freshB]), hide (Below.refl _ _)⟩
      case round =>
        obtain ⟨j, hj, rfl, hfr, hbi⟩ := hrel
        have hxi : ∀ o, wr.cell? ⟨wo.heap.size, o, none⟩ = (wo.alloc (.cells #[.string x.key, .int .i64 x.flags, .string x.data, .int .i64 x.upto, .int .i64 x.token] 85)).cell? ⟨wo.heap.size, o, none⟩ := fun o => ((unhide hbi).cell (p := ⟨wo.heap.size, o, none⟩) (by simp; omega)).trans (hx1 o)
        have hBi := hide ((unhide hB1).trans ((unhide hbi).mono (by omega)))
        have hzi : wo.heap.size < wr.heap.size := by have := (unhide hbi).size; omega
        by_cases hjk : j < k
        · have hjl : j < its.length := by omega
          obtain ⟨d0, d1, d2, d3, d4⟩ := (unhide hcs j hjl).below (((bel1 w _).trans ((unhide hBi).mono (by omega)))) hb
          have hf1 := hide (@fresh_step x its j hjl (unhide hfr))
          have hf2 := hide (@fresh_bad x its j k hjk hk)
          generalize its.getD j zero = o at d0 d1 d2 d3 d4 hf1 hf2
          cases e1 : (o.key.toList == x.key.toList)
          · cases e2 : (o.token == x.token)
            · have H := hide (unhide hf1 (by simp [clash, e1, e2]))
              clear hf1 hf2 s1 s2 s3 s4 hbad hgs hx1 hbx1
              go_wp2
              go_roundw
              case rel => exact ⟨j + 1, by omega, by go_num, H, hide ((unhide hbi).alloc (unhide hbi).size _)⟩
              case measure => simp [intOf]; omega
            · have H := hide (unhide hbad (unhide s3 (unhide hf2 (by simp [clash, e1, e2]))))
              clear hf1 hf2 s1 s2 s3 s4 hbad hgs hx1 hbx1
              go_wp2
              go_ret
              exact ⟨ret_bool (unhide H).symm, ((bel1 w _).trans ((unhide hBi).mono (by omega))).alloc (by omega) _⟩
          · have H := hide (unhide hbad (unhide s3 (unhide hf2 (by simp [clash, e1]))))
            clear hf1 hf2 s1 s2 s3 s4 hbad hgs hx1 hbx1
            go_wp2
            go_ret
            exact ⟨ret_bool (unhide H).symm, ((bel1 w _).trans ((unhide hBi).mono (by omega))).alloc (by omega) _⟩
        · obtain rfl : j = k := by omega
          have H := hide (unhide hgs (unhide s4 (unhide HI) g4 (unhide hfr)))
          clear s1 s2 s3 s4 hbad hgs hx1 hbx1
          go_wp2
          go_roundw
          case rel => exact ⟨j + 1, by omega, by go_num, H, hBi⟩
          case measure => simp [intOf]; omega
    · obtain rfl : k = its.length := by omega
      have H := hide (unhide HG (unhide hgo))
      have hsm := hide (good_small (unhide hgo))
      have HA := hide (l2All_some lim nx b off cap its wo.drew (show b < wo.heap.size by omega) (fun i hi => (unhide hcs i hi).below (unhide hB).drew hb) (by omega) (unhide hsm))
      go_wp2
      go_region_with (go_at_call 96; refine (unhide HA).mono ?_; rintro e w1 ⟨rfl, hb1⟩; have hx1 := fun o => hb1.cell (p := ⟨w.heap.size, o, none⟩) (by simp; omega); have hb1 := hide hb1)
      all_goals
        go_wp2
        go_ret
        exact ⟨ret_bool (unhide H), (unhide hB).drew.trans ((unhide hb1).mono (unhide hB).size)⟩
end Store
end Go.Proofs.YtkodgbalhnbhcaaGreatDoor
/-
  Contracts of the model's l2Now, l2Old and l2At, by plain functions of the items.
-/
namespace Go.Proofs.YtkodgbalhnbhcaaGreatDoor
namespace Store
open Go.RowKit Base GoodKey Items
set_option linter.unusedVariables false

def oldB (x : Itm) (now : Int) : Bool := (x.upto != 0) && decide (x.upto ≤ now)
def hasKey (key : ByteArray) (x : Itm) : Bool := x.key.toList == key.toList
def atN (its : List Itm) (key : ByteArray) : Option Nat := its.findIdx? (hasKey key)
def atI (its : List Itm) (key : ByteArray) : Int := match atN its key with | some k => k | none => -1
theorem atN_hit {its : List Itm} {key : ByteArray} {k : Nat} (hk : k < its.length) (hn : ∀ j, j < k → hasKey key (its.getD j zero) = false) (h : hasKey key (its.getD k zero) = true) : atN its key = some k := by
  unfold atN
  rw [List.findIdx?_eq_some_iff_getElem]
  refine ⟨hk, ?_, fun j hj => ?_⟩
  · simpa [List.getD_eq_getElem?_getD, List.getElem?_eq_getElem hk] using h
  · have := hn j hj
    rw [List.getD_eq_getElem?_getD, List.getElem?_eq_getElem (show j < its.length by omega)] at this
    simpa using this
theorem atN_none {its : List Itm} {key : ByteArray} (hn : ∀ j, j < its.length → hasKey key (its.getD j zero) = false) : atN its key = none := by
  unfold atN
  rw [List.findIdx?_eq_none_iff]
  intro x hx
  obtain ⟨j, hj, rfl⟩ := List.getElem_of_mem hx
  have := hn j hj
  rw [List.getD_eq_getElem?_getD, List.getElem?_eq_getElem hj] at this
  simpa using this
theorem atN_lt {its : List Itm} {key : ByteArray} {k : Nat} (h : atN its key = some k) : k < its.length := by
  unfold atN at h
  exact (List.findIdx?_eq_some_iff_getElem.1 h).1

set_option maxRecDepth 10000 in
set_option maxHeartbeats 400000 in
theorem l2Now_any (n : Int) (w : World) :
    Calls Tryz.prog 54 #[.int .i64 n] w fun e w' => e = .returned (.bool (inB n 0 1000000000)) ∧ w' = w := by
  go_enter Tryz.func54, Tryz.ntmps54
  go_wp2_with (go_at_call 55; refine (l1In_any _ _ _ _).mono ?_; rintro e w' ⟨rfl, rfl⟩)
  go_ret
  exact ⟨rfl, rfl⟩

set_option maxRecDepth 10000 in
set_option maxHeartbeats 400000 in
theorem l2Old_any (x : Itm) (now : Int) (w : World) :
    Calls Tryz.prog 69 #[.agg #[.string x.key, .int .i64 x.flags, .string x.data, .int .i64 x.upto, .int .i64 x.token], .int .i64 now] w fun e w' => e = .returned (.bool (oldB x now)) ∧ Below w.heap.size w w' := by
  cases h : (x.upto != 0)
  · have H : Hid (oldB x now = false) := by show oldB x now = false; rw [oldB, h]; rfl
    go_enter Tryz.func69, Tryz.ntmps69
    go_wp2
    go_ret
    exact ⟨ret_bool (unhide H).symm, bel1 w _⟩
  · have H : Hid (oldB x now = decide (x.upto ≤ now)) := by show oldB x now = _; rw [oldB, h]; rfl
    go_enter Tryz.func69, Tryz.ntmps69
    go_wp2
    go_ret
    exact ⟨ret_bool (unhide H).symm, bel1 w _⟩

set_option maxRecDepth 10000 in
set_option maxHeartbeats 400000 in
theorem l2At_some (lim nx : Int) (b off cap : Nat) (its : List Itm) (key : ByteArray) (w : World) (hb : b < w.heap.size) (hc : ∀ i, i < its.length → At w b (off + i * 5) (its.getD i zero)) (hl : its.length ≤ maxLen) :
    Calls Tryz.prog 68 #[.agg #[.int .i64 lim, .int .i64 nx, .slice (some ⟨b, off, none⟩) its.length cap], .string key] w fun e w' => e = .returned (.int .i64 (atI its key)) ∧ Below w.heap.size w w' := by
  unfold maxLen at hl
  have hcs := hide hc
  clear hc
  go_enter Tryz.func68, Tryz.ntmps68
  go_wp2
  go_loopw [10] (fun i wr => ∃ (k : Nat), k ≤ its.length ∧ i = .int .i64 k ∧ Hid (∀ j, j < k → hasKey key (its.getD j zero) = false) ∧ Hid (Below w.heap.size w wr)) (fun i _ => its.length - (intOf i).toNat)
  case atStart => exact ⟨0, Nat.zero_le _, rfl, hide (fun j hj => by omega), hide (bel1 w _)⟩
  case round =>
    obtain ⟨k, hk, rfl, hn, hbel⟩ := hrel
    by_cases hlt : k < its.length
    · obtain ⟨c0, c1, c2, c3, c4⟩ := (unhide hcs k hlt).below (unhide hbel) hb
      have hhit := hide (@atN_hit its key k hlt (unhide hn))
      have hmiss : Hid (hasKey key (its.getD k zero) = false → ∀ j, j < k + 1 → hasKey key (its.getD j zero) = false) := by
        intro h j hj
        by_cases e : j = k
        · rw [e]; exact h
        · exact unhide hn j (by omega)
      generalize its.getD k zero = x at c0 c1 c2 c3 c4 hhit hmiss
      have hzb := (unhide hbel).size
      cases e : (x.key.toList == key.toList)
      · have H := hide (unhide hmiss e)
        clear hhit hmiss
        go_wp2
        go_roundw
        case rel => exact ⟨k + 1, by omega, by go_num, H, hide ((unhide hbel).alloc hzb _)⟩
        case measure => simp [intOf]; omega
      · have H : Hid (atI its key = k) := by show atI its key = k; rw [atI, unhide hhit e]
        clear hhit hmiss
        go_wp2
        go_ret
        exact ⟨ret_int (unhide H).symm, (unhide hbel).alloc hzb _⟩
    · obtain rfl : k = its.length := by omega
      have H : Hid (atI its key = -1) := by show atI its key = -1; rw [atI, atN_none (unhide hn)]
      go_wp2
      go_ret
      exact ⟨ret_int (unhide H).symm, unhide hbel⟩

/-- What FindItem hands back. -/
def findB (lim nx : Int) (its : List Itm) (now : Int) (key : ByteArray) : Option Itm :=
  if gsB lim nx its = true then if inB now 0 1000000000 = true then match atN its key with | some k => if oldB (its.getD k zero) now = true then none else some (its.getD k zero) | none => none else none else none

def itemV (x : Itm) : Value := .agg #[.string x.key, .int .i64 x.flags, .string x.data, .int .i64 x.upto, .int .i64 x.token]
def findV : Option Itm → Value
  | some x => .tuple #[itemV x, .bool true]
  | none => .tuple #[itemV zero, .bool false]
theorem ret_find {o p : Option Itm} (h : o = p) : Ending.returned (findV o) = .returned (findV p) := by rw [h]

end Store
end Go.Proofs.YtkodgbalhnbhcaaGreatDoor
