/-
  Contracts of the model's l6Item, l6Text and ValuesText: they answer by plain functions of the items.
-/
import Derived.Test.YtghckjmpcokhcaaDoorValsP
import Derived.Test.YtghckjmpcokhcaaDoorValS
import Derived.Test.YtghckjmpcokhcaaDoorNum
import Derived.Deep.RegionWith
namespace Go.Proofs.YtghckjmpcokhcaaDoor
namespace Vals
open Go.RowKit Base GoodKey Items Store NumText Shelf
set_option linter.unusedVariables false

theorem item_no1 {x : Itm} {t : Bool} (h : ¬ gk x.key.data.toList = true) : false = goodV x t := by simp [goodV, h]
theorem item_no2 {x : Itm} {t : Bool} (h : ¬ inB x.flags 0 1000000000 = true) : false = goodV x t := by simp [goodV, h]
theorem item_no3 {x : Itm} {t : Bool} (h : ¬ (x.data.size : Int) ≤ 100) : false = goodV x t := by
  have : decide ((x.data.size : Int) ≤ 100) = false := decide_eq_false h
  unfold goodV; rw [this]; simp
theorem item_yes0 {x : Itm} (h1 : gk x.key.data.toList = true) (h2 : inB x.flags 0 1000000000 = true) (h3 : (x.data.size : Int) ≤ 100) : true = goodV x false := by
  have : decide ((x.data.size : Int) ≤ 100) = true := decide_eq_true h3
  unfold goodV; rw [this, h1, h2]; simp
theorem item_yes1 {x : Itm} (h1 : gk x.key.data.toList = true) (h2 : inB x.flags 0 1000000000 = true) (h3 : (x.data.size : Int) ≤ 100) : inB x.token 1 1000000000 = goodV x true := by
  have : decide ((x.data.size : Int) ≤ 100) = true := decide_eq_true h3
  unfold goodV; rw [this, h1, h2]; simp

set_option maxRecDepth 10000 in
set_option maxHeartbeats 1000000 in
theorem l6Item_any (x : Itm) (token : Bool) (w : World) (hf : Fits x) :
    Calls Tryd.prog 20 #[.agg #[.string x.key, .int .i64 x.flags, .string x.data, .int .i64 x.upto, .int .i64 x.token], .bool token] w fun e w' => e = .returned (.bool (goodV x token)) ∧ Below w.heap.size w w' := by
  obtain ⟨hk, hd⟩ := hf
  have HK := hide hk
  unfold maxLen at hk hd
  cases token
  all_goals
    go_enter Tryd.func20, Tryd.ntmps20
    go_wp2_with (first | (go_at_call 30; refine (GoodKey.spec_any _ _ (unhide HK)).mono ?_; rintro e w1 ⟨rfl, rfl⟩) | (go_at_call 19; refine (Num.number_any _ _).mono ?_; rintro e w1 ⟨rfl, rfl⟩) | (go_at_call 15; refine (l1In_any _ _ _ _).mono ?_; rintro e w1 ⟨rfl, rfl⟩))
    all_goals
      go_ret
      refine ⟨ret_bool ?_, bel1 w _⟩
      first
        | exact item_no1 ‹_›
        | exact item_no2 ‹_›
        | exact item_no3 (by omega)
        | exact item_yes0 ‹_› ‹_› ‹_›
        | exact item_yes1 ‹_› ‹_› ‹_›

theorem at_k {w : World} {a : Option Addr} {its : List Itm} (h : ItemsAt w a its) (k : Nat) (hk : k < its.length) : ∃ b off, a = some ⟨b, off, none⟩ ∧ b < w.heap.size ∧ At w b (off + k * 5) (its.getD k zero) := by
  obtain ⟨b, off, ha, hb, hc⟩ := h (fun e => by rw [e] at hk; simp at hk)
  exact ⟨b, off, ha, hb, hc k hk⟩

set_option maxRecDepth 10000 in
set_option maxHeartbeats 1000000 in
theorem l6Text_any (a : Option Addr) (cap : Nat) (its : List Itm) (token : Bool) (w : World) (hc : ItemsAt w a its) (hl : its.length ≤ 60) (hg : its.all (fun x => goodV x token) = true) :
    Calls Tryd.prog 21 #[.slice a its.length cap, .bool token] w fun e w' => e = .returned (.string (told token its ++ lastS)) ∧ Below w.heap.size w w' := by
  have HC := hide hc
  have HG := hide (List.all_eq_true.1 hg)
  have HA := hide hg
  clear hc hg
  go_enter Tryd.func21, Tryd.ntmps21
  go_wp2
  go_loopw [5, 10] (fun s i wr => ∃ (k : Nat) (t : ByteArray), k ≤ its.length ∧ t.size ≤ 300 * k ∧ i = .int .i64 k ∧ s = .string t ∧ Hid (t = told token (its.take k)) ∧ Hid (Below w.heap.size w wr)) (fun _ i _ => its.length - (intOf i).toNat)
  case atStart => exact ⟨0, ByteArray.empty, Nat.zero_le _, by simp, rfl, rfl, hide (by simp [told]), hide (Below.refl _ _)⟩
  case round =>
    obtain ⟨k, t, hk, htz, rfl, rfl, ht, hbel⟩ := hrel
    by_cases hlt : k < its.length
    · obtain ⟨b, off, ha, hbb, hat⟩ := at_k ((unhide HC).below (unhide hbel) (Nat.le_refl _)) k hlt
      subst ha
      obtain ⟨c0, c1, c2, c3, c4⟩ := hat
      have hgx : goodV (its.getD k zero) token = true := unhide HG _ (by simp [List.getD_eq_getElem?_getD, List.getElem?_eq_getElem hlt])
      have hst := hide (told_step token its k hlt)
      have hvs := valueR_size hgx
      have hsm := goodV_small hgx
      obtain ⟨q1, q2, q3, q4, q5⟩ := (goodV_iff _ _).1 hgx
      have hcal := fun w => l2Value_gen (its.getD k zero) token w ⟨by omega, by omega⟩ ⟨q2, q3⟩ (fun h => ⟨by have := q5 h; omega, (q5 h).2⟩)
      clear q1 q2 q3 q4 q5 hsm hgx
      generalize its.getD k zero = x at c0 c1 c2 c3 c4 hst hvs hcal
      generalize valueR x token = v at hst hvs hcal
      have HV := hide hcal
      clear hcal
      have hnew : Hid (t ++ v = told token (its.take (k + 1))) := by show t ++ v = _; rw [unhide hst, unhide ht]
      clear hst
      have hzb := (unhide hbel).size
      have n1 : ¬ 9223372036854775807 < t.size + v.size := by omega
      go_wp2_with fail
      refine (unhide HV _).mono ?_
      rintro e w1 ⟨rfl, hb1⟩
      have hb1 := hide (((unhide hbel).alloc hzb _).trans (hb1.mono (by simp; omega)))
      go_wp2
      go_roundw
      case rel => exact ⟨k + 1, t ++ v, by omega, by rw [ByteArray.size_append]; omega, by go_num, rfl, hnew, hb1⟩
      case measure => simp [intOf]; omega
    · have H : Hid (t = told token its) := by show t = _; rw [unhide ht, List.take_of_length_le (by omega)]
      have n1 : ¬ 9223372036854775807 < t.size + 3 := by omega
      have n2 : ¬ 9223372036854775807 < t.size + 3 + 2 := by omega
      go_wp2
      refine bodyPost_ret (v := .string (t ++ (⟨#[69, 78, 68]⟩ : ByteArray) ++ (⟨#[13, 10]⟩ : ByteArray))) (by simp [results, Tryd.results21, go_sem]; done) rfl ⟨?_, unhide hbel⟩
      rw [unhide H, ByteArray.append_assoc]
      rfl

def vtV (r : Res) : Value := .tuple #[.string r.s, .bool r.ok]
set_option maxRecDepth 10000 in
set_option maxHeartbeats 1000000 in
theorem spec_any (a : Option Addr) (cap : Nat) (its : List Itm) (token : Bool) (w : World) (hc : ItemsAt w a its) (hl : its.length ≤ 1048576) (hs : ∀ x ∈ its, Fits x) :
    Calls Tryd.prog 16 #[.slice a its.length cap, .bool token] w fun e w' => e = .returned (vtV (vtR its token)) ∧ Below w.heap.size w w' := by
  have HC := hide hc
  have HS := hide hs
  clear hc hs
  by_cases g1 : 60 < (its.length : Int)
  · rw [vt_long g1]
    go_enter Tryd.func16, Tryd.ntmps16
    go_wp2
    go_ret2
    exact ⟨rfl, Below.refl _ _⟩
  have HB := hide (@vt_bad its token)
  have HO := hide (@vt_ok its token g1)
  obtain ⟨R, HR⟩ : ∃ R, Hid (vtR its token = R) := ⟨_, hide rfl⟩
  rw [unhide HR] at HB HO ⊢
  clear HR
  go_enter Tryd.func16, Tryd.ntmps16
  go_wp2
  go_loopw [13] (fun i wr => ∃ k : Nat, k ≤ its.length ∧ i = .int .i64 k ∧ Hid (goodTo token its k = true) ∧ Hid (Below w.heap.size w wr)) (fun i _ => its.length - (intOf i).toNat)
  case atStart => exact ⟨0, Nat.zero_le _, rfl, hide (by simp [goodTo]), hide (Below.refl _ _)⟩
  case round =>
    obtain ⟨k, hk, rfl, hgo, hbel⟩ := hrel
    by_cases hlt : k < its.length
    · obtain ⟨b, off, ha, hbb, hat⟩ := at_k ((unhide HC).below (unhide hbel) (Nat.le_refl _)) k hlt
      subst ha
      obtain ⟨c0, c1, c2, c3, c4⟩ := hat
      have hcal := fun w => l6Item_any (its.getD k zero) token w (fits_getD (unhide HS) k hlt)
      have hst := hide (@goodTo_step token its k hlt (unhide hgo))
      have hbd := hide (fun h => unhide HB (@goodTo_bad token its k hlt h))
      generalize its.getD k zero = x at c0 c1 c2 c3 c4 hst hbd hcal
      have hzb := (unhide hbel).size
      cases hx : goodV x token
      · have H := unhide (unhide hbd hx)
        rw [hx] at hcal
        have HV := hide hcal
        clear hcal hst hbd hx
        subst H
        go_wp2_with fail
        refine (unhide HV _).mono ?_
        rintro e w1 ⟨rfl, hb1⟩
        have hb1 := hide (((unhide hbel).alloc hzb _).trans (hb1.mono (by simp; omega)))
        go_wp2
        go_ret2
        exact ⟨rfl, unhide hb1⟩
      · have H := hide (unhide hst hx)
        rw [hx] at hcal
        have HV := hide hcal
        clear hcal hst hbd hx
        go_wp2_with fail
        refine (unhide HV _).mono ?_
        rintro e w1 ⟨rfl, hb1⟩
        have hb1 := hide (((unhide hbel).alloc hzb _).trans (hb1.mono (by simp; omega)))
        go_wp2
        go_roundw
        case rel => exact ⟨k + 1, by omega, by go_num, H, hb1⟩
        case measure => simp [intOf]; omega
    · obtain rfl : k = its.length := by omega
      have hall := goodTo_all (unhide hgo)
      have H := unhide HO hall
      have HV := hide (fun w' h' => l6Text_any a cap its token w' h' (by omega) hall)
      clear hall
      generalize told token its ++ lastS = t at H HV
      subst H
      go_wp2_with fail
      refine (unhide HV _ ((unhide HC).below (unhide hbel) (Nat.le_refl _))).mono ?_
      rintro e w1 ⟨rfl, hb1⟩
      have hb1 := hide ((unhide hbel).trans (hb1.mono (unhide hbel).size))
      go_wp2
      go_ret2
      exact ⟨rfl, unhide hb1⟩
end Vals
end Go.Proofs.YtghckjmpcokhcaaDoor
