/-
  The model's l2Value: an item as it is told.
-/
import Derived.Test.YtghckjmpcokhcaaGreatDoorValZ
import Derived.Test.YtghckjmpcokhcaaGreatDoorNumText
import Derived.Lib.QuietBelow
import Derived.BigQuiet
import Derived.Outline
import Derived.Test.YtghckjmpcokhcaaGreatDoorRdW
import Derived.Deep.RegionWith
namespace Go.Proofs.YtghckjmpcokhcaaGreatDoor
namespace Shelf
open Go.RowKit Base Items Store GoodKey NumText
set_option linter.unusedVariables false

set_option maxRecDepth 10000 in
set_option maxHeartbeats 1000000 in
theorem l2Value_gen (x : Itm) (token : Bool) (w : World) (hx : Small x) (h1 : 0 ≤ x.flags ∧ x.flags ≤ 1000000000) (h2 : token = true → 0 ≤ x.token ∧ x.token ≤ 1000000000) :
    Calls Tryz.prog 71 #[.agg #[.string x.key, .int .i64 x.flags, .string x.data, .int .i64 x.upto, .int .i64 x.token], .bool token] w fun e w' => e = .returned (.string (valueR x token)) ∧ Below w.heap.size w w' := by
  obtain ⟨hk, hd⟩ := hx
  have hbel : ∀ d os, Below w.heap.size w (Go.Sort.grow (redrawn (w.alloc (.cells #[.string x.key, .int .i64 x.flags, .string x.data, .int .i64 x.upto, .int .i64 x.token] 35)) d) os) := fun d os => (bel1 w _).trans ((below_regrown _ d os).mono (by simp))
  obtain ⟨T, HTT⟩ : ∃ T : Int → ByteArray, Hid (∀ n, T n = txt n.toNat) := ⟨fun n => txt n.toNat, fun _ => rfl⟩
  have cI : ∀ (n : Int), 0 ≤ n → n ≤ 1000000000 → ∀ d os, Calls Tryz.prog 48 #[.int .i64 n] (Go.Sort.grow (redrawn (w.alloc (.cells #[.string x.key, .int .i64 x.flags, .string x.data, .int .i64 x.upto, .int .i64 x.token] 35)) d) os) fun e w' => e = .returned (.string (T n)) ∧ ∃ p : Regrown, w' = Go.Sort.grow (redrawn (w.alloc (.cells #[.string x.key, .int .i64 x.flags, .string x.data, .int .i64 x.upto, .int .i64 x.token] 35)) p.1) p.2 := fun n h0 hn d os => by
    rw [unhide HTT n]
    exact Calls.regrown_of (num_any n _ h0 (by omega))
  have s1 : (T x.flags).size ≤ 20 := by rw [unhide HTT]; exact txt_le x.flags.toNat (by omega)
  have s2 : (T (x.data.size : Int)).size ≤ 20 := by rw [unhide HTT]; exact txt_le _ (by omega)
  have s3 : token = true → (T x.token).size ≤ 20 := fun h => by rw [unhide HTT]; exact txt_le x.token.toNat (by have := h2 h; omega)
  have hi3 : Hid (token = true → ∀ w' : World, Calls Tryz.prog 48 #[.int .i64 x.token] w' fun e w'' => e = .returned (.string (T x.token)) ∧ Below w'.heap.size w' w'') := fun ht w' => by rw [unhide HTT]; exact num_any x.token w' (h2 ht).1 (by have := h2 ht; omega)
  clear h2
  have hf1 := h1.1
  have hf2 := h1.2
  have hds : (0 : Int) ≤ (x.data.size : Int) := by omega
  have hds2 : (x.data.size : Int) ≤ 1000000000 := by omega
  have HR : Hid (∀ t, t = valueR x token → Ending.returned (.string t) = .returned (.string (valueR x token))) := fun t h => by rw [h]
  obtain ⟨k0, k1, k2, k3, k4⟩ := bx5' w 35 (.string x.key) (.int .i64 x.flags) (.string x.data) (.int .i64 x.upto) (.int .i64 x.token)
  have p0 := cell_regrown k0
  have p1 := cell_regrown k1
  have p2 := cell_regrown k2
  have hmix : Tryz.prog.follows .mixedOrders = true := by kernel_rfl
  have HT : Hid (T x.flags = txt x.flags.toNat ∧ T (x.data.size : Int) = txt x.data.size ∧ T x.token = txt x.token.toNat) := ⟨unhide HTT _, unhide HTT _, unhide HTT _⟩
  have n1 : ¬ 9223372036854775807 < 6 + x.key.size := by omega
  have n2 : ¬ 9223372036854775807 < 6 + x.key.size + 1 := by omega
  have n3 : ¬ 9223372036854775807 < 6 + x.key.size + 1 + (T x.flags).size := by omega
  have n4 : ¬ 9223372036854775807 < 6 + x.key.size + 1 + (T x.flags).size + 1 := by omega
  have n5 : ¬ 9223372036854775807 < 6 + x.key.size + 1 + (T x.flags).size + 1 + (T (x.data.size : Int)).size := by omega
  go_enter Tryz.func71, Tryz.ntmps71
  go_wp2_with fail
  refine wp_region_quiet_below hmix (by kernel_rfl) ?_
  repeat (quiet_step (refine cI _ ?_ ?_ _ _ <;> assumption))
  refine wpQuiet_nil ?_
  intro _ hw'
  obtain ⟨⟨dq, osq⟩, hw''⟩ := hw'
  subst hw''
  have hbw := hide (hbel dq osq)
  have q2 := p2 dq osq
  have q4 := cell_regrown k4 dq osq
  generalize (Go.Sort.grow (redrawn (w.alloc (.cells #[.string x.key, .int .i64 x.flags, .string x.data, .int .i64 x.upto, .int .i64 x.token] 35)) dq) osq) = wc at hbw q2 q4 ⊢
  clear p0 p1 p2 cI k0 k1 k2 k3 k4 hbel
  have hls : (({ data := #[86, 65, 76, 85, 69, 32] } : ByteArray) ++ x.key ++ { data := #[32] } ++ (T x.flags) ++ { data := #[32] } ++ (T (x.data.size : Int))).size = 6 + x.key.size + 1 + (T x.flags).size + 1 + (T (x.data.size : Int)).size := by simp [ByteArray.size_append]; rfl
  generalize hl : (({ data := #[86, 65, 76, 85, 69, 32] } : ByteArray) ++ x.key ++ { data := #[32] } ++ (T x.flags) ++ { data := #[32] } ++ (T (x.data.size : Int))) = l at hls ⊢
  have HL := hide hl
  clear hl
  have m1 : ¬ 9223372036854775807 < l.size + 2 := by omega
  have m2 : ¬ 9223372036854775807 < l.size + 2 + x.data.size := by omega
  have m3 : ¬ 9223372036854775807 < l.size + 2 + x.data.size + 2 := by omega
  cases token
  · go_wp2
    refine bodyPost_ret (v := .string (l ++ endS ++ x.data ++ endS)) (by simp [results, Tryz.results71, go_sem, endS]; done) rfl ⟨unhide HR _ ?_, unhide hbw⟩
    obtain ⟨e1, e2, e3⟩ := unhide HT
    unfold valueR lineR
    rw [← e1, ← e2]
    exact congrArg (fun b => b ++ endS ++ x.data ++ endS) (unhide HL).symm
  · have s3 := s3 rfl
    have hi4 := hide (unhide hi3 rfl)
    clear hi3
    have m4 : ¬ 9223372036854775807 < 1 + (T x.token).size := by omega
    have m5 : ¬ 9223372036854775807 < l.size + (1 + (T x.token).size) := by omega
    go_wp2_with fail
    refine (unhide hi4 _).mono ?_
    rintro _ wd ⟨rfl, hbd⟩
    have q5 : wd.cell? ⟨w.heap.size, 2, none⟩ = some (.string x.data) := by rw [hbd.cell (block_lt_of_cell q2)]; exact q2
    have HBD := hide (Below.trans (unhide hbw) (hbd.mono (unhide hbw).size))
    clear hbd q2 q4
    have hls2 : (l ++ (({ data := #[32] } : ByteArray) ++ (T x.token))).size = l.size + (1 + (T x.token).size) := by simp [ByteArray.size_append]; rfl
    have m6 : ¬ 9223372036854775807 < l.size + (1 + (T x.token).size) + 2 := by omega
    have m7 : ¬ 9223372036854775807 < l.size + (1 + (T x.token).size) + 2 + x.data.size := by omega
    have m8 : ¬ 9223372036854775807 < l.size + (1 + (T x.token).size) + 2 + x.data.size + 2 := by omega
    go_wp2
    refine bodyPost_ret (v := .string (l ++ (blankS ++ (T x.token)) ++ endS ++ x.data ++ endS)) (by simp [results, Tryz.results71, go_sem, endS, blankS]; done) rfl ⟨unhide HR _ ?_, unhide HBD⟩
    obtain ⟨e1, e2, e3⟩ := unhide HT
    unfold valueR lineR
    rw [← e1, ← e2, ← e3]
    exact congrArg (fun b => b ++ (blankS ++ (T x.token)) ++ endS ++ x.data ++ endS) (unhide HL).symm
end Shelf
end Go.Proofs.YtghckjmpcokhcaaGreatDoor
/-
  Contracts of the model's l6Item, l6Text and ValuesText: they answer by plain functions of the items.
-/
namespace Go.Proofs.YtghckjmpcokhcaaGreatDoor
namespace Vals
open Go.RowKit Base GoodKey Items Store NumText Shelf
set_option linter.unusedVariables false

theorem item_no1 {x : Itm} {t : Bool} (h : ¬ gk x.key.data.toList = true) : false = goodV x t := by simp [goodV, h]
theorem item_no2 {x : Itm} {t : Bool} (h : ¬ inB x.flags 0 1000000000 = true) : false = goodV x t := by simp [goodV, h]
theorem item_no3 {x : Itm} {t : Bool} (h : ¬ (x.data.size : Int) ≤ 100) : false = goodV x t := by
  have : decide ((x.data.size : Int) ≤ 100) = false := decide_eq_false h
  unfold goodV; rw [this]; simp
theorem item_yes0 {x : Itm} (h1 : gk x.key.data.toList = true) (h2 : inB x.flags 0 1000000000 = true) (h3 : (x.data.size : Int) ≤ 100) : true = goodV x false := by
  have : decide ((x.data.size : Int) ≤ 100) = true := decide_eq_true h3
  unfold goodV; rw [this, h1, h2]; simp
theorem item_yes1 {x : Itm} (h1 : gk x.key.data.toList = true) (h2 : inB x.flags 0 1000000000 = true) (h3 : (x.data.size : Int) ≤ 100) : inB x.token 1 1000000000 = goodV x true := by
  have : decide ((x.data.size : Int) ≤ 100) = true := decide_eq_true h3
  unfold goodV; rw [this, h1, h2]; simp

set_option maxRecDepth 10000 in
set_option maxHeartbeats 1000000 in
theorem l6Item_any (x : Itm) (token : Bool) (w : World) (hf : Fits x) :
    Calls Tryz.prog 93 #[.agg #[.string x.key, .int .i64 x.flags, .string x.data, .int .i64 x.upto, .int .i64 x.token], .bool token] w fun e w' => e = .returned (.bool (goodV x token)) ∧ Below w.heap.size w w' := by
  obtain ⟨hk, hd⟩ := hf
  have HK := hide hk
  unfold maxLen at hk hd
  cases token
  all_goals
    go_enter Tryz.func93, Tryz.ntmps93
    go_wp2_with (first | (go_at_call 59; refine (GoodKey.spec_any _ _ (unhide HK)).mono ?_; rintro e w1 ⟨rfl, rfl⟩) | (go_at_call 92; refine (Num.number_any _ _).mono ?_; rintro e w1 ⟨rfl, rfl⟩) | (go_at_call 58; refine (l1In_any _ _ _ _).mono ?_; rintro e w1 ⟨rfl, rfl⟩))
    all_goals
      go_ret
      refine ⟨ret_bool ?_, bel1 w _⟩
      first
        | exact item_no1 ‹_›
        | exact item_no2 ‹_›
        | exact item_no3 (by omega)
        | exact item_yes0 ‹_› ‹_› ‹_›
        | exact item_yes1 ‹_› ‹_› ‹_›

theorem at_k {w : World} {a : Option Addr} {its : List Itm} (h : ItemsAt w a its) (k : Nat) (hk : k < its.length) : ∃ b off, a = some ⟨b, off, none⟩ ∧ b < w.heap.size ∧ At w b (off + k * 5) (its.getD k zero) := by
  obtain ⟨b, off, ha, hb, hc⟩ := h (fun e => by rw [e] at hk; simp at hk)
  exact ⟨b, off, ha, hb, hc k hk⟩

set_option maxRecDepth 10000 in
set_option maxHeartbeats 1000000 in
theorem l6Text_any (a : Option Addr) (cap : Nat) (its : List Itm) (token : Bool) (w : World) (hc : ItemsAt w a its) (hl : its.length ≤ 60) (hg : its.all (fun x => goodV x token) = true) :
    Calls Tryz.prog 40 #[.slice a its.length cap, .bool token] w fun e w' => e = .returned (.string (told token its ++ lastS)) ∧ Below w.heap.size w w' := by
  have HC := hide hc
  have HG := hide (List.all_eq_true.1 hg)
  have HA := hide hg
  clear hc hg
  go_enter Tryz.func40, Tryz.ntmps40
  go_wp2
  go_loopw [5, 10] (fun s i wr => ∃ (k : Nat) (t : ByteArray), k ≤ its.length ∧ t.size ≤ 300 * k ∧ i = .int .i64 k ∧ s = .string t ∧ Hid (t = told token (its.take k)) ∧ Hid (Below w.heap.size w wr)) (fun _ i _ => its.length - (intOf i).toNat)
  case atStart => exact ⟨0, ByteArray.empty, Nat.zero_le _, by simp, rfl, rfl, hide (by simp [told]), hide (Below.refl _ _)⟩
  case round =>
    obtain ⟨k, t, hk, htz, rfl, rfl, ht, hbel⟩ := hrel
    by_cases hlt : k < its.length
    · obtain ⟨b, off, ha, hbb, hat⟩ := at_k ((unhide HC).below (unhide hbel) (Nat.le_refl _)) k hlt
      subst ha
      obtain ⟨c0, c1, c2, c3, c4⟩ := hat
      have hgx : goodV (its.getD k zero) token = true := unhide HG _ (by simp [List.getD_eq_getElem?_getD, List.getElem?_eq_getElem hlt])
      have hst := hide (told_step token its k hlt)
      have hvs := valueR_size hgx
      have hsm := goodV_small hgx
      obtain ⟨q1, q2, q3, q4, q5⟩ := (goodV_iff _ _).1 hgx
      have hcal := fun w => l2Value_gen (its.getD k zero) token w ⟨by omega, by omega⟩ ⟨q2, q3⟩ (fun h => ⟨by have := q5 h; omega, (q5 h).2⟩)
      clear q1 q2 q3 q4 q5 hsm hgx
      generalize its.getD k zero = x at c0 c1 c2 c3 c4 hst hvs hcal
      generalize valueR x token = v at hst hvs hcal
      have HV := hide hcal
      clear hcal
      have hnew : Hid (t ++ v = told token (its.take (k + 1))) := by show t ++ v = _; rw [unhide hst, unhide ht]
      clear hst
      have hzb := (unhide hbel).size
      have n1 : ¬ 9223372036854775807 < t.size + v.size := by omega
      go_wp2_with fail
      refine (unhide HV _).mono ?_
      rintro e w1 ⟨rfl, hb1⟩
      have hb1 := hide (((unhide hbel).alloc hzb _).trans (hb1.mono (by simp; omega)))
      go_wp2
      go_roundw
      case rel => exact ⟨k + 1, t ++ v, by omega, by rw [ByteArray.size_append]; omega, by go_num, rfl, hnew, hb1⟩
      case measure => simp [intOf]; omega
    · have H : Hid (t = told token its) := by show t = _; rw [unhide ht, List.take_of_length_le (by omega)]
      have n1 : ¬ 9223372036854775807 < t.size + 3 := by omega
      have n2 : ¬ 9223372036854775807 < t.size + 3 + 2 := by omega
      go_wp2
      refine bodyPost_ret (v := .string (t ++ (⟨#[69, 78, 68]⟩ : ByteArray) ++ (⟨#[13, 10]⟩ : ByteArray))) (by simp [results, Tryz.results40, go_sem]; done) rfl ⟨?_, unhide hbel⟩
      rw [unhide H, ByteArray.append_assoc]
      rfl

def vtV (r : Res) : Value := .tuple #[.string r.s, .bool r.ok]
set_option maxRecDepth 10000 in
set_option maxHeartbeats 1000000 in
theorem spec_any (a : Option Addr) (cap : Nat) (its : List Itm) (token : Bool) (w : World) (hc : ItemsAt w a its) (hl : its.length ≤ 1048576) (hs : ∀ x ∈ its, Fits x) :
    Calls Tryz.prog 70 #[.slice a its.length cap, .bool token] w fun e w' => e = .returned (vtV (vtR its token)) ∧ Below w.heap.size w w' := by
  have HC := hide hc
  have HS := hide hs
  clear hc hs
  by_cases g1 : 60 < (its.length : Int)
  · rw [vt_long g1]
    go_enter Tryz.func70, Tryz.ntmps70
    go_wp2
    go_ret2
    exact ⟨rfl, Below.refl _ _⟩
  have HB := hide (@vt_bad its token)
  have HO := hide (@vt_ok its token g1)
  obtain ⟨R, HR⟩ : ∃ R, Hid (vtR its token = R) := ⟨_, hide rfl⟩
  rw [unhide HR] at HB HO ⊢
  clear HR
  go_enter Tryz.func70, Tryz.ntmps70
  go_wp2
  go_loopw [13] (fun i wr => ∃ k : Nat, k ≤ its.length ∧ i = .int .i64 k ∧ Hid (goodTo token its k = true) ∧ Hid (Below w.heap.size w wr)) (fun i _ => its.length - (intOf i).toNat)
  case atStart => exact ⟨0, Nat.zero_le _, rfl, hide (by simp [goodTo]), hide (Below.refl _ _)⟩
  case round =>
    obtain ⟨k, hk, rfl, hgo, hbel⟩ := hrel
    by_cases hlt : k < its.length
    · obtain ⟨b, off, ha, hbb, hat⟩ := at_k ((unhide HC).below (unhide hbel) (Nat.le_refl _)) k hlt
      subst ha
      obtain ⟨c0, c1, c2, c3, c4⟩ := hat
      have hcal := fun w => l6Item_any (its.getD k zero) token w (fits_getD (unhide HS) k hlt)
      have hst := hide (@goodTo_step token its k hlt (unhide hgo))
      have hbd := hide (fun h => unhide HB (@goodTo_bad token its k hlt h))
      generalize its.getD k zero = x at c0 c1 c2 c3 c4 hst hbd hcal
      have hzb := (unhide hbel).size
      cases hx : goodV x token
      · have H := unhide (unhide hbd hx)
        rw [hx] at hcal
        have HV := hide hcal
        clear hcal hst hbd hx
        subst H
        go_wp2_with fail
        refine (unhide HV _).mono ?_
        rintro e w1 ⟨rfl, hb1⟩
        have hb1 := hide (((unhide hbel).alloc hzb _).trans (hb1.mono (by simp; omega)))
        go_wp2
        go_ret2
        exact ⟨rfl, unhide hb1⟩
      · have H := hide (unhide hst hx)
        rw [hx] at hcal
        have HV := hide hcal
        clear hcal hst hbd hx
        go_wp2_with fail
        refine (unhide HV _).mono ?_
        rintro e w1 ⟨rfl, hb1⟩
        have hb1 := hide (((unhide hbel).alloc hzb _).trans (hb1.mono (by simp; omega)))
        go_wp2
        go_roundw
        case rel => exact ⟨k + 1, by omega, by go_num, H, hb1⟩
        case measure => simp [intOf]; omega
    · obtain rfl : k = its.length := by omega
      have hall := goodTo_all (unhide hgo)
      have H := unhide HO hall
      have HV := hide (fun w' h' => l6Text_any a cap its token w' h' (by omega) hall)
      clear hall
      generalize told token its ++ lastS = t at H HV
      subst H
      go_wp2_with fail
      refine (unhide HV _ ((unhide HC).below (unhide hbel) (Nat.le_refl _))).mono ?_
      rintro e w1 ⟨rfl, hb1⟩
      have hb1 := hide ((unhide hbel).trans (hb1.mono (unhide hbel).size))
      go_wp2
      go_ret2
      exact ⟨rfl, unhide hb1⟩
end Vals
end Go.Proofs.YtghckjmpcokhcaaGreatDoor
