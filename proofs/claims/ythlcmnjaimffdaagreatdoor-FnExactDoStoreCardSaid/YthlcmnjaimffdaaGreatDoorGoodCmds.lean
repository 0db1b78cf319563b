/-
  Lists of good keys, as plain data. No Go function is spoken of here.
-/
import Derived.Test.YthlcmnjaimffdaaGreatDoorPlain
import Derived.Test.YthlcmnjaimffdaaGreatDoorKinds
namespace Go.Proofs.YthlcmnjaimffdaaGreatDoor
namespace GoodCmd
open Go.RowKit Base GoodKey
def gkb (s : ByteArray) : Bool := gk s.data.toList
theorem all_step (ks : List ByteArray) (k : Nat) (h : k < ks.length) (ha : (ks.take k).all gkb = true) (hg : gkb (ks.getD k ByteArray.empty) = true) : (ks.take (k + 1)).all gkb = true := by
  rw [List.take_succ_eq_append_getElem h, List.all_append, ha]
  simp [List.getD_eq_getElem?_getD, List.getElem?_eq_getElem h] at hg
  simp [hg]
theorem all_bad (ks : List ByteArray) (k : Nat) (h : k < ks.length) (hg : gkb (ks.getD k ByteArray.empty) = false) : ks.all gkb = false := by
  rw [List.all_eq_false]
  refine ⟨ks[k], List.getElem_mem _, ?_⟩
  simp [List.getD_eq_getElem?_getD, List.getElem?_eq_getElem h] at hg
  simp [hg]
theorem all_whole (ks : List ByteArray) (k : Nat) (hk : k ≤ ks.length) (h : ¬ k < ks.length) (ha : (ks.take k).all gkb = true) : ks.all gkb = true := by
  rw [List.take_of_length_le (by omega)] at ha
  exact ha
end GoodCmd
end Go.Proofs.YthlcmnjaimffdaaGreatDoor
/-
  The plain function by which both GoodCmd answer: of a kind, the keys and the other fields. No Go function is spoken of here.
-/
namespace Go.Proofs.YthlcmnjaimffdaaGreatDoor
namespace GoodCmd
open Go.RowKit Base GoodKey Kind

def numB (named : Bool) (n : Int) : Bool := decide (n = 0) || (named && decide (0 < n) && decide (n ≤ 1000000000))
def datB (bd : Bool) (dt : ByteArray) : Bool := decide (dt.size = 0) || (bd && decide (dt.size ≤ 100))
def formB (lo hi : Int) (bf bx bd bn bq : Bool) (ks : List ByteArray) (f x n : Int) (dt : ByteArray) (q : Bool) : Bool :=
  (inB ks.length lo hi && ks.all gkb) && numB bf f && numB bx x && numB bn n && datB bd dt && (!q || bq)
def gcB (k : Int) (ks : List ByteArray) (f x n : Int) (dt : ByteArray) (q : Bool) : Bool :=
  if k = 1 then formB 1 10 false false false false false ks f x n dt q else
  if k = 2 then formB 1 1 true true true false true ks f x n dt q else
  if k = 3 then formB 1 1 true true true true true ks f x n dt q else
  if k = 4 then formB 1 1 false false false true true ks f x n dt q else
  if k = 5 then formB 1 1 false true false false true ks f x n dt q else
  if k = 6 then formB 1 1 false false false false true ks f x n dt q else
  if k = 7 then formB 0 0 false false false false false ks f x n dt q else false

theorem gcB_bad (k : Int) (ks : List ByteArray) (f x n : Int) (dt : ByteArray) (q : Bool) (h : ks.all gkb = false) : gcB k ks f x n dt q = false := by
  unfold gcB formB
  rw [h]
  simp
theorem dat_empty (dt : ByteArray) : dt.toList.isEmpty = decide (dt.size = 0) := by
  rw [Lib.toList_data]
  have e : dt.data.toList.length = dt.size := by simp
  rw [← e]
  cases dt.data.toList with
  | nil => rfl
  | cons a l => rfl
theorem dat_nil (dt : ByteArray) : dt.toList = [] ↔ dt.size = 0 := by
  have := dat_empty dt
  rw [Bool.eq_iff_iff] at this
  simpa [List.isEmpty_iff] using this

variable {lo hi : Int} {bf bx bd bn bq : Bool} {ks : List ByteArray} {f x n : Int} {dt : ByteArray} {q : Bool}
theorem num_no {b : Bool} {z : Int} (h : ¬ inB z 0 1000000000 = true) : numB b z = false := by
  unfold inB at h
  unfold numB
  simp only [Bool.and_eq_true, decide_eq_true_eq] at h
  cases b
  · simp; omega
  · simp; omega
theorem num_yes {z : Int} (h : inB z 0 1000000000 = true) : numB true z = true := by
  unfold inB at h
  unfold numB
  simp only [Bool.and_eq_true, decide_eq_true_eq] at h
  simp; omega
theorem num_zero {b : Bool} {z : Int} (h : z = 0) : numB b z = true := by subst h; simp [numB]
theorem num_not0 {z : Int} (h : ¬ z = 0) : numB false z = false := by simp [numB, h]
theorem dat_no {b : Bool} (h : 100 < (dt.size : Int)) : datB b dt = false := by
  unfold datB
  rw [decide_eq_false (show ¬ dt.size = 0 by omega), decide_eq_false (show ¬ dt.size ≤ 100 by omega)]
  simp
theorem dat_yes (h : (dt.size : Int) ≤ 100) : datB true dt = true := by
  unfold datB
  simp; omega
theorem dat_zero {b : Bool} (h : dt.toList = []) : datB b dt = true := by simp [datB, (dat_nil dt).1 h]
theorem dat_not0 (h : ¬ dt.toList = []) : datB false dt = false := by
  have : ¬ dt.size = 0 := fun e => h ((dat_nil dt).2 e)
  simp [datB, this]
theorem form_g (h : (inB ks.length lo hi && ks.all gkb) = false) : false = formB lo hi bf bx bd bn bq ks f x n dt q := by simp only [formB, h, Bool.false_and]
theorem form_fin (h : (inB ks.length lo hi && ks.all gkb) = true) (h1 : numB bf f = true) (h2 : numB bx x = true) (h3 : numB bn n = true) (h4 : datB bd dt = true) : formB lo hi bf bx bd bn bq ks f x n dt q = (!q || bq) := by
  simp only [formB, h, h1, h2, h3, h4, Bool.true_and]
theorem dat_non (h : ¬ dt.toList = []) (hb : ¬ bd = true) : datB bd dt = false := by
  rw [Bool.eq_false_iff.2 hb]; exact dat_not0 h
theorem dat_big (hb : bd = true) (h : (dt.size : Int) ≤ 100) : datB bd dt = true := by rw [hb]; exact dat_yes h
theorem form_f (h : numB bf f = false) : false = formB lo hi bf bx bd bn bq ks f x n dt q := by simp [formB, h]
theorem form_x (h : numB bx x = false) : false = formB lo hi bf bx bd bn bq ks f x n dt q := by simp [formB, h]
theorem form_n (h : numB bn n = false) : false = formB lo hi bf bx bd bn bq ks f x n dt q := by simp [formB, h]
theorem form_d (h : datB bd dt = false) : false = formB lo hi bf bx bd bn bq ks f x n dt q := by simp [formB, h]
theorem form_q (hq : q = true) (hb : bq = false) : false = formB lo hi bf bx bd bn bq ks f x n dt q := by simp [formB, hq, hb]
theorem form_end (ha : ks.all gkb = true) (h1 : numB bf f = true) (h2 : numB bx x = true) (h3 : numB bn n = true) (h4 : datB bd dt = true) : formB lo hi bf bx bd bn bq ks f x n dt q = (inB ks.length lo hi && (!q || bq)) := by
  simp [formB, ha, h1, h2, h3, h4]
theorem ne_of {z : Int} (h : (z != 0) = true) : ¬ z = 0 := by simpa using h
theorem eq_of {z : Int} (h : (z != 0) = false) : z = 0 := by simpa using h
theorem gcB0 : gcB 0 ks f x n dt q = false := rfl
theorem gcB1 : gcB 1 ks f x n dt q = formB 1 10 false false false false false ks f x n dt q := rfl
theorem gcB2 : gcB 2 ks f x n dt q = formB 1 1 true true true false true ks f x n dt q := rfl
theorem gcB3 : gcB 3 ks f x n dt q = formB 1 1 true true true true true ks f x n dt q := rfl
theorem gcB4 : gcB 4 ks f x n dt q = formB 1 1 false false false true true ks f x n dt q := rfl
theorem gcB5 : gcB 5 ks f x n dt q = formB 1 1 false true false false true ks f x n dt q := rfl
theorem gcB6 : gcB 6 ks f x n dt q = formB 1 1 false false false false true ks f x n dt q := rfl
theorem gcB7 : gcB 7 ks f x n dt q = formB 0 0 false false false false false ks f x n dt q := rfl
theorem one_len (l : List ByteArray) : ((l.length : Int) == 1) = inB l.length 1 1 := by
  rw [Bool.eq_iff_iff]
  simp only [inB, beq_iff_eq, Bool.and_eq_true, decide_eq_true_eq]
  omega
theorem zero_len (l : List ByteArray) : ((l.length : Int) == 0) = inB l.length 0 0 := by
  rw [Bool.eq_iff_iff]
  simp only [inB, beq_iff_eq, Bool.and_eq_true, decide_eq_true_eq]
  omega
end GoodCmd
end Go.Proofs.YthlcmnjaimffdaaGreatDoor
/-
  The contract of the program's goodKeys: so many keys, each good, for every slice of strings that lies in memory.
-/
namespace Go.Proofs.YthlcmnjaimffdaaGreatDoor
namespace KeysI
open Go.RowKit Base GoodKey GoodCmd
set_option linter.unusedVariables false

theorem len_no1 {ks : List ByteArray} {lo hi : Int} (h : (ks.length : Int) < lo) : (inB ks.length lo hi && ks.all gkb) = false := by
  have : inB ks.length lo hi = false := by unfold inB; rw [decide_eq_false (show ¬ lo ≤ (ks.length : Int) by omega)]; rfl
  rw [this]; rfl
theorem len_no2 {ks : List ByteArray} {lo hi : Int} (h : hi < (ks.length : Int)) : (inB ks.length lo hi && ks.all gkb) = false := by
  have : inB ks.length lo hi = false := by unfold inB; rw [decide_eq_false (show ¬ (ks.length : Int) ≤ hi by omega)]; simp
  rw [this]; rfl
theorem len_yes {ks : List ByteArray} {lo hi : Int} (h1 : ¬ (ks.length : Int) < lo) (h2 : ¬ hi < (ks.length : Int)) : (inB ks.length lo hi && ks.all gkb) = ks.all gkb := by
  have : inB ks.length lo hi = true := by unfold inB; rw [decide_eq_true (show lo ≤ (ks.length : Int) by omega), decide_eq_true (show (ks.length : Int) ≤ hi by omega)]; rfl
  rw [this]; rfl

set_option maxRecDepth 10000 in
set_option maxHeartbeats 1000000 in
theorem keys_any (b off cap : Nat) (ks : List ByteArray) (lo hi : Int) (w : World) (hb : b < w.heap.size)
    (hc : ∀ i, i < ks.length → w.cell? ⟨b, off + i, none⟩ = some (.string (ks.getD i ByteArray.empty))) (hl : ks.length ≤ maxLen) (hs : ∀ s ∈ ks, s.size ≤ maxLen) :
    Calls Tryz.prog 50 #[.slice (some ⟨b, off, none⟩) ks.length cap, .int .i64 lo, .int .i64 hi] w fun e w' =>
      e = .returned (.bool (inB ks.length lo hi && ks.all gkb)) ∧ Below w.heap.size w w' := by
  unfold maxLen at hl
  by_cases g1 : (ks.length : Int) < lo
  · have H := hide (len_no1 (hi := hi) g1)
    go_enter Tryz.func50, Tryz.ntmps50
    go_wp2
    go_ret
    exact ⟨ret_bool (unhide H).symm, Below.refl _ _⟩
  by_cases g2 : hi < (ks.length : Int)
  · have H := hide (len_no2 (lo := lo) g2)
    go_enter Tryz.func50, Tryz.ntmps50
    go_wp2
    go_ret
    exact ⟨ret_bool (unhide H).symm, Below.refl _ _⟩
  have HL := hide (len_yes g1 g2)
  have hcs := hide hc
  have hss := hide hs
  clear hc hs
  go_enter Tryz.func50, Tryz.ntmps50
  go_wp2
  go_loop [21] (fun i => ∃ k : Nat, k ≤ ks.length ∧ i = .int .i64 k ∧ Hid ((ks.take k).all gkb = true)) (fun i => ks.length - (intOf i).toNat)
  case atStart => exact ⟨0, Nat.zero_le _, rfl, hide rfl⟩
  case round =>
    obtain ⟨k, hk, rfl, ha⟩ := hrel
    by_cases hlt : k < ks.length
    · have hck := unhide hcs k hlt
      have hsk : Hid ((ks.getD k ByteArray.empty).size ≤ maxLen) := unhide hss _ (by rw [List.getD_eq_getElem?_getD, List.getElem?_eq_getElem hlt]; simp)
      have hst := hide (all_step ks k hlt (unhide ha))
      have hbad := hide (all_bad ks k hlt)
      have hgk : ∀ s : ByteArray, Hid (gk s.data.toList = gkb s) := fun s => hide rfl
      generalize ks.getD k ByteArray.empty = s at hck hsk hst hbad
      have hgs := hgk s
      clear hgk
      cases hg : gkb s
      · rw [hg] at hbad hgs
        have H := hide (unhide hbad rfl)
        clear hg hst hbad
        go_wp2_with fail
        refine (GoodKey.impl_any _ _ (unhide hsk)).mono ?_
        rintro e w1 ⟨rfl, rfl⟩
        rw [unhide hgs]
        go_wp2
        go_ret
        exact ⟨ret_bool (by rw [unhide HL]; exact (unhide H).symm), Below.refl _ _⟩
      · rw [hg] at hst hgs
        have H := hide (unhide hst rfl)
        clear hg hst hbad
        go_wp2_with fail
        refine (GoodKey.impl_any _ _ (unhide hsk)).mono ?_
        rintro e w1 ⟨rfl, rfl⟩
        rw [unhide hgs]
        go_wp2
        go_round
        case rel => exact ⟨k + 1, by omega, by go_num, H⟩
        case measure => simp [intOf]; omega
    · have HA := hide (all_whole ks k hk hlt (unhide ha))
      go_wp2
      go_ret
      exact ⟨ret_bool (by rw [unhide HL]; exact (unhide HA).symm), Below.refl _ _⟩

end KeysI
end Go.Proofs.YthlcmnjaimffdaaGreatDoor
/-
  Contracts of the program's goodNumber, goodKeys, formOf and GoodCmd: it answers by the plain function gcB, for every command whose keys lie in memory.
-/
namespace Go.Proofs.YthlcmnjaimffdaaGreatDoor
namespace GoodCmdI
open Go.RowKit Base GoodKey Kind GoodCmd KeysI
set_option linter.unusedVariables false

set_option maxHeartbeats 400000 in
theorem number_any (n : Int) (named : Bool) (w : World) :
    Calls Tryz.prog 51 #[.int .i64 n, .bool named] w fun e w' => e = .returned (.bool (numB named n)) ∧ w' = w := by
  by_cases h0 : n = 0
  · subst h0
    go_enter Tryz.func51, Tryz.ntmps51
    go_wp2
    go_ret
    exact ⟨ret_bool (num_zero rfl).symm, rfl⟩
  have e0 : (n == 0) = false := by simp [h0]
  cases named
  · have H := hide (num_not0 h0)
    clear h0
    go_enter Tryz.func51, Tryz.ntmps51
    go_wp2
    go_ret
    exact ⟨ret_bool (unhide H).symm, rfl⟩
  by_cases h1 : 0 < n
  · have H : Hid (decide (n ≤ 1000000000) = numB true n) := by show decide (n ≤ 1000000000) = numB true n; simp [numB, h0, h1]
    clear h0
    go_enter Tryz.func51, Tryz.ntmps51
    go_wp2
    go_ret
    exact ⟨ret_bool (unhide H), rfl⟩
  · have H : Hid (numB true n = false) := by show numB true n = false; simp [numB, h0]; omega
    clear h0
    go_enter Tryz.func51, Tryz.ntmps51
    go_wp2
    go_ret
    exact ⟨ret_bool (unhide H).symm, rfl⟩

/-- What formOf hands back, a field each. -/
structure Form where
  lo : Int
  hi : Int
  bf : Bool
  bx : Bool
  bd : Bool
  bn : Bool
  bq : Bool
def formN (k : Int) : Form :=
  if k = 1 then ⟨1, 10, false, false, false, false, false⟩ else
  if k = 2 then ⟨1, 1, true, true, true, false, true⟩ else
  if k = 3 then ⟨1, 1, true, true, true, true, true⟩ else
  if k = 4 then ⟨1, 1, false, false, false, true, true⟩ else
  if k = 5 then ⟨1, 1, false, true, false, false, true⟩ else
  if k = 6 then ⟨1, 1, false, false, false, false, true⟩ else ⟨0, 0, false, false, false, false, false⟩
theorem gcB_form (k : Int) (h1 : 1 ≤ k) (h7 : k ≤ 7) (ks : List ByteArray) (f x n : Int) (dt : ByteArray) (q : Bool) :
    gcB k ks f x n dt q = formB (formN k).lo (formN k).hi (formN k).bf (formN k).bx (formN k).bd (formN k).bn (formN k).bq ks f x n dt q := by
  obtain rfl | rfl | rfl | rfl | rfl | rfl | rfl : k = 1 ∨ k = 2 ∨ k = 3 ∨ k = 4 ∨ k = 5 ∨ k = 6 ∨ k = 7 := by omega
  all_goals rfl

set_option maxHeartbeats 1000000 in
theorem form_any (k : Int) (w : World) (h1 : 1 ≤ k) (h7 : k ≤ 7) :
    Calls Tryz.prog 49 #[.int .i64 k] w fun e w' =>
      e = .returned (.agg #[.int .i64 (formN k).lo, .int .i64 (formN k).hi, .bool (formN k).bf, .bool (formN k).bx, .bool (formN k).bd, .bool (formN k).bn, .bool (formN k).bq]) ∧ Below w.heap.size w w' := by
  obtain rfl | rfl | rfl | rfl | rfl | rfl | rfl : k = 1 ∨ k = 2 ∨ k = 3 ∨ k = 4 ∨ k = 5 ∨ k = 6 ∨ k = 7 := by omega
  · go_enter Tryz.func49, Tryz.ntmps49
    go_wp2
    refine bodyPost_ret (v := .agg #[.int .i64 1, .int .i64 10, .bool false, .bool false, .bool false, .bool false, .bool false]) (by simp [results, Tryz.results49, go_sem]) rfl ⟨rfl, bel2 w _ _⟩
  · go_enter Tryz.func49, Tryz.ntmps49
    go_wp2
    refine bodyPost_ret (v := .agg #[.int .i64 1, .int .i64 1, .bool true, .bool true, .bool true, .bool false, .bool true]) (by simp [results, Tryz.results49, go_sem]) rfl ⟨rfl, bel2 w _ _⟩
  · go_enter Tryz.func49, Tryz.ntmps49
    go_wp2
    refine bodyPost_ret (v := .agg #[.int .i64 1, .int .i64 1, .bool true, .bool true, .bool true, .bool true, .bool true]) (by simp [results, Tryz.results49, go_sem]) rfl ⟨rfl, bel2 w _ _⟩
  · go_enter Tryz.func49, Tryz.ntmps49
    go_wp2
    refine bodyPost_ret (v := .agg #[.int .i64 1, .int .i64 1, .bool false, .bool false, .bool false, .bool true, .bool true]) (by simp [results, Tryz.results49, go_sem]) rfl ⟨rfl, bel2 w _ _⟩
  · go_enter Tryz.func49, Tryz.ntmps49
    go_wp2
    refine bodyPost_ret (v := .agg #[.int .i64 1, .int .i64 1, .bool false, .bool true, .bool false, .bool false, .bool true]) (by simp [results, Tryz.results49, go_sem]) rfl ⟨rfl, bel2 w _ _⟩
  · go_enter Tryz.func49, Tryz.ntmps49
    go_wp2
    refine bodyPost_ret (v := .agg #[.int .i64 1, .int .i64 1, .bool false, .bool false, .bool false, .bool false, .bool true]) (by simp [results, Tryz.results49, go_sem]) rfl ⟨rfl, bel2 w _ _⟩
  · go_enter Tryz.func49, Tryz.ntmps49
    go_wp2
    refine bodyPost_ret (v := .agg #[.int .i64 0, .int .i64 0, .bool false, .bool false, .bool false, .bool false, .bool false]) (by simp [results, Tryz.results49, go_sem]) rfl ⟨rfl, bel2 w _ _⟩
end GoodCmdI
end Go.Proofs.YthlcmnjaimffdaaGreatDoor
/-
  The contract of the program's GoodCmd: it answers by the plain function gcB, for every command whose keys lie in memory.
-/
namespace Go.Proofs.YthlcmnjaimffdaaGreatDoor
namespace GoodCmdI
open Go.RowKit Base GoodKey Kind GoodCmd
set_option linter.unusedVariables false

set_option maxHeartbeats 4000000 in
theorem impl_any (nm : ByteArray) (b off cap : Nat) (ks : List ByteArray) (f x n : Int) (dt : ByteArray) (q : Bool) (w : World) (hb : b < w.heap.size)
    (hc : ∀ i, i < ks.length → w.cell? ⟨b, off + i, none⟩ = some (.string (ks.getD i ByteArray.empty)))
    (hl : ks.length ≤ maxLen) (hs : ∀ s ∈ ks, s.size ≤ maxLen) (hd : dt.size ≤ maxLen) :
    Calls Tryz.prog 25 #[.agg #[.string nm, .slice (some ⟨b, off, none⟩) ks.length cap, .int .i64 f, .int .i64 x, .int .i64 n, .string dt, .bool q]] w fun e w' =>
      e = .returned (.bool (gcB (kindN nm.toList) ks f x n dt q)) ∧ Below w.heap.size w w' := by
  have hk := kindN_bd nm.toList
  generalize hK : kindN nm.toList = K at hk ⊢
  by_cases hk0 : K = 0
  · subst hk0
    have HK := hide hK
    clear hK hk
    go_enter Tryz.func25, Tryz.ntmps25
    go_wp2_with fail
    refine (Kind.impl_any _ _).mono ?_
    rintro e w1 ⟨rfl, rfl⟩
    rw [unhide HK]
    go_wp2
    go_ret
    exact ⟨rfl, bel1 w _⟩
  have hkb : (K == 0) = false := by simp [hk0]
  have h1 : 1 ≤ K := by omega
  have h7 : K ≤ 7 := hk.2
  have hfc := fun w => form_any K w h1 h7
  have hgc := gcB_form K h1 h7 ks f x n dt q
  generalize formN K = F at hfc hgc
  obtain ⟨lo, hi, bf, bx, bd, bn, bq⟩ := F
  dsimp only at hfc hgc
  have HF := hide hfc
  have HG := hide hgc
  have HK := hide hK
  have HC := hide hc
  have HS := hide hs
  have HL := hide hl
  unfold maxLen at hl hd
  clear hfc hgc hK hc hs hk0 hk
  cases hg : (inB ks.length lo hi && ks.all gkb)
  all_goals
    have Hg := hide hg
    clear hg
    go_enter Tryz.func25, Tryz.ntmps25
    go_wp2_with fail
    refine (Kind.impl_any _ _).mono ?_
    rintro e w1 ⟨rfl, rfl⟩
    rw [unhide HK]
    go_wp2_with fail
    refine (unhide HF _).mono ?_
    rintro e w2 ⟨rfl, hb2⟩
    have hB2 : Hid (Below w.heap.size w w2) := (bel1 w _).trans (hb2.mono (by simp))
    obtain ⟨hc2, hf2⟩ := bcell hb2 (Nat.le_refl _)
    have hz2 : w.heap.size < w2.heap.size := by have := hb2.size; simp at this; omega
    clear hb2
    go_wp2_with fail
    refine (KeysI.keys_any b off cap ks lo hi _ ?_ ?_ (unhide HL) (unhide HS)).mono ?_
    · have := (unhide hB2).size; simp; omega
    · intro i hlt
      rw [((unhide hB2).alloc (by omega) _).cell (p := ⟨b, off + i, none⟩) hb]
      exact unhide HC i hlt
    rintro e w3 ⟨rfl, hb3⟩
    have hB3 : Hid (Below w.heap.size w w3) := ((unhide hB2).alloc (by omega) _).trans (hb3.mono (by simp; omega))
    obtain ⟨hc3, hf3⟩ := bcell hb3 (Nat.le_refl _)
    have hz3 : w2.heap.size < w3.heap.size := by have := hb3.size; simp at this; omega
    clear hb3
    rw [unhide Hg]
  · go_wp2
    go_ret
    exact ⟨ret_bool (by rw [unhide HG]; exact form_g (unhide Hg)), unhide hB3⟩
  · go_wp2_with (go_at_call 51; refine (number_any _ _ _).mono ?_; rintro e w4 ⟨rfl, rfl⟩)
    all_goals
      go_ret
      refine ⟨ret_bool ?_, unhide hB3⟩
      rw [unhide HG]
      first
        | exact form_f (Bool.eq_false_iff.2 ‹_›)
        | exact form_x (Bool.eq_false_iff.2 ‹_›)
        | exact form_n (Bool.eq_false_iff.2 ‹_›)
        | exact form_d (dat_non ‹_› ‹_›)
        | skip
    · rw [form_fin (unhide Hg) ‹numB bf f = true› ‹numB bx x = true› ‹numB bn n = true› (dat_zero ‹dt.toList = []›), ‹q = true›]; rfl
    · rw [form_fin (unhide Hg) ‹numB bf f = true› ‹numB bx x = true› ‹numB bn n = true› (dat_zero ‹dt.toList = []›), Bool.eq_false_iff.2 ‹¬ q = true›]; rfl
    · rw [form_fin (unhide Hg) ‹numB bf f = true› ‹numB bx x = true› ‹numB bn n = true› (dat_big ‹bd = true› ‹(dt.size : Int) ≤ 100›), ‹q = true›]; rfl
    · rw [form_fin (unhide Hg) ‹numB bf f = true› ‹numB bx x = true› ‹numB bn n = true› (dat_big ‹bd = true› ‹(dt.size : Int) ≤ 100›), Bool.eq_false_iff.2 ‹¬ q = true›]; rfl
    · exact form_d (dat_no (by omega))
end GoodCmdI
end Go.Proofs.YthlcmnjaimffdaaGreatDoor
