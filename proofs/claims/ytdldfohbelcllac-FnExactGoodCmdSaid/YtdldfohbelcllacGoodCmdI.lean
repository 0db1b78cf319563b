/-
  Contracts of the program's goodNumber, goodKeys, formOf and GoodCmd: it answers by the plain function gcB, for every command whose keys lie in memory.
-/
import Derived.Test.YtdldfohbelcllacGoodCmdP
import Derived.Test.YtdldfohbelcllacGoodKeyC
import Derived.Test.YtdldfohbelcllacKind
namespace Go.Proofs.Ytdldfohbelcllac
namespace GoodCmdI
open Go.RowKit Base GoodKey Kind GoodCmd
set_option linter.unusedVariables false

theorem len_no1 {ks : List ByteArray} {lo hi : Int} (h : (ks.length : Int) < lo) : (inB ks.length lo hi && ks.all gkb) = false := by
  have : inB ks.length lo hi = false := by unfold inB; rw [decide_eq_false (show ¬ lo ≤ (ks.length : Int) by omega)]; rfl
  rw [this]; rfl
theorem len_no2 {ks : List ByteArray} {lo hi : Int} (h : hi < (ks.length : Int)) : (inB ks.length lo hi && ks.all gkb) = false := by
  have : inB ks.length lo hi = false := by unfold inB; rw [decide_eq_false (show ¬ (ks.length : Int) ≤ hi by omega)]; simp
  rw [this]; rfl
theorem len_yes {ks : List ByteArray} {lo hi : Int} (h1 : ¬ (ks.length : Int) < lo) (h2 : ¬ hi < (ks.length : Int)) : (inB ks.length lo hi && ks.all gkb) = ks.all gkb := by
  have : inB ks.length lo hi = true := by unfold inB; rw [decide_eq_true (show lo ≤ (ks.length : Int) by omega), decide_eq_true (show (ks.length : Int) ≤ hi by omega)]; rfl
  rw [this]; rfl

set_option maxHeartbeats 400000 in
theorem number_any (n : Int) (named : Bool) (w : World) :
    Calls Try.prog 27 #[.int .i64 n, .bool named] w fun e w' => e = .returned (.bool (numB named n)) ∧ w' = w := by
  by_cases h0 : n = 0
  · subst h0
    go_enter Try.func27, Try.ntmps27
    go_wp2
    go_ret
    exact ⟨ret_bool (num_zero rfl).symm, rfl⟩
  have e0 : (n == 0) = false := by simp [h0]
  cases named
  · have H := hide (num_not0 h0)
    clear h0
    go_enter Try.func27, Try.ntmps27
    go_wp2
    go_ret
    exact ⟨ret_bool (unhide H).symm, rfl⟩
  by_cases h1 : 0 < n
  · have H : Hid (decide (n ≤ 1000000000) = numB true n) := by show decide (n ≤ 1000000000) = numB true n; simp [numB, h0, h1]
    clear h0
    go_enter Try.func27, Try.ntmps27
    go_wp2
    go_ret
    exact ⟨ret_bool (unhide H), rfl⟩
  · have H : Hid (numB true n = false) := by show numB true n = false; simp [numB, h0]; omega
    clear h0
    go_enter Try.func27, Try.ntmps27
    go_wp2
    go_ret
    exact ⟨ret_bool (unhide H).symm, rfl⟩

set_option maxHeartbeats 400000 in
theorem keys_any (b off cap : Nat) (ks : List ByteArray) (lo hi : Int) (bf bx bd bn bq : Bool) (w : World) (hb : b < w.heap.size)
    (hc : ∀ i, i < ks.length → w.cell? ⟨b, off + i, none⟩ = some (.string (ks.getD i ByteArray.empty))) (hl : ks.length ≤ maxLen) (hs : ∀ s ∈ ks, s.size ≤ maxLen) :
    Calls Try.prog 26 #[.slice (some ⟨b, off, none⟩) ks.length cap, .agg #[.int .i64 lo, .int .i64 hi, .bool bf, .bool bx, .bool bd, .bool bn, .bool bq]] w fun e w' =>
      e = .returned (.bool (inB ks.length lo hi && ks.all gkb)) ∧ Below w.heap.size w w' := by
  unfold maxLen at hl
  by_cases g1 : (ks.length : Int) < lo
  · have H := hide (len_no1 (hi := hi) g1)
    go_enter Try.func26, Try.ntmps26
    go_wp2
    go_ret
    exact ⟨ret_bool (unhide H).symm, bel1 w _⟩
  by_cases g2 : hi < (ks.length : Int)
  · have H := hide (len_no2 (lo := lo) g2)
    go_enter Try.func26, Try.ntmps26
    go_wp2
    go_ret
    exact ⟨ret_bool (unhide H).symm, bel1 w _⟩
  have HL := hide (len_yes g1 g2)
  have hcs := hide hc
  have hss := hide hs
  clear hc hs
  go_enter Try.func26, Try.ntmps26
  go_wp2
  go_loop [21] (fun i => ∃ k : Nat, k ≤ ks.length ∧ i = .int .i64 k ∧ Hid ((ks.take k).all gkb = true)) (fun i => ks.length - (intOf i).toNat)
  case atStart => exact ⟨0, Nat.zero_le _, rfl, hide rfl⟩
  case round =>
    obtain ⟨k, hk, rfl, ha⟩ := hrel
    by_cases hlt : k < ks.length
    · have hck := unhide hcs k hlt
      have hsk : Hid ((ks.getD k ByteArray.empty).size ≤ maxLen) := unhide hss _ (by rw [List.getD_eq_getElem?_getD, List.getElem?_eq_getElem hlt]; simp)
      have hst := hide (all_step ks k hlt (unhide ha))
      have hbad := hide (all_bad ks k hlt)
      have hgk : ∀ s : ByteArray, Hid (gk s.data.toList = gkb s) := fun s => hide rfl
      generalize ks.getD k ByteArray.empty = s at hck hsk hst hbad
      have hgs := hgk s
      clear hgk
      cases hg : gkb s
      · rw [hg] at hbad hgs
        have H := hide (unhide hbad rfl)
        clear hg hst hbad
        go_wp2_with fail
        refine (GoodKey.impl_any _ _ (unhide hsk)).mono ?_
        rintro e w1 ⟨rfl, rfl⟩
        rw [unhide hgs]
        go_wp2
        go_ret
        exact ⟨ret_bool (by rw [unhide HL]; exact (unhide H).symm), bel1 w _⟩
      · rw [hg] at hst hgs
        have H := hide (unhide hst rfl)
        clear hg hst hbad
        go_wp2_with fail
        refine (GoodKey.impl_any _ _ (unhide hsk)).mono ?_
        rintro e w1 ⟨rfl, rfl⟩
        rw [unhide hgs]
        go_wp2
        go_round
        case rel => exact ⟨k + 1, by omega, by go_num, H⟩
        case measure => simp [intOf]; omega
    · have HA := hide (all_whole ks k hk hlt (unhide ha))
      go_wp2
      go_ret
      exact ⟨ret_bool (by rw [unhide HL]; exact (unhide HA).symm), bel1 w _⟩

/-- What formOf hands back, a field each. -/
structure Form where
  lo : Int
  hi : Int
  bf : Bool
  bx : Bool
  bd : Bool
  bn : Bool
  bq : Bool
def formN (k : Int) : Form :=
  if k = 1 then ⟨1, 10, false, false, false, false, false⟩ else
  if k = 2 then ⟨1, 1, true, true, true, false, true⟩ else
  if k = 3 then ⟨1, 1, true, true, true, true, true⟩ else
  if k = 4 then ⟨1, 1, false, false, false, true, true⟩ else
  if k = 5 then ⟨1, 1, false, true, false, false, true⟩ else
  if k = 6 then ⟨1, 1, false, false, false, false, true⟩ else ⟨0, 0, false, false, false, false, false⟩
theorem gcB_form (k : Int) (h1 : 1 ≤ k) (h7 : k ≤ 7) (ks : List ByteArray) (f x n : Int) (dt : ByteArray) (q : Bool) :
    gcB k ks f x n dt q = formB (formN k).lo (formN k).hi (formN k).bf (formN k).bx (formN k).bd (formN k).bn (formN k).bq ks f x n dt q := by
  obtain rfl | rfl | rfl | rfl | rfl | rfl | rfl : k = 1 ∨ k = 2 ∨ k = 3 ∨ k = 4 ∨ k = 5 ∨ k = 6 ∨ k = 7 := by omega
  all_goals rfl

set_option maxHeartbeats 1000000 in
theorem form_any (k : Int) (w : World) (h1 : 1 ≤ k) (h7 : k ≤ 7) :
    Calls Try.prog 25 #[.int .i64 k] w fun e w' =>
      e = .returned (.agg #[.int .i64 (formN k).lo, .int .i64 (formN k).hi, .bool (formN k).bf, .bool (formN k).bx, .bool (formN k).bd, .bool (formN k).bn, .bool (formN k).bq]) ∧ Below w.heap.size w w' := by
  obtain rfl | rfl | rfl | rfl | rfl | rfl | rfl : k = 1 ∨ k = 2 ∨ k = 3 ∨ k = 4 ∨ k = 5 ∨ k = 6 ∨ k = 7 := by omega
  · go_enter Try.func25, Try.ntmps25
    go_wp2
    refine bodyPost_ret (v := .agg #[.int .i64 1, .int .i64 10, .bool false, .bool false, .bool false, .bool false, .bool false]) (by simp [results, Try.results25, go_sem]) rfl ⟨rfl, bel2 w _ _⟩
  · go_enter Try.func25, Try.ntmps25
    go_wp2
    refine bodyPost_ret (v := .agg #[.int .i64 1, .int .i64 1, .bool true, .bool true, .bool true, .bool false, .bool true]) (by simp [results, Try.results25, go_sem]) rfl ⟨rfl, bel2 w _ _⟩
  · go_enter Try.func25, Try.ntmps25
    go_wp2
    refine bodyPost_ret (v := .agg #[.int .i64 1, .int .i64 1, .bool true, .bool true, .bool true, .bool true, .bool true]) (by simp [results, Try.results25, go_sem]) rfl ⟨rfl, bel2 w _ _⟩
  · go_enter Try.func25, Try.ntmps25
    go_wp2
    refine bodyPost_ret (v := .agg #[.int .i64 1, .int .i64 1, .bool false, .bool false, .bool false, .bool true, .bool true]) (by simp [results, Try.results25, go_sem]) rfl ⟨rfl, bel2 w _ _⟩
  · go_enter Try.func25, Try.ntmps25
    go_wp2
    refine bodyPost_ret (v := .agg #[.int .i64 1, .int .i64 1, .bool false, .bool true, .bool false, .bool false, .bool true]) (by simp [results, Try.results25, go_sem]) rfl ⟨rfl, bel2 w _ _⟩
  · go_enter Try.func25, Try.ntmps25
    go_wp2
    refine bodyPost_ret (v := .agg #[.int .i64 1, .int .i64 1, .bool false, .bool false, .bool false, .bool false, .bool true]) (by simp [results, Try.results25, go_sem]) rfl ⟨rfl, bel2 w _ _⟩
  · go_enter Try.func25, Try.ntmps25
    go_wp2
    refine bodyPost_ret (v := .agg #[.int .i64 0, .int .i64 0, .bool false, .bool false, .bool false, .bool false, .bool false]) (by simp [results, Try.results25, go_sem]) rfl ⟨rfl, bel2 w _ _⟩
end GoodCmdI
end Go.Proofs.Ytdldfohbelcllac
