/-
  Contracts of the program's goodNumber, goodKeys, formOf and GoodCmd: it answers by the plain function gcB, for every command whose keys lie in memory.
-/
import Derived.Test.YtncmehgjpifinacGoodCmdP
import Derived.Test.YtncmehgjpifinacGoodKeyC
import Derived.Test.YtncmehgjpifinacKind
import Derived.Test.YtncmehgjpifinacKeysI
namespace Go.Proofs.Ytncmehgjpifinac
namespace GoodCmdI
open Go.RowKit Base GoodKey Kind GoodCmd KeysI
set_option linter.unusedVariables false

set_option maxHeartbeats 400000 in
theorem number_any (n : Int) (named : Bool) (w : World) :
    Calls Try.prog 27 #[.int .i64 n, .bool named] w fun e w' => e = .returned (.bool (numB named n)) ∧ w' = w := by
  by_cases h0 : n = 0
  · subst h0
    go_enter Try.func27, Try.ntmps27
    go_wp2
    go_ret
    exact ⟨ret_bool (num_zero rfl).symm, rfl⟩
  have e0 : (n == 0) = false := by simp [h0]
  cases named
  · have H := hide (num_not0 h0)
    clear h0
    go_enter Try.func27, Try.ntmps27
    go_wp2
    go_ret
    exact ⟨ret_bool (unhide H).symm, rfl⟩
  by_cases h1 : 0 < n
  · have H : Hid (decide (n ≤ 1000000000) = numB true n) := by show decide (n ≤ 1000000000) = numB true n; simp [numB, h0, h1]
    clear h0
    go_enter Try.func27, Try.ntmps27
    go_wp2
    go_ret
    exact ⟨ret_bool (unhide H), rfl⟩
  · have H : Hid (numB true n = false) := by show numB true n = false; simp [numB, h0]; omega
    clear h0
    go_enter Try.func27, Try.ntmps27
    go_wp2
    go_ret
    exact ⟨ret_bool (unhide H).symm, rfl⟩

/-- What formOf hands back, a field each. -/
structure Form where
  lo : Int
  hi : Int
  bf : Bool
  bx : Bool
  bd : Bool
  bn : Bool
  bq : Bool
def formN (k : Int) : Form :=
  if k = 1 then ⟨1, 10, false, false, false, false, false⟩ else
  if k = 2 then ⟨1, 1, true, true, true, false, true⟩ else
  if k = 3 then ⟨1, 1, true, true, true, true, true⟩ else
  if k = 4 then ⟨1, 1, false, false, false, true, true⟩ else
  if k = 5 then ⟨1, 1, false, true, false, false, true⟩ else
  if k = 6 then ⟨1, 1, false, false, false, false, true⟩ else ⟨0, 0, false, false, false, false, false⟩
theorem gcB_form (k : Int) (h1 : 1 ≤ k) (h7 : k ≤ 7) (ks : List ByteArray) (f x n : Int) (dt : ByteArray) (q : Bool) :
    gcB k ks f x n dt q = formB (formN k).lo (formN k).hi (formN k).bf (formN k).bx (formN k).bd (formN k).bn (formN k).bq ks f x n dt q := by
  obtain rfl | rfl | rfl | rfl | rfl | rfl | rfl : k = 1 ∨ k = 2 ∨ k = 3 ∨ k = 4 ∨ k = 5 ∨ k = 6 ∨ k = 7 := by omega
  all_goals rfl

set_option maxHeartbeats 1000000 in
theorem form_any (k : Int) (w : World) (h1 : 1 ≤ k) (h7 : k ≤ 7) :
    Calls Try.prog 25 #[.int .i64 k] w fun e w' =>
      e = .returned (.agg #[.int .i64 (formN k).lo, .int .i64 (formN k).hi, .bool (formN k).bf, .bool (formN k).bx, .bool (formN k).bd, .bool (formN k).bn, .bool (formN k).bq]) ∧ Below w.heap.size w w' := by
  obtain rfl | rfl | rfl | rfl | rfl | rfl | rfl : k = 1 ∨ k = 2 ∨ k = 3 ∨ k = 4 ∨ k = 5 ∨ k = 6 ∨ k = 7 := by omega
  · go_enter Try.func25, Try.ntmps25
    go_wp2
    refine bodyPost_ret (v := .agg #[.int .i64 1, .int .i64 10, .bool false, .bool false, .bool false, .bool false, .bool false]) (by simp [results, Try.results25, go_sem]) rfl ⟨rfl, bel2 w _ _⟩
  · go_enter Try.func25, Try.ntmps25
    go_wp2
    refine bodyPost_ret (v := .agg #[.int .i64 1, .int .i64 1, .bool true, .bool true, .bool true, .bool false, .bool true]) (by simp [results, Try.results25, go_sem]) rfl ⟨rfl, bel2 w _ _⟩
  · go_enter Try.func25, Try.ntmps25
    go_wp2
    refine bodyPost_ret (v := .agg #[.int .i64 1, .int .i64 1, .bool true, .bool true, .bool true, .bool true, .bool true]) (by simp [results, Try.results25, go_sem]) rfl ⟨rfl, bel2 w _ _⟩
  · go_enter Try.func25, Try.ntmps25
    go_wp2
    refine bodyPost_ret (v := .agg #[.int .i64 1, .int .i64 1, .bool false, .bool false, .bool false, .bool true, .bool true]) (by simp [results, Try.results25, go_sem]) rfl ⟨rfl, bel2 w _ _⟩
  · go_enter Try.func25, Try.ntmps25
    go_wp2
    refine bodyPost_ret (v := .agg #[.int .i64 1, .int .i64 1, .bool false, .bool true, .bool false, .bool false, .bool true]) (by simp [results, Try.results25, go_sem]) rfl ⟨rfl, bel2 w _ _⟩
  · go_enter Try.func25, Try.ntmps25
    go_wp2
    refine bodyPost_ret (v := .agg #[.int .i64 1, .int .i64 1, .bool false, .bool false, .bool false, .bool false, .bool true]) (by simp [results, Try.results25, go_sem]) rfl ⟨rfl, bel2 w _ _⟩
  · go_enter Try.func25, Try.ntmps25
    go_wp2
    refine bodyPost_ret (v := .agg #[.int .i64 0, .int .i64 0, .bool false, .bool false, .bool false, .bool false, .bool false]) (by simp [results, Try.results25, go_sem]) rfl ⟨rfl, bel2 w _ _⟩
end GoodCmdI
end Go.Proofs.Ytncmehgjpifinac
