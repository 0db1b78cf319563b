/-
  The model's l2Value: an item as it is told.
-/
import Derived.Test.YtghckjmpcokhcaaDoorValP
import Derived.Test.YtghckjmpcokhcaaDoorNumText
import Derived.Lib.QuietBelow
import Derived.BigQuiet
import Derived.Outline
namespace Go.Proofs.YtghckjmpcokhcaaDoor
namespace Shelf
open Go.RowKit Base Items Store GoodKey NumText
set_option linter.unusedVariables false

set_option maxRecDepth 10000 in
set_option maxHeartbeats 1000000 in
theorem l2Value_gen (x : Itm) (token : Bool) (w : World) (hx : Small x) (h1 : 0 ≤ x.flags ∧ x.flags ≤ 1000000000) (h2 : token = true → 0 ≤ x.token ∧ x.token ≤ 1000000000) :
    Calls Tryd.prog 31 #[.agg #[.string x.key, .int .i64 x.flags, .string x.data, .int .i64 x.upto, .int .i64 x.token], .bool token] w fun e w' => e = .returned (.string (valueR x token)) ∧ Below w.heap.size w w' := by
  obtain ⟨hk, hd⟩ := hx
  have hbel : ∀ d os, Below w.heap.size w (Go.Sort.grow (redrawn (w.alloc (.cells #[.string x.key, .int .i64 x.flags, .string x.data, .int .i64 x.upto, .int .i64 x.token] 32)) d) os) := fun d os => (bel1 w _).trans ((below_regrown _ d os).mono (by simp))
  obtain ⟨T, HTT⟩ : ∃ T : Int → ByteArray, Hid (∀ n, T n = txt n.toNat) := ⟨fun n => txt n.toNat, fun _ => rfl⟩
  have cI : ∀ (n : Int), 0 ≤ n → n ≤ 1000000000 → ∀ d os, Calls Tryd.prog 39 #[.int .i64 n] (Go.Sort.grow (redrawn (w.alloc (.cells #[.string x.key, .int .i64 x.flags, .string x.data, .int .i64 x.upto, .int .i64 x.token] 32)) d) os) fun e w' => e = .returned (.string (T n)) ∧ ∃ p : Regrown, w' = Go.Sort.grow (redrawn (w.alloc (.cells #[.string x.key, .int .i64 x.flags, .string x.data, .int .i64 x.upto, .int .i64 x.token] 32)) p.1) p.2 := fun n h0 hn d os => by
    rw [unhide HTT n]
    exact Calls.regrown_of (num_any n _ h0 (by omega))
  have s1 : (T x.flags).size ≤ 20 := by rw [unhide HTT]; exact txt_le x.flags.toNat (by omega)
  have s2 : (T (x.data.size : Int)).size ≤ 20 := by rw [unhide HTT]; exact txt_le _ (by omega)
  have s3 : token = true → (T x.token).size ≤ 20 := fun h => by rw [unhide HTT]; exact txt_le x.token.toNat (by have := h2 h; omega)
  have hi3 : Hid (token = true → ∀ w' : World, Calls Tryd.prog 39 #[.int .i64 x.token] w' fun e w'' => e = .returned (.string (T x.token)) ∧ Below w'.heap.size w' w'') := fun ht w' => by rw [unhide HTT]; exact num_any x.token w' (h2 ht).1 (by have := h2 ht; omega)
  clear h2
  have hf1 := h1.1
  have hf2 := h1.2
  have hds : (0 : Int) ≤ (x.data.size : Int) := by omega
  have hds2 : (x.data.size : Int) ≤ 1000000000 := by omega
  have HR : Hid (∀ t, t = valueR x token → Ending.returned (.string t) = .returned (.string (valueR x token))) := fun t h => by rw [h]
  obtain ⟨k0, k1, k2, k3, k4⟩ := bx5' w 32 (.string x.key) (.int .i64 x.flags) (.string x.data) (.int .i64 x.upto) (.int .i64 x.token)
  have p0 := cell_regrown k0
  have p1 := cell_regrown k1
  have p2 := cell_regrown k2
  have hmix : Tryd.prog.follows .mixedOrders = true := by kernel_rfl
  have HT : Hid (T x.flags = txt x.flags.toNat ∧ T (x.data.size : Int) = txt x.data.size ∧ T x.token = txt x.token.toNat) := ⟨unhide HTT _, unhide HTT _, unhide HTT _⟩
  have n1 : ¬ 9223372036854775807 < 6 + x.key.size := by omega
  have n2 : ¬ 9223372036854775807 < 6 + x.key.size + 1 := by omega
  have n3 : ¬ 9223372036854775807 < 6 + x.key.size + 1 + (T x.flags).size := by omega
  have n4 : ¬ 9223372036854775807 < 6 + x.key.size + 1 + (T x.flags).size + 1 := by omega
  have n5 : ¬ 9223372036854775807 < 6 + x.key.size + 1 + (T x.flags).size + 1 + (T (x.data.size : Int)).size := by omega
  go_enter Tryd.func31, Tryd.ntmps31
  go_wp2_with fail
  refine wp_region_quiet_below hmix (by kernel_rfl) ?_
  repeat (quiet_step (refine cI _ ?_ ?_ _ _ <;> assumption))
  refine wpQuiet_nil ?_
  intro _ hw'
  obtain ⟨⟨dq, osq⟩, hw''⟩ := hw'
  subst hw''
  have hbw := hide (hbel dq osq)
  have q2 := p2 dq osq
  have q4 := cell_regrown k4 dq osq
  generalize (Go.Sort.grow (redrawn (w.alloc (.cells #[.string x.key, .int .i64 x.flags, .string x.data, .int .i64 x.upto, .int .i64 x.token] 32)) dq) osq) = wc at hbw q2 q4 ⊢
  clear p0 p1 p2 cI k0 k1 k2 k3 k4 hbel
  have hls : (({ data := #[86, 65, 76, 85, 69, 32] } : ByteArray) ++ x.key ++ { data := #[32] } ++ (T x.flags) ++ { data := #[32] } ++ (T (x.data.size : Int))).size = 6 + x.key.size + 1 + (T x.flags).size + 1 + (T (x.data.size : Int)).size := by simp [ByteArray.size_append]; rfl
  generalize hl : (({ data := #[86, 65, 76, 85, 69, 32] } : ByteArray) ++ x.key ++ { data := #[32] } ++ (T x.flags) ++ { data := #[32] } ++ (T (x.data.size : Int))) = l at hls ⊢
  have HL := hide hl
  clear hl
  have m1 : ¬ 9223372036854775807 < l.size + 2 := by omega
  have m2 : ¬ 9223372036854775807 < l.size + 2 + x.data.size := by omega
  have m3 : ¬ 9223372036854775807 < l.size + 2 + x.data.size + 2 := by omega
  cases token
  · go_wp2
    refine bodyPost_ret (v := .string (l ++ endS ++ x.data ++ endS)) (by simp [results, Tryd.results31, go_sem, endS]; done) rfl ⟨unhide HR _ ?_, unhide hbw⟩
    obtain ⟨e1, e2, e3⟩ := unhide HT
    unfold valueR lineR
    rw [← e1, ← e2]
    exact congrArg (fun b => b ++ endS ++ x.data ++ endS) (unhide HL).symm
  · have s3 := s3 rfl
    have hi4 := hide (unhide hi3 rfl)
    clear hi3
    have m4 : ¬ 9223372036854775807 < 1 + (T x.token).size := by omega
    have m5 : ¬ 9223372036854775807 < l.size + (1 + (T x.token).size) := by omega
    go_wp2_with fail
    refine (unhide hi4 _).mono ?_
    rintro _ wd ⟨rfl, hbd⟩
    have q5 : wd.cell? ⟨w.heap.size, 2, none⟩ = some (.string x.data) := by rw [hbd.cell (block_lt_of_cell q2)]; exact q2
    have HBD := hide (Below.trans (unhide hbw) (hbd.mono (unhide hbw).size))
    clear hbd q2 q4
    have hls2 : (l ++ (({ data := #[32] } : ByteArray) ++ (T x.token))).size = l.size + (1 + (T x.token).size) := by simp [ByteArray.size_append]; rfl
    have m6 : ¬ 9223372036854775807 < l.size + (1 + (T x.token).size) + 2 := by omega
    have m7 : ¬ 9223372036854775807 < l.size + (1 + (T x.token).size) + 2 + x.data.size := by omega
    have m8 : ¬ 9223372036854775807 < l.size + (1 + (T x.token).size) + 2 + x.data.size + 2 := by omega
    go_wp2
    refine bodyPost_ret (v := .string (l ++ (blankS ++ (T x.token)) ++ endS ++ x.data ++ endS)) (by simp [results, Tryd.results31, go_sem, endS, blankS]; done) rfl ⟨unhide HR _ ?_, unhide HBD⟩
    obtain ⟨e1, e2, e3⟩ := unhide HT
    unfold valueR lineR
    rw [← e1, ← e2, ← e3]
    exact congrArg (fun b => b ++ (blankS ++ (T x.token)) ++ endS ++ x.data ++ endS) (unhide HL).symm
end Shelf
end Go.Proofs.YtghckjmpcokhcaaDoor
