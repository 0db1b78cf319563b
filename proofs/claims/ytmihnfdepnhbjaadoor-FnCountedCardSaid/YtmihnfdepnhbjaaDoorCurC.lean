/-
  The model's DrawCountText: some text, some number in bounds, up or down.
-/
import Derived.Test.YtmihnfdepnhbjaaDoorCur
namespace Go.Proofs.YtmihnfdepnhbjaaDoor
namespace Cur
open Go.RowKit Base Marks
set_option linter.unusedVariables false

def ten : List ByteArray := [⟨#[48]⟩, ⟨#[55]⟩, ⟨#[49, 48]⟩, ⟨#[48, 48, 55]⟩, ⟨#[]⟩, ⟨#[120]⟩, ⟨#[57, 57, 57, 57, 57, 57, 57, 57, 57, 57, 57, 57, 57, 57, 57, 57, 57, 57]⟩, ⟨#[57, 57, 57, 57, 57, 57, 57, 57, 56, 57, 57, 57, 57, 57, 57, 57, 57, 57]⟩, ⟨#[49, 48, 48, 48, 48, 48, 48, 48, 48, 48, 48, 48, 48, 48, 48, 48, 48, 48, 48]⟩, ⟨#[45, 49]⟩]
theorem ten_size (i : Nat) (h : i < 10) : (ten.getD i ByteArray.empty).size ≤ 100 := by
  obtain rfl | rfl | rfl | rfl | rfl | rfl | rfl | rfl | rfl | rfl : i = 0 ∨ i = 1 ∨ i = 2 ∨ i = 3 ∨ i = 4 ∨ i = 5 ∨ i = 6 ∨ i = 7 ∨ i = 8 ∨ i = 9 := by omega
  all_goals decide
theorem cells10 (w : World) (t : TypeId) (i : Nat) (h : i < 10) : (w.alloc (.cells #[.string ⟨#[48]⟩, .string ⟨#[55]⟩, .string ⟨#[49, 48]⟩, .string ⟨#[48, 48, 55]⟩, .string ⟨#[]⟩, .string ⟨#[120]⟩, .string ⟨#[57, 57, 57, 57, 57, 57, 57, 57, 57, 57, 57, 57, 57, 57, 57, 57, 57, 57]⟩, .string ⟨#[57, 57, 57, 57, 57, 57, 57, 57, 56, 57, 57, 57, 57, 57, 57, 57, 57, 57]⟩, .string ⟨#[49, 48, 48, 48, 48, 48, 48, 48, 48, 48, 48, 48, 48, 48, 48, 48, 48, 48, 48]⟩, .string ⟨#[45, 49]⟩] t)).cell? ⟨w.heap.size, i, none⟩ = some (.string (ten.getD i ByteArray.empty)) := by
  rw [World.cell?_alloc_new]
  obtain rfl | rfl | rfl | rfl | rfl | rfl | rfl | rfl | rfl | rfl : i = 0 ∨ i = 1 ∨ i = 2 ∨ i = 3 ∨ i = 4 ∨ i = 5 ∨ i = 6 ∨ i = 7 ∨ i = 8 ∨ i = 9 := by omega
  all_goals rfl
theorem Cu.new (w : World) (t : TypeId) (a : Option Addr) (n cap : Nat) : Cu w (w.alloc (.cells #[.slice a n cap, .int .i64 0, .int .u64 0] t)) w.heap.size a n cap 0 := by
  refine ⟨⟨0, 0, ?_, ?_, ?_, Nat.le_refl _⟩, fun o => by simp, by simp, Nat.le_refl _, (Below.refl _ _).alloc (Nat.le_refl _) _⟩
  all_goals rw [World.cell?_alloc_new]; rfl

set_option maxRecDepth 10000 in
set_option maxHeartbeats 1000000 in
theorem drawCount_any (a : Option Addr) (n cap : Nat) (z : Nat → Int) (w : World) (hz : BAt w a n z) (hn : n ≤ 1048576) :
    Calls Tryd.prog 4 #[.slice a n cap] w fun e w' => ∃ (s : ByteArray) (v : Int) (b : Bool), e = .returned (.tuple #[.string s, .int .i64 v, .bool b]) ∧ s.size ≤ 100 ∧ (-1 ≤ v ∧ v ≤ 1000000001) ∧ Below w.heap.size w w' := by
  have HO := hide (fun w' lb h h1 h2 hc => of_any w w' w.heap.size a n cap 0 lb 10 ten z hz hn (by omega) h (by decide) h1 h2 hc)
  have HNM := hide (fun w' h => number_any w w' w.heap.size a n cap 1 z hz hn (by omega) h)
  have H1 := hide (fun w' h => one_any w w' w.heap.size a n cap 3 2 z hz hn (by omega) h (by omega))
  clear hz
  go_enter Tryd.func4, Tryd.ntmps4
  go_wp2_with fail
  refine (unhide HO _ (w.heap.size + 1) ((Cu.new w _ a n cap).alloc _) (by simp) (by omega) (fun i hi => ?_)).mono ?_
  · have := cells10 (w.alloc (.cells #[.slice a n cap, .int .i64 0, .int .u64 0] 31)) 9 i hi
    rw [World.size_alloc] at this
    exact this
  rintro e w2 ⟨i, rfl, hi, hcu, hgb⟩
  have hts := ten_size i hi
  have HC2 := hide hcu
  clear hcu hgb hi
  generalize ten.getD i ByteArray.empty = s at hts ⊢
  go_wp2_with fail
  refine (unhide HNM _ (unhide HC2)).mono ?_
  rintro e w3 ⟨v, rfl, hv, hcu, hgb⟩
  have HC3 := hide hcu
  clear hcu hgb
  go_wp2_with fail
  refine (unhide H1 _ (unhide HC3)).mono ?_
  rintro e w4 ⟨b, rfl, hcu, hgb⟩
  have HB4 := hide hcu.bel
  clear hcu hgb
  go_wp2
  refine bodyPost_ret (v := .tuple #[.string s, .int .i64 v, .bool b]) (by simp [results, Tryd.results4, go_sem]) rfl ⟨s, v, b, rfl, hts, hv, unhide HB4⟩
end Cur
end Go.Proofs.YtmihnfdepnhbjaaDoor
