/-
  The contract of the model's DropOld, by a plain function of the items, for every store whose items lie in memory.
-/
import Derived.Test.YthlcmnjaimffdaaStoreC
namespace Go.Proofs.Ythlcmnjaimffdaa
namespace Store
open Go.RowKit Base GoodKey Items Own
set_option linter.unusedVariables false

set_option maxHeartbeats 2000000 in
theorem dropOld_some (lim nx : Int) (b off cap : Nat) (its : List Itm) (now : Int) (w : World) (hb : b < w.heap.size) (hc : ∀ i, i < its.length → At w b (off + i * 5) (its.getD i zero)) (hl : its.length ≤ 1048576) (hcap : its.length ≤ cap) (hs : ∀ x ∈ its, Fits x) :
    Calls Try.prog 14 #[.agg #[.int .i64 lim, .int .i64 nx, .slice (some ⟨b, off, none⟩) its.length cap], .int .i64 now] w (DropEnd (dropR lim nx its now) w) := by
  have hgood := fun w' (hb' : Below w.heap.size w w') => spec_some lim nx b off cap its w' (Nat.lt_of_lt_of_le hb hb'.size) (fun i hi => (hc i hi).below hb' hb) (by unfold maxLen; omega) hcap hs
  have hdrop := fun w' (hb' : Below w.heap.size w w') => drop_some lim nx b off cap its now w' (Nat.lt_of_lt_of_le hb hb'.size) (fun i hi => (hc i hi).below hb' hb) hl
  have HD := hide hdrop
  clear hc hs hdrop
  have hno : ∀ (w1 : World), Below w.heap.size w w1 → dropR lim nx its now = ⟨0, 0, [], 0, false⟩ → DropEnd (dropR lim nx its now) w (.returned (.tuple #[.agg #[.int .i64 0, .int .i64 0, .slice none 0 0], .int .i64 0, .bool false])) w1 := by
    intro w1 hb1 e
    rw [e]
    exact ⟨none, 0, none, rfl, .inl ⟨rfl, rfl⟩, fun g h => by simp at h, hb1⟩
  have HNO := hide hno
  clear hno
  cases g1 : gsB lim nx its
  · have H : Hid (dropR lim nx its now = ⟨0, 0, [], 0, false⟩) := by show dropR lim nx its now = _; simp [dropR, g1]
    rw [g1] at hgood
    have HG := hide hgood
    clear hgood g1
    go_enter Try.func14, Try.ntmps14
    go_wp2_with fail
    refine (unhide HG _ (bel2 w _ _)).mono ?_
    rintro e w1 ⟨rfl, hb1⟩
    simp only [World.size_alloc] at hb1
    have hB1 := hide ((bel2 w _ _).trans (hb1.mono (by omega)))
    have hr := fun o => hb1.cell (p := ⟨w.heap.size + 1, o, none⟩) (by simp)
    have hrf := fun o => hb1.frozen (p := ⟨w.heap.size + 1, o, none⟩) (by simp)
    clear hb1
    go_wp2
    refine bodyPost_ret (v := .tuple #[.agg #[.int .i64 0, .int .i64 0, .slice none 0 0], .int .i64 0, .bool false]) (by simp [results, Try.results14, go_sem, hr]) rfl (unhide HNO _ ?_ (unhide H))
    repeat (refine Below.setCell ?_ (by first | (simp; done) | (simp; omega)) _)
    exact unhide hB1
  rw [g1] at hgood
  have HG := hide hgood
  clear hgood
  cases g2 : inB now 0 1000000000
  · have H : Hid (dropR lim nx its now = ⟨0, 0, [], 0, false⟩) := by show dropR lim nx its now = _; simp [dropR, g1, g2]
    clear g1
    go_enter Try.func14, Try.ntmps14
    go_wp2_with fail
    refine (unhide HG _ (bel2 w _ _)).mono ?_
    rintro e w1 ⟨rfl, hb1⟩
    simp only [World.size_alloc] at hb1
    have hB1 := hide ((bel2 w _ _).trans (hb1.mono (by omega)))
    have hr := fun o => hb1.cell (p := ⟨w.heap.size + 1, o, none⟩) (by simp)
    have hrf := fun o => hb1.frozen (p := ⟨w.heap.size + 1, o, none⟩) (by simp)
    clear hb1
    go_wp2_with (go_at_call 32; refine (l2Now_any _ _).mono ?_; rintro e w2 ⟨rfl, rfl⟩)
    refine bodyPost_ret (v := .tuple #[.agg #[.int .i64 0, .int .i64 0, .slice none 0 0], .int .i64 0, .bool false]) (by simp [results, Try.results14, go_sem, hr]) rfl (unhide HNO _ ?_ (unhide H))
    repeat (refine Below.setCell ?_ (by first | (simp; done) | (simp; omega)) _)
    exact unhide hB1
  have H : Hid (dropR lim nx its now = ⟨lim, nx, keepB its now, its.length - (keepB its now).length, true⟩) := by show dropR lim nx its now = _; simp only [dropR, g1, g2, if_true]
  clear g1
  go_enter Try.func14, Try.ntmps14
  go_wp2_with fail
  refine (unhide HG _ (bel2 w _ _)).mono ?_
  rintro e w1 ⟨rfl, hb1⟩
  simp only [World.size_alloc] at hb1
  have hB1 := hide ((bel2 w _ _).trans (hb1.mono (by omega)))
  have hr := fun o => hb1.cell (p := ⟨w.heap.size + 1, o, none⟩) (by simp)
  have hrf := fun o => hb1.frozen (p := ⟨w.heap.size + 1, o, none⟩) (by simp)
  have hs0 := fun o => hb1.cell (p := ⟨w.heap.size, o, none⟩) (by simp; omega)
  have hz1 : w.heap.size + 2 ≤ w1.heap.size := by have := hb1.size; simp at this; omega
  clear hb1
  go_wp2_with (go_at_call 32; refine (l2Now_any _ _).mono ?_; rintro e w2 ⟨rfl, rfl⟩)
  refine (unhide HD _ (unhide hB1)).mono ?_
  rintro e w2 ⟨a, cap2, rfl, hown, hb2⟩
  have hB2 := hide ((unhide hB1).trans (hb2.mono (by omega)))
  have hr2 := fun o => (hb2.cell (p := ⟨w.heap.size + 1, o, none⟩) (by simp; omega)).trans (hr o)
  have hrf2 := fun o => (hb2.frozen (p := ⟨w.heap.size + 1, o, none⟩) (by simp; omega)).trans (hrf o)
  have HO := hide (own_le hown hz1)
  have hz2 : w.heap.size + 1 < w2.heap.size := by have := hb2.size; omega
  clear hb2 hr hrf hown hs0
  generalize keepB its now = kp at H HO ⊢
  go_wp2
  refine bodyPost_ret (v := .tuple #[.agg #[.int .i64 lim, .int .i64 nx, .slice a kp.length cap2], .int .i64 (its.length - kp.length), .bool true]) (by simp [results, Try.results14, go_sem, hr2, hz2]) rfl ?_
  rw [unhide H]
  have own2 : ∀ (x y z : Value) (o : Obj), ((((w2.setCell ⟨w.heap.size + 1, 0, none⟩ x).setCell ⟨w.heap.size + 1, 1, none⟩ y).setCell ⟨w.heap.size + 1, 2, none⟩ z).alloc o).ownsRow (w.heap.size + 2) 40 5 (.slice a kp.length cap2) kp.length (flat kp) := fun x y z o =>
    (ownsRow_setCell_below (ownsRow_setCell_below (ownsRow_setCell_below (unhide HO) (show w.heap.size + 1 < w.heap.size + 2 by omega) x) (show w.heap.size + 1 < w.heap.size + 2 by omega) y) (show w.heap.size + 1 < w.heap.size + 2 by omega) z).alloc o
  obtain ⟨r, hou, hge⟩ := own_ours (own2 _ _ _ _)
  refine ⟨a, cap2, r, rfl, hou, fun g h => Nat.le_trans (by omega) (hge g h), ?_⟩
  refine Below.alloc ?_ (by simp [World.setCell]; omega) _
  repeat (refine Below.setCell ?_ (by first | (simp; done) | (simp; omega)) _)
  exact unhide hB2
end Store
end Go.Proofs.Ythlcmnjaimffdaa
