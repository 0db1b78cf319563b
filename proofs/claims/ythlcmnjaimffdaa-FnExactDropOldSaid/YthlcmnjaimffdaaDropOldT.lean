/-
  FnExactDropOld returns true for every store and time: the program's DropOld answers as the model's, leaves its arguments alone, and what it hands back is its own. No condition.
-/
import Derived.Test.YthlcmnjaimffdaaDropOld
import Derived.Test.YthlcmnjaimffdaaShelfG
namespace Go.Proofs.Ythlcmnjaimffdaa
namespace Shelf
open Go.RowKit Base Items Keep Own Chain Store GoodKey
set_option linter.unusedVariables false

set_option maxRecDepth 10000 in
set_option maxHeartbeats 2000000 in
theorem dropOld_impl (lim nx : Int) (b off cap : Nat) (its : List Itm) (now : Int) (w : World) (hb : b < w.heap.size) (hc : ∀ i, i < its.length → At w b (off + i * 5) (its.getD i zero)) (hl : its.length ≤ 1048576) (hcap : its.length ≤ cap) (hs : ∀ x ∈ its, Fits x) :
    Calls Try.prog 15 #[.agg #[.int .i64 lim, .int .i64 nx, .slice (some ⟨b, off, none⟩) its.length cap], .int .i64 now] w (DropEnd (dropR lim nx its now) w) := by
  have hgood := fun w' (hb' : Below w.heap.size w w') => Store.impl_some lim nx b off cap its w' (Nat.lt_of_lt_of_le hb hb'.size) (fun i hi => (hc i hi).below hb' hb) (by unfold maxLen; omega) hcap hs
  have hshelf := fun w' (hb' : Below w.heap.size w w') hl' hs' hk' => shelfOf_some lim nx b off cap its w' (Nat.lt_of_lt_of_le hb hb'.size) (fun i hi => (hc i hi).below hb' hb) hl' hs' hk'
  have HSH := hide hshelf
  clear hc hs hshelf
  have hno : ∀ (w1 : World), Below w.heap.size w w1 → dropR lim nx its now = ⟨0, 0, [], 0, false⟩ → DropEnd (dropR lim nx its now) w (.returned (.tuple #[.agg #[.int .i64 0, .int .i64 0, .slice none 0 0], .int .i64 0, .bool false])) w1 := by
    intro w1 hb1 e
    rw [e]
    exact ⟨none, 0, none, rfl, .inl ⟨rfl, rfl⟩, fun g h => by simp at h, hb1⟩
  have HNO := hide hno
  clear hno
  cases g1 : gsB lim nx its
  · have H : Hid (dropR lim nx its now = ⟨0, 0, [], 0, false⟩) := by show dropR lim nx its now = _; simp [dropR, g1]
    rw [g1] at hgood
    have HG := hide hgood
    clear hgood g1
    go_enter Try.func15, Try.ntmps15
    go_wp2_with fail
    refine (unhide HG _ (bel2 w _ _)).mono ?_
    rintro e w1 ⟨rfl, hb1⟩
    simp only [World.size_alloc] at hb1
    have hB1 := hide ((bel2 w _ _).trans (hb1.mono (by omega)))
    have hr := fun o => hb1.cell (p := ⟨w.heap.size + 1, o, none⟩) (by simp)
    have hrf := fun o => hb1.frozen (p := ⟨w.heap.size + 1, o, none⟩) (by simp)
    clear hb1
    go_wp2
    refine bodyPost_ret (v := .tuple #[.agg #[.int .i64 0, .int .i64 0, .slice none 0 0], .int .i64 0, .bool false]) (by simp [results, Try.results15, go_sem, hr]; done) rfl (unhide HNO _ ?_ (unhide H))
    repeat (refine Below.setCell ?_ (by first | (simp; done) | (simp; omega)) _)
    exact unhide hB1
  have HK := hide (good_keys g1)
  rw [g1] at hgood
  have HG := hide hgood
  clear hgood
  cases g2 : inB now 0 1000000000
  · have H : Hid (dropR lim nx its now = ⟨0, 0, [], 0, false⟩) := by show dropR lim nx its now = _; simp [dropR, g1, g2]
    clear g1
    go_enter Try.func15, Try.ntmps15
    go_wp2_with fail
    refine (unhide HG _ (bel2 w _ _)).mono ?_
    rintro e w1 ⟨rfl, hb1⟩
    simp only [World.size_alloc] at hb1
    have hB1 := hide ((bel2 w _ _).trans (hb1.mono (by omega)))
    have hr := fun o => hb1.cell (p := ⟨w.heap.size + 1, o, none⟩) (by simp)
    have hrf := fun o => hb1.frozen (p := ⟨w.heap.size + 1, o, none⟩) (by simp)
    clear hb1
    go_wp2_with (go_at_call 34; refine (goodNow_any _ _).mono ?_; rintro e w2 ⟨rfl, rfl⟩)
    refine bodyPost_ret (v := .tuple #[.agg #[.int .i64 0, .int .i64 0, .slice none 0 0], .int .i64 0, .bool false]) (by simp [results, Try.results15, go_sem, hr]; done) rfl (unhide HNO _ ?_ (unhide H))
    repeat (refine Below.setCell ?_ (by first | (simp; done) | (simp; omega)) _)
    exact unhide hB1
  have H : Hid (dropR lim nx its now = ⟨lim, nx, keepB its now, its.length - (keepB its now).length, true⟩) := by show dropR lim nx its now = _; simp only [dropR, g1, g2, if_true]
  clear g1
  go_enter Try.func15, Try.ntmps15
  go_wp2_with fail
  refine (unhide HG _ (bel2 w _ _)).mono ?_
  rintro e w1 ⟨rfl, hb1⟩
  simp only [World.size_alloc] at hb1
  have hB1 := hide ((bel2 w _ _).trans (hb1.mono (by omega)))
  have hr := fun o => hb1.cell (p := ⟨w.heap.size + 1, o, none⟩) (by simp)
  have hrf := fun o => hb1.frozen (p := ⟨w.heap.size + 1, o, none⟩) (by simp)
  have hs0 := fun o => hb1.cell (p := ⟨w.heap.size, o, none⟩) (by simp; omega)
  have hz1 : w.heap.size + 2 ≤ w1.heap.size := by have := hb1.size; simp at this; omega
  clear hb1
  go_wp2_with (go_at_call 34; refine (goodNow_any _ _).mono ?_; rintro e w2 ⟨rfl, rfl⟩)
  refine (unhide HSH _ (unhide hB1) (by have := (unhide HK).1; omega) (unhide HK).2.1 (unhide HK).2.2).mono ?_
  rintro e w2 ⟨h, S, rfl, hsh, hS, hb2⟩
  have hr2 := fun o => (hb2.cell (p := ⟨w.heap.size + 1, o, none⟩) (by simp; omega)).trans (hr o)
  have hrf2 := fun o => (hb2.frozen (p := ⟨w.heap.size + 1, o, none⟩) (by simp; omega)).trans (hrf o)
  have hB2 := hide ((unhide hB1).trans (hb2.mono (by omega)))
  have hz2 : w.heap.size + 2 ≤ w2.heap.size := by have := hb2.size; omega
  have HS : Hid (∀ y ∈ S, w.heap.size + 2 ≤ y) := fun y hy => by have := hS y hy; omega
  have HSh := hide hsh
  clear hr hrf hb2 hS hsh hs0
  go_wp2_with fail
  refine (dropOld_shelf _ h S lim nx 0 its now (unhide HSh) (by have := (unhide HK).1; omega)).mono ?_
  rintro e w3 ⟨rfl, S3, hsh3, hS3, hk3⟩
  have hns : ∀ c, c < w.heap.size + 2 → c ∉ S := fun c hcl hm => by have := unhide HS c hm; omega
  have hr3 := fun o => (hk3.cell (b := w.heap.size + 1) (o := o) (by omega) (hns _ (by omega))).trans (hr2 o)
  have hrf3 := fun o => (hk3.frozen (b := w.heap.size + 1) (o := o) (by omega) (hns _ (by omega))).trans (hrf2 o)
  have hB3 := hide ((unhide hB2).trans (hk3.below (B := w.heap.size) (fun y hy => by have := unhide HS y hy; omega) (by omega)))
  have hz3 : w.heap.size + 2 ≤ w3.heap.size := by have := hk3.size; omega
  have HSh3 := hide hsh3
  have hkl : (keepB its now).length ≤ 100 := by
    have h1 : (keepB its now).length ≤ its.length := List.length_filter_le _ _
    have := (unhide HK).1; omega
  clear hr2 hrf2 hk3 hS3 hsh3
  generalize keepB its now = kp at H HSh3 hkl
  go_wp2_with fail
  refine (store_shelf _ h S3 lim nx 0 kp (unhide HSh3) hkl).mono ?_
  rintro e w4 ⟨a, cap4, rfl, hown, hb4⟩
  have hr4 := fun o => (hb4.cell (p := ⟨w.heap.size + 1, o, none⟩) (by simp; omega)).trans (hr3 o)
  have hrf4 := fun o => (hb4.frozen (p := ⟨w.heap.size + 1, o, none⟩) (by simp; omega)).trans (hrf3 o)
  have hB4 := hide ((unhide hB3).trans (hb4.mono (by omega)))
  have HO := hide (own_le hown hz3)
  have hz4 : w.heap.size + 1 < w4.heap.size := by have := hb4.size; omega
  clear hb4 hr3 hrf3 hown
  go_wp2
  refine bodyPost_ret (v := .tuple #[.agg #[.int .i64 lim, .int .i64 nx, .slice a kp.length cap4], .int .i64 (its.length - kp.length), .bool true]) (by simp [results, Try.results15, go_sem, hr4]; done) rfl ?_
  rw [unhide H]
  have own2 := ownsRow_setCell_below (ownsRow_setCell_below (ownsRow_setCell_below (unhide HO) (a := ⟨w.heap.size + 1, 0, none⟩) (show w.heap.size + 1 < w.heap.size + 2 by omega) (.int .i64 lim)) (a := ⟨w.heap.size + 1, 1, none⟩) (show w.heap.size + 1 < w.heap.size + 2 by omega) (.int .i64 nx)) (a := ⟨w.heap.size + 1, 2, none⟩) (show w.heap.size + 1 < w.heap.size + 2 by omega) (.slice a kp.length cap4)
  obtain ⟨r, hou, hge⟩ := own_ours own2
  refine ⟨a, cap4, r, rfl, hou, fun g hg => Nat.le_trans (by omega) (hge g hg), ?_⟩
  repeat (refine Below.setCell ?_ (by first | (simp; done) | (simp; omega)) _)
  exact unhide hB4
end Shelf
theorem dropOld_holds : Rows.FnExactDropOldSaid := DropOldL.over (fun lim nx b off cap its now w hb hc hl hcap hs _ => Shelf.dropOld_impl lim nx b off cap its now w hb hc hl hcap hs)
end Go.Proofs.Ythlcmnjaimffdaa
