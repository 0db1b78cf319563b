/-
  FnExactFindItem returns true for every store, time and key: the program's FindItem answers as the model's, and leaves its arguments alone. No condition.
-/
import Derived.Test.YthlcmnjaimffdaaFindItem
import Derived.Test.YthlcmnjaimffdaaShelfG
namespace Go.Proofs.Ythlcmnjaimffdaa
namespace Shelf
open Go.RowKit Base Items Keep Own Chain Store GoodKey
set_option linter.unusedVariables false

theorem small_zero : Small zero := ⟨by decide, by decide⟩

set_option maxRecDepth 10000 in
set_option maxHeartbeats 2000000 in
theorem findItem_impl (lim nx : Int) (b off cap : Nat) (its : List Itm) (now : Int) (key : ByteArray) (w : World) (hb : b < w.heap.size) (hc : ∀ i, i < its.length → At w b (off + i * 5) (its.getD i zero)) (hl : its.length ≤ 1048576) (hcap : its.length ≤ cap) (hs : ∀ x ∈ its, Fits x) (hkey : key.size ≤ 1048576) :
    Calls Try.prog 19 #[.agg #[.int .i64 lim, .int .i64 nx, .slice (some ⟨b, off, none⟩) its.length cap], .int .i64 now, .string key] w fun e w' => e = .returned (findV (findB lim nx its now key)) ∧ Below w.heap.size w w' := by
  have hgood := fun w' (hb' : Below w.heap.size w w') => Store.impl_some lim nx b off cap its w' (Nat.lt_of_lt_of_le hb hb'.size) (fun i hi => (hc i hi).below hb' hb) (by unfold maxLen; omega) hcap hs
  have hshelf := fun w' (hb' : Below w.heap.size w w') hl' hs' hk' => shelfOf_some lim nx b off cap its w' (Nat.lt_of_lt_of_le hb hb'.size) (fun i hi => (hc i hi).below hb' hb) hl' hs' hk'
  have HSH := hide hshelf
  clear hc hs hshelf
  cases g1 : gsB lim nx its
  · have H : Hid (findB lim nx its now key = none) := by show findB lim nx its now key = _; simp [findB, g1]
    rw [g1] at hgood
    have HG := hide hgood
    clear hgood g1
    go_enter Try.func19, Try.ntmps19
    go_wp2_with fail
    refine (unhide HG _ (bel2 w _ _)).mono ?_
    rintro e w1 ⟨rfl, hb1⟩
    simp only [World.size_alloc] at hb1
    have hB1 := hide ((bel2 w _ _).trans (hb1.mono (by omega)))
    have hr := fun o => hb1.cell (p := ⟨w.heap.size + 1, o, none⟩) (by simp)
    have hrf := fun o => hb1.frozen (p := ⟨w.heap.size + 1, o, none⟩) (by simp)
    clear hb1
    go_wp2
    refine bodyPost_ret (v := .tuple #[.agg #[.string ⟨#[]⟩, .int .i64 0, .string ⟨#[]⟩, .int .i64 0, .int .i64 0], .bool false]) (by simp [results, Try.results19, go_sem, hr]; done) rfl ⟨ret_find (p := findB lim nx its now key) (o := none) (unhide H).symm, ?_⟩
    repeat (refine Below.setCell ?_ (by first | (simp; done) | (simp; omega)) _)
    exact unhide hB1
  have HK := hide (good_keys g1)
  rw [g1] at hgood
  have HG := hide hgood
  clear hgood
  cases g2 : inB now 0 1000000000
  · have H : Hid (findB lim nx its now key = none) := by show findB lim nx its now key = _; simp [findB, g2]
    clear g1
    go_enter Try.func19, Try.ntmps19
    go_wp2_with fail
    refine (unhide HG _ (bel2 w _ _)).mono ?_
    rintro e w1 ⟨rfl, hb1⟩
    simp only [World.size_alloc] at hb1
    have hB1 := hide ((bel2 w _ _).trans (hb1.mono (by omega)))
    have hr := fun o => hb1.cell (p := ⟨w.heap.size + 1, o, none⟩) (by simp)
    have hrf := fun o => hb1.frozen (p := ⟨w.heap.size + 1, o, none⟩) (by simp)
    clear hb1
    go_wp2_with (go_at_call 34; refine (goodNow_any _ _).mono ?_; rintro e w2 ⟨rfl, rfl⟩)
    refine bodyPost_ret (v := .tuple #[.agg #[.string ⟨#[]⟩, .int .i64 0, .string ⟨#[]⟩, .int .i64 0, .int .i64 0], .bool false]) (by simp [results, Try.results19, go_sem, hr]; done) rfl ⟨ret_find (p := findB lim nx its now key) (o := none) (unhide H).symm, ?_⟩
    repeat (refine Below.setCell ?_ (by first | (simp; done) | (simp; omega)) _)
    exact unhide hB1
  have H := hide (find_kept (key := key) g1 g2)
  clear g1
  have hfind : Hid (∀ (w' : World) (h : Nat) (S : List Nat), Shelf w' h S lim nx 0 (keepB its now) → ∃ x c, findV (findB lim nx its now key) = .tuple #[itemV x, .bool c] ∧ Small x ∧
      Calls Try.prog 41 #[.pointer (some ⟨h, 0, none⟩), .string key] w' fun e w'' => e = .returned (.tuple #[itemV x, .bool c]) ∧ Below w'.heap.size w' w'') := by
    intro w' h S hsh
    have hkm : key.size ≤ maxLen := by unfold maxLen; omega
    rw [unhide H]
    cases e : atN (keepB its now) key with
    | none => exact ⟨zero, false, rfl, small_zero, find_none w' h S lim nx 0 _ key hsh hkm e⟩
    | some k => exact ⟨_, true, rfl, small_getD (shelf_keys hsh).2 k (at_split e).1, find_hit w' h S lim nx 0 _ key k hsh hkm e⟩
  clear H
  go_enter Try.func19, Try.ntmps19
  go_wp2_with fail
  refine (unhide HG _ (bel2 w _ _)).mono ?_
  rintro e w1 ⟨rfl, hb1⟩
  simp only [World.size_alloc] at hb1
  have hB1 := hide ((bel2 w _ _).trans (hb1.mono (by omega)))
  have hr := fun o => hb1.cell (p := ⟨w.heap.size + 1, o, none⟩) (by simp)
  have hrf := fun o => hb1.frozen (p := ⟨w.heap.size + 1, o, none⟩) (by simp)
  have hs0 := fun o => hb1.cell (p := ⟨w.heap.size, o, none⟩) (by simp; omega)
  have hz1 : w.heap.size + 2 ≤ w1.heap.size := by have := hb1.size; simp at this; omega
  clear hb1
  go_wp2_with (go_at_call 34; refine (goodNow_any _ _).mono ?_; rintro e w2 ⟨rfl, rfl⟩)
  refine (unhide HSH _ (unhide hB1) (by have := (unhide HK).1; omega) (unhide HK).2.1 (unhide HK).2.2).mono ?_
  rintro e w2 ⟨h, S, rfl, hsh, hS, hb2⟩
  have hr2 := fun o => (hb2.cell (p := ⟨w.heap.size + 1, o, none⟩) (by simp; omega)).trans (hr o)
  have hrf2 := fun o => (hb2.frozen (p := ⟨w.heap.size + 1, o, none⟩) (by simp; omega)).trans (hrf o)
  have hB2 := hide ((unhide hB1).trans (hb2.mono (by omega)))
  have hz2 : w.heap.size + 2 ≤ w2.heap.size := by have := hb2.size; omega
  have HS : Hid (∀ y ∈ S, w.heap.size + 2 ≤ y) := fun y hy => by have := hS y hy; omega
  have HSh := hide hsh
  clear hr hrf hb2 hS hsh hs0
  go_wp2_with fail
  refine (dropOld_shelf _ h S lim nx 0 its now (unhide HSh) (by have := (unhide HK).1; omega)).mono ?_
  rintro e w3 ⟨rfl, S3, hsh3, hS3, hk3⟩
  have hns : ∀ c, c < w.heap.size + 2 → c ∉ S := fun c hcl hm => by have := unhide HS c hm; omega
  have hr3 := fun o => (hk3.cell (b := w.heap.size + 1) (o := o) (by omega) (hns _ (by omega))).trans (hr2 o)
  have hrf3 := fun o => (hk3.frozen (b := w.heap.size + 1) (o := o) (by omega) (hns _ (by omega))).trans (hrf2 o)
  have hB3 := hide ((unhide hB2).trans (hk3.below (B := w.heap.size) (fun y hy => by have := unhide HS y hy; omega) (by omega)))
  have hz3 : w.heap.size + 2 ≤ w3.heap.size := by have := hk3.size; omega
  obtain ⟨x, c, hfv, hsx, hcall⟩ := unhide hfind _ _ _ hsh3
  have HFV := hide hfv
  have HSX := hide hsx
  have HCALL := hide hcall
  clear hr2 hrf2 hk3 hS3 hsh3 hfv hsx hcall hfind
  go_wp2_with fail
  refine (unhide HCALL).mono ?_
  rintro e w4 ⟨rfl, hb4⟩
  have hr4 := fun o => (hb4.cell (p := ⟨w.heap.size + 1, o, none⟩) (by simp; omega)).trans (hr3 o)
  have hrf4 := fun o => (hb4.frozen (p := ⟨w.heap.size + 1, o, none⟩) (by simp; omega)).trans (hrf3 o)
  have hB4 := hide ((unhide hB3).trans (hb4.mono (by omega)))
  have hz4 : w.heap.size + 1 < w4.heap.size := by have := hb4.size; omega
  clear hb4 hr3 hrf3
  unfold itemV
  go_wp2_with fail
  refine (copyOf_any x _ (unhide HSX)).mono ?_
  rintro e w5 ⟨rfl, hb5⟩
  have hr5 := fun o => (hb5.cell (p := ⟨w.heap.size + 1, o, none⟩) (by simp; omega)).trans ((World.cell?_of_block (a := ⟨w.heap.size + 1, o, none⟩) (Below.heap_alloc _ _ _ hz4)).trans (hr4 o))
  have hrf5 := fun o => (hb5.frozen (p := ⟨w.heap.size + 1, o, none⟩) (by simp; omega)).trans ((World.frozen?_of_block (a := ⟨w.heap.size + 1, o, none⟩) (Below.heap_alloc _ _ _ hz4)).trans (hrf4 o))
  have hB5 := hide (((unhide hB4).alloc (by omega) _).trans (hb5.mono (by simp; omega)))
  have hz5 : w.heap.size + 1 < w5.heap.size := by have := hb5.size; simp at this; omega
  clear hb5 hr4 hrf4
  unfold itemV
  go_wp2
  refine bodyPost_ret (v := .tuple #[itemV x, .bool c]) (by simp [results, Try.results19, go_sem, hr5, itemV]; done) rfl ⟨by rw [unhide HFV], ?_⟩
  repeat (refine Below.setCell ?_ (by first | (simp; done) | (simp; omega)) _)
  exact unhide hB5
end Shelf
theorem findItem_holds : Rows.FnExactFindItemSaid := FindItemL.over Shelf.findItem_impl
end Go.Proofs.Ythlcmnjaimffdaa
