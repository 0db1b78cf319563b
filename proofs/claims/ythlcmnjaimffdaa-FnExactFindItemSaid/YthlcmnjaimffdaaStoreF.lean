/-
  The contract of the model's FindItem, by a plain function of the items.
-/
import Derived.Test.YthlcmnjaimffdaaStoreE
namespace Go.Proofs.Ythlcmnjaimffdaa
namespace Store
open Go.RowKit Base GoodKey Items
set_option linter.unusedVariables false

set_option maxHeartbeats 1000000 in
theorem find_some (lim nx : Int) (b off cap : Nat) (its : List Itm) (now : Int) (key : ByteArray) (w : World) (hb : b < w.heap.size) (hc : ∀ i, i < its.length → At w b (off + i * 5) (its.getD i zero))
    (hl : its.length ≤ maxLen) (hcap : its.length ≤ cap) (hs : ∀ x ∈ its, Fits x) :
    Calls Try.prog 18 #[.agg #[.int .i64 lim, .int .i64 nx, .slice (some ⟨b, off, none⟩) its.length cap], .int .i64 now, .string key] w fun e w' =>
      e = .returned (findV (findB lim nx its now key)) ∧ Below w.heap.size w w' := by
  have hgood := fun w' (hb' : Below w.heap.size w w') => spec_some lim nx b off cap its w' (Nat.lt_of_lt_of_le hb hb'.size) (fun i hi => (hc i hi).below hb' hb) hl hcap hs
  have hat := fun w' (hb' : Below w.heap.size w w') => l2At_some lim nx b off cap its key w' (Nat.lt_of_lt_of_le hb hb'.size) (fun i hi => (hc i hi).below hb' hb) hl
  have HA := hide hat
  have HC := hide hc
  unfold maxLen at hl
  clear hat hc hs
  cases g1 : gsB lim nx its
  · have H : Hid (findB lim nx its now key = none) := by show findB lim nx its now key = none; simp [findB, g1]
    rw [g1] at hgood
    have HG := hide hgood
    clear hgood g1
    go_enter Try.func18, Try.ntmps18
    go_wp2_with fail
    refine (unhide HG _ (bel2 w _ _)).mono ?_
    rintro e w1 ⟨rfl, hb1⟩
    simp only [World.size_alloc] at hb1
    have hB1 := hide ((bel2 w _ _).trans (hb1.mono (by omega)))
    have hr := fun o => hb1.cell (p := ⟨w.heap.size + 1, o, none⟩) (by simp)
    have hrf := fun o => hb1.frozen (p := ⟨w.heap.size + 1, o, none⟩) (by simp)
    clear hb1
    go_wp2
    refine bodyPost_ret (v := findV none) (by simp [results, Try.results18, go_sem, hr, findV, itemV, zero]; rfl) rfl ⟨ret_find (unhide H).symm, ?_⟩
    repeat (refine Below.setCell ?_ (by first | (simp; done) | (simp; omega)) _)
    exact unhide hB1
  rw [g1] at hgood
  have HG := hide hgood
  clear hgood
  cases g2 : inB now 0 1000000000
  · have H : Hid (findB lim nx its now key = none) := by show findB lim nx its now key = none; simp [findB, g1, g2]
    clear g1
    go_enter Try.func18, Try.ntmps18
    go_wp2_with fail
    refine (unhide HG _ (bel2 w _ _)).mono ?_
    rintro e w1 ⟨rfl, hb1⟩
    simp only [World.size_alloc] at hb1
    have hB1 := hide ((bel2 w _ _).trans (hb1.mono (by omega)))
    have hr := fun o => hb1.cell (p := ⟨w.heap.size + 1, o, none⟩) (by simp)
    have hrf := fun o => hb1.frozen (p := ⟨w.heap.size + 1, o, none⟩) (by simp)
    have hs0 := fun o => hb1.cell (p := ⟨w.heap.size, o, none⟩) (by simp; omega)
    have hz1 : w.heap.size + 2 ≤ w1.heap.size := by have := hb1.size; simp at this; omega
    clear hb1
    go_wp2_with (go_at_call 32; refine (l2Now_any _ _).mono ?_; rintro e w2 ⟨rfl, rfl⟩)
    refine bodyPost_ret (v := findV none) (by simp [results, Try.results18, go_sem, hr, findV, itemV, zero]; rfl) rfl ⟨ret_find (unhide H).symm, ?_⟩
    repeat (refine Below.setCell ?_ (by first | (simp; done) | (simp; omega)) _)
    exact unhide hB1
  cases g3 : atN its key with
  | none =>
    have H : Hid (findB lim nx its now key = none) := by show findB lim nx its now key = none; simp [findB, g1, g2, g3]
    have HE : Hid (atI its key = -1) := by show atI its key = -1; rw [atI, g3]
    clear g1 g3
    go_enter Try.func18, Try.ntmps18
    go_wp2_with fail
    refine (unhide HG _ (bel2 w _ _)).mono ?_
    rintro e w1 ⟨rfl, hb1⟩
    simp only [World.size_alloc] at hb1
    have hB1 := hide ((bel2 w _ _).trans (hb1.mono (by omega)))
    have hr := fun o => hb1.cell (p := ⟨w.heap.size + 1, o, none⟩) (by simp)
    have hrf := fun o => hb1.frozen (p := ⟨w.heap.size + 1, o, none⟩) (by simp)
    have hs0 := fun o => hb1.cell (p := ⟨w.heap.size, o, none⟩) (by simp; omega)
    have hz1 : w.heap.size + 2 ≤ w1.heap.size := by have := hb1.size; simp at this; omega
    clear hb1
    go_wp2_with (go_at_call 32; refine (l2Now_any _ _).mono ?_; rintro e w2 ⟨rfl, rfl⟩)
    refine (unhide HA _ (unhide hB1)).mono ?_
    rintro e w2 ⟨rfl, hb2⟩
    rw [unhide HE]
    have hB2 := hide ((unhide hB1).trans (hb2.mono (by omega)))
    have hr2 := fun o => (hb2.cell (p := ⟨w.heap.size + 1, o, none⟩) (by simp; omega)).trans (hr o)
    have hrf2 := fun o => (hb2.frozen (p := ⟨w.heap.size + 1, o, none⟩) (by simp; omega)).trans (hrf o)
    have hs2 := fun o => (hb2.cell (p := ⟨w.heap.size, o, none⟩) (by simp; omega)).trans (hs0 o)
    have hz2 : w.heap.size + 2 ≤ w2.heap.size := by have := hb2.size; omega
    clear hb2 hr hrf hs0
    go_wp2
    refine bodyPost_ret (v := findV none) (by simp [results, Try.results18, go_sem, hr2, findV, itemV, zero]; rfl) rfl ⟨ret_find (unhide H).symm, ?_⟩
    repeat (refine Below.setCell ?_ (by first | (simp; done) | (simp; omega)) _)
    exact unhide hB2
  | some k =>
    have hk := atN_lt g3
    have HE : Hid (atI its key = k) := by show atI its key = k; rw [atI, g3]
    have hfb : Hid (findB lim nx its now key = if oldB (its.getD k zero) now = true then none else some (its.getD k zero)) := by show findB lim nx its now key = _; simp only [findB, g1, g2, g3, if_true]
    clear g1 g3
    have hck := hide (unhide HC k hk)
    generalize its.getD k zero = x at hck hfb
    have hold := fun w => l2Old_any x now w
    cases g4 : oldB x now
    all_goals
      rw [g4] at hfb hold
      have HO := hide hold
      clear hold g4
      go_enter Try.func18, Try.ntmps18
      go_wp2_with fail
      refine (unhide HG _ (bel2 w _ _)).mono ?_
      rintro e w1 ⟨rfl, hb1⟩
      simp only [World.size_alloc] at hb1
      have hB1 := hide ((bel2 w _ _).trans (hb1.mono (by omega)))
      have hr := fun o => hb1.cell (p := ⟨w.heap.size + 1, o, none⟩) (by simp)
      have hrf := fun o => hb1.frozen (p := ⟨w.heap.size + 1, o, none⟩) (by simp)
      have hs0 := fun o => hb1.cell (p := ⟨w.heap.size, o, none⟩) (by simp; omega)
      have hz1 : w.heap.size + 2 ≤ w1.heap.size := by have := hb1.size; simp at this; omega
      clear hb1
      go_wp2_with (go_at_call 32; refine (l2Now_any _ _).mono ?_; rintro e w2 ⟨rfl, rfl⟩)
      refine (unhide HA _ (unhide hB1)).mono ?_
      rintro e w2 ⟨rfl, hb2⟩
      rw [unhide HE]
      have hB2 := hide ((unhide hB1).trans (hb2.mono (by omega)))
      have hr2 := fun o => (hb2.cell (p := ⟨w.heap.size + 1, o, none⟩) (by simp; omega)).trans (hr o)
      have hrf2 := fun o => (hb2.frozen (p := ⟨w.heap.size + 1, o, none⟩) (by simp; omega)).trans (hrf o)
      have hs2 := fun o => (hb2.cell (p := ⟨w.heap.size, o, none⟩) (by simp; omega)).trans (hs0 o)
      have hz2 : w.heap.size + 2 ≤ w2.heap.size := by have := hb2.size; omega
      clear hb2 hr hrf hs0
      obtain ⟨c0, c1, c2, c3, c4⟩ := (unhide hck).below (unhide hB2) hb
      go_wp2_with fail
      refine (unhide HO _).mono ?_
      rintro e w3 ⟨rfl, hb3⟩
      have hB3 := hide ((unhide hB2).trans (hb3.mono (by omega)))
      have hr3 := fun o => (hb3.cell (p := ⟨w.heap.size + 1, o, none⟩) (by simp; omega)).trans (hr2 o)
      have hrf3 := fun o => (hb3.frozen (p := ⟨w.heap.size + 1, o, none⟩) (by simp; omega)).trans (hrf2 o)
      have hs3 := fun o => (hb3.cell (p := ⟨w.heap.size, o, none⟩) (by simp; omega)).trans (hs2 o)
      obtain ⟨d0, d1, d2, d3, d4⟩ := (unhide hck).below (unhide hB3) hb
      clear hb3 hr2 hrf2 hs2 c0 c1 c2 c3 c4
      go_wp2
    · refine bodyPost_ret (v := findV (some x)) (by simp [results, Try.results18, go_sem, hr3, findV, itemV]) rfl ⟨ret_find (by rw [unhide hfb]; rfl), ?_⟩
      repeat (refine Below.setCell ?_ (by first | (simp; done) | (simp; omega)) _)
      exact unhide hB3
    · refine bodyPost_ret (v := findV none) (by simp [results, Try.results18, go_sem, hr3, findV, itemV, zero]; rfl) rfl ⟨ret_find (by rw [unhide hfb]; rfl), ?_⟩
      repeat (refine Below.setCell ?_ (by first | (simp; done) | (simp; omega)) _)
      exact unhide hB3
end Store
end Go.Proofs.Ythlcmnjaimffdaa
