/-
  Contracts of the model's l2Now, l2Old, l2At and FindItem, by plain functions of the fields, for every store whose items lie in memory.
-/
import Derived.Test.YtdldfohbelclladStoreS
namespace Go.Proofs.Ytdldfohbelcllad
namespace Store
open Go.RowKit Base GoodKey Items
set_option linter.unusedVariables false

def oldB (x : Itm) (now : Int) : Bool := (x.upto != 0) && decide (x.upto ≤ now)
def hasKey (key : ByteArray) (x : Itm) : Bool := x.key.toList == key.toList
def atN (its : List Itm) (key : ByteArray) : Option Nat := its.findIdx? (hasKey key)
def atI (its : List Itm) (key : ByteArray) : Int := match atN its key with | some k => k | none => -1
theorem atN_hit {its : List Itm} {key : ByteArray} {k : Nat} (hk : k < its.length) (hn : ∀ j, j < k → hasKey key (its.getD j zero) = false) (h : hasKey key (its.getD k zero) = true) : atN its key = some k := by
  unfold atN
  rw [List.findIdx?_eq_some_iff_getElem]
  refine ⟨hk, ?_, fun j hj => ?_⟩
  · simpa [List.getD_eq_getElem?_getD, List.getElem?_eq_getElem hk] using h
  · have := hn j hj
    rw [List.getD_eq_getElem?_getD, List.getElem?_eq_getElem (show j < its.length by omega)] at this
    simpa using this
theorem atN_none {its : List Itm} {key : ByteArray} (hn : ∀ j, j < its.length → hasKey key (its.getD j zero) = false) : atN its key = none := by
  unfold atN
  rw [List.findIdx?_eq_none_iff]
  intro x hx
  obtain ⟨j, hj, rfl⟩ := List.getElem_of_mem hx
  have := hn j hj
  rw [List.getD_eq_getElem?_getD, List.getElem?_eq_getElem hj] at this
  simpa using this
theorem atN_lt {its : List Itm} {key : ByteArray} {k : Nat} (h : atN its key = some k) : k < its.length := by
  unfold atN at h
  exact (List.findIdx?_eq_some_iff_getElem.1 h).1

set_option maxHeartbeats 400000 in
theorem l2Now_any (n : Int) (w : World) :
    Calls Try.prog 25 #[.int .i64 n] w fun e w' => e = .returned (.bool (inB n 0 1000000000)) ∧ w' = w := by
  go_enter Try.func25, Try.ntmps25
  go_wp2_with (go_at_call 37; refine (l1In_any _ _ _ _).mono ?_; rintro e w' ⟨rfl, rfl⟩)
  go_ret
  exact ⟨rfl, rfl⟩

set_option maxHeartbeats 400000 in
theorem l2Old_any (x : Itm) (now : Int) (w : World) :
    Calls Try.prog 33 #[.agg #[.string x.key, .int .i64 x.flags, .string x.data, .int .i64 x.upto, .int .i64 x.token], .int .i64 now] w fun e w' => e = .returned (.bool (oldB x now)) ∧ Below w.heap.size w w' := by
  cases h : (x.upto != 0)
  · have H : Hid (oldB x now = false) := by show oldB x now = false; rw [oldB, h]; rfl
    go_enter Try.func33, Try.ntmps33
    go_wp2
    go_ret
    exact ⟨ret_bool (unhide H).symm, bel1 w _⟩
  · have H : Hid (oldB x now = decide (x.upto ≤ now)) := by show oldB x now = _; rw [oldB, h]; rfl
    go_enter Try.func33, Try.ntmps33
    go_wp2
    go_ret
    exact ⟨ret_bool (unhide H).symm, bel1 w _⟩

set_option maxHeartbeats 400000 in
theorem l2At_some (lim nx : Int) (b off cap : Nat) (its : List Itm) (key : ByteArray) (w : World) (hb : b < w.heap.size) (hc : ∀ i, i < its.length → At w b (off + i * 5) (its.getD i zero)) (hl : its.length ≤ maxLen) :
    Calls Try.prog 32 #[.agg #[.int .i64 lim, .int .i64 nx, .slice (some ⟨b, off, none⟩) its.length cap], .string key] w fun e w' => e = .returned (.int .i64 (atI its key)) ∧ Below w.heap.size w w' := by
  unfold maxLen at hl
  have hcs := hide hc
  clear hc
  go_enter Try.func32, Try.ntmps32
  go_wp2
  go_loopw [10] (fun i wr => ∃ (k : Nat), k ≤ its.length ∧ i = .int .i64 k ∧ Hid (∀ j, j < k → hasKey key (its.getD j zero) = false) ∧ Hid (Below w.heap.size w wr)) (fun i _ => its.length - (intOf i).toNat)
  case atStart => exact ⟨0, Nat.zero_le _, rfl, hide (fun j hj => by omega), hide (bel1 w _)⟩
  case round =>
    obtain ⟨k, hk, rfl, hn, hbel⟩ := hrel
    by_cases hlt : k < its.length
    · obtain ⟨c0, c1, c2, c3, c4⟩ := (unhide hcs k hlt).below (unhide hbel) hb
      have hhit := hide (@atN_hit its key k hlt (unhide hn))
      have hmiss : Hid (hasKey key (its.getD k zero) = false → ∀ j, j < k + 1 → hasKey key (its.getD j zero) = false) := by
        intro h j hj
        by_cases e : j = k
        · rw [e]; exact h
        · exact unhide hn j (by omega)
      generalize its.getD k zero = x at c0 c1 c2 c3 c4 hhit hmiss
      have hzb := (unhide hbel).size
      cases e : (x.key.toList == key.toList)
      · have H := hide (unhide hmiss e)
        clear hhit hmiss
        go_wp2
        go_roundw
        case rel => exact ⟨k + 1, by omega, by go_num, H, hide ((unhide hbel).alloc hzb _)⟩
        case measure => simp [intOf]; omega
      · have H : Hid (atI its key = k) := by show atI its key = k; rw [atI, unhide hhit e]
        clear hhit hmiss
        go_wp2
        go_ret
        exact ⟨ret_int (unhide H).symm, (unhide hbel).alloc hzb _⟩
    · obtain rfl : k = its.length := by omega
      have H : Hid (atI its key = -1) := by show atI its key = -1; rw [atI, atN_none (unhide hn)]
      go_wp2
      go_ret
      exact ⟨ret_int (unhide H).symm, unhide hbel⟩

/-- What FindItem hands back. -/
def findB (lim nx : Int) (its : List Itm) (now : Int) (key : ByteArray) : Option Itm :=
  if gsB lim nx its = true then if inB now 0 1000000000 = true then match atN its key with | some k => if oldB (its.getD k zero) now = true then none else some (its.getD k zero) | none => none else none else none

def itemV (x : Itm) : Value := .agg #[.string x.key, .int .i64 x.flags, .string x.data, .int .i64 x.upto, .int .i64 x.token]
def findV : Option Itm → Value
  | some x => .tuple #[itemV x, .bool true]
  | none => .tuple #[itemV zero, .bool false]
theorem ret_find {o p : Option Itm} (h : o = p) : Ending.returned (findV o) = .returned (findV p) := by rw [h]

set_option maxHeartbeats 1000000 in
theorem find_some (lim nx : Int) (b off cap : Nat) (its : List Itm) (now : Int) (key : ByteArray) (w : World) (hb : b < w.heap.size) (hc : ∀ i, i < its.length → At w b (off + i * 5) (its.getD i zero))
    (hl : its.length ≤ maxLen) (hcap : its.length ≤ cap) (hs : ∀ x ∈ its, Fits x) :
    Calls Try.prog 15 #[.agg #[.int .i64 lim, .int .i64 nx, .slice (some ⟨b, off, none⟩) its.length cap], .int .i64 now, .string key] w fun e w' =>
      e = .returned (findV (findB lim nx its now key)) ∧ Below w.heap.size w w' := by
  have hgood := fun w' (hb' : Below w.heap.size w w') => spec_some lim nx b off cap its w' (Nat.lt_of_lt_of_le hb hb'.size) (fun i hi => (hc i hi).below hb' hb) hl hcap hs
  have hat := fun w' (hb' : Below w.heap.size w w') => l2At_some lim nx b off cap its key w' (Nat.lt_of_lt_of_le hb hb'.size) (fun i hi => (hc i hi).below hb' hb) hl
  have HA := hide hat
  have HC := hide hc
  unfold maxLen at hl
  clear hat hc hs
  cases g1 : gsB lim nx its
  · have H : Hid (findB lim nx its now key = none) := by show findB lim nx its now key = none; simp [findB, g1]
    rw [g1] at hgood
    have HG := hide hgood
    clear hgood g1
    go_enter Try.func15, Try.ntmps15
    go_wp2_with fail
    refine (unhide HG _ (bel2 w _ _)).mono ?_
    rintro e w1 ⟨rfl, hb1⟩
    simp only [World.size_alloc] at hb1
    have hB1 := hide ((bel2 w _ _).trans (hb1.mono (by omega)))
    have hr := fun o => hb1.cell (p := ⟨w.heap.size + 1, o, none⟩) (by simp)
    have hrf := fun o => hb1.frozen (p := ⟨w.heap.size + 1, o, none⟩) (by simp)
    clear hb1
    go_wp2
    refine bodyPost_ret (v := findV none) (by simp [results, Try.results15, go_sem, hr, findV, itemV, zero]; rfl) rfl ⟨ret_find (unhide H).symm, ?_⟩
    repeat (refine Below.setCell ?_ (by first | (simp; done) | (simp; omega)) _)
    exact unhide hB1
  rw [g1] at hgood
  have HG := hide hgood
  clear hgood
  cases g2 : inB now 0 1000000000
  · have H : Hid (findB lim nx its now key = none) := by show findB lim nx its now key = none; simp [findB, g1, g2]
    clear g1
    go_enter Try.func15, Try.ntmps15
    go_wp2_with fail
    refine (unhide HG _ (bel2 w _ _)).mono ?_
    rintro e w1 ⟨rfl, hb1⟩
    simp only [World.size_alloc] at hb1
    have hB1 := hide ((bel2 w _ _).trans (hb1.mono (by omega)))
    have hr := fun o => hb1.cell (p := ⟨w.heap.size + 1, o, none⟩) (by simp)
    have hrf := fun o => hb1.frozen (p := ⟨w.heap.size + 1, o, none⟩) (by simp)
    have hs0 := fun o => hb1.cell (p := ⟨w.heap.size, o, none⟩) (by simp; omega)
    have hz1 : w.heap.size + 2 ≤ w1.heap.size := by have := hb1.size; simp at this; omega
    clear hb1
    go_wp2_with (go_at_call 25; refine (l2Now_any _ _).mono ?_; rintro e w2 ⟨rfl, rfl⟩)
    refine bodyPost_ret (v := findV none) (by simp [results, Try.results15, go_sem, hr, findV, itemV, zero]; rfl) rfl ⟨ret_find (unhide H).symm, ?_⟩
    repeat (refine Below.setCell ?_ (by first | (simp; done) | (simp; omega)) _)
    exact unhide hB1
  cases g3 : atN its key with
  | none =>
    have H : Hid (findB lim nx its now key = none) := by show findB lim nx its now key = none; simp [findB, g1, g2, g3]
    have HE : Hid (atI its key = -1) := by show atI its key = -1; rw [atI, g3]
    clear g1 g3
    go_enter Try.func15, Try.ntmps15
    go_wp2_with fail
    refine (unhide HG _ (bel2 w _ _)).mono ?_
    rintro e w1 ⟨rfl, hb1⟩
    simp only [World.size_alloc] at hb1
    have hB1 := hide ((bel2 w _ _).trans (hb1.mono (by omega)))
    have hr := fun o => hb1.cell (p := ⟨w.heap.size + 1, o, none⟩) (by simp)
    have hrf := fun o => hb1.frozen (p := ⟨w.heap.size + 1, o, none⟩) (by simp)
    have hs0 := fun o => hb1.cell (p := ⟨w.heap.size, o, none⟩) (by simp; omega)
    have hz1 : w.heap.size + 2 ≤ w1.heap.size := by have := hb1.size; simp at this; omega
    clear hb1
    go_wp2_with (go_at_call 25; refine (l2Now_any _ _).mono ?_; rintro e w2 ⟨rfl, rfl⟩)
    refine (unhide HA _ (unhide hB1)).mono ?_
    rintro e w2 ⟨rfl, hb2⟩
    rw [unhide HE]
    have hB2 := hide ((unhide hB1).trans (hb2.mono (by omega)))
    have hr2 := fun o => (hb2.cell (p := ⟨w.heap.size + 1, o, none⟩) (by simp; omega)).trans (hr o)
    have hrf2 := fun o => (hb2.frozen (p := ⟨w.heap.size + 1, o, none⟩) (by simp; omega)).trans (hrf o)
    have hs2 := fun o => (hb2.cell (p := ⟨w.heap.size, o, none⟩) (by simp; omega)).trans (hs0 o)
    have hz2 : w.heap.size + 2 ≤ w2.heap.size := by have := hb2.size; omega
    clear hb2 hr hrf hs0
    go_wp2
    refine bodyPost_ret (v := findV none) (by simp [results, Try.results15, go_sem, hr2, findV, itemV, zero]; rfl) rfl ⟨ret_find (unhide H).symm, ?_⟩
    repeat (refine Below.setCell ?_ (by first | (simp; done) | (simp; omega)) _)
    exact unhide hB2
  | some k =>
    have hk := atN_lt g3
    have HE : Hid (atI its key = k) := by show atI its key = k; rw [atI, g3]
    have hfb : Hid (findB lim nx its now key = if oldB (its.getD k zero) now = true then none else some (its.getD k zero)) := by show findB lim nx its now key = _; simp only [findB, g1, g2, g3, if_true]
    clear g1 g3
    have hck := hide (unhide HC k hk)
    generalize its.getD k zero = x at hck hfb
    have hold := fun w => l2Old_any x now w
    cases g4 : oldB x now
    all_goals
      rw [g4] at hfb hold
      have HO := hide hold
      clear hold g4
      go_enter Try.func15, Try.ntmps15
      go_wp2_with fail
      refine (unhide HG _ (bel2 w _ _)).mono ?_
      rintro e w1 ⟨rfl, hb1⟩
      simp only [World.size_alloc] at hb1
      have hB1 := hide ((bel2 w _ _).trans (hb1.mono (by omega)))
      have hr := fun o => hb1.cell (p := ⟨w.heap.size + 1, o, none⟩) (by simp)
      have hrf := fun o => hb1.frozen (p := ⟨w.heap.size + 1, o, none⟩) (by simp)
      have hs0 := fun o => hb1.cell (p := ⟨w.heap.size, o, none⟩) (by simp; omega)
      have hz1 : w.heap.size + 2 ≤ w1.heap.size := by have := hb1.size; simp at this; omega
      clear hb1
      go_wp2_with (go_at_call 25; refine (l2Now_any _ _).mono ?_; rintro e w2 ⟨rfl, rfl⟩)
      refine (unhide HA _ (unhide hB1)).mono ?_
      rintro e w2 ⟨rfl, hb2⟩
      rw [unhide HE]
      have hB2 := hide ((unhide hB1).trans (hb2.mono (by omega)))
      have hr2 := fun o => (hb2.cell (p := ⟨w.heap.size + 1, o, none⟩) (by simp; omega)).trans (hr o)
      have hrf2 := fun o => (hb2.frozen (p := ⟨w.heap.size + 1, o, none⟩) (by simp; omega)).trans (hrf o)
      have hs2 := fun o => (hb2.cell (p := ⟨w.heap.size, o, none⟩) (by simp; omega)).trans (hs0 o)
      have hz2 : w.heap.size + 2 ≤ w2.heap.size := by have := hb2.size; omega
      clear hb2 hr hrf hs0
      obtain ⟨c0, c1, c2, c3, c4⟩ := (unhide hck).below (unhide hB2) hb
      go_wp2_with fail
      refine (unhide HO _).mono ?_
      rintro e w3 ⟨rfl, hb3⟩
      have hB3 := hide ((unhide hB2).trans (hb3.mono (by omega)))
      have hr3 := fun o => (hb3.cell (p := ⟨w.heap.size + 1, o, none⟩) (by simp; omega)).trans (hr2 o)
      have hrf3 := fun o => (hb3.frozen (p := ⟨w.heap.size + 1, o, none⟩) (by simp; omega)).trans (hrf2 o)
      have hs3 := fun o => (hb3.cell (p := ⟨w.heap.size, o, none⟩) (by simp; omega)).trans (hs2 o)
      obtain ⟨d0, d1, d2, d3, d4⟩ := (unhide hck).below (unhide hB3) hb
      clear hb3 hr2 hrf2 hs2 c0 c1 c2 c3 c4
      go_wp2
    · refine bodyPost_ret (v := findV (some x)) (by simp [results, Try.results15, go_sem, hr3, findV, itemV]) rfl ⟨ret_find (by rw [unhide hfb]; rfl), ?_⟩
      repeat (refine Below.setCell ?_ (by first | (simp; done) | (simp; omega)) _)
      exact unhide hB3
    · refine bodyPost_ret (v := findV none) (by simp [results, Try.results15, go_sem, hr3, findV, itemV, zero]; rfl) rfl ⟨ret_find (by rw [unhide hfb]; rfl), ?_⟩
      repeat (refine Below.setCell ?_ (by first | (simp; done) | (simp; omega)) _)
      exact unhide hB3
end Store
end Go.Proofs.Ytdldfohbelcllad
