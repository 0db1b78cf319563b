/-
  The program's shelf: isOld, dropOld.
-/
import Derived.Test.YthlcmnjaimffdaaShelfT
namespace Go.Proofs.Ythlcmnjaimffdaa
namespace Shelf
open Go.RowKit Base Items Keep Own Chain Store
set_option linter.unusedVariables false

set_option maxRecDepth 10000 in
set_option maxHeartbeats 400000 in
theorem isOld_any (x : Itm) (now : Int) (w : World) :
    Calls Try.prog 52 #[.agg #[.string x.key, .int .i64 x.flags, .string x.data, .int .i64 x.upto, .int .i64 x.token], .int .i64 now] w fun e w' => e = .returned (.bool (oldB x now)) ∧ Below w.heap.size w w' := by
  cases h : (x.upto != 0)
  · have H : Hid (oldB x now = false) := by show oldB x now = false; rw [oldB, h]; rfl
    go_enter Try.func52, Try.ntmps52
    go_wp2
    go_ret
    exact ⟨ret_bool (unhide H).symm, bel1 w _⟩
  · have H : Hid (oldB x now = decide (x.upto ≤ now)) := by show oldB x now = _; rw [oldB, h]; rfl
    go_enter Try.func52, Try.ntmps52
    go_wp2
    go_ret
    exact ⟨ret_bool (unhide H).symm, bel1 w _⟩

theorem step_refl {w : World} {hb : Nat} {S : List Nat} {lim nx lost : Int} {its : List Itm} (h : Shelf w hb S lim nx lost its) : Step w w hb S lim nx lost its := ⟨S, h, fun b hb' => .inl hb', Keeps.refl _ _⟩
/-- Steps one behind the other, with what lies between. -/
theorem step_go {w w1 w2 : World} {hb : Nat} {S S1 : List Nat} {lim nx lost : Int} {its : List Itm} (hk : Keeps S w w1) (hS : ∀ b ∈ S1, b ∈ S ∨ w.heap.size ≤ b) (h : Step w1 w2 hb S1 lim nx lost its) : Step w w2 hb S lim nx lost its := by
  obtain ⟨S2, hs, hS2, hk2⟩ := h
  exact ⟨S2, hs, fun b hb' => (hS2 b hb').elim (hS b) (fun e => .inr (Nat.le_trans hk.size e)), hk.trans hk2 hS⟩
theorem at_mid {l1 l2 : List Itm} {x : Itm} (h : ((l1 ++ x :: l2).map Itm.key).Nodup) : atN (l1 ++ x :: l2) x.key = some l1.length := by
  rw [List.map_append, List.map_cons, List.nodup_append] at h
  refine atN_hit (by simp) (fun j hj => ?_) ?_
  · rw [List.getD_eq_getElem?_getD, List.getElem?_append_left hj, List.getElem?_eq_getElem hj]
    cases e : hasKey x.key l1[j]
    · exact e
    · exact absurd ((hasKey_iff _ _).1 e) (h.2.2 _ (List.mem_map_of_mem (List.getElem_mem hj)) _ (by simp))
  · simp [List.getD_eq_getElem?_getD]
    exact (hasKey_iff _ _).2 rfl
theorem erase_mid {α : Type} (l1 l2 : List α) (x : α) : (l1 ++ x :: l2).eraseIdx l1.length = l1 ++ l2 := by
  rw [List.eraseIdx_append_of_length_le (Nat.le_refl _)]
  simp
theorem get_mid (l1 l2 : List Itm) (x : Itm) : (l1 ++ x :: l2).getD l1.length zero = x := by simp [List.getD_eq_getElem?_getD]

/-- The items behind k rounds of dropOld. -/
def mid (its : List Itm) (now : Int) (k : Nat) : List Itm := keepB (its.take k) now ++ its.drop k
theorem mid_0 (its : List Itm) (now : Int) : mid its now 0 = its := by simp [mid, keepB]
theorem mid_all (its : List Itm) (now : Int) : mid its now its.length = keepB its now := by simp [mid]
theorem mid_cons (its : List Itm) (now : Int) {k : Nat} (hk : k < its.length) : mid its now k = keepB (its.take k) now ++ its.getD k zero :: its.drop (k + 1) := by
  unfold mid
  rw [List.drop_eq_getElem_cons hk, List.getD_eq_getElem?_getD, List.getElem?_eq_getElem hk]
  rfl
theorem mid_old (its : List Itm) (now : Int) {k : Nat} (hk : k < its.length) (h : oldB (its.getD k zero) now = true) : mid its now (k + 1) = keepB (its.take k) now ++ its.drop (k + 1) := by
  unfold mid
  rw [keep_step its now k hk, if_pos h, List.append_nil]
theorem mid_new (its : List Itm) (now : Int) {k : Nat} (hk : k < its.length) (h : oldB (its.getD k zero) now = false) : mid its now (k + 1) = mid its now k := by
  rw [mid_cons its now hk]
  unfold mid
  rw [keep_step its now k hk, if_neg (by rw [h]; simp)]
  simp
theorem mid_len (its : List Itm) (now : Int) (k : Nat) : (mid its now k).length ≤ its.length := by
  have := keep_len its now k
  unfold mid
  have h2 : (keepB (its.take k) now).length ≤ (its.take k).length := List.length_filter_le _ _
  simp at h2 ⊢
  omega

theorem row_at {w : World} {t : TypeId} {g cap : Nat} {its : List Itm} (h : Row w t 5 g its.length cap (flat its)) {k : Nat} (hk : k < its.length) : At w g (k * 5) (its.getD k zero) := by
  have hc : ∀ i, i < 5 → w.cell? ⟨g, k * 5 + i, none⟩ = some (icell its (k * 5 + i)) := fun i hi => Row.cell h (flat_get its _ (by omega))
  refine ⟨?_, ?_, ?_, ?_, ?_⟩
  · have := hc 0 (by omega); rw [Nat.add_zero] at this; rw [this, icell, show (k * 5) % 5 = 0 by omega, show (k * 5) / 5 = k by omega]; simp
  · rw [hc 1 (by omega), icell, show (k * 5 + 1) % 5 = 1 by omega, show (k * 5 + 1) / 5 = k by omega]; simp
  · rw [hc 2 (by omega), icell, show (k * 5 + 2) % 5 = 2 by omega, show (k * 5 + 2) / 5 = k by omega]; simp
  · rw [hc 3 (by omega), icell, show (k * 5 + 3) % 5 = 3 by omega, show (k * 5 + 3) / 5 = k by omega]; simp
  · rw [hc 4 (by omega), icell, show (k * 5 + 4) % 5 = 4 by omega, show (k * 5 + 4) / 5 = k by omega]; simp
theorem shelf_keys {w : World} {hb : Nat} {S : List Nat} {lim nx lost : Int} {its : List Itm} (h : Shelf w hb S lim nx lost its) : (its.map Itm.key).Nodup ∧ ∀ x ∈ its, Small x := by
  obtain ⟨gl, gf, bm, ls, free, order, cl, vf, D, hp⟩ := h
  exact ⟨hp.keys, hp.small⟩

set_option maxRecDepth 10000 in
set_option maxHeartbeats 2000000 in
theorem dropOld_shelf (w : World) (hb : Nat) (S : List Nat) (lim nx lost : Int) (its : List Itm) (now : Int) (hs : Shelf w hb S lim nx lost its) (hl : its.length ≤ 100) :
    Calls Try.prog 35 #[.pointer (some ⟨hb, 0, none⟩), .int .i64 now] w fun e w' => e = .returned (.int .i64 (its.length - (keepB its now).length)) ∧ Step w w' hb S lim nx lost (keepB its now) := by
  have HS := hide hs
  obtain ⟨gl, gf, bm, ls, free, order, cl, vf, D, hp⟩ := hs
  have hol : order.length = its.length := by rw [← hp.items, items_len]
  have hval := fun w' (hk : Below w.heap.size w w') => values_any w' hb _ gl gf ls free order cl vf (hp.keep (Keeps.of_below (S := []) hk (fun _ h1 _ => h1)) (by simp)).mem hp.good (by have := hp.len; omega)
  rw [hp.items, hol] at hval
  have HV := hide hval
  have hSl := hide (hp.lt)
  clear hval hp
  go_enter Try.func35, Try.ntmps35
  go_wp2_with fail
  refine (unhide HV _ (Below.refl _ _)).mono ?_
  rintro e w1 ⟨va, vc, rfl, hown, hb1⟩
  have HO := hide hown
  have HB1 := hide hb1
  have HS1 := hide ((unhide HS).below hb1)
  clear hown hb1 HV
  have hz1 : w.heap.size ≤ w1.heap.size := (unhide HB1).size
  go_wp2_with fail
  go_loopw [5, 13] (fun t i wr => ∃ (k : Nat) (z : Int), k ≤ its.length ∧ i = .int .i64 k ∧ t = .int .i64 z ∧ Hid (z = k - (keepB (its.take k) now).length) ∧ Hid (Step w1 wr hb S lim nx lost (mid its now k))) (fun _ i _ => its.length - (intOf i).toNat)
  case atStart => exact ⟨0, 0, Nat.zero_le _, rfl, rfl, hide (by simp [keepB]), hide (by rw [mid_0]; exact step_refl (unhide HS1))⟩
  case round =>
    obtain ⟨k, z, hk, rfl, rfl, hz, hst⟩ := hrel
    obtain ⟨Sk, hsk, hSk, hkk⟩ := unhide hst
    by_cases hlt : k < its.length
    · obtain ⟨g, cap, hva, hg, hrow⟩ := Row.of_owns (unhide HO) (by omega)
      simp only [Value.slice.injEq, true_and] at hva
      obtain ⟨rfl, rfl⟩ := hva
      have hgS : g ∉ S := fun hm => by have := unhide hSl g hm; omega
      have hrow2 := hrow.keep hkk hgS
      obtain ⟨c0, c1, c2, c3, c4⟩ := row_at hrow2 hlt
      have hkz : (keepB (its.take k) now).length ≤ k := keep_len its now k
      have hzb : 0 ≤ z ∧ z ≤ 100 := by have := unhide hz; omega
      have hkl := hide (keep_step its now k hlt)
      have hm1 := hide (mid_cons its now hlt)
      have hm2 := hide (mid_old its now hlt)
      have hm3 := hide (mid_new its now hlt)
      have hks := hide (shelf_keys hsk)
      have hml := mid_len its now k
      have HSK := hide hsk
      have HSS := hide hSk
      have HKK := hide hkk
      clear hrow hrow2 hsk hSk hkk hst
      generalize its.getD k zero = x at c0 c1 c2 c3 c4 hkl hm1 hm2 hm3
      cases ho : oldB x now
      · rw [ho] at hkl
        have H3 := hide (unhide hm3 ho)
        have HO' := hide ho
        clear ho hm1 hm2 hm3
        go_wp2_with fail
        refine (isOld_any x now _).mono ?_
        rintro e w2 ⟨rfl, hb2⟩
        rw [unhide HO']
        have K2 := hide ((Keeps.refl [] wr).alloc (.cells #[.string x.key, .int .i64 x.flags, .string x.data, .int .i64 x.upto, .int .i64 x.token] 40) |>.trans (Keeps.of_below (S := []) hb2 (fun _ h1 _ => h1)) (by simp))
        clear hb2
        go_wp2
        go_roundw
        case rel =>
          refine ⟨k + 1, z, by omega, by go_num, rfl, hide ?_, hide ?_⟩
          · have := unhide hz; rw [unhide hkl]; simp; omega
          · rw [unhide H3]
            exact ⟨Sk, (unhide HSK).keep (unhide K2) (by simp), unhide HSS, (unhide HKK).trans (unhide K2) (by simp)⟩
        case measure => simp [intOf]; omega
      · rw [ho] at hkl
        have H2 := hide (unhide hm2 ho)
        have HO' := hide ho
        clear ho hm2 hm3
        go_wp2_with fail
        refine (isOld_any x now _).mono ?_
        rintro e w2 ⟨rfl, hb2⟩
        rw [unhide HO']
        simp only [World.size_alloc] at hb2
        have hx2 := boxcell hb2
        have hz2 : wr.heap.size < w2.heap.size := by have := hb2.size; simp at this; omega
        have K2 := hide ((Keeps.refl [] wr).alloc (.cells #[.string x.key, .int .i64 x.flags, .string x.data, .int .i64 x.upto, .int .i64 x.token] 40) |>.trans (Keeps.of_below (S := []) hb2 (fun k h1 _ => by simpa using h1)) (by simp))
        clear hb2
        have hxm : Hid (x.key.size ≤ maxLen) := by
          have h1 := (unhide hks).2 x (by rw [unhide hm1]; simp)
          have h2 := h1.1
          show x.key.size ≤ maxLen
          unfold maxLen
          omega
        have hat : Hid (atN (mid its now k) x.key = some (keepB (its.take k) now).length) := by
          show atN (mid its now k) x.key = _
          have h1 := (unhide hks).1
          rw [unhide hm1] at h1 ⊢
          exact at_mid h1
        go_wp2_with fail
        refine (take_some _ hb Sk lim nx lost (mid its now k) x.key _ ((unhide HSK).keep (unhide K2) (by simp)) (by omega) (unhide hxm) (unhide hat)).mono ?_
        rintro e w3 ⟨rfl, hst3⟩
        have HST : Hid (Step w1 w3 hb S lim nx lost (mid its now (k + 1))) := by
          have h1 := step_go ((unhide HKK).trans (unhide K2) (by simp)) (unhide HSS) hst3
          rw [unhide hm1, erase_mid, ← unhide H2] at h1
          exact h1
        clear hst3 hx2
        go_wp2
        go_roundw
        case rel =>
          refine ⟨k + 1, z + 1, by omega, by go_num, rfl, hide ?_, HST⟩
          have := unhide hz; rw [unhide hkl]; simp; omega
        case measure => simp [intOf]; omega
    · obtain rfl : k = its.length := by omega
      have hz' : Hid (z = its.length - (keepB its now).length) := by have := unhide hz; rw [List.take_length] at this; exact this
      have hst' : Hid (Step w w1 hb S lim nx lost its) := ⟨S, unhide HS1, fun b hb' => .inl hb', Keeps.of_below (unhide HB1) (fun k h1 _ => h1)⟩
      have hfin : Hid (Step w wr hb S lim nx lost (keepB its now)) := by
        have h1 := unhide hst
        rw [mid_all] at h1
        exact step_go (Keeps.of_below (unhide HB1) (fun k h1 _ => h1)) (fun b hb' => .inl hb') h1
      clear hz hst hst' hsk hSk hkk
      go_wp2
      go_ret
      exact ⟨ret_int (unhide hz'), unhide hfin⟩
end Shelf
end Go.Proofs.Ythlcmnjaimffdaa
