/-
  The program's shelf: store, find.
-/
import Derived.Test.YthlcmnjaimffdaaClone
namespace Go.Proofs.Ythlcmnjaimffdaa
namespace Shelf
open Go.RowKit Base Items Keep Own Chain Store
set_option linter.unusedVariables false

theorem set_self {α : Type} {xs : List α} {j : Nat} {v : α} (h : xs[j]? = some v) : xs.set j v = xs := by
  obtain ⟨hj, rfl⟩ := List.getElem?_eq_some_iff.1 h
  simp
/-- An item is written over itself. -/
theorem row_same {w : World} {t : TypeId} {g cap : Nat} {its : List Itm} (h : Row w t 5 g its.length cap (flat its)) {k : Nat} (hk : k < its.length) {x : Itm} (hx : x = its.getD k zero) :
    Row (((((w.setCell ⟨g, k * 5, none⟩ (.string x.key)).setCell ⟨g, k * 5 + 1, none⟩ (.int .i64 x.flags)).setCell ⟨g, k * 5 + 2, none⟩ (.string x.data)).setCell ⟨g, k * 5 + 3, none⟩ (.int .i64 x.upto)).setCell ⟨g, k * 5 + 4, none⟩ (.int .i64 x.token)) t 5 g its.length cap (flat its) := by
  subst hx
  have e0 : (flat its)[k * 5]? = some (.string (its.getD k zero).key) := by rw [flat_get its _ (by omega), icell, show (k * 5) % 5 = 0 by omega, show (k * 5) / 5 = k by omega]; simp
  have e1 : (flat its)[k * 5 + 1]? = some (.int .i64 (its.getD k zero).flags) := by rw [flat_get its _ (by omega), icell, show (k * 5 + 1) % 5 = 1 by omega, show (k * 5 + 1) / 5 = k by omega]; simp
  have e2 : (flat its)[k * 5 + 2]? = some (.string (its.getD k zero).data) := by rw [flat_get its _ (by omega), icell, show (k * 5 + 2) % 5 = 2 by omega, show (k * 5 + 2) / 5 = k by omega]; simp
  have e3 : (flat its)[k * 5 + 3]? = some (.int .i64 (its.getD k zero).upto) := by rw [flat_get its _ (by omega), icell, show (k * 5 + 3) % 5 = 3 by omega, show (k * 5 + 3) / 5 = k by omega]; simp
  have e4 : (flat its)[k * 5 + 4]? = some (.int .i64 (its.getD k zero).token) := by rw [flat_get its _ (by omega), icell, show (k * 5 + 4) % 5 = 4 by omega, show (k * 5 + 4) / 5 = k by omega]; simp
  have h0 := row_set h (j := k * 5) (by omega) (.string (its.getD k zero).key)
  rw [set_self e0] at h0
  have h1 := row_set h0 (j := k * 5 + 1) (by omega) (.int .i64 (its.getD k zero).flags)
  rw [set_self e1] at h1
  have h2 := row_set h1 (j := k * 5 + 2) (by omega) (.string (its.getD k zero).data)
  rw [set_self e2] at h2
  have h3 := row_set h2 (j := k * 5 + 3) (by omega) (.int .i64 (its.getD k zero).upto)
  rw [set_self e3] at h3
  have h4 := row_set h3 (j := k * 5 + 4) (by omega) (.int .i64 (its.getD k zero).token)
  rw [set_self e4] at h4
  exact h4

set_option maxRecDepth 10000 in
set_option maxHeartbeats 2000000 in
theorem store_shelf (w : World) (hb : Nat) (S : List Nat) (lim nx lost : Int) (its : List Itm) (hs : Shelf w hb S lim nx lost its) (hl : its.length ≤ 100) :
    Calls Try.prog 36 #[.pointer (some ⟨hb, 0, none⟩)] w fun e w' => ∃ a cap, e = .returned (.agg #[.int .i64 lim, .int .i64 nx, .slice a its.length cap]) ∧
      w'.ownsRow w.heap.size 40 5 (.slice a its.length cap) its.length (flat its) ∧ Below w.heap.size w w' := by
  have hks := hide (shelf_keys hs).2
  obtain ⟨gl, gf, bm, ls, free, order, cl, vf, D, hp⟩ := hs
  have hol : order.length = its.length := by rw [← hp.items, items_len]
  have hval := fun w' (hk : Below w.heap.size w w') => values_any w' hb _ gl gf ls free order cl vf (hp.keep (Keeps.of_below (S := []) hk (fun _ h1 _ => h1)) (by simp)).mem hp.good (by have := hp.len; omega)
  rw [hp.items, hol] at hval
  have HV := hide hval
  have HBX := hide (hp.mem.box)
  have hlt := hp.mem.box.lt
  clear hval hp
  go_enter Try.func36, Try.ntmps36
  go_wp2_with fail
  refine (unhide HV _ (bel1 w _)).mono ?_
  rintro e w1 ⟨va, vc, rfl, hown, hb1⟩
  simp only [World.size_alloc] at hown hb1
  have HO := hide hown
  have HB1 := hide hb1
  clear hown hb1 HV
  go_wp2_with fail
  go_loopw [12] (fun i wr => ∃ (k : Nat), k ≤ its.length ∧ i = .int .i64 k ∧ Hid (wr.ownsRow (w.heap.size + 1) 40 5 (.slice va its.length vc) its.length (flat its)) ∧ Hid (Below (w.heap.size + 1) (w.alloc (.cells #[.int .i64 0, .int .i64 0, .slice none 0 0] 29)) wr)) (fun i _ => its.length - (intOf i).toNat)
  case atStart => exact ⟨0, Nat.zero_le _, rfl, HO, HB1⟩
  case round =>
    obtain ⟨k, hk, rfl, hown, hbel⟩ := hrel
    have hB : Hid (Below w.heap.size w wr) := (bel1 w _).trans ((unhide hbel).mono (by omega))
    have hzw : w.heap.size + 1 ≤ wr.heap.size := by have := (unhide hbel).size; simp at this; omega
    by_cases hlt' : k < its.length
    · obtain ⟨g, cap, hva, hg, hrow⟩ := Row.of_owns (unhide hown) (by omega)
      simp only [Value.slice.injEq, true_and] at hva
      obtain ⟨rfl, rfl⟩ := hva
      obtain ⟨c0, c1, c2, c3, c4⟩ := row_at hrow hlt'
      have hsm := hide (small_getD (unhide hks) k hlt')
      have hsame := hide (fun (W : World) (h : Row W 40 5 g its.length vc (flat its)) => row_same h hlt' (x := its.getD k zero) rfl)
      have HR := hide hrow
      have hgl := hrow.lt
      have hki : (k : Int) < its.length := by omega
      clear hrow
      have hcc := hide (fun (W : World) (h : Row W 40 5 g its.length vc (flat its)) => row_at h hlt')
      generalize its.getD k zero = x at c0 c1 c2 c3 c4 hsm hsame hcc
      go_wp2_with fail
      refine (copyOf_any x _ (unhide hsm)).mono ?_
      rintro e w2 ⟨rfl, hb2⟩
      simp only [World.size_alloc] at hb2
      have HR2 := hide (((unhide HR).alloc (.cells #[.string x.key, .int .i64 x.flags, .string x.data, .int .i64 x.upto, .int .i64 x.token] 40)).of_block (hb2.block g (by omega)))
      have HB2 := hide (((unhide hbel).alloc (by omega) _).trans (hb2.mono (by omega)))
      obtain ⟨d0, d1, d2, d3, d4⟩ := unhide hcc _ (unhide HR2)
      have fz := fun j => Row.frozen (unhide HR2) j
      clear c0 c1 c2 c3 c4 hb2
      unfold itemV
      go_wp2
      have R5 := unhide hsame _ (unhide HR2)
      have B5 := (((((unhide HB2).setCell (p := ⟨g, k * 5, none⟩) hg (.string x.key)).setCell (p := ⟨g, k * 5 + 1, none⟩) hg (.int .i64 x.flags)).setCell (p := ⟨g, k * 5 + 2, none⟩) hg (.string x.data)).setCell (p := ⟨g, k * 5 + 3, none⟩) hg (.int .i64 x.upto)).setCell (p := ⟨g, k * 5 + 4, none⟩) hg (.int .i64 x.token)
      go_roundw
      case rel => exact ⟨k + 1, by omega, by go_num, hide (R5.owns hg), hide B5⟩
      case measure => simp [intOf]; omega
    · obtain ⟨c0, c1, c2, c3, c4, c5, c6⟩ := ((unhide HBX).of_block ((unhide hB).block hb hlt)).cells
      have hr := fun o => (unhide hbel).cell (p := ⟨w.heap.size, o, none⟩) (by simp)
      have hrf := fun o => (unhide hbel).frozen (p := ⟨w.heap.size, o, none⟩) (by simp)
      clear c2 c3 c4 c5 c6
      go_wp2
      go_region
      go_wp2
      refine bodyPost_ret (v := .agg #[.int .i64 lim, .int .i64 nx, .slice va its.length vc]) (by simp [results, Try.results36, go_sem, hr]; done) rfl ⟨va, vc, rfl, ?_, ?_⟩
      · refine own_le (base := w.heap.size + 1) ?_ (by omega)
        show ((((wr.setCell ⟨w.heap.size, 0, none⟩ (.int .i64 lim)).setCell ⟨w.heap.size, 1, none⟩ (.int .i64 nx)).setCell ⟨w.heap.size, 2, none⟩ (.slice va its.length vc))).ownsRow (w.heap.size + 1) _ _ _ _ _
        exact ownsRow_setCell_below (ownsRow_setCell_below (ownsRow_setCell_below (unhide hown) (show w.heap.size < w.heap.size + 1 by omega) _) (show w.heap.size < w.heap.size + 1 by omega) _) (show w.heap.size < w.heap.size + 1 by omega) _
      · exact ((((unhide hB).setCell (p := ⟨w.heap.size, 0, none⟩) (Nat.le_refl _) _).setCell (p := ⟨w.heap.size, 1, none⟩) (Nat.le_refl _) _).setCell (p := ⟨w.heap.size, 2, none⟩) (Nat.le_refl _) _).drew
end Shelf
end Go.Proofs.Ythlcmnjaimffdaa
