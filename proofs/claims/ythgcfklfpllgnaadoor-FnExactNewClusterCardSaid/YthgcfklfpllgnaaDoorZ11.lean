/-
  Contracts of the law files' markItemS, heldItemS, markStore, heldStore: the marks are written into the items' own row and read again.
-/
import Derived.Test.YthgcfklfpllgnaaDoorZ10
import Derived.Test.YthgcfklfpllgnaaDoorZ1
import Derived.Deep.RegionWith
import Derived.Laws.AppendOwn
namespace Go.Proofs.YthgcfklfpllgnaaDoor
namespace Marks
open Go.RowKit Base NumText Items
set_option linter.unusedVariables false

/-- Cell j of a row of items that bears the marks from k on. -/
def mcell (k : Int) (j : Nat) : Value := if j % 5 = 0 ∨ j % 5 = 2 then .string (mtxt (k + j).toNat) else .int .i64 (k + j)
def mhalf (f : Nat → Value) (k : Int) (i j : Nat) : Value := if j < i * 5 then mcell k j else f j
theorem mhalf_step (f : Nat → Value) (k : Int) (i j : Nat) :
    (if j = i * 5 + 4 then Value.int .i64 (k + i * 5 + 1 + 1 + 1 + 1) else if j = i * 5 + 3 then .int .i64 (k + i * 5 + 1 + 1 + 1) else if j = i * 5 + 2 then .string (mtxt (k + i * 5 + 1 + 1).toNat) else
      if j = i * 5 + 1 then .int .i64 (k + i * 5 + 1) else if j = i * 5 then .string (mtxt (k + i * 5).toNat) else mhalf f k i j) = mhalf f k (i + 1) j := by
  unfold mhalf
  by_cases h4 : j = i * 5 + 4
  · subst h4
    rw [if_pos rfl, if_pos (by omega), mcell, if_neg (by omega)]
    congr 1 <;> omega
  rw [if_neg h4]
  by_cases h3 : j = i * 5 + 3
  · subst h3
    rw [if_pos rfl, if_pos (by omega), mcell, if_neg (by omega)]
    congr 1 <;> omega
  rw [if_neg h3]
  by_cases h2 : j = i * 5 + 2
  · subst h2
    rw [if_pos rfl, if_pos (by omega), mcell, if_pos (by omega)]
    congr 3 <;> omega
  rw [if_neg h2]
  by_cases h1 : j = i * 5 + 1
  · subst h1
    rw [if_pos rfl, if_pos (by omega), mcell, if_neg (by omega)]
    congr 1 <;> omega
  rw [if_neg h1]
  by_cases h0 : j = i * 5
  · subst h0
    rw [if_pos rfl, if_pos (by omega), mcell, if_pos (by omega)]
    congr 3 <;> omega
  rw [if_neg h0]
  by_cases h : j < i * 5
  · rw [if_pos h, if_pos (by omega)]
  · rw [if_neg h, if_neg (by omega)]

set_option maxHeartbeats 2000000 in
theorem items_mark (g cap n : Nat) (f : Nat → Value) (k : Int) (w : World) (hr : RowAt w g 92 (n * 5) f) (hk0 : 0 < k) (hk1 : k ≤ 1000000000000) (hn : n ≤ 1000000000) :
    Calls Tryd.prog 36 #[.slice (some ⟨g, 0, none⟩) n cap, .int .i64 k] w fun e w' =>
      e = .returned (.int .i64 (k + n * 5)) ∧ RowAt w' g 92 (n * 5) (mcell k) ∧ w.grownBy w' (some g) := by
  have HR := hide hr
  clear hr
  go_enter Tryd.func36, Tryd.ntmps36
  go_wp2
  go_loopw [1, 5] (fun kv iv wr => ∃ (i : Nat) (z : Int), i ≤ n ∧ 0 < z ∧ z ≤ 1000000000000 + n * 5 ∧ iv = .int .i64 i ∧ kv = .int .i64 z ∧ Hid (z = k + i * 5) ∧ Hid (RowAt wr g 92 (n * 5) (mhalf f k i)) ∧ Hid (w.grownBy wr (some g))) (fun _ iv _ => n - (intOf iv).toNat)
  case atStart => exact ⟨0, k, Nat.zero_le _, hk0, by omega, rfl, rfl, hide (by simp), hide ((unhide HR).congr (fun j _ => by simp [mhalf])), hide (gb_refl _ _)⟩
  case round =>
    obtain ⟨i, z, hi, hz0, hz1, rfl, rfl, hz, hrow, hgb⟩ := hrel
    by_cases hlt : i < n
    · have hzn : z + 5 ≤ 1000000000000 + n * 5 := by have := unhide hz; omega
      have T1 := hide (fun w => text_any z w hz0 (by omega))
      have T2 := hide (fun w => text_any (z + 1 + 1) w (by omega) (by omega))
      have hst := hide (fun j => mhalf_step f k i j)
      rw [← unhide hz] at hst
      go_wp2_with fail
      refine (unhide T1 _).mono ?_
      rintro e w1 ⟨rfl, hb1⟩
      have r1 := (unhide hrow).below hb1 (unhide hrow).lt
      have d0 := r1.cell (i := i * 5) (by omega)
      have d1 := r1.cell (i := i * 5 + 1) (by omega)
      have f0 := r1.frozen (i * 5)
      have f1 := r1.frozen (i * 5 + 1)
      have G1 := hide (gb_trans (unhide hgb) (gb_below (r := some g) hb1 (Nat.le_refl _)))
      have R1 := hide r1
      clear r1 hb1
      generalize mhalf f k i (i * 5) = o0 at d0
      generalize mhalf f k i (i * 5 + 1) = o1 at d1
      go_wp2_with fail
      refine (unhide T2 _).mono ?_
      rintro e w2 ⟨rfl, hb2⟩
      have r2 := (((unhide R1).set (i * 5) (.string (mtxt z.toNat))).set (i * 5 + 1) (.int .i64 (z + 1))).below hb2 (((unhide R1).set (i * 5) (.string (mtxt z.toNat))).set (i * 5 + 1) (.int .i64 (z + 1))).lt
      have G2 := hide (gb_trans (gb_set (gb_set (unhide G1) (i * 5) (.string (mtxt z.toNat))) (i * 5 + 1) (.int .i64 (z + 1))) (gb_below (r := some g) hb2 (Nat.le_refl _)))
      have d2 := r2.cell (i := i * 5 + 2) (by omega)
      have d3 := r2.cell (i := i * 5 + 3) (by omega)
      have d4 := r2.cell (i := i * 5 + 4) (by omega)
      have f2 := r2.frozen (i * 5 + 2)
      have f3 := r2.frozen (i * 5 + 3)
      have f4 := r2.frozen (i * 5 + 4)
      have r5 := hide (((r2.set (i * 5 + 2) (.string (mtxt (z + 1 + 1).toNat))).set (i * 5 + 3) (.int .i64 (z + 1 + 1 + 1))).set (i * 5 + 4) (.int .i64 (z + 1 + 1 + 1 + 1)))
      have G5 := hide (gb_set (gb_set (gb_set (unhide G2) (i * 5 + 2) (.string (mtxt (z + 1 + 1).toNat))) (i * 5 + 3) (.int .i64 (z + 1 + 1 + 1))) (i * 5 + 4) (.int .i64 (z + 1 + 1 + 1 + 1)))
      clear r2 hb2 d0 d1 f0 f1
      generalize (if i * 5 + 2 = i * 5 + 1 then Value.int .i64 (z + 1) else if i * 5 + 2 = i * 5 then Value.string (mtxt z.toNat) else mhalf f k i (i * 5 + 2)) = o2 at d2
      generalize (if i * 5 + 3 = i * 5 + 1 then Value.int .i64 (z + 1) else if i * 5 + 3 = i * 5 then Value.string (mtxt z.toNat) else mhalf f k i (i * 5 + 3)) = o3 at d3
      generalize (if i * 5 + 4 = i * 5 + 1 then Value.int .i64 (z + 1) else if i * 5 + 4 = i * 5 then Value.string (mtxt z.toNat) else mhalf f k i (i * 5 + 4)) = o4 at d4
      go_wp2
      go_roundw
      case rel => exact ⟨i + 1, z + 1 + 1 + 1 + 1 + 1, by omega, by omega, by omega, by go_num, rfl, hide (by have := unhide hz; omega), hide ((unhide r5).congr (fun j _ => unhide hst j)), G5⟩
      case measure => simp [intOf]; omega
    · obtain rfl : i = n := by omega
      have HZ := hide (unhide hz)
      go_wp2
      go_ret
      exact ⟨ret_int (unhide HZ), (unhide hrow).congr (fun j hj => by unfold mhalf; rw [if_pos hj]), unhide hgb⟩

theorem mstr (k : Int) (j : Nat) (h : j % 5 = 0 ∨ j % 5 = 2) : mcell k j = .string (mtxt (k + j).toNat) := by unfold mcell; rw [if_pos h]
theorem mint (k : Int) (j : Nat) (h : ¬ (j % 5 = 0 ∨ j % 5 = 2)) : mcell k j = .int .i64 (k + j) := by unfold mcell; rw [if_neg h]

set_option maxHeartbeats 2000000 in
theorem items_held (g cap n : Nat) (k : Int) (w : World) (hr : RowAt w g 92 (n * 5) (mcell k)) (hk0 : 0 < k) (hk1 : k ≤ 1000000000000) (hn : n ≤ 1000000000) :
    Calls Tryd.prog 37 #[.slice (some ⟨g, 0, none⟩) n cap, .int .i64 k] w fun e w' => e = .returned (.int .i64 (k + n * 5)) ∧ Below w.heap.size w w' := by
  have HR := hide hr
  clear hr
  go_enter Tryd.func37, Tryd.ntmps37
  go_wp2
  go_loopw [1, 5] (fun kv iv wr => ∃ (i : Nat) (z : Int), i ≤ n ∧ 0 < z ∧ z ≤ 1000000000000 + n * 5 ∧ iv = .int .i64 i ∧ kv = .int .i64 z ∧ Hid (z = k + i * 5) ∧ Hid (Below w.heap.size w wr)) (fun _ iv _ => n - (intOf iv).toNat)
  case atStart => exact ⟨0, k, Nat.zero_le _, hk0, by omega, rfl, rfl, hide (by simp), hide (Below.refl _ _)⟩
  case round =>
    obtain ⟨i, z, hi, hz0, hz1, rfl, rfl, hz, hbel⟩ := hrel
    by_cases hlt : i < n
    · have hzn : z + 5 ≤ 1000000000000 + n * 5 := by have := unhide hz; omega
      have T1 := hide (fun w => text_any z w hz0 (by omega))
      have T2 := hide (fun w => text_any (z + 1 + 1) w (by omega) (by omega))
      have hzz := unhide hz
      have row := (unhide HR).below (unhide hbel) (unhide HR).lt
      have c0 : wr.cell? ⟨g, i * 5, none⟩ = some (.string (mtxt z.toNat)) := by rw [row.cell (by omega), mstr k (i * 5) (by omega), show k + (i * 5 : Nat) = z by omega]
      have c1 : wr.cell? ⟨g, i * 5 + 1, none⟩ = some (.int .i64 (z + 1)) := by rw [row.cell (by omega), mint k (i * 5 + 1) (by omega), show k + (i * 5 + 1 : Nat) = z + 1 by omega]
      have c2 : wr.cell? ⟨g, i * 5 + 2, none⟩ = some (.string (mtxt (z + 1 + 1).toNat)) := by rw [row.cell (by omega), mstr k (i * 5 + 2) (by omega), show k + (i * 5 + 2 : Nat) = z + 1 + 1 by omega]
      have c3 : wr.cell? ⟨g, i * 5 + 3, none⟩ = some (.int .i64 (z + 1 + 1 + 1)) := by rw [row.cell (by omega), mint k (i * 5 + 3) (by omega), show k + (i * 5 + 3 : Nat) = z + 1 + 1 + 1 by omega]
      have c4 : wr.cell? ⟨g, i * 5 + 4, none⟩ = some (.int .i64 (z + 1 + 1 + 1 + 1)) := by rw [row.cell (by omega), mint k (i * 5 + 4) (by omega), show k + (i * 5 + 4 : Nat) = z + 1 + 1 + 1 + 1 by omega]
      have hglt : g < wr.heap.size := row.lt
      clear row hzz
      go_wp2
      go_region_with (go_at_call 22; refine (unhide T1 _).mono ?_; rintro e w1 ⟨rfl, hb1⟩; have hc1 := fun o => hb1.cell (p := ⟨g, o, none⟩) hglt; have hb1 := hide hb1)
      all_goals
        go_wp2
        have hg1 : g < w1.heap.size := Nat.lt_of_lt_of_le hglt (unhide hb1).size
        go_region_with (go_at_call 22; refine (unhide T2 _).mono ?_; rintro e w2 ⟨rfl, hb2⟩; have hc2 := fun o => hb2.cell (p := ⟨g, o, none⟩) hg1; have hb2 := hide hb2)
        all_goals
          go_wp2
          go_roundw
          case rel => exact ⟨i + 1, z + 1 + 1 + 1 + 1 + 1, by omega, by omega, by omega, by go_num, rfl, hide (by have := unhide hz; omega), hide (((unhide hbel).drew.trans ((unhide hb1).mono (unhide hbel).size)).drew.trans ((unhide hb2).mono (Nat.le_trans (unhide hbel).size (unhide hb1).size)))⟩
          case measure => simp [intOf]; omega
    · obtain rfl : i = n := by omega
      have HZ := hide (unhide hz)
      go_wp2
      go_ret
      exact ⟨ret_int (unhide HZ), unhide hbel⟩

/-- A slice of n items that may be written: empty, or the head of a row of its own; r names the row. -/
def Ours (w : World) (a : Option Addr) (n : Nat) (f : Nat → Value) (r : Option Nat) : Prop :=
  (n = 0 ∧ r = none) ∨ ∃ g, a = some ⟨g, 0, none⟩ ∧ r = some g ∧ RowAt w g 92 (n * 5) f
theorem Ours.below {w w' : World} {a : Option Addr} {n : Nat} {f : Nat → Value} {r : Option Nat} {B : Nat} (h : Ours w a n f r) (hb : Below B w w') (hB : w.heap.size ≤ B) : Ours w' a n f r := by
  rcases h with h | ⟨g, ha, hr, h⟩
  · exact .inl h
  · exact .inr ⟨g, ha, hr, h.below hb (Nat.lt_of_lt_of_le h.lt hB)⟩
theorem Ours.gb {w w' : World} {a : Option Addr} {n : Nat} {f : Nat → Value} {r q : Option Nat} (h : Ours w a n f r) (hg : w.grownBy w' q) (hne : ∀ g, r = some g → some g ≠ q) : Ours w' a n f r := by
  rcases h with h | ⟨g, ha, hr, h⟩
  · exact .inl h
  · exact .inr ⟨g, ha, hr, h.of_block (hg.block g h.lt (hne g hr))⟩
theorem Ours.lt {w : World} {a : Option Addr} {n : Nat} {f : Nat → Value} {r : Option Nat} (h : Ours w a n f r) : ∀ g, r = some g → g < w.heap.size := by
  intro g e
  rcases h with ⟨_, hr⟩ | ⟨g', _, hr, h⟩
  · rw [hr] at e; simp at e
  · rw [hr] at e; simp at e; rw [← e]; exact h.lt
theorem Ours.at {w : World} {a : Option Addr} {its : List Itm} {r : Option Nat} (h : Ours w a its.length (icell its) r) : ItemsAt w a its := by
  intro hne
  rcases h with ⟨h0, _⟩ | ⟨g, ha, _, c, hb, hn, hc⟩
  · exact absurd (List.length_eq_zero_iff.1 h0) hne
  · have hrow : RowAt w g 92 (its.length * 5) (icell its) := ⟨c, hb, hn, hc⟩
    refine ⟨g, 0, ha, hrow.lt, fun i hi => ?_⟩
    rw [Nat.zero_add]
    refine ⟨?_, ?_, ?_, ?_, ?_⟩
    · rw [hrow.cell (by omega), icell, show (i * 5) % 5 = 0 by omega, show (i * 5) / 5 = i by omega]; simp
    · rw [hrow.cell (by omega), icell, show (i * 5 + 1) % 5 = 1 by omega, show (i * 5 + 1) / 5 = i by omega]; simp
    · rw [hrow.cell (by omega), icell, show (i * 5 + 2) % 5 = 2 by omega, show (i * 5 + 2) / 5 = i by omega]; simp
    · rw [hrow.cell (by omega), icell, show (i * 5 + 3) % 5 = 3 by omega, show (i * 5 + 3) / 5 = i by omega]; simp
    · rw [hrow.cell (by omega), icell, show (i * 5 + 4) % 5 = 4 by omega, show (i * 5 + 4) / 5 = i by omega]; simp
theorem Ours.row {w : World} {b : Nat} {its : List Itm} (h : w.rowIs b 92 (its.length * 5) (icell its)) : Ours w (some ⟨b, 0, none⟩) its.length (icell its) (some b) :=
  .inr ⟨b, rfl, rfl, RowAt.of_row h⟩

set_option maxHeartbeats 400000 in
theorem items_mark_any (a : Option Addr) (cap n : Nat) (f : Nat → Value) (r : Option Nat) (k : Int) (w : World) (hr : Ours w a n f r) (hk0 : 0 < k) (hk1 : k ≤ 1000000000000) (hn : n ≤ 1000000000) :
    Calls Tryd.prog 36 #[.slice a n cap, .int .i64 k] w fun e w' => e = .returned (.int .i64 (k + n * 5)) ∧ Ours w' a n (mcell k) r ∧ w.grownBy w' r := by
  rcases hr with ⟨h0, hr0⟩ | ⟨g, rfl, rfl, h⟩
  · subst h0 hr0
    go_enter Tryd.func36, Tryd.ntmps36
    go_wp2
    go_loop [1, 5] (fun kv i => i = .int .i64 0 ∧ kv = .int .i64 k) (fun _ _ => 0)
    case atStart => exact ⟨rfl, rfl⟩
    case round =>
      obtain ⟨rfl, rfl⟩ := hrel
      go_wp2
      go_ret
      exact ⟨ret_int (by simp), .inl ⟨rfl, rfl⟩, gb_refl _ _⟩
  · exact (items_mark g cap n f k w h hk0 hk1 hn).mono fun e w' ⟨he, h1, h2⟩ => ⟨he, .inr ⟨g, rfl, rfl, h1⟩, h2⟩
set_option maxHeartbeats 400000 in
theorem items_held_any (a : Option Addr) (cap n : Nat) (r : Option Nat) (k : Int) (w : World) (hr : Ours w a n (mcell k) r) (hk0 : 0 < k) (hk1 : k ≤ 1000000000000) (hn : n ≤ 1000000000) :
    Calls Tryd.prog 37 #[.slice a n cap, .int .i64 k] w fun e w' => e = .returned (.int .i64 (k + n * 5)) ∧ Below w.heap.size w w' := by
  rcases hr with ⟨h0, hr0⟩ | ⟨g, rfl, rfl, h⟩
  · subst h0 hr0
    go_enter Tryd.func37, Tryd.ntmps37
    go_wp2
    go_loop [1, 5] (fun kv i => i = .int .i64 0 ∧ kv = .int .i64 k) (fun _ _ => 0)
    case atStart => exact ⟨rfl, rfl⟩
    case round =>
      obtain ⟨rfl, rfl⟩ := hrel
      go_wp2
      go_ret
      exact ⟨ret_int (by simp), Below.refl _ _⟩
  · exact items_held g cap n k w h hk0 hk1 hn
end Marks
end Go.Proofs.YthgcfklfpllgnaaDoor
/-
  The same slice, as marks and looks ask for it. No Go function is spoken of here.
-/
namespace Go.Proofs.YthgcfklfpllgnaaDoor
namespace Own
open Go.RowKit Base Items Marks

theorem own_ours {w : World} {base : Nat} {a : Option Addr} {cap : Nat} {its : List Itm} (h : w.ownsRow base 92 5 (.slice a its.length cap) its.length (flat its)) :
    ∃ r, Ours w a its.length (icell its) r ∧ ∀ g, r = some g → base ≤ g := by
  rcases h.2 with ⟨_, h0⟩ | ⟨g, cap', cur, hv, hg, hh, hn, _, hsz, ht⟩
  · exact ⟨none, .inl ⟨h0, rfl⟩, fun g e => by simp at e⟩
  · simp only [Value.slice.injEq] at hv
    refine ⟨some g, .inr ⟨g, hv.1, rfl, cur, hh, by rw [hsz]; omega, fun i hi => ?_⟩, fun g' e => by simp at e; omega⟩
    rw [← flat_get its i hi, ← ht, List.getElem?_take_of_lt hi]
    simp
end Own
end Go.Proofs.YthgcfklfpllgnaaDoor
/-
  The contract of the model's l2Drop, by a plain function of the items, for every store whose items lie in memory; what DropOld hands back.
-/
namespace Go.Proofs.YthgcfklfpllgnaaDoor
namespace Store
open Go.RowKit Base GoodKey Items Own
set_option linter.unusedVariables false

def keepB (its : List Itm) (now : Int) : List Itm := its.filter (fun x => !oldB x now)
theorem keep_step (its : List Itm) (now : Int) (k : Nat) (h : k < its.length) : keepB (its.take (k + 1)) now = keepB (its.take k) now ++ (if oldB (its.getD k zero) now = true then [] else [its.getD k zero]) := by
  unfold keepB
  rw [List.take_succ_eq_append_getElem h, List.filter_append]
  congr 1
  rw [List.getD_eq_getElem?_getD, List.getElem?_eq_getElem h]
  simp only [Option.getD_some]
  cases e : oldB its[k] now <;> simp [e]
theorem keep_len (its : List Itm) (now : Int) (k : Nat) : (keepB (its.take k) now).length ≤ k := by
  unfold keepB
  exact Nat.le_trans (List.length_filter_le _ _) (List.length_take_le _ _)

theorem info_ex : ∃ i : TypeInfo, Tryd.prog.info? 92 = some i ∧ i.zero = some (.agg #[.string ByteArray.empty, .int .i64 0, .string ByteArray.empty, .int .i64 0, .int .i64 0]) ∧ i.size = 5 ∧ i.bytes = 56 := by
  have h : (Tryd.prog.info? 92).map (fun i => (i.zero, i.size, i.bytes)) = some (some (.agg #[.string ByteArray.empty, .int .i64 0, .string ByteArray.empty, .int .i64 0, .int .i64 0]), 5, 56) := by kernel_rfl
  obtain ⟨i, hi, hz⟩ := Option.map_eq_some_iff.1 h
  simp only [Prod.mk.injEq] at hz
  exact ⟨i, hi, hz.1, hz.2.1, hz.2.2⟩

/-- What DropOld hands back: the store's fields, how many went, whether. -/
structure Dropped where
  lim : Int
  nx : Int
  its : List Itm
  many : Int
  ok : Bool
def dropR (lim nx : Int) (its : List Itm) (now : Int) : Dropped :=
  if gsB lim nx its = true then if inB now 0 1000000000 = true then ⟨lim, nx, keepB its now, its.length - (keepB its now).length, true⟩ else ⟨0, 0, [], 0, false⟩ else ⟨0, 0, [], 0, false⟩
theorem dropR_len (lim nx : Int) (its : List Itm) (now : Int) : (dropR lim nx its now).its.length ≤ its.length := by
  unfold dropR
  split
  · split
    · exact List.length_filter_le _ _
    · exact Nat.zero_le _
  · exact Nat.zero_le _
/-- The ending of DropOld, and what it leaves in memory. -/
def DropEnd (T : Dropped) (w : World) (e : Ending) (w' : World) : Prop :=
  ∃ a cap r, e = .returned (.tuple #[.agg #[.int .i64 T.lim, .int .i64 T.nx, .slice a T.its.length cap], .int .i64 T.many, .bool T.ok]) ∧ Marks.Ours w' a T.its.length (icell T.its) r ∧ (∀ g, r = some g → w.heap.size ≤ g) ∧ Below w.heap.size w w'

end Store
end Go.Proofs.YthgcfklfpllgnaaDoor
