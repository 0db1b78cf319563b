/-
  Contracts of the law files' markIntS, heldIntS, eqIntS over rows of numbers; rows of numbers that a call made. (By a program of mine out of IntM, IntL, IntE, for a seat without marks of texts.)
-/
import Derived.Test.YtmbkdejlbeailaaMarkP
import Derived.Test.YtmbkdejlbeailaaRows
import Derived.Test.YtmbkdejlbeailaaOwnR
import Derived.Deep.RegionWith
import Derived.BigQuiet
import Derived.Deep.QuietTactic
import Derived.Laws.AppendOwn
namespace Go.Proofs.Ytmbkdejlbeailaa
namespace IntsM
open Go.RowKit Base NumText Marks
set_option linter.unusedVariables false


/-- Cell j of a row that bears the marks from k on. -/
def mcell (k : Int) (j : Nat) : Value := .int .i64 (k + j)
theorem mc0 (k : Int) (j : Nat) (h : j % 1 = 0) : mcell k j = .int .i64 (k + j) := rfl
def mhalf (f : Nat → Value) (k : Int) (i j : Nat) : Value := if j < i then mcell k j else f j
theorem mhalf_step (f : Nat → Value) (k : Int) (i j : Nat) : (if j = i then (.int .i64 (k + i) : Value) else mhalf f k i j) = mhalf f k (i + 1) j := by
  unfold mhalf
  by_cases h0 : j = i
  · rw [if_pos h0, if_pos (by omega), mc0 _ _ (by omega), show k + (j : Int) = k + i by omega]
  rw [if_neg h0]
  by_cases h : j < i
  · rw [if_pos h, if_pos (by omega)]
  · rw [if_neg h, if_neg (by omega)]

set_option maxRecDepth 10000 in
set_option maxHeartbeats 2000000 in
theorem row_mark (g cap n : Nat) (f : Nat → Value) (k : Int) (w : World) (hr : RowAt w g 3 (n) f) (hk0 : 0 < k) (hk1 : k ≤ 1000000000000) (hn : n ≤ 1000000000) :
    Calls Try.prog 22 #[.slice (some ⟨g, 0, none⟩) n cap, .int .i64 k] w fun e w' =>
      e = .returned (.int .i64 (k + n)) ∧ RowAt w' g 3 (n) (mcell k) ∧ w.grownBy w' (some g) := by
  have HR := hide hr
  clear hr
  go_enter Try.func22, Try.ntmps22
  go_wp2
  go_loopw [1, 5] (fun kv iv wr => ∃ (i : Nat) (z : Int), i ≤ n ∧ 0 < z ∧ z ≤ 1000000000000 + n ∧ iv = .int .i64 i ∧ kv = .int .i64 z ∧ Hid (z = k + i) ∧ Hid (RowAt wr g 3 (n) (mhalf f k i)) ∧ Hid (w.grownBy wr (some g))) (fun _ iv _ => n - (intOf iv).toNat)
  case atStart => exact ⟨0, k, Nat.zero_le _, hk0, by omega, rfl, rfl, hide (by simp), hide ((unhide HR).congr (fun j _ => by simp [mhalf])), hide (gb_refl _ _)⟩
  case round =>
    obtain ⟨i, z, hi, hz0, hz1, rfl, rfl, hz, hrow, hgb⟩ := hrel
    by_cases hlt : i < n
    · have hzn : z + 1 ≤ 1000000000000 + n := by have := unhide hz; omega
      have hst := hide (fun j => mhalf_step f k i j)
      rw [← unhide hz] at hst
      have r1 := (unhide hrow)
      have G1 := hide (unhide hgb)
      have d0 := r1.cell (i := i) (by omega)
      have f0 := r1.frozen (i)
      generalize (mhalf f k i (i)) = o0 at d0
      have R1 := hide r1
      clear r1
      have RE := hide ((unhide R1).set (i) (.int .i64 (z)))
      have GE := hide (gb_set (unhide G1) (i) (.int .i64 (z)))
      go_wp2
      go_roundw
      case rel => exact ⟨i + 1, z + 1, by omega, by omega, by omega, by go_num, rfl, hide (by have := unhide hz; omega), hide ((unhide RE).congr (fun j _ => unhide hst j)), GE⟩
      case measure => simp [intOf]; omega
    · obtain rfl : i = n := by omega
      have HZ := hide (unhide hz)
      go_wp2
      go_ret
      exact ⟨ret_int (unhide HZ), (unhide hrow).congr (fun j hj => by unfold mhalf; rw [if_pos hj]), unhide hgb⟩

/-- A slice of n elements that may be written: empty, or the head of a row of its own; r names the row. -/
def Ours (w : World) (a : Option Addr) (n : Nat) (f : Nat → Value) (r : Option Nat) : Prop :=
  (n = 0 ∧ r = none) ∨ ∃ g, a = some ⟨g, 0, none⟩ ∧ r = some g ∧ RowAt w g 3 (n) f
theorem Ours.below {w w' : World} {a : Option Addr} {n : Nat} {f : Nat → Value} {r : Option Nat} {B : Nat} (h : Ours w a n f r) (hb : Below B w w') (hB : w.heap.size ≤ B) : Ours w' a n f r := by
  rcases h with h | ⟨g, ha, hr, h⟩
  · exact .inl h
  · exact .inr ⟨g, ha, hr, h.below hb (Nat.lt_of_lt_of_le h.lt hB)⟩
theorem Ours.gb {w w' : World} {a : Option Addr} {n : Nat} {f : Nat → Value} {r q : Option Nat} (h : Ours w a n f r) (hg : w.grownBy w' q) (hne : ∀ g, r = some g → some g ≠ q) : Ours w' a n f r := by
  rcases h with h | ⟨g, ha, hr, h⟩
  · exact .inl h
  · exact .inr ⟨g, ha, hr, h.of_block (hg.block g h.lt (hne g hr))⟩
theorem Ours.lt {w : World} {a : Option Addr} {n : Nat} {f : Nat → Value} {r : Option Nat} (h : Ours w a n f r) : ∀ g, r = some g → g < w.heap.size := by
  intro g e
  rcases h with ⟨_, hr⟩ | ⟨g', _, hr, h⟩
  · rw [hr] at e; simp at e
  · rw [hr] at e; simp at e; rw [← e]; exact h.lt
theorem Ours.congr {w : World} {a : Option Addr} {n : Nat} {f f' : Nat → Value} {r : Option Nat} (h : Ours w a n f r) (e : ∀ i, i < n → f i = f' i) : Ours w a n f' r := by
  rcases h with h | ⟨g, ha, hr, h⟩
  · exact .inl h
  · exact .inr ⟨g, ha, hr, h.congr e⟩
theorem Ours.row {w : World} {b n : Nat} {f : Nat → Value} (h : w.rowIs b 3 (n) f) : Ours w (some ⟨b, 0, none⟩) n f (some b) :=
  .inr ⟨b, rfl, rfl, RowAt.of_row h⟩

set_option maxHeartbeats 400000 in
theorem mark_any (a : Option Addr) (cap n : Nat) (f : Nat → Value) (r : Option Nat) (k : Int) (w : World) (hr : Ours w a n f r) (hk0 : 0 < k) (hk1 : k ≤ 1000000000000) (hn : n ≤ 1000000000) :
    Calls Try.prog 22 #[.slice a n cap, .int .i64 k] w fun e w' => e = .returned (.int .i64 (k + n)) ∧ Ours w' a n (mcell k) r ∧ w.grownBy w' r := by
  rcases hr with ⟨h0, hr0⟩ | ⟨g, rfl, rfl, h⟩
  · subst h0 hr0
    go_enter Try.func22, Try.ntmps22
    go_wp2
    go_loop [1, 5] (fun kv i => i = .int .i64 0 ∧ kv = .int .i64 k) (fun _ _ => 0)
    case atStart => exact ⟨rfl, rfl⟩
    case round =>
      obtain ⟨rfl, rfl⟩ := hrel
      go_wp2
      go_ret
      exact ⟨ret_int (by simp), .inl ⟨rfl, rfl⟩, gb_refl _ _⟩
  · exact (row_mark g cap n f k w h hk0 hk1 hn).mono fun e w' ⟨he, h1, h2⟩ => ⟨he, .inr ⟨g, rfl, rfl, h1⟩, h2⟩


set_option maxRecDepth 10000 in
set_option maxHeartbeats 2000000 in
theorem row_held (g cap n : Nat) (k : Int) (w : World) (hr : RowAt w g 3 (n) (mcell k)) (hk0 : 0 < k) (hk1 : k ≤ 1000000000000) (hn : n ≤ 1000000000) :
    Calls Try.prog 23 #[.slice (some ⟨g, 0, none⟩) n cap, .int .i64 k] w fun e w' => e = .returned (.int .i64 (k + n)) ∧ Below w.heap.size w w' := by
  have HR := hide hr
  clear hr
  go_enter Try.func23, Try.ntmps23
  go_wp2
  go_loopw [1, 5] (fun kv iv wr => ∃ (i : Nat) (z : Int), i ≤ n ∧ 0 < z ∧ z ≤ 1000000000000 + n ∧ iv = .int .i64 i ∧ kv = .int .i64 z ∧ Hid (z = k + i) ∧ Hid (Below w.heap.size w wr)) (fun _ iv _ => n - (intOf iv).toNat)
  case atStart => exact ⟨0, k, Nat.zero_le _, hk0, by omega, rfl, rfl, hide (by simp), hide (Below.refl _ _)⟩
  case round =>
    obtain ⟨i, z, hi, hz0, hz1, rfl, rfl, hz, hbel⟩ := hrel
    by_cases hlt : i < n
    · have hzn : z + 1 ≤ 1000000000000 + n := by have := unhide hz; omega
      have hzz := unhide hz
      have row := (unhide HR).below (unhide hbel) (unhide HR).lt
      have c0 : wr.cell? ⟨g, i, none⟩ = some (.int .i64 (z)) := by rw [row.cell (by omega), mc0 k (i) (by omega), show k + ((i : Nat) : Int) = z by omega]
      have hglt : g < wr.heap.size := row.lt
      clear row hzz
      go_wp2
      go_roundw
      case rel => exact ⟨i + 1, z + 1, by omega, by omega, by omega, by go_num, rfl, hide (by have := unhide hz; omega), hide (unhide hbel)⟩
      case measure => simp [intOf]; omega
    · obtain rfl : i = n := by omega
      have HZ := hide (unhide hz)
      go_wp2
      go_ret
      exact ⟨ret_int (unhide HZ), unhide hbel⟩

set_option maxHeartbeats 400000 in
theorem held_any (a : Option Addr) (cap n : Nat) (r : Option Nat) (k : Int) (w : World) (hr : Ours w a n (mcell k) r) (hk0 : 0 < k) (hk1 : k ≤ 1000000000000) (hn : n ≤ 1000000000) :
    Calls Try.prog 23 #[.slice a n cap, .int .i64 k] w fun e w' => e = .returned (.int .i64 (k + n)) ∧ Below w.heap.size w w' := by
  rcases hr with ⟨h0, hr0⟩ | ⟨g, rfl, rfl, h⟩
  · subst h0 hr0
    go_enter Try.func23, Try.ntmps23
    go_wp2
    go_loop [1, 5] (fun kv i => i = .int .i64 0 ∧ kv = .int .i64 k) (fun _ _ => 0)
    case atStart => exact ⟨rfl, rfl⟩
    case round =>
      obtain ⟨rfl, rfl⟩ := hrel
      go_wp2
      go_ret
      exact ⟨ret_int (by simp), Below.refl _ _⟩
  · exact row_held g cap n k w h hk0 hk1 hn
end IntsM
namespace Ints
open Go.RowKit Base OwnR
def ncell (l : List Int) (i : Nat) : Value := .int .i64 (l.getD i 0)


/-- A slice of numbers that lies in memory. -/
def NAt (w : World) (a : Option Addr) (l : List Int) : Prop := l ≠ [] → ∃ b off, a = some ⟨b, off, none⟩ ∧ b < w.heap.size ∧ ∀ i, i < l.length → w.cell? ⟨b, off + i, none⟩ = some (.int .i64 (l.getD i 0))
theorem ours_at {w : World} {a : Option Addr} {l : List Int} {r : Option Nat} (h : IntsM.Ours w a l.length (ncell l) r) : NAt w a l := by
  intro hne
  rcases h with ⟨h0, _⟩ | ⟨g, ha, _, hrow⟩
  · exact absurd (List.length_eq_zero_iff.1 h0) hne
  · refine ⟨g, 0, ha, hrow.lt, fun i hi => ?_⟩
    rw [Nat.zero_add, hrow.cell hi]
    rfl

set_option maxRecDepth 10000 in
set_option maxHeartbeats 1000000 in
theorem eq_some (b off cap b' off' cap' : Nat) (l : List Int) (w : World) (hb : b < w.heap.size) (hc : ∀ i, i < l.length → w.cell? ⟨b, off + i, none⟩ = some (.int .i64 (l.getD i 0)))
    (hb' : b' < w.heap.size) (hc' : ∀ i, i < l.length → w.cell? ⟨b', off' + i, none⟩ = some (.int .i64 (l.getD i 0))) (hl : l.length ≤ maxLen) :
    Calls Try.prog 21 #[.slice (some ⟨b, off, none⟩) l.length cap, .slice (some ⟨b', off', none⟩) l.length cap'] w fun e w' => e = .returned (.bool true) ∧ Below w.heap.size w w' := by
  unfold maxLen at hl
  have hcs := hide hc
  have hcs' := hide hc'
  clear hc hc'
  go_enter Try.func21, Try.ntmps21
  go_wp2
  go_loopw [5] (fun i wr => ∃ k : Nat, k ≤ l.length ∧ i = .int .i64 k ∧ Hid (Below w.heap.size w wr)) (fun i _ => l.length - (intOf i).toNat)
  case atStart => exact ⟨0, Nat.zero_le _, rfl, hide (Below.refl _ _)⟩
  case round =>
    obtain ⟨k, hk, rfl, hbel⟩ := hrel
    by_cases hlt : k < l.length
    · have c0 := ((unhide hbel).cell (p := ⟨b, off + k, none⟩) hb).trans (unhide hcs k hlt)
      have c1 := ((unhide hbel).cell (p := ⟨b', off' + k, none⟩) hb').trans (unhide hcs' k hlt)
      generalize l.getD k 0 = x at c0 c1
      have hxx : (x != x) = false := by simp
      have hkl : (k : Int) < (l.length : Int) := by omega
      have hk0 : (0 : Int) ≤ (k : Int) := by omega
      go_wp2
      go_quiet (fail)
      go_wp2
      go_roundw
      case rel => exact ⟨k + 1, by omega, by go_num, hide (bel_draws (unhide hbel) _)⟩
      case measure => simp [intOf]; omega
    · go_wp2
      go_ret
      exact ⟨rfl, unhide hbel⟩

set_option maxRecDepth 10000 in
set_option maxHeartbeats 400000 in
theorem eq_same (a a' : Option Addr) (cap cap' : Nat) (l : List Int) (w : World) (hc : NAt w a l) (hc' : NAt w a' l) (hl : l.length ≤ maxLen) :
    Calls Try.prog 21 #[.slice a l.length cap, .slice a' l.length cap'] w fun e w' => e = .returned (.bool true) ∧ Below w.heap.size w w' := by
  by_cases hne : l = []
  · subst hne
    go_enter Try.func21, Try.ntmps21
    go_wp2
    go_loop [5] (fun i => i = .int .i64 0) (fun _ => 0)
    case atStart => exact rfl
    case round =>
      obtain rfl := hrel
      go_wp2
      go_ret
      exact ⟨rfl, Below.refl _ _⟩
  · obtain ⟨b, off, rfl, hb, hcc⟩ := hc hne
    obtain ⟨b', off', rfl, hb', hcc'⟩ := hc' hne
    exact eq_some b off cap b' off' cap' l w hb hcc hb' hcc' hl
theorem info_ex : ∃ i, Try.prog.info? 3 = some i ∧ i.zero = some (.int .i64 0) ∧ i.size = 1 ∧ i.bytes = 8 := by
  have h : (Try.prog.info? 3).map (fun i => (i.zero, i.size, i.bytes)) = some (some (.int .i64 0), 1, 8) := by kernel_rfl
  obtain ⟨i, hi, hz⟩ := Option.map_eq_some_iff.1 h
  simp only [Prod.mk.injEq] at hz
  exact ⟨i, hi, hz.1, hz.2.1, hz.2.2⟩
theorem info : (Try.prog.info? 3).map (fun i => (i.zero, i.size, i.bytes)) = some (some (.int .i64 0), 1, 8) := by kernel_rfl
def cells (l : List Int) : List Value := l.map (Value.int .i64)
theorem cells_len (l : List Int) : (cells l).length = l.length := by simp [cells]
theorem cells_get (l : List Int) (i : Nat) (hi : i < l.length) : (cells l)[i]? = some (ncell l i) := by
  simp [cells, ncell, List.getD_eq_getElem?_getD, List.getElem?_eq_getElem hi]
theorem own_ints {w : World} {base : Nat} {a : Option Addr} {cap : Nat} {l : List Int} (h : w.ownsRow base 3 1 (.slice a l.length cap) l.length (cells l)) :
    ∃ r, IntsM.Ours w a l.length (ncell l) r ∧ ∀ g, r = some g → base ≤ g := by
  rcases h.2 with ⟨_, h0⟩ | ⟨g, cap', cur, hv, hg, hh, hn, _, hsz, ht⟩
  · exact ⟨none, .inl ⟨h0, rfl⟩, fun g e => by simp at e⟩
  · simp only [Value.slice.injEq] at hv
    refine ⟨some g, .inr ⟨g, hv.1, rfl, cur, hh, by rw [hsz]; omega, fun i hi => ?_⟩, fun g' e => by simp at e; omega⟩
    rw [← cells_get l i hi, ← ht, List.getElem?_take_of_lt (by omega)]
    simp
theorem own_snoc {w : World} {base : Nat} {v : Value} {kept kept' : List Int} {x : Int} (h : w.ownsRow base 3 1 v (kept.length + 1) (cells kept ++ [.int .i64 x])) (e : kept' = kept ++ [x]) : w.ownsRow base 3 1 v kept'.length (cells kept') := by
  rw [e, List.length_append]
  have : cells (kept ++ [x]) = cells kept ++ [.int .i64 x] := by simp [cells]
  rw [this]
  exact h
theorem news_one (x : Int) (u : Value) (hu : u ∈ [Value.int .i64 x]) : u.oneCell' = true := by
  simp at hu; rw [hu]; rfl
theorem news_cells (w : World) (x : Int) (t : TypeId) (j : Nat) (u : Value) (hj : [Value.int .i64 x][j]? = some u) :
    (w.alloc (.cells #[.int .i64 x] t)).cell? ((⟨w.heap.size, 0, none⟩ : Addr).add j) = some u := by
  rw [Go.WideShapes.add_plain, Nat.zero_add, World.cell?_alloc_new]
  show [Value.int .i64 x].toArray[j]? = some u
  simpa using hj
end Ints
end Go.Proofs.Ytmbkdejlbeailaa
