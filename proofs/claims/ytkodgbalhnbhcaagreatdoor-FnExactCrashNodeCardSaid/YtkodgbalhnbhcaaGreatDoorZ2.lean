/-
  A world that is another but for a few blocks: laws of my own. No Go function is spoken of here.
-/
import Derived.Test.YtkodgbalhnbhcaaGreatDoorZ1
import Derived.Maps.OwnSet
import Derived.Test.YtkodgbalhnbhcaaGreatDoorRows
import Derived.Maps.AppendAt
import Derived.Deep.RegionWith
namespace Go.Proofs.YtkodgbalhnbhcaaGreatDoor
namespace Keep
open Go.RowKit Base

/-- w' is w but for the blocks on a list, and new ones. -/
structure Keeps (S : List Nat) (w w' : World) : Prop where
  os : w'.os = w.os
  tape : w'.tape = w.tape
  output : w'.output = w.output
  size : w.heap.size ≤ w'.heap.size
  block : ∀ k, k < w.heap.size → k ∉ S → w'.heap[k]? = w.heap[k]?

theorem Keeps.refl (S : List Nat) (w : World) : Keeps S w w := ⟨rfl, rfl, rfl, Nat.le_refl _, fun _ _ _ => rfl⟩
/-- Two steps: what the second may write was written by the first too, or is new since. -/
theorem Keeps.trans {S S' : List Nat} {a b c : World} (h : Keeps S a b) (k : Keeps S' b c) (hs : ∀ x ∈ S', x ∈ S ∨ a.heap.size ≤ x) : Keeps S a c :=
  ⟨k.os.trans h.os, k.tape.trans h.tape, k.output.trans h.output, Nat.le_trans h.size k.size, fun i hi hn =>
    (k.block i (Nat.lt_of_lt_of_le hi h.size) (fun hm => (hs i hm).elim hn (fun hle => by omega))).trans (h.block i hi hn)⟩
theorem Keeps.mono {S S' : List Nat} {w w' : World} (h : Keeps S w w') (hs : ∀ x ∈ S, x ∈ S') : Keeps S' w w' :=
  ⟨h.os, h.tape, h.output, h.size, fun i hi hn => h.block i hi (fun hm => hn (hs i hm))⟩
theorem Keeps.drew {S : List Nat} {a w : World} (h : Keeps S a w) : Keeps S a w.drew := ⟨h.os, h.tape, h.output, h.size, h.block⟩
theorem Keeps.alloc {S : List Nat} {a w : World} (h : Keeps S a w) (o : Obj) : Keeps S a (w.alloc o) :=
  h.trans (S' := []) ⟨rfl, rfl, rfl, by simp, fun k hk _ => Below.heap_alloc _ _ _ hk⟩ (by simp)
theorem Keeps.setCell {S : List Nat} {a w : World} (h : Keeps S a w) {p : Addr} (hp : p.block ∈ S ∨ a.heap.size ≤ p.block) (u : Value) : Keeps S a (w.setCell p u) :=
  h.trans (S' := [p.block]) ⟨rfl, rfl, rfl, by simp [World.setCell], fun k _ hk => Below.heap_setCell _ _ _ _ (by simpa using hk)⟩ (by simpa using hp)
theorem Keeps.grown {S : List Nat} {a w w' : World} {row : Option Nat} (h : Keeps S a w) (hg : w.grownBy w' row) (hr : ∀ k, row = some k → k ∈ S ∨ a.heap.size ≤ k) : Keeps S a w' := by
  cases row with
  | none => exact h.trans (S' := []) ⟨hg.os, hg.tape, hg.output, hg.size, fun k hk _ => hg.block k hk (by simp)⟩ (by simp)
  | some r => exact h.trans (S' := [r]) ⟨hg.os, hg.tape, hg.output, hg.size, fun k hk hn => hg.block k hk (by simpa using hn)⟩ (by simpa using hr r rfl)
theorem Keeps.turned {S : List Nat} {a w w' : World} {b : Nat} (h : Keeps S a w) (hg : w.mapTurned w' b) (hr : b ∈ S ∨ a.heap.size ≤ b) : Keeps S a w' :=
  h.grown hg.grown (fun k e => by simp at e; exact e ▸ hr)
theorem Keeps.of_below {S : List Nat} {B : Nat} {w w' : World} (h : Below B w w') (hB : ∀ k, k < w.heap.size → k ∉ S → k < B) : Keeps S w w' :=
  ⟨h.os, h.tape, h.output, h.size, fun k hk hn => h.block k (hB k hk hn)⟩
theorem Keeps.below {S : List Nat} {B : Nat} {w w' : World} (h : Keeps S w w') (hS : ∀ x ∈ S, B ≤ x) (hB : B ≤ w.heap.size) : Below B w w' :=
  ⟨h.os, h.tape, h.output, h.size, fun k hk => h.block k (by omega) (fun hm => by have := hS k hm; omega)⟩
theorem Keeps.cell {S : List Nat} {w w' : World} (h : Keeps S w w') {b o : Nat} (hb : b < w.heap.size) (hn : b ∉ S) : w'.cell? ⟨b, o, none⟩ = w.cell? ⟨b, o, none⟩ :=
  World.cell?_of_block (w := w) (h.block b hb hn)
theorem Keeps.frozen {S : List Nat} {w w' : World} (h : Keeps S w w') {b o : Nat} (hb : b < w.heap.size) (hn : b ∉ S) : w'.frozen? ⟨b, o, none⟩ = w.frozen? ⟨b, o, none⟩ :=
  World.frozen?_of_block (w := w) (h.block b hb hn)
theorem Keeps.map {H : Type} {P : Program} {k : TypeId} {R : Value → Option (DataW H × List MemPlace)} {b n : Nat} {D : DataW H} {S : List Nat} {w w' : World} (h : Keeps S w w') (hm : w.ownsMap P k R b n D) (hn : b ∉ S) : w'.ownsMap P k R b n D := by
  have hb := hm.lt
  obtain ⟨es, clock, hh, r⟩ := hm
  exact ⟨es, clock, by rw [h.block b hb hn]; exact hh, r⟩
theorem map_below {H : Type} {P : Program} {k : TypeId} {R : Value → Option (DataW H × List MemPlace)} {b n B : Nat} {D : DataW H} {w w' : World} (hm : w.ownsMap P k R b n D) (h : Below B w w') (hb : b < B) : w'.ownsMap P k R b n D := by
  obtain ⟨es, clock, hh, r⟩ := hm
  exact ⟨es, clock, by rw [h.block b hb]; exact hh, r⟩
theorem map_tight {H : Type} {P : Program} {k : TypeId} {R : Value → Option (DataW H × List MemPlace)} {b n m : Nat} {D : DataW H} {w : World} (hm : w.ownsMap P k R b n D) (h : Maps.size D ≤ m) : w.ownsMap P k R b m D := by
  obtain ⟨es, clock, hh, F, hs, rfl⟩ := hm
  refine ⟨es, clock, hh, F, ?_, rfl⟩
  simpa [Maps.size, length_sorted] using h

theorem own_blocks {w w' : World} {base : Nat} {e : TypeId} {size : Nat} {v : Value} {n : Nat} {xs : List Value} (h : w.ownsRow base e size v n xs) (hb : ∀ g, v.ownBlock = some g → w'.heap[g]? = w.heap[g]?) : w'.ownsRow base e size v n xs := by
  refine ⟨h.1, h.2.elim Or.inl ?_⟩
  rintro ⟨g, cap, cur, rfl, hg, hh, r⟩
  exact Or.inr ⟨g, cap, cur, rfl, hg, by rw [hb g rfl]; exact hh, r⟩
theorem own_lt {w : World} {base : Nat} {e : TypeId} {size : Nat} {v : Value} {n : Nat} {xs : List Value} (h : w.ownsRow base e size v n xs) {g : Nat} (hg : v.ownBlock = some g) : g < w.heap.size := (h.lt g hg).2

/-- A row of cells of the call's own: a slice that leads to the beginning of a block, with the cells that it has. -/
def Row (w : World) (e : TypeId) (size g n cap : Nat) (xs : List Value) : Prop :=
  xs.length = n * size ∧ ∃ cur, w.heap[g]? = some (.cells cur e (0, 0)) ∧ n ≤ cap ∧ cap ≤ maxLen ∧ cur.size = cap * size ∧ cur.toList.take (n * size) = xs
section
variable {w w' : World} {e : TypeId} {size g n cap : Nat} {xs : List Value}
theorem Row.owns (h : Row w e size g n cap xs) {base : Nat} (hb : base ≤ g) : w.ownsRow base e size (.slice (some ⟨g, 0, none⟩) n cap) n xs := by
  obtain ⟨h1, cur, h2⟩ := h
  exact ⟨h1, .inr ⟨g, cap, cur, rfl, hb, h2⟩⟩
theorem Row.of_owns {base : Nat} {v : Value} (h : w.ownsRow base e size v n xs) (hn : 0 < n) : ∃ g cap, v = .slice (some ⟨g, 0, none⟩) n cap ∧ base ≤ g ∧ Row w e size g n cap xs := by
  obtain ⟨h1, h2⟩ := h
  rcases h2 with ⟨_, h0⟩ | ⟨g, cap, cur, hv, hg, r⟩
  · omega
  · exact ⟨g, cap, hv, hg, h1, cur, r⟩
theorem Row.lt (h : Row w e size g n cap xs) : g < w.heap.size := by
  obtain ⟨_, cur, hh, _⟩ := h
  exact (Array.getElem?_eq_some_iff.1 hh).1
theorem Row.of_block (h : Row w e size g n cap xs) (hb : w'.heap[g]? = w.heap[g]?) : Row w' e size g n cap xs := by
  obtain ⟨h1, cur, hh, r⟩ := h
  exact ⟨h1, cur, by rw [hb]; exact hh, r⟩
theorem Row.keep {S : List Nat} (h : Row w e size g n cap xs) (hk : Keeps S w w') (hn : g ∉ S) : Row w' e size g n cap xs := h.of_block (hk.block g h.lt hn)
theorem Row.alloc (h : Row w e size g n cap xs) (o : Obj) : Row (w.alloc o) e size g n cap xs := h.of_block (Below.heap_alloc _ _ _ h.lt)
theorem Row.cell (h : Row w e size g n cap xs) {j : Nat} {u : Value} (hj : xs[j]? = some u) : w.cell? ⟨g, j, none⟩ = some u := by
  obtain ⟨h1, cur, hh, h2, h3, h4, h5⟩ := h
  have hlt : j < n * size := by rw [← h1]; exact (List.getElem?_eq_some_iff.1 hj).1
  rw [← h5, List.getElem?_take_of_lt hlt] at hj
  simp only [World.cell?, hh]
  simpa using hj
theorem Row.frozen (h : Row w e size g n cap xs) (j : Nat) : w.frozen? ⟨g, j, none⟩ = false := by
  obtain ⟨h1, cur, hh, h2, h3, h4, h5⟩ := h
  simp [World.frozen?, hh]
theorem Row.setOther (h : Row w e size g n cap xs) {p : Addr} (hp : g ≠ p.block) (u : Value) : Row (w.setCell p u) e size g n cap xs := h.of_block (Below.heap_setCell _ _ _ _ hp)
end
end Keep
end Go.Proofs.YtkodgbalhnbhcaaGreatDoor
/-
  Links as they lie in memory: seven cells each, one behind the other; a row of whole numbers. No Go function is spoken of here.
-/
namespace Go.Proofs.YtkodgbalhnbhcaaGreatDoor
namespace Chain
open Go.RowKit Base Items Keep
set_option linter.unusedVariables false

theorem row_set {w : World} {e : TypeId} {size g n cap : Nat} {xs : List Value} (h : Row w e size g n cap xs) {j : Nat} (hj : j < n * size) (u : Value) : Row (w.setCell ⟨g, j, none⟩ u) e size g n cap (xs.set j u) := by
  obtain ⟨h1, cur, hh, h2, h3, h4, h5⟩ := h
  refine ⟨by simp [h1], cur.setIfInBounds j u, ?_, h2, h3, by simp [h4], ?_⟩
  · simp [World.setCell, Array.getElem?_modify, hh]
  · rw [Array.toList_setIfInBounds, ← h5, List.take_set]
theorem row_pop {w : World} {e : TypeId} {g n cap : Nat} {xs : List Value} (h : Row w e 1 g (n + 1) cap xs) : Row w e 1 g n cap (xs.take n) := by
  obtain ⟨h1, cur, hh, h2, h3, h4, h5⟩ := h
  refine ⟨by simp [h1], cur, hh, by omega, h3, h4, ?_⟩
  rw [← h5, List.take_take]
  congr 1
  omega

def lcells (x : Lnk) : List Value := [.string x.val.key, .int .i64 x.val.flags, .string x.val.data, .int .i64 x.val.upto, .int .i64 x.val.token, .int .i64 x.ahead, .int .i64 x.behind]
def lflat (ls : List Lnk) : List Value := ls.flatMap lcells
theorem lflat_append (a b : List Lnk) : lflat (a ++ b) = lflat a ++ lflat b := by simp [lflat]
theorem lflat_one (x : Lnk) : lflat [x] = lcells x := by simp [lflat]
theorem lflat_length (ls : List Lnk) : (lflat ls).length = ls.length * 7 := by
  induction ls with
  | nil => rfl
  | cons x r ih =>
    have e : lflat (x :: r) = lcells x ++ lflat r := by simp [lflat]
    rw [e, List.length_append, ih]
    simp [lcells]; omega
theorem lflat_get (ls : List Lnk) (p : Nat) (hp : p < ls.length) (i : Nat) (hi : i < 7) : (lflat ls)[p * 7 + i]? = (lcells (lk ls p))[i]? := by
  induction ls generalizing p with
  | nil => simp at hp
  | cons x r ih =>
    have e : lflat (x :: r) = lcells x ++ lflat r := by simp [lflat]
    have el : (lcells x).length = 7 := rfl
    rw [e]
    cases p with
    | zero => rw [List.getElem?_append_left (by rw [el]; omega)]; simp [lk]
    | succ q =>
      rw [List.getElem?_append_right (by rw [el]; omega), el, show (q + 1) * 7 + i - 7 = q * 7 + i by omega, ih q (by simpa using hp)]
      simp [lk]
theorem lflat_set (ls : List Lnk) (p : Nat) (hp : p < ls.length) (i : Nat) (hi : i < 7) (v : Value) (x : Lnk) (hx : lcells x = (lcells (lk ls p)).set i v) : (lflat ls).set (p * 7 + i) v = lflat (ls.set p x) := by
  induction ls generalizing p with
  | nil => simp at hp
  | cons y r ih =>
    have e : ∀ z q, lflat (z :: q) = lcells z ++ lflat q := by simp [lflat]
    have el : (lcells y).length = 7 := rfl
    cases p with
    | zero =>
      simp only [lk, List.getD_cons_zero] at hx
      rw [e, List.set_append, if_pos (by rw [el]; omega), List.set_cons_zero, e, hx]
      simp
    | succ q =>
      simp only [lk, List.getD_cons_succ] at hx
      rw [e, List.set_append, if_neg (by rw [el]; omega), el, show (q + 1) * 7 + i - 7 = q * 7 + i by omega, ih q (by simpa using hp) hx, List.set_cons_succ, e]
theorem lcells_one (x : Lnk) (u : Value) (hu : u ∈ lcells x) : u.oneCell' = true := by
  simp only [lcells, List.mem_cons, List.not_mem_nil, or_false] at hu
  rcases hu with rfl | rfl | rfl | rfl | rfl | rfl | rfl <;> rfl

/-- A row of links. -/
def LinksAt (w : World) (t : TypeId) (g cap : Nat) (ls : List Lnk) : Prop := Row w t 7 g ls.length cap (lflat ls)
section
variable {w w' : World} {t : TypeId} {g cap : Nat} {ls : List Lnk}
theorem LinksAt.cell (h : LinksAt w t g cap ls) {p : Nat} (hp : p < ls.length) {i : Nat} (hi : i < 7) : w.cell? ⟨g, p * 7 + i, none⟩ = (lcells (lk ls p))[i]? := by
  have hg := lflat_get ls p hp i hi
  obtain ⟨u, hu⟩ : ∃ u, (lcells (lk ls p))[i]? = some u := ⟨_, List.getElem?_eq_getElem (by simpa [lcells] using hi)⟩
  rw [hu] at hg ⊢
  exact Row.cell h hg
theorem LinksAt.item (h : LinksAt w t g cap ls) {p : Nat} (hp : p < ls.length) : At w g (p * 7) (lk ls p).val :=
  ⟨h.cell hp (i := 0) (by omega), h.cell hp (i := 1) (by omega), h.cell hp (i := 2) (by omega), h.cell hp (i := 3) (by omega), h.cell hp (i := 4) (by omega)⟩
theorem LinksAt.ahead (h : LinksAt w t g cap ls) {p : Nat} (hp : p < ls.length) : w.cell? ⟨g, p * 7 + 5, none⟩ = some (.int .i64 (lk ls p).ahead) := h.cell hp (i := 5) (by omega)
theorem LinksAt.behind (h : LinksAt w t g cap ls) {p : Nat} (hp : p < ls.length) : w.cell? ⟨g, p * 7 + 6, none⟩ = some (.int .i64 (lk ls p).behind) := h.cell hp (i := 6) (by omega)
theorem LinksAt.setAhead (h : LinksAt w t g cap ls) {p : Nat} (hp : p < ls.length) (n : Nat) : LinksAt (w.setCell ⟨g, p * 7 + 5, none⟩ (.int .i64 n)) t g cap (ls.set p { lk ls p with ahead := n }) := by
  have h1 := row_set h (j := p * 7 + 5) (by omega) (.int .i64 n)
  rw [lflat_set ls p hp 5 (by omega) (.int .i64 n) { lk ls p with ahead := n } rfl] at h1
  unfold LinksAt
  rw [List.length_set]
  exact h1
theorem LinksAt.setBehind (h : LinksAt w t g cap ls) {p : Nat} (hp : p < ls.length) (n : Nat) : LinksAt (w.setCell ⟨g, p * 7 + 6, none⟩ (.int .i64 n)) t g cap (ls.set p { lk ls p with behind := n }) := by
  have h1 := row_set h (j := p * 7 + 6) (by omega) (.int .i64 n)
  rw [lflat_set ls p hp 6 (by omega) (.int .i64 n) { lk ls p with behind := n } rfl] at h1
  unfold LinksAt
  rw [List.length_set]
  exact h1
/-- A whole link is laid, cell by cell. -/
theorem LinksAt.setAll (h : LinksAt w t g cap ls) {p : Nat} (hp : p < ls.length) (x : Lnk) :
    LinksAt (((((((w.setCell ⟨g, p * 7, none⟩ (.string x.val.key)).setCell ⟨g, p * 7 + 1, none⟩ (.int .i64 x.val.flags)).setCell ⟨g, p * 7 + 2, none⟩ (.string x.val.data)).setCell ⟨g, p * 7 + 3, none⟩ (.int .i64 x.val.upto)).setCell ⟨g, p * 7 + 4, none⟩ (.int .i64 x.val.token)).setCell ⟨g, p * 7 + 5, none⟩ (.int .i64 x.ahead)).setCell ⟨g, p * 7 + 6, none⟩ (.int .i64 x.behind)) t g cap (ls.set p x) := by
  have h0 := row_set h (j := p * 7) (by omega) (.string x.val.key)
  have h1 := row_set h0 (j := p * 7 + 1) (by omega) (.int .i64 x.val.flags)
  have h2 := row_set h1 (j := p * 7 + 2) (by omega) (.string x.val.data)
  have h3 := row_set h2 (j := p * 7 + 3) (by omega) (.int .i64 x.val.upto)
  have h4 := row_set h3 (j := p * 7 + 4) (by omega) (.int .i64 x.val.token)
  have h5 := row_set h4 (j := p * 7 + 5) (by omega) (.int .i64 x.ahead)
  have h6 := row_set h5 (j := p * 7 + 6) (by omega) (.int .i64 x.behind)
  have e0 := lflat_set ls p hp 0 (by omega) (.string x.val.key) ⟨⟨x.val.key, (lk ls p).val.flags, (lk ls p).val.data, (lk ls p).val.upto, (lk ls p).val.token⟩, (lk ls p).ahead, (lk ls p).behind⟩ rfl
  rw [Nat.add_zero] at e0
  have step : ∀ (y z : Lnk) (i : Nat) (v : Value), i < 7 → lcells z = (lcells y).set i v → (lflat (ls.set p y)).set (p * 7 + i) v = lflat (ls.set p z) := by
    intro y z i v hi hz
    rw [lflat_set (ls.set p y) p (by simpa using hp) i hi v z (by rw [lk_set _ _ _ _ hp, if_pos rfl]; exact hz), List.set_set]
  have s1 := step ⟨⟨x.val.key, (lk ls p).val.flags, (lk ls p).val.data, (lk ls p).val.upto, (lk ls p).val.token⟩, (lk ls p).ahead, (lk ls p).behind⟩ ⟨⟨x.val.key, x.val.flags, (lk ls p).val.data, (lk ls p).val.upto, (lk ls p).val.token⟩, (lk ls p).ahead, (lk ls p).behind⟩ 1 (.int .i64 x.val.flags) (by omega) rfl
  have s2 := step ⟨⟨x.val.key, x.val.flags, (lk ls p).val.data, (lk ls p).val.upto, (lk ls p).val.token⟩, (lk ls p).ahead, (lk ls p).behind⟩ ⟨⟨x.val.key, x.val.flags, x.val.data, (lk ls p).val.upto, (lk ls p).val.token⟩, (lk ls p).ahead, (lk ls p).behind⟩ 2 (.string x.val.data) (by omega) rfl
  have s3 := step ⟨⟨x.val.key, x.val.flags, x.val.data, (lk ls p).val.upto, (lk ls p).val.token⟩, (lk ls p).ahead, (lk ls p).behind⟩ ⟨⟨x.val.key, x.val.flags, x.val.data, x.val.upto, (lk ls p).val.token⟩, (lk ls p).ahead, (lk ls p).behind⟩ 3 (.int .i64 x.val.upto) (by omega) rfl
  have s4 := step ⟨⟨x.val.key, x.val.flags, x.val.data, x.val.upto, (lk ls p).val.token⟩, (lk ls p).ahead, (lk ls p).behind⟩ ⟨⟨x.val.key, x.val.flags, x.val.data, x.val.upto, x.val.token⟩, (lk ls p).ahead, (lk ls p).behind⟩ 4 (.int .i64 x.val.token) (by omega) rfl
  have s5 := step ⟨⟨x.val.key, x.val.flags, x.val.data, x.val.upto, x.val.token⟩, (lk ls p).ahead, (lk ls p).behind⟩ ⟨⟨x.val.key, x.val.flags, x.val.data, x.val.upto, x.val.token⟩, x.ahead, (lk ls p).behind⟩ 5 (.int .i64 x.ahead) (by omega) rfl
  have s6 := step ⟨⟨x.val.key, x.val.flags, x.val.data, x.val.upto, x.val.token⟩, x.ahead, (lk ls p).behind⟩ x 6 (.int .i64 x.behind) (by omega) rfl
  rw [e0, s1, s2, s3, s4, s5, s6] at h6
  unfold LinksAt
  rw [List.length_set]
  exact h6
end

/-- A row of whole numbers, or nothing yet. -/
def ints (l : List Nat) : List Value := l.map (fun p : Nat => .int .i64 (p : Int))
end Chain
end Go.Proofs.YtkodgbalhnbhcaaGreatDoor
/-
  The program's list of links (newChain, freeLink, putLast, take, values), inside a shelf: what each does to the plain links.
-/
namespace Go.Proofs.YtkodgbalhnbhcaaGreatDoor
namespace Chain
open Go.RowKit Base Items Keep
set_option linter.unusedVariables false

/-- The other fields of a shelf. -/
structure Hd where
  lim : Int
  nx : Int
  chg : Int
  lost : Int
  vm : Value
/-- A shelf's cells. -/
def Box (w : World) (hb : Nat) (h : Hd) (vl vf : Value) : Prop := w.heap[hb]? = some (.cells #[.int .i64 h.lim, .int .i64 h.nx, .int .i64 h.chg, .int .i64 h.lost, vl, vf, h.vm] 111 (0, 0))
section
variable {w w' : World} {hb : Nat} {h : Hd} {vl vf : Value}
theorem Box.lt (hB : Box w hb h vl vf) : hb < w.heap.size := (Array.getElem?_eq_some_iff.1 hB).1
theorem Box.cells (hB : Box w hb h vl vf) : w.cell? ⟨hb, 0, none⟩ = some (.int .i64 h.lim) ∧ w.cell? ⟨hb, 1, none⟩ = some (.int .i64 h.nx) ∧ w.cell? ⟨hb, 2, none⟩ = some (.int .i64 h.chg) ∧ w.cell? ⟨hb, 3, none⟩ = some (.int .i64 h.lost) ∧
    w.cell? ⟨hb, 4, none⟩ = some vl ∧ w.cell? ⟨hb, 5, none⟩ = some vf ∧ w.cell? ⟨hb, 6, none⟩ = some h.vm := by
  unfold Box at hB
  refine ⟨?_, ?_, ?_, ?_, ?_, ?_, ?_⟩ <;> simp [World.cell?, hB]
theorem Box.frozen (hB : Box w hb h vl vf) (o : Nat) : w.frozen? ⟨hb, o, none⟩ = false := by unfold Box at hB; simp [World.frozen?, hB]
theorem Box.of_block (hB : Box w hb h vl vf) (e : w'.heap[hb]? = w.heap[hb]?) : Box w' hb h vl vf := by unfold Box at *; rw [e]; exact hB
theorem Box.keep {S : List Nat} (hB : Box w hb h vl vf) (hk : Keeps S w w') (hn : hb ∉ S) : Box w' hb h vl vf := hB.of_block (hk.block hb hB.lt hn)
theorem Box.set4 (hB : Box w hb h vl vf) (v : Value) : Box (w.setCell ⟨hb, 4, none⟩ v) hb h v vf := by unfold Box at *; simp [World.setCell, Array.getElem?_modify, hB]
theorem Box.set5 (hB : Box w hb h vl vf) (v : Value) : Box (w.setCell ⟨hb, 5, none⟩ v) hb h vl v := by unfold Box at *; simp [World.setCell, Array.getElem?_modify, hB]
theorem Box.setOther (hB : Box w hb h vl vf) {p : Addr} (hp : hb ≠ p.block) (u : Value) : Box (w.setCell p u) hb h vl vf := hB.of_block (Below.heap_setCell _ _ _ _ hp)
end

/-- A shelf's list in memory: its links at block gl, its free numbers at gf. -/
structure Mem (w : World) (hb : Nat) (h : Hd) (gl : Nat) (gf : Option Nat) (ls : List Lnk) (free : List Nat) (cl : Nat) (vf : Value) : Prop where
  box : Box w hb h (.slice (some ⟨gl, 0, none⟩) ls.length cl) vf
  links : LinksAt w 196 gl cl ls
  fr : w.ownsRow 0 3 1 vf free.length (ints free)
  own : vf.ownBlock = gf
  n1 : hb ≠ gl
  n2 : gf ≠ some hb
  n3 : gf ≠ some gl

theorem Mem.keep {w w' : World} {hb : Nat} {h : Hd} {gl : Nat} {gf : Option Nat} {ls : List Lnk} {free : List Nat} {cl : Nat} {vf : Value} {S : List Nat} (hm : Mem w hb h gl gf ls free cl vf) (hk : Keeps S w w') (h1 : hb ∉ S) (h2 : gl ∉ S) (h3 : ∀ g, gf = some g → g ∉ S) :
    Mem w' hb h gl gf ls free cl vf :=
  ⟨hm.box.keep hk h1, Row.keep hm.links hk h2, own_blocks hm.fr (fun g hg => hk.block g (own_lt hm.fr hg) (h3 g (hm.own ▸ hg))), hm.own, hm.n1, hm.n2, hm.n3⟩
theorem Mem.gf_lt {w : World} {hb : Nat} {h : Hd} {gl : Nat} {gf : Option Nat} {ls : List Lnk} {free : List Nat} {cl : Nat} {vf : Value} (hm : Mem w hb h gl gf ls free cl vf) {g : Nat} (hg : gf = some g) : g < w.heap.size := own_lt hm.fr (hm.own.trans hg)

theorem linfo_ex : ∃ i : TypeInfo, Tryz.prog.info? 196 = some i ∧ i.zero = some (.agg #[.string ByteArray.empty, .int .i64 0, .string ByteArray.empty, .int .i64 0, .int .i64 0, .int .i64 0, .int .i64 0]) ∧ i.size = 7 ∧ i.bytes = 72 := by
  have h : (Tryz.prog.info? 196).map (fun i => (i.zero, i.size, i.bytes)) = some (some (.agg #[.string ByteArray.empty, .int .i64 0, .string ByteArray.empty, .int .i64 0, .int .i64 0, .int .i64 0, .int .i64 0]), 7, 72) := by kernel_rfl
  obtain ⟨i, hi, hz⟩ := Option.map_eq_some_iff.1 h
  simp only [Prod.mk.injEq] at hz
  exact ⟨i, hi, hz.1, hz.2.1, hz.2.2⟩

theorem lnews (w : World) (t : TypeId) (j : Nat) (u : Value) (hj : (lcells zl)[j]? = some u) :
    (w.alloc (.cells #[.string ⟨#[]⟩, .int .i64 0, .string ⟨#[]⟩, .int .i64 0, .int .i64 0, .int .i64 0, .int .i64 0] t)).cell? ((⟨w.heap.size, 0, none⟩ : Addr).add j) = some u := by
  rw [Go.WideShapes.add_plain, Nat.zero_add, World.cell?_alloc_new]
  show (lcells zl).toArray[j]? = some u
  simpa using hj

set_option maxRecDepth 10000 in
set_option maxHeartbeats 1000000 in
theorem freeLink_none (w : World) (hb : Nat) (h : Hd) (gl : Nat) (gf : Option Nat) (ls : List Lnk) (cl : Nat) (vf : Value) (hm : Mem w hb h gl gf ls [] cl vf) (hlen : ls.length ≤ 1000) :
    Calls Tryz.prog 181 #[.pointer (some ⟨hb, 4, none⟩)] w fun e w' => e = .returned (.int .i64 ls.length) ∧
      ∃ gl' cl', Mem w' hb h gl' gf (ls ++ [zl]) [] cl' vf ∧ (gl' = gl ∨ w.heap.size ≤ gl') ∧ Keeps [hb, gl] w w' := by
  obtain ⟨va, vc, hv⟩ : ∃ a c, vf = .slice a 0 c := by
    rcases hm.fr.2 with ⟨e, _⟩ | ⟨g, c, cur, e, _⟩
    · exact ⟨_, _, e⟩
    · exact ⟨_, _, e⟩
  subst hv
  obtain ⟨c0, c1, c2, c3, c4, c5, c6⟩ := hm.box.cells
  have f4 := hm.box.frozen 4
  have HM := hide hm
  clear hm c0 c1 c2 c3 c6
  obtain ⟨i0, hi, hz0, hz1, hz2⟩ := linfo_ex
  have HI := hide hi
  have HZ0 := hide hz0
  have HZ1 := hide hz1
  have HZ2 := hide hz2
  clear hi hz0 hz1 hz2
  go_enter Tryz.func181, Tryz.ntmps181
  go_wp2_with (at_builtin; go_loud (refine wpList_append_own_at _ rfl _ _ 105 rfl 0 196 i0 _ 7 72 Tryz.underlying105 (unhide HI) (unhide HZ0) (unhide HZ1) (unhide HZ2) rfl (by decide) _ _ _ rfl (((unhide HM).links.owns (Nat.zero_le _)).alloc _) ⟨w.heap.size, 0, none⟩ 1 1 (lcells zl) rfl rfl ?c1 (lcells_one zl) (by unfold maxLen; omega) (by omega) (Nat.zero_le _) ?_))
  case c1 => exact lnews w _
  intro v' w2 hown' hgrow _ hloc
  obtain ⟨gl', cl', rfl, _, hrow⟩ := Row.of_owns hown' (by omega)
  have hbx := ((unhide HM).box.of_block (Below.heap_alloc _ _ _ (unhide HM).box.lt)).of_block (hgrow.block hb (by simp; have := (unhide HM).box.lt; omega) (by simp [Value.ownBlock]; exact (unhide HM).n1))
  obtain ⟨d0, d1, d2, d3, d4, d5, d6⟩ := hbx.cells
  have g4 := hbx.frozen 4
  have HB := hide hbx
  have HO := hide hrow
  have HG := hide hgrow
  have HL := hide hloc
  clear hbx hrow hgrow hloc hown' d0 d1 d2 d3 d6 c4 c5 f4
  go_wp2
  go_ret
  refine ⟨ret_int (by omega), gl', cl', ?_, ?_, ?_⟩
  · have hm := unhide HM
    have hlt := hm.box.lt
    have hgl : gl' = gl ∨ gl' = w.heap.size + 1 := by
      rcases unhide HL with e | e
      · simp [Value.ownBlock] at e; exact .inl e
      · simp [Value.ownBlock] at e; exact .inr e
    have hne : gl' ≠ hb := by
      rcases hgl with e | e
      · rw [e]; exact Ne.symm hm.n1
      · omega
    refine ⟨?_, ?_, ?_, hm.own, Ne.symm hne, hm.n2, ?_⟩
    · have h1 := (unhide HB).set4 (.slice (some ⟨gl', 0, none⟩) (ls.length + 1) cl')
      rw [List.length_append]
      exact h1
    · have h1 := (unhide HO).setOther (p := ⟨hb, 4, none⟩) hne (.slice (some ⟨gl', 0, none⟩) (ls.length + 1) cl')
      show Row _ _ 7 gl' (ls ++ [zl]).length cl' (lflat (ls ++ [zl]))
      rw [List.length_append, lflat_append, lflat_one]
      exact h1
    · refine own_blocks hm.fr (fun g hg => ?_)
      have hgf : gf = some g := hm.own.symm.trans hg
      have hg1 : g ≠ hb := fun e => hm.n2 (by rw [hgf, e])
      have hg2 : g ≠ gl := fun e => hm.n3 (by rw [hgf, e])
      have hglt := hm.gf_lt hgf
      rw [Below.heap_setCell _ _ _ _ hg1, (unhide HG).block g (by simp; omega) (by simp [Value.ownBlock]; exact hg2), Below.heap_alloc _ _ _ hglt]
    · rcases hgl with e | e
      · rw [e]; exact hm.n3
      · intro e2
        have := hm.gf_lt e2
        omega
  · rcases unhide HL with e | e
    · simp [Value.ownBlock] at e; exact .inl e
    · simp [Value.ownBlock] at e; exact .inr (by omega)
  · exact (((Keeps.refl _ w).alloc _).grown (unhide HG) (fun k e => by simp [Value.ownBlock] at e; left; simp [e])).setCell (.inl (by simp)) _

theorem ints_get {free : List Nat} {j : Nat} (hj : j < free.length) : (ints free)[j]? = some (.int .i64 (free.getD j 0 : Nat)) := by
  simp [ints, List.getElem?_eq_getElem hj]

set_option maxRecDepth 10000 in
set_option maxHeartbeats 1000000 in
theorem freeLink_some (w : World) (hb : Nat) (h : Hd) (gl : Nat) (gf : Option Nat) (ls : List Lnk) (fr : List Nat) (p : Nat) (cl : Nat) (vf : Value) (hm : Mem w hb h gl gf ls (fr ++ [p]) cl vf) (hlen : fr.length ≤ 1000) :
    Calls Tryz.prog 181 #[.pointer (some ⟨hb, 4, none⟩)] w fun e w' => e = .returned (.int .i64 p) ∧
      ∃ vf', Mem w' hb h gl gf ls fr cl vf' ∧ Keeps [hb] w w' := by
  obtain ⟨g, cf, rfl, _, hrow⟩ := Row.of_owns hm.fr (by simp)
  simp only [List.length_append, List.length_singleton] at hm hrow
  obtain ⟨c0, c1, c2, c3, c4, c5, c6⟩ := hm.box.cells
  have f5 := hm.box.frozen 5
  have hcap : fr.length + 1 ≤ cf := by obtain ⟨_, cur, _, h2, _⟩ := hrow; exact h2
  have hmax : cf ≤ maxLen := by obtain ⟨_, cur, _, _, h2, _⟩ := hrow; exact h2
  have hcell : w.cell? ⟨g, fr.length, none⟩ = some (.int .i64 p) := by
    refine Row.cell hrow ?_
    rw [ints_get (by simp)]
    simp
  have HM := hide hm
  have HR := hide hrow
  clear hm hrow c0 c1 c2 c3 c4 c6
  unfold maxLen at hmax
  go_enter Tryz.func181, Tryz.ntmps181
  go_wp2
  go_region
  go_wp2
  go_region
  go_wp2
  go_ret
  have hm := unhide HM
  have hg : g ≠ hb := fun e => hm.n2 (by rw [← hm.own, ← e]; rfl)
  refine ⟨rfl, _, ⟨hm.box.set5 (.slice (some ⟨g, 0, none⟩) fr.length cf), ?_, ?_, ?_, hm.n1, hm.n2, hm.n3⟩, ((Keeps.refl _ w).drew.drew).setCell (.inl (by simp)) _⟩
  · exact Row.setOther (p := ⟨hb, 5, none⟩) hm.links (Ne.symm hm.n1) _
  · have h1 := row_pop (unhide HR)
    have e : (ints (fr ++ [p])).take fr.length = ints fr := by simp [ints]
    rw [e] at h1
    exact (Row.setOther (p := ⟨hb, 5, none⟩) h1 hg _).owns (Nat.zero_le _)
  · exact hm.own
end Chain
end Go.Proofs.YtkodgbalhnbhcaaGreatDoor
