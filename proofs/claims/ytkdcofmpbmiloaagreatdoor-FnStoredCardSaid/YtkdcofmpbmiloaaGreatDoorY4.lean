/-
  The decimal digits of a number, as plain data. No Go function is spoken of here.
-/
import Derived.Test.YtkdcofmpbmiloaaGreatDoorY1
import Derived.Lib.ItoaNum
import Derived.Lib.ItoaLen
import Derived.Maps.OwnSet
import Derived.Test.YtkdcofmpbmiloaaGreatDoorRows
import Derived.Deep.RegionWith
import Derived.Maps.AppendAt
namespace Go.Proofs.YtkdcofmpbmiloaaGreatDoor
namespace NumText
open Go.RowKit Base
set_option linter.unusedVariables false

def txt (n : Nat) : ByteArray := ⟨(Lib.decDigits n).toArray⟩

theorem txt_0 : (txt 0).size = 1 := by
  unfold txt
  rw [Lib.decDigits, dif_pos (by omega)]
  rfl
theorem txt_small (n : Int) (h0 : 0 ≤ n) (h : n < 10) : (⟨#[UInt8.ofNat (48 + n).toNat]⟩ : ByteArray) = txt n.toNat := by
  unfold txt
  rw [Lib.decDigits, dif_pos (by omega), show (48 + n).toNat = 48 + n.toNat by omega]

theorem quo10 (n : Int) (h0 : 10 ≤ n) (h : n < 9223372036854775808) : IntKind.i64.wrap (n.tdiv 10) = n / 10 := by
  rw [IntKind.wrap_i64, Int.tdiv_eq_ediv_of_nonneg (by omega)]
  omega
theorem rem10 (n : Int) (h0 : 10 ≤ n) (h : n < 9223372036854775808) : IntKind.u8.wrap (IntKind.i64.wrap (48 + n.tmod 10)) = 48 + n % 10 := by
  rw [Int.tmod_eq_emod_of_nonneg (by omega), IntKind.wrap_i64, IntKind.wrap_u8]
  omega
theorem txt_step (n : Int) (h0 : 10 ≤ n) : txt (n / 10).toNat ++ (⟨#[UInt8.ofNat (48 + n % 10).toNat]⟩ : ByteArray) = txt n.toNat := by
  unfold txt
  have e : Lib.decDigits n.toNat = Lib.decDigits (n.toNat / 10) ++ [UInt8.ofNat (48 + n.toNat % 10)] := by
    rw [Lib.decDigits, dif_neg (by omega)]
  rw [e, show (n / 10).toNat = n.toNat / 10 by omega, show (48 + n % 10).toNat = 48 + n.toNat % 10 by omega]
  apply Go.WideShapes.bytes_inj
  simp

end NumText
end Go.Proofs.YtkdcofmpbmiloaaGreatDoor
/-
  Rows that are written in place, and the marks that the law files write. No Go function is spoken of here.
-/
namespace Go.Proofs.YtkdcofmpbmiloaaGreatDoor
namespace Marks
open Go.RowKit Base NumText

/-- A block whose first n cells are told, none of it frozen; it may have more. -/
def RowAt (w : World) (b : Nat) (t : TypeId) (n : Nat) (f : Nat → Value) : Prop :=
  ∃ c : Array Value, w.heap[b]? = some (.cells c t (0, 0)) ∧ n ≤ c.size ∧ ∀ i, i < n → c[i]? = some (f i)
namespace RowAt
variable {w : World} {b : Nat} {t : TypeId} {n : Nat} {f g : Nat → Value}
theorem cell (h : RowAt w b t n f) {i : Nat} (hi : i < n) : w.cell? ⟨b, i, none⟩ = some (f i) := by
  obtain ⟨c, hb, _, hc⟩ := h
  simp [World.cell?, hb, hc i hi]
theorem frozen (h : RowAt w b t n f) (i : Nat) : w.frozen? ⟨b, i, none⟩ = false := by
  obtain ⟨c, hb, _, _⟩ := h
  simp [World.frozen?, hb]
theorem lt (h : RowAt w b t n f) : b < w.heap.size := by
  obtain ⟨c, hb, _, _⟩ := h
  obtain ⟨hlt, _⟩ := Array.getElem?_eq_some_iff.1 hb
  exact hlt
theorem congr (h : RowAt w b t n f) (e : ∀ i, i < n → f i = g i) : RowAt w b t n g := by
  obtain ⟨c, hb, hn, hc⟩ := h
  exact ⟨c, hb, hn, fun i hi => by rw [hc i hi, e i hi]⟩
theorem of_block {w' : World} (h : RowAt w b t n f) (e : w'.heap[b]? = w.heap[b]?) : RowAt w' b t n f := by
  obtain ⟨c, hb, hn, hc⟩ := h
  exact ⟨c, e.trans hb, hn, hc⟩
theorem set (h : RowAt w b t n f) (i : Nat) (v : Value) : RowAt (w.setCell ⟨b, i, none⟩ v) b t n (fun j => if j = i then v else f j) := by
  obtain ⟨c, hb, hn, hc⟩ := h
  refine ⟨c.setIfInBounds i v, ?_, by simpa using hn, fun j hj => ?_⟩
  · simp [World.setCell, Array.getElem?_modify, hb]
  · rw [Array.getElem?_setIfInBounds]
    by_cases e : j = i
    · subst e
      simp
      omega
    · rw [if_neg (fun h => e h.symm)]
      show c[j]? = some (if j = i then v else f j)
      rw [if_neg e]
      exact hc j hj
theorem of_row (h : w.rowIs b t n f) : RowAt w b t n f := by
  obtain ⟨c, hb, hn, hc⟩ := h
  exact ⟨c, hb, by omega, hc⟩
theorem below {w' : World} {B : Nat} (h : RowAt w b t n f) (hb : Below B w w') (hB : b < B) : RowAt w' b t n f := h.of_block (hb.block b hB)
end RowAt

/-- Only block g, of those that were there, may have turned. -/
theorem gb_refl (w : World) (r : Option Nat) : w.grownBy w r := ⟨rfl, rfl, rfl, Nat.le_refl _, fun _ _ _ => rfl⟩
theorem gb_trans {a b c : World} {r : Option Nat} (h : a.grownBy b r) (k : b.grownBy c r) : a.grownBy c r :=
  ⟨k.os.trans h.os, k.tape.trans h.tape, k.output.trans h.output, Nat.le_trans h.size k.size, fun i hi hr => (k.block i (Nat.lt_of_lt_of_le hi h.size) hr).trans (h.block i hi hr)⟩
theorem gb_below {w w' : World} {r : Option Nat} {B : Nat} (h : Below B w w') (hB : w.heap.size ≤ B) : w.grownBy w' r := ⟨h.os, h.tape, h.output, h.size, fun k hk _ => h.block k (by omega)⟩
theorem gb_set {w w' : World} {g : Nat} (h : w.grownBy w' (some g)) (o : Nat) (v : Value) : w.grownBy (w'.setCell ⟨g, o, none⟩ v) (some g) :=
  gb_trans h ⟨rfl, rfl, rfl, by simp [World.setCell], fun k _ hk => Below.heap_setCell _ _ _ _ (fun e => hk (by simp at e; rw [e]))⟩
theorem gb_drew {w w' : World} {r : Option Nat} (h : w.grownBy w' r) : w.grownBy w'.drew r := ⟨h.os, h.tape, h.output, h.size, h.block⟩
theorem below_gb {B g : Nat} {a w w' : World} (h : Below B a w) (hg : w.grownBy w' (some g)) (hB : B ≤ w.heap.size) (hr : B ≤ g) : Below B a w' :=
  h.grown hg hB (fun k e => by simp at e; omega)
theorem RowAt.gb {w w' : World} {b g : Nat} {t : TypeId} {n : Nat} {f : Nat → Value} (h : RowAt w b t n f) (hg : w.grownBy w' (some g)) (hne : b ≠ g) : RowAt w' b t n f :=
  h.of_block (hg.block b h.lt (fun e => hne (by simpa using e)))

/-- The text of a mark. -/
def mtxt (n : Nat) : ByteArray := ⟨#[109]⟩ ++ txt n
theorem mtxt_size (n : Nat) (h : n < 18446744073709551616) : (mtxt n).size ≤ 21 := by
  have h1 := Lib.nDigits_le20 n h
  have e : (txt n).size = Lib.nDigits n := by
    show (Lib.decDigits n).toArray.size = _
    rw [Lib.decDigits_eq]; simp
  unfold mtxt
  rw [ByteArray.size_append, e]
  show 1 + _ ≤ 21
  omega
end Marks
end Go.Proofs.YtkdcofmpbmiloaaGreatDoor
/-
  A world that is another but for a few blocks: laws of my own. No Go function is spoken of here.
-/
namespace Go.Proofs.YtkdcofmpbmiloaaGreatDoor
namespace Keep
open Go.RowKit Base

/-- w' is w but for the blocks on a list, and new ones. -/
structure Keeps (S : List Nat) (w w' : World) : Prop where
  os : w'.os = w.os
  tape : w'.tape = w.tape
  output : w'.output = w.output
  size : w.heap.size ≤ w'.heap.size
  block : ∀ k, k < w.heap.size → k ∉ S → w'.heap[k]? = w.heap[k]?

theorem Keeps.refl (S : List Nat) (w : World) : Keeps S w w := ⟨rfl, rfl, rfl, Nat.le_refl _, fun _ _ _ => rfl⟩
/-- Two steps: what the second may write was written by the first too, or is new since. -/
theorem Keeps.trans {S S' : List Nat} {a b c : World} (h : Keeps S a b) (k : Keeps S' b c) (hs : ∀ x ∈ S', x ∈ S ∨ a.heap.size ≤ x) : Keeps S a c :=
  ⟨k.os.trans h.os, k.tape.trans h.tape, k.output.trans h.output, Nat.le_trans h.size k.size, fun i hi hn =>
    (k.block i (Nat.lt_of_lt_of_le hi h.size) (fun hm => (hs i hm).elim hn (fun hle => by omega))).trans (h.block i hi hn)⟩
theorem Keeps.mono {S S' : List Nat} {w w' : World} (h : Keeps S w w') (hs : ∀ x ∈ S, x ∈ S') : Keeps S' w w' :=
  ⟨h.os, h.tape, h.output, h.size, fun i hi hn => h.block i hi (fun hm => hn (hs i hm))⟩
theorem Keeps.drew {S : List Nat} {a w : World} (h : Keeps S a w) : Keeps S a w.drew := ⟨h.os, h.tape, h.output, h.size, h.block⟩
theorem Keeps.alloc {S : List Nat} {a w : World} (h : Keeps S a w) (o : Obj) : Keeps S a (w.alloc o) :=
  h.trans (S' := []) ⟨rfl, rfl, rfl, by simp, fun k hk _ => Below.heap_alloc _ _ _ hk⟩ (by simp)
theorem Keeps.setCell {S : List Nat} {a w : World} (h : Keeps S a w) {p : Addr} (hp : p.block ∈ S ∨ a.heap.size ≤ p.block) (u : Value) : Keeps S a (w.setCell p u) :=
  h.trans (S' := [p.block]) ⟨rfl, rfl, rfl, by simp [World.setCell], fun k _ hk => Below.heap_setCell _ _ _ _ (by simpa using hk)⟩ (by simpa using hp)
theorem Keeps.grown {S : List Nat} {a w w' : World} {row : Option Nat} (h : Keeps S a w) (hg : w.grownBy w' row) (hr : ∀ k, row = some k → k ∈ S ∨ a.heap.size ≤ k) : Keeps S a w' := by
  cases row with
  | none => exact h.trans (S' := []) ⟨hg.os, hg.tape, hg.output, hg.size, fun k hk _ => hg.block k hk (by simp)⟩ (by simp)
  | some r => exact h.trans (S' := [r]) ⟨hg.os, hg.tape, hg.output, hg.size, fun k hk hn => hg.block k hk (by simpa using hn)⟩ (by simpa using hr r rfl)
theorem Keeps.turned {S : List Nat} {a w w' : World} {b : Nat} (h : Keeps S a w) (hg : w.mapTurned w' b) (hr : b ∈ S ∨ a.heap.size ≤ b) : Keeps S a w' :=
  h.grown hg.grown (fun k e => by simp at e; exact e ▸ hr)
theorem Keeps.of_below {S : List Nat} {B : Nat} {w w' : World} (h : Below B w w') (hB : ∀ k, k < w.heap.size → k ∉ S → k < B) : Keeps S w w' :=
  ⟨h.os, h.tape, h.output, h.size, fun k hk hn => h.block k (hB k hk hn)⟩
theorem Keeps.below {S : List Nat} {B : Nat} {w w' : World} (h : Keeps S w w') (hS : ∀ x ∈ S, B ≤ x) (hB : B ≤ w.heap.size) : Below B w w' :=
  ⟨h.os, h.tape, h.output, h.size, fun k hk => h.block k (by omega) (fun hm => by have := hS k hm; omega)⟩
theorem Keeps.cell {S : List Nat} {w w' : World} (h : Keeps S w w') {b o : Nat} (hb : b < w.heap.size) (hn : b ∉ S) : w'.cell? ⟨b, o, none⟩ = w.cell? ⟨b, o, none⟩ :=
  World.cell?_of_block (w := w) (h.block b hb hn)
theorem Keeps.frozen {S : List Nat} {w w' : World} (h : Keeps S w w') {b o : Nat} (hb : b < w.heap.size) (hn : b ∉ S) : w'.frozen? ⟨b, o, none⟩ = w.frozen? ⟨b, o, none⟩ :=
  World.frozen?_of_block (w := w) (h.block b hb hn)
theorem Keeps.map {H : Type} {P : Program} {k : TypeId} {R : Value → Option (DataW H × List MemPlace)} {b n : Nat} {D : DataW H} {S : List Nat} {w w' : World} (h : Keeps S w w') (hm : w.ownsMap P k R b n D) (hn : b ∉ S) : w'.ownsMap P k R b n D := by
  have hb := hm.lt
  obtain ⟨es, clock, hh, r⟩ := hm
  exact ⟨es, clock, by rw [h.block b hb hn]; exact hh, r⟩
theorem map_below {H : Type} {P : Program} {k : TypeId} {R : Value → Option (DataW H × List MemPlace)} {b n B : Nat} {D : DataW H} {w w' : World} (hm : w.ownsMap P k R b n D) (h : Below B w w') (hb : b < B) : w'.ownsMap P k R b n D := by
  obtain ⟨es, clock, hh, r⟩ := hm
  exact ⟨es, clock, by rw [h.block b hb]; exact hh, r⟩
theorem map_tight {H : Type} {P : Program} {k : TypeId} {R : Value → Option (DataW H × List MemPlace)} {b n m : Nat} {D : DataW H} {w : World} (hm : w.ownsMap P k R b n D) (h : Maps.size D ≤ m) : w.ownsMap P k R b m D := by
  obtain ⟨es, clock, hh, F, hs, rfl⟩ := hm
  refine ⟨es, clock, hh, F, ?_, rfl⟩
  simpa [Maps.size, length_sorted] using h

theorem own_blocks {w w' : World} {base : Nat} {e : TypeId} {size : Nat} {v : Value} {n : Nat} {xs : List Value} (h : w.ownsRow base e size v n xs) (hb : ∀ g, v.ownBlock = some g → w'.heap[g]? = w.heap[g]?) : w'.ownsRow base e size v n xs := by
  refine ⟨h.1, h.2.elim Or.inl ?_⟩
  rintro ⟨g, cap, cur, rfl, hg, hh, r⟩
  exact Or.inr ⟨g, cap, cur, rfl, hg, by rw [hb g rfl]; exact hh, r⟩
theorem own_lt {w : World} {base : Nat} {e : TypeId} {size : Nat} {v : Value} {n : Nat} {xs : List Value} (h : w.ownsRow base e size v n xs) {g : Nat} (hg : v.ownBlock = some g) : g < w.heap.size := (h.lt g hg).2

/-- A row of cells of the call's own: a slice that leads to the beginning of a block, with the cells that it has. -/
def Row (w : World) (e : TypeId) (size g n cap : Nat) (xs : List Value) : Prop :=
  xs.length = n * size ∧ ∃ cur, w.heap[g]? = some (.cells cur e (0, 0)) ∧ n ≤ cap ∧ cap ≤ maxLen ∧ cur.size = cap * size ∧ cur.toList.take (n * size) = xs
section
variable {w w' : World} {e : TypeId} {size g n cap : Nat} {xs : List Value}
theorem Row.owns (h : Row w e size g n cap xs) {base : Nat} (hb : base ≤ g) : w.ownsRow base e size (.slice (some ⟨g, 0, none⟩) n cap) n xs := by
  obtain ⟨h1, cur, h2⟩ := h
  exact ⟨h1, .inr ⟨g, cap, cur, rfl, hb, h2⟩⟩
theorem Row.of_owns {base : Nat} {v : Value} (h : w.ownsRow base e size v n xs) (hn : 0 < n) : ∃ g cap, v = .slice (some ⟨g, 0, none⟩) n cap ∧ base ≤ g ∧ Row w e size g n cap xs := by
  obtain ⟨h1, h2⟩ := h
  rcases h2 with ⟨_, h0⟩ | ⟨g, cap, cur, hv, hg, r⟩
  · omega
  · exact ⟨g, cap, hv, hg, h1, cur, r⟩
theorem Row.lt (h : Row w e size g n cap xs) : g < w.heap.size := by
  obtain ⟨_, cur, hh, _⟩ := h
  exact (Array.getElem?_eq_some_iff.1 hh).1
theorem Row.of_block (h : Row w e size g n cap xs) (hb : w'.heap[g]? = w.heap[g]?) : Row w' e size g n cap xs := by
  obtain ⟨h1, cur, hh, r⟩ := h
  exact ⟨h1, cur, by rw [hb]; exact hh, r⟩
theorem Row.keep {S : List Nat} (h : Row w e size g n cap xs) (hk : Keeps S w w') (hn : g ∉ S) : Row w' e size g n cap xs := h.of_block (hk.block g h.lt hn)
theorem Row.alloc (h : Row w e size g n cap xs) (o : Obj) : Row (w.alloc o) e size g n cap xs := h.of_block (Below.heap_alloc _ _ _ h.lt)
theorem Row.cell (h : Row w e size g n cap xs) {j : Nat} {u : Value} (hj : xs[j]? = some u) : w.cell? ⟨g, j, none⟩ = some u := by
  obtain ⟨h1, cur, hh, h2, h3, h4, h5⟩ := h
  have hlt : j < n * size := by rw [← h1]; exact (List.getElem?_eq_some_iff.1 hj).1
  rw [← h5, List.getElem?_take_of_lt hlt] at hj
  simp only [World.cell?, hh]
  simpa using hj
theorem Row.frozen (h : Row w e size g n cap xs) (j : Nat) : w.frozen? ⟨g, j, none⟩ = false := by
  obtain ⟨h1, cur, hh, h2, h3, h4, h5⟩ := h
  simp [World.frozen?, hh]
theorem Row.setOther (h : Row w e size g n cap xs) {p : Addr} (hp : g ≠ p.block) (u : Value) : Row (w.setCell p u) e size g n cap xs := h.of_block (Below.heap_setCell _ _ _ _ hp)
end
end Keep
end Go.Proofs.YtkdcofmpbmiloaaGreatDoor
/-
  A slice of items that the call itself has made by append: its cells one behind the other. No Go function is spoken of here.
-/
namespace Go.Proofs.YtkdcofmpbmiloaaGreatDoor
namespace Own
open Go.RowKit Base Items Marks

def cellsOf (x : Itm) : List Value := [.string x.key, .int .i64 x.flags, .string x.data, .int .i64 x.upto, .int .i64 x.token]
def flat (its : List Itm) : List Value := its.flatMap cellsOf
theorem flat_append (a b : List Itm) : flat (a ++ b) = flat a ++ flat b := by simp [flat]
theorem flat_one (x : Itm) : flat [x] = cellsOf x := by simp [flat]
theorem flat_length (its : List Itm) : (flat its).length = its.length * 5 := by
  induction its with
  | nil => rfl
  | cons x r ih =>
    have e : flat (x :: r) = cellsOf x ++ flat r := by simp [flat]
    rw [e, List.length_append, ih]
    simp [cellsOf]; omega
theorem icell_cons (x : Itm) (r : List Itm) (j : Nat) : icell (x :: r) (j + 5) = icell r j := by
  unfold icell
  rw [show (j + 5) % 5 = j % 5 by omega, show (j + 5) / 5 = j / 5 + 1 by omega]
  simp
theorem flat_get (its : List Itm) (j : Nat) (hj : j < its.length * 5) : (flat its)[j]? = some (icell its j) := by
  induction its generalizing j with
  | nil => simp at hj
  | cons x r ih =>
    have e : flat (x :: r) = cellsOf x ++ flat r := by simp [flat]
    rw [e]
    by_cases h : j < 5
    · rw [List.getElem?_append_left (by simp [cellsOf]; omega)]
      obtain rfl | rfl | rfl | rfl | rfl : j = 0 ∨ j = 1 ∨ j = 2 ∨ j = 3 ∨ j = 4 := by omega
      all_goals simp [cellsOf, icell]
    · obtain ⟨i, rfl⟩ : ∃ i, j = i + 5 := ⟨j - 5, by omega⟩
      rw [List.getElem?_append_right (by simp [cellsOf]), icell_cons]
      have el : (cellsOf x).length = 5 := rfl
      rw [el, Nat.add_sub_cancel]
      exact ih i (by simp at hj; omega)

theorem own_below {w w' : World} {base : Nat} {e : TypeId} {size : Nat} {v : Value} {n : Nat} {xs : List Value} {B : Nat} (h : w.ownsRow base e size v n xs) (hb : Below B w w') (hB : w.heap.size ≤ B) : w'.ownsRow base e size v n xs := by
  refine ⟨h.1, h.2.elim Or.inl ?_⟩
  rintro ⟨g, cap, cur, hv, hg, hh, r⟩
  have hlt : g < w.heap.size := (Array.getElem?_eq_some_iff.1 hh).1
  exact Or.inr ⟨g, cap, cur, hv, hg, by rw [hb.block g (by omega)]; exact hh, r⟩
theorem own_block {w : World} {base : Nat} {e : TypeId} {size : Nat} {v : Value} {n : Nat} {xs : List Value} (h : w.ownsRow base e size v n xs) : ∀ k, v.ownBlock = some k → base ≤ k := by
  intro k hk
  rcases h.2 with ⟨rfl, _⟩ | ⟨g, cap, cur, rfl, hg, _⟩
  · simp [Value.ownBlock] at hk
  · simp [Value.ownBlock] at hk; omega
theorem own_form {w : World} {base : Nat} {e : TypeId} {size : Nat} {v : Value} {n : Nat} {xs : List Value} (h : w.ownsRow base e size v n xs) : ∃ a cap, v = .slice a n cap := by
  rcases h.2 with ⟨rfl, rfl⟩ | ⟨g, cap, cur, rfl, _⟩
  · exact ⟨none, 0, rfl⟩
  · exact ⟨_, _, rfl⟩
theorem own_at {w : World} {base : Nat} {a : Option Addr} {cap : Nat} {its : List Itm} (h : w.ownsRow base 37 5 (.slice a its.length cap) its.length (flat its)) : ItemsAt w a its := by
  intro hne
  rcases h.2 with ⟨_, h0⟩ | ⟨g, cap', cur, hv, hg, hh, hn, _, hsz, ht⟩
  · exact absurd (List.length_eq_zero_iff.1 h0) hne
  · simp only [Value.slice.injEq] at hv
    have hrow : RowAt w g 37 (its.length * 5) (icell its) := ⟨cur, hh, by rw [hsz]; omega, fun i hi => by
      rw [← flat_get its i hi, ← ht, List.getElem?_take_of_lt hi]
      simp⟩
    refine ⟨g, 0, hv.1, hrow.lt, fun i hi => ?_⟩
    rw [Nat.zero_add]
    refine ⟨?_, ?_, ?_, ?_, ?_⟩
    · rw [hrow.cell (by omega), icell, show (i * 5) % 5 = 0 by omega, show (i * 5) / 5 = i by omega]; simp
    · rw [hrow.cell (by omega), icell, show (i * 5 + 1) % 5 = 1 by omega, show (i * 5 + 1) / 5 = i by omega]; simp
    · rw [hrow.cell (by omega), icell, show (i * 5 + 2) % 5 = 2 by omega, show (i * 5 + 2) / 5 = i by omega]; simp
    · rw [hrow.cell (by omega), icell, show (i * 5 + 3) % 5 = 3 by omega, show (i * 5 + 3) / 5 = i by omega]; simp
    · rw [hrow.cell (by omega), icell, show (i * 5 + 4) % 5 = 4 by omega, show (i * 5 + 4) / 5 = i by omega]; simp
theorem own_le {w : World} {base base' : Nat} {e : TypeId} {size : Nat} {v : Value} {n : Nat} {xs : List Value} (h : w.ownsRow base e size v n xs) (hb : base' ≤ base) : w.ownsRow base' e size v n xs :=
  ⟨h.1, h.2.elim Or.inl (fun ⟨g, cap, cur, hv, hg, r⟩ => Or.inr ⟨g, cap, cur, hv, Nat.le_trans hb hg, r⟩)⟩
theorem news_cells (w : World) (x : Itm) (t : TypeId) (j : Nat) (u : Value) (hj : (cellsOf x)[j]? = some u) :
    (w.alloc (.cells #[.string x.key, .int .i64 x.flags, .string x.data, .int .i64 x.upto, .int .i64 x.token] t)).cell? ((⟨w.heap.size, 0, none⟩ : Addr).add j) = some u := by
  rw [Go.WideShapes.add_plain, Nat.zero_add, World.cell?_alloc_new]
  show (cellsOf x).toArray[j]? = some u
  simpa using hj
theorem news_one (x : Itm) (u : Value) (hu : u ∈ cellsOf x) : u.oneCell' = true := by
  simp only [cellsOf, List.mem_cons, List.not_mem_nil, or_false] at hu
  rcases hu with rfl | rfl | rfl | rfl | rfl <;> rfl
theorem own_snoc {w : World} {base : Nat} {t : TypeId} {v : Value} {kept kept' : List Itm} {x : Itm} (h : w.ownsRow base t 5 v (kept.length + 1) (flat kept ++ cellsOf x)) (e : kept' = kept ++ [x]) : w.ownsRow base t 5 v kept'.length (flat kept') := by
  rw [e, flat_append, flat_one, List.length_append]
  exact h
end Own
end Go.Proofs.YtkdcofmpbmiloaaGreatDoor
/-
  The contract of the law files' markText, for every number from 1 on.
-/
namespace Go.Proofs.YtkdcofmpbmiloaaGreatDoor
namespace Marks
open Go.RowKit Base NumText
set_option linter.unusedVariables false

theorem dig_step (K k : Nat) (out : List UInt8) (hk : 0 < k) (h : Lib.decDigits K = Lib.decDigits k ++ out) :
    (10 ≤ k → Lib.decDigits K = Lib.decDigits (k / 10) ++ (UInt8.ofNat (48 + k % 10) :: out)) ∧ (k < 10 → Lib.decDigits K = UInt8.ofNat (48 + k % 10) :: out) := by
  constructor
  · intro h10
    rw [h, Lib.decDigits, dif_neg (by omega)]
    simp
  · intro h10
    rw [h, Lib.decDigits, dif_pos h10, Nat.mod_eq_of_lt h10]
    simp

theorem len_eq (b : ByteArray) : b.size = b.data.toList.length := by simp
theorem out_step (K : Nat) (hK : K < 18446744073709551616) (k : Int) (out : ByteArray) (hk : 0 < k) (h : (0 < k → Lib.decDigits K = Lib.decDigits k.toNat ++ out.data.toList) ∧ (k = 0 → Lib.decDigits K = out.data.toList)) :
    ((⟨#[UInt8.ofNat (48 + k % 10).toNat]⟩ : ByteArray) ++ out).size ≤ 20 ∧
    ((0 < k / 10 → Lib.decDigits K = Lib.decDigits (k / 10).toNat ++ ((⟨#[UInt8.ofNat (48 + k % 10).toNat]⟩ : ByteArray) ++ out).data.toList) ∧ (k / 10 = 0 → Lib.decDigits K = ((⟨#[UInt8.ofNat (48 + k % 10).toNat]⟩ : ByteArray) ++ out).data.toList)) := by
  have h2 := dig_step K k.toNat out.data.toList (by omega) (h.1 hk)
  have ec : UInt8.ofNat (48 + k % 10).toNat = UInt8.ofNat (48 + k.toNat % 10) := by rw [show (48 + k % 10).toNat = 48 + k.toNat % 10 by omega]
  have eo : ((⟨#[UInt8.ofNat (48 + k % 10).toNat]⟩ : ByteArray) ++ out).data.toList = UInt8.ofNat (48 + k.toNat % 10) :: out.data.toList := by rw [ec]; simp
  have hlen : (Lib.decDigits K).length ≤ 20 := by
    have := Lib.nDigits_le20 K hK
    rw [Lib.decDigits_eq]; simpa using this
  have esz := len_eq ((⟨#[UInt8.ofNat (48 + k % 10).toNat]⟩ : ByteArray) ++ out)
  refine ⟨?_, ?_, ?_⟩
  · rw [esz, eo]
    by_cases h10 : k.toNat < 10
    · rw [h2.2 h10] at hlen; exact hlen
    · rw [h2.1 (by omega)] at hlen
      simp only [List.length_append] at hlen
      omega
  · intro hp
    rw [eo, show (k / 10).toNat = k.toNat / 10 by omega]
    exact h2.1 (by omega)
  · intro hz
    rw [eo]
    exact h2.2 (by omega)

end Marks
end Go.Proofs.YtkdcofmpbmiloaaGreatDoor
/-
  Contracts of the law files' markItemS, heldItemS, markStore, heldStore: the marks are written into the items' own row and read again.
-/
namespace Go.Proofs.YtkdcofmpbmiloaaGreatDoor
namespace Marks
open Go.RowKit Base NumText Items
set_option linter.unusedVariables false

/-- Cell j of a row of items that bears the marks from k on. -/
def mcell (k : Int) (j : Nat) : Value := if j % 5 = 0 ∨ j % 5 = 2 then .string (mtxt (k + j).toNat) else .int .i64 (k + j)
def mhalf (f : Nat → Value) (k : Int) (i j : Nat) : Value := if j < i * 5 then mcell k j else f j
theorem mhalf_step (f : Nat → Value) (k : Int) (i j : Nat) :
    (if j = i * 5 + 4 then Value.int .i64 (k + i * 5 + 1 + 1 + 1 + 1) else if j = i * 5 + 3 then .int .i64 (k + i * 5 + 1 + 1 + 1) else if j = i * 5 + 2 then .string (mtxt (k + i * 5 + 1 + 1).toNat) else
      if j = i * 5 + 1 then .int .i64 (k + i * 5 + 1) else if j = i * 5 then .string (mtxt (k + i * 5).toNat) else mhalf f k i j) = mhalf f k (i + 1) j := by
  unfold mhalf
  by_cases h4 : j = i * 5 + 4
  · subst h4
    rw [if_pos rfl, if_pos (by omega), mcell, if_neg (by omega)]
    congr 1 <;> omega
  rw [if_neg h4]
  by_cases h3 : j = i * 5 + 3
  · subst h3
    rw [if_pos rfl, if_pos (by omega), mcell, if_neg (by omega)]
    congr 1 <;> omega
  rw [if_neg h3]
  by_cases h2 : j = i * 5 + 2
  · subst h2
    rw [if_pos rfl, if_pos (by omega), mcell, if_pos (by omega)]
    congr 3 <;> omega
  rw [if_neg h2]
  by_cases h1 : j = i * 5 + 1
  · subst h1
    rw [if_pos rfl, if_pos (by omega), mcell, if_neg (by omega)]
    congr 1 <;> omega
  rw [if_neg h1]
  by_cases h0 : j = i * 5
  · subst h0
    rw [if_pos rfl, if_pos (by omega), mcell, if_pos (by omega)]
    congr 3 <;> omega
  rw [if_neg h0]
  by_cases h : j < i * 5
  · rw [if_pos h, if_pos (by omega)]
  · rw [if_neg h, if_neg (by omega)]

theorem mstr (k : Int) (j : Nat) (h : j % 5 = 0 ∨ j % 5 = 2) : mcell k j = .string (mtxt (k + j).toNat) := by unfold mcell; rw [if_pos h]
theorem mint (k : Int) (j : Nat) (h : ¬ (j % 5 = 0 ∨ j % 5 = 2)) : mcell k j = .int .i64 (k + j) := by unfold mcell; rw [if_neg h]

/-- A slice of n items that may be written: empty, or the head of a row of its own; r names the row. -/
def Ours (w : World) (a : Option Addr) (n : Nat) (f : Nat → Value) (r : Option Nat) : Prop :=
  (n = 0 ∧ r = none) ∨ ∃ g, a = some ⟨g, 0, none⟩ ∧ r = some g ∧ RowAt w g 37 (n * 5) f
theorem Ours.below {w w' : World} {a : Option Addr} {n : Nat} {f : Nat → Value} {r : Option Nat} {B : Nat} (h : Ours w a n f r) (hb : Below B w w') (hB : w.heap.size ≤ B) : Ours w' a n f r := by
  rcases h with h | ⟨g, ha, hr, h⟩
  · exact .inl h
  · exact .inr ⟨g, ha, hr, h.below hb (Nat.lt_of_lt_of_le h.lt hB)⟩
theorem Ours.gb {w w' : World} {a : Option Addr} {n : Nat} {f : Nat → Value} {r q : Option Nat} (h : Ours w a n f r) (hg : w.grownBy w' q) (hne : ∀ g, r = some g → some g ≠ q) : Ours w' a n f r := by
  rcases h with h | ⟨g, ha, hr, h⟩
  · exact .inl h
  · exact .inr ⟨g, ha, hr, h.of_block (hg.block g h.lt (hne g hr))⟩
theorem Ours.lt {w : World} {a : Option Addr} {n : Nat} {f : Nat → Value} {r : Option Nat} (h : Ours w a n f r) : ∀ g, r = some g → g < w.heap.size := by
  intro g e
  rcases h with ⟨_, hr⟩ | ⟨g', _, hr, h⟩
  · rw [hr] at e; simp at e
  · rw [hr] at e; simp at e; rw [← e]; exact h.lt
theorem Ours.at {w : World} {a : Option Addr} {its : List Itm} {r : Option Nat} (h : Ours w a its.length (icell its) r) : ItemsAt w a its := by
  intro hne
  rcases h with ⟨h0, _⟩ | ⟨g, ha, _, c, hb, hn, hc⟩
  · exact absurd (List.length_eq_zero_iff.1 h0) hne
  · have hrow : RowAt w g 37 (its.length * 5) (icell its) := ⟨c, hb, hn, hc⟩
    refine ⟨g, 0, ha, hrow.lt, fun i hi => ?_⟩
    rw [Nat.zero_add]
    refine ⟨?_, ?_, ?_, ?_, ?_⟩
    · rw [hrow.cell (by omega), icell, show (i * 5) % 5 = 0 by omega, show (i * 5) / 5 = i by omega]; simp
    · rw [hrow.cell (by omega), icell, show (i * 5 + 1) % 5 = 1 by omega, show (i * 5 + 1) / 5 = i by omega]; simp
    · rw [hrow.cell (by omega), icell, show (i * 5 + 2) % 5 = 2 by omega, show (i * 5 + 2) / 5 = i by omega]; simp
    · rw [hrow.cell (by omega), icell, show (i * 5 + 3) % 5 = 3 by omega, show (i * 5 + 3) / 5 = i by omega]; simp
    · rw [hrow.cell (by omega), icell, show (i * 5 + 4) % 5 = 4 by omega, show (i * 5 + 4) / 5 = i by omega]; simp
theorem Ours.row {w : World} {b : Nat} {its : List Itm} (h : w.rowIs b 37 (its.length * 5) (icell its)) : Ours w (some ⟨b, 0, none⟩) its.length (icell its) (some b) :=
  .inr ⟨b, rfl, rfl, RowAt.of_row h⟩

end Marks
end Go.Proofs.YtkdcofmpbmiloaaGreatDoor
/-
  The same slice, as marks and looks ask for it. No Go function is spoken of here.
-/
namespace Go.Proofs.YtkdcofmpbmiloaaGreatDoor
namespace Own
open Go.RowKit Base Items Marks

theorem own_ours {w : World} {base : Nat} {a : Option Addr} {cap : Nat} {its : List Itm} (h : w.ownsRow base 37 5 (.slice a its.length cap) its.length (flat its)) :
    ∃ r, Ours w a its.length (icell its) r ∧ ∀ g, r = some g → base ≤ g := by
  rcases h.2 with ⟨_, h0⟩ | ⟨g, cap', cur, hv, hg, hh, hn, _, hsz, ht⟩
  · exact ⟨none, .inl ⟨h0, rfl⟩, fun g e => by simp at e⟩
  · simp only [Value.slice.injEq] at hv
    refine ⟨some g, .inr ⟨g, hv.1, rfl, cur, hh, by rw [hsz]; omega, fun i hi => ?_⟩, fun g' e => by simp at e; omega⟩
    rw [← flat_get its i hi, ← ht, List.getElem?_take_of_lt hi]
    simp
end Own
end Go.Proofs.YtkdcofmpbmiloaaGreatDoor
/-
  A list of links that hang together by their numbers, as plain data. No Go function is spoken of here.
-/
namespace Go.Proofs.YtkdcofmpbmiloaaGreatDoor
namespace Chain
open Go.RowKit Base Items
set_option linter.unusedVariables false

structure Lnk where
  val : Itm
  ahead : Nat
  behind : Nat
def zl : Lnk := ⟨zero, 0, 0⟩
def lk (ls : List Lnk) (p : Nat) : Lnk := ls.getD p zl
theorem lk_set (ls : List Lnk) (i j : Nat) (x : Lnk) (hi : i < ls.length) : lk (ls.set i x) j = if j = i then x else lk ls j := by
  unfold lk
  rw [List.getD_eq_getElem?_getD, List.getD_eq_getElem?_getD, List.getElem?_set]
  by_cases h : i = j
  · subst h; simp [hi]
  · simp [h, Ne.symm h]
theorem lk_push (ls : List Lnk) (x : Lnk) (j : Nat) : lk (ls ++ [x]) j = if j = ls.length then x else lk ls j := by
  unfold lk
  rw [List.getD_eq_getElem?_getD, List.getD_eq_getElem?_getD, List.getElem?_append]
  by_cases h : j < ls.length
  · rw [if_pos h, if_neg (by omega)]
  · rw [if_neg h]
    by_cases h2 : j = ls.length
    · subst h2; simp
    · rw [if_neg h2, List.getElem?_eq_none (by simp; omega), List.getElem?_eq_none (by omega)]

/-- The numbers from a on, one behind the other, and then 0. -/
def Fw (f : Nat → Nat) : Nat → List Nat → Prop
  | a, [] => f a = 0
  | a, b :: r => f a = b ∧ Fw f b r
/-- Each number's is the one ahead of it, and 0's the last. -/
def Bw (g : Nat → Nat) : Nat → List Nat → Prop
  | a, [] => g 0 = a
  | a, b :: r => g b = a ∧ Bw g b r

theorem Fw.congr {f f' : Nat → Nat} : ∀ {a : Nat} {l : List Nat}, Fw f a l → (∀ p ∈ a :: l, f' p = f p) → Fw f' a l
  | a, [], h, e => by have := e a (by simp); simp only [Fw] at h ⊢; omega
  | a, b :: r, h, e => by
    simp only [Fw] at h ⊢
    exact ⟨(e a (by simp)).trans h.1, h.2.congr (fun p hp => e p (List.mem_cons_of_mem _ hp))⟩
theorem Bw.congr {g g' : Nat → Nat} : ∀ {a : Nat} {l : List Nat}, Bw g a l → (∀ p ∈ l, g' p = g p) → g' 0 = g 0 → Bw g' a l
  | a, [], h, _, e0 => by simp only [Bw] at h ⊢; omega
  | a, b :: r, h, e, e0 => by
    simp only [Bw] at h ⊢
    exact ⟨(e b (by simp)).trans h.1, h.2.congr (fun p hp => e p (List.mem_cons_of_mem _ hp)) e0⟩
theorem Bw.last {g : Nat → Nat} : ∀ {a : Nat} {l : List Nat}, Bw g a l → g 0 = (a :: l).getLast (by simp)
  | a, [], h => h
  | a, b :: r, h => by
    simp only [Bw] at h
    rw [List.getLast_cons (by simp)]
    exact h.2.last
theorem Fw.snoc {f f' : Nat → Nat} {n : Nat} : ∀ {a : Nat} {l : List Nat}, Fw f a l → (a :: l).Nodup → (∀ p ∈ a :: l, p ≠ (a :: l).getLast (by simp) → f' p = f p) → f' ((a :: l).getLast (by simp)) = n → f' n = 0 → Fw f' a (l ++ [n])
  | a, [], h, _, _, e1, e2 => by simp at e1; simp only [List.nil_append, Fw]; exact ⟨e1, e2⟩
  | a, b :: r, h, hn, e, e1, e2 => by
    simp only [Fw] at h
    have hl : (a :: b :: r).getLast (by simp) = (b :: r).getLast (by simp) := List.getLast_cons (by simp)
    have hne : a ≠ (b :: r).getLast (by simp) := fun ha => (List.nodup_cons.1 hn).1 (ha ▸ List.getLast_mem _)
    simp only [List.cons_append, Fw]
    refine ⟨(e a (by simp) (by rw [hl]; exact hne)).trans h.1, h.2.snoc (List.nodup_cons.1 hn).2 (fun p hp hpn => e p (List.mem_cons_of_mem _ hp) (by rw [hl]; exact hpn)) (by rw [← hl]; exact e1) e2⟩
theorem Bw.snoc {g g' : Nat → Nat} {n : Nat} : ∀ {a : Nat} {l : List Nat}, Bw g a l → (∀ p ∈ l, g' p = g p) → g' n = (a :: l).getLast (by simp) → g' 0 = n → Bw g' a (l ++ [n])
  | a, [], h, _, e1, e2 => by simp at e1; simp only [List.nil_append, Bw]; exact ⟨e1, e2⟩
  | a, b :: r, h, e, e1, e2 => by
    simp only [Bw] at h
    rw [List.getLast_cons (by simp)] at e1
    simp only [List.cons_append, Bw]
    exact ⟨(e b (by simp)).trans h.1, h.2.snoc (fun p hp => e p (List.mem_cons_of_mem _ hp)) e1 e2⟩
theorem Bw.mid {g : Nat → Nat} {n : Nat} {l2 : List Nat} : ∀ {a : Nat} {l1 : List Nat}, Bw g a (l1 ++ n :: l2) → g n = (a :: l1).getLast (by simp)
  | a, [], h => by simp only [List.nil_append, Bw] at h; simpa using h.1
  | a, b :: r, h => by
    simp only [List.cons_append, Bw] at h
    rw [List.getLast_cons (by simp)]
    exact h.2.mid
theorem Fw.mid {f : Nat → Nat} {n : Nat} {l2 : List Nat} : ∀ {a : Nat} {l1 : List Nat}, Fw f a (l1 ++ n :: l2) → Fw f n l2
  | a, [], h => by simp only [List.nil_append, Fw] at h; exact h.2
  | a, b :: r, h => by simp only [List.cons_append, Fw] at h; exact h.2.mid
theorem Fw.head {f : Nat → Nat} {a : Nat} : ∀ {l : List Nat}, Fw f a l → f a = l.headD 0
  | [], h => h
  | b :: r, h => h.1
theorem Fw.del {f f' : Nat → Nat} {n : Nat} {l2 : List Nat} : ∀ {a : Nat} {l1 : List Nat}, Fw f a (l1 ++ n :: l2) → (a :: (l1 ++ n :: l2)).Nodup → (∀ p ∈ a :: (l1 ++ l2), p ≠ (a :: l1).getLast (by simp) → f' p = f p) → f' ((a :: l1).getLast (by simp)) = f n → Fw f' a (l1 ++ l2)
  | a, [], h, hn, e, e1 => by
    simp only [List.nil_append, Fw] at h
    simp at e1
    simp only [List.nil_append] at e hn ⊢
    cases l2 with
    | nil => simp only [Fw] at h ⊢; omega
    | cons c r =>
      simp only [Fw] at h ⊢
      refine ⟨by omega, h.2.2.congr (fun p hp => e p (List.mem_cons_of_mem _ hp) ?_)⟩
      simp only [List.getLast_singleton]
      intro hpa
      exact (List.nodup_cons.1 hn).1 (hpa ▸ List.mem_cons_of_mem _ hp)
  | a, b :: r, h, hn, e, e1 => by
    simp only [List.cons_append, Fw] at h
    have hl : (a :: b :: r).getLast (by simp) = (b :: r).getLast (by simp) := List.getLast_cons (by simp)
    have hne : a ≠ (b :: r).getLast (by simp) := fun ha => (List.nodup_cons.1 hn).1 (by
      have hm : (b :: r).getLast (by simp) ∈ b :: r := List.getLast_mem _
      rw [← ha] at hm
      exact List.mem_append_left _ hm)
    simp only [List.cons_append, Fw]
    exact ⟨(e a (by simp) (by rw [hl]; exact hne)).trans h.1, h.2.del (List.nodup_cons.1 hn).2 (fun p hp hpn => e p (List.mem_cons_of_mem _ hp) (by rw [hl]; exact hpn)) (by rw [← hl]; exact e1)⟩
theorem Bw.del {g g' : Nat → Nat} {n : Nat} {l2 : List Nat} : ∀ {a : Nat} {l1 : List Nat}, Bw g a (l1 ++ n :: l2) → (l1 ++ n :: l2).Nodup → 0 ∉ l1 ++ n :: l2 → (∀ p, p = 0 ∨ p ∈ l1 ++ l2 → p ≠ l2.headD 0 → g' p = g p) → g' (l2.headD 0) = g n → Bw g' a (l1 ++ l2)
  | a, [], h, hn, h0, e, e1 => by
    simp only [List.nil_append, Bw] at h e h0 hn ⊢
    cases l2 with
    | nil => simp only [List.headD_nil, Bw] at e1 h ⊢; omega
    | cons c r =>
      simp only [List.headD_cons, Bw] at h e e1 ⊢
      refine ⟨by omega, h.2.2.congr (fun p hp => e p (.inr (List.mem_cons_of_mem _ hp)) ?_) (e 0 (.inl rfl) ?_)⟩
      · intro hpc
        subst hpc
        exact (List.nodup_cons.1 (List.nodup_cons.1 hn).2).1 hp
      · intro hc
        subst hc
        simp at h0
  | a, b :: r, h, hn, h0, e, e1 => by
    simp only [List.cons_append, Bw] at h ⊢
    refine ⟨(e b (.inr (by simp)) ?_).trans h.1, h.2.del (List.nodup_cons.1 hn).2 (fun hm => h0 (List.mem_cons_of_mem _ hm)) (fun p hp hpn => e p (hp.imp id (fun hm => List.mem_cons_of_mem _ hm)) hpn) e1⟩
    intro hb
    cases l2 with
    | nil => simp at hb; subst hb; simp at h0
    | cons c s =>
      simp at hb
      subst hb
      exact (List.nodup_cons.1 hn).1 (by simp)

/-- Links that hang together: 'order' are the numbers of those that are in use, in their order; 'free' those that are not. -/
structure Good (ls : List Lnk) (free order : List Nat) : Prop where
  nodup : order.Nodup
  inO : ∀ p ∈ order, 0 < p ∧ p < ls.length
  fnodup : free.Nodup
  inF : ∀ p ∈ free, 0 < p ∧ p < ls.length ∧ p ∉ order
  len : ls.length = 1 + order.length + free.length
  fw : Fw (fun p => (lk ls p).behind) 0 order
  bw : Bw (fun p => (lk ls p).ahead) 0 order
def itemsOf (ls : List Lnk) (order : List Nat) : List Itm := order.map (fun p => (lk ls p).val)

theorem Good.zero {ls : List Lnk} {free order : List Nat} (h : Good ls free order) : 0 ∉ order := fun hm => by have := (h.inO 0 hm).1; omega
theorem Good.cons {ls : List Lnk} {free order : List Nat} (h : Good ls free order) : (0 :: order).Nodup := List.nodup_cons.2 ⟨h.zero, h.nodup⟩
theorem good_new : Good [zl] [] [] := ⟨by simp, by simp, by simp, by simp, rfl, rfl, rfl⟩

theorem Good.perm {ls : List Lnk} {free free' order : List Nat} (h : Good ls free order) (hp : free.Perm free') : Good ls free' order :=
  ⟨h.nodup, h.inO, hp.nodup_iff.1 h.fnodup, fun p hm => h.inF p (hp.mem_iff.2 hm), by rw [h.len, hp.length_eq], h.fw, h.bw⟩

/-- The links behind putLast at a number that is not in use. -/
def putL (ls : List Lnk) (n : Nat) (x : Itm) : List Lnk :=
  let last := (lk ls 0).ahead
  let l1 := ls.set n ⟨x, last, 0⟩
  let l2 := l1.set last { lk l1 last with behind := n }
  l2.set 0 { lk l2 0 with ahead := n }
theorem putL_len (ls : List Lnk) (n : Nat) (x : Itm) : (putL ls n x).length = ls.length := by simp [putL]
theorem last_lt {ls : List Lnk} {free order : List Nat} (h : Good ls free order) : (lk ls 0).ahead < ls.length ∧ ((lk ls 0).ahead ∈ 0 :: order) := by
  have e : (lk ls 0).ahead = (0 :: order).getLast (by simp) := h.bw.last
  rw [e]
  have hm := List.getLast_mem (l := 0 :: order) (by simp)
  refine ⟨?_, hm⟩
  rcases List.mem_cons.1 hm with h0 | h1
  · rw [h0]; have := h.len; omega
  · exact (h.inO _ h1).2
theorem putL_at {ls : List Lnk} {n : Nat} {x : Itm} (hn : 0 < n) (hl : n < ls.length) (h0 : (lk ls 0).ahead < ls.length) (hne : n ≠ (lk ls 0).ahead) (p : Nat) :
    (lk (putL ls n x) p).val = (if p = n then x else (lk ls p).val) ∧ (lk (putL ls n x) p).behind = (if p = n then 0 else if p = (lk ls 0).ahead then n else (lk ls p).behind) ∧
    (lk (putL ls n x) p).ahead = (if p = 0 then n else if p = n then (lk ls 0).ahead else (lk ls p).ahead) := by
  unfold putL
  generalize (lk ls 0).ahead = last at h0 hne ⊢
  simp only
  rw [lk_set _ 0 p _ (by simp; omega), lk_set _ last 0 _ (by simp; omega), lk_set _ last p _ (by simp; omega), lk_set _ n last _ hl, lk_set _ n 0 _ hl, lk_set _ n p _ hl]
  by_cases hp0 : p = 0
  · subst hp0
    by_cases hl0 : 0 = last
    · subst hl0
      simp [show (0 : Nat) ≠ n by omega]
    · simp [hl0, show (0 : Nat) ≠ n by omega]
  · by_cases hpl : p = last
    · subst hpl
      simp [hp0, Ne.symm hne]
    · by_cases hpn : p = n
      · subst hpn
        simp [hp0, hpl]
      · simp [hp0, hpl, hpn]

/-- putLast at a number that is not in use. -/
theorem Good.put {ls : List Lnk} {free order : List Nat} {n : Nat} (h : Good ls (n :: free) order) (x : Itm) : Good (putL ls n x) free (order ++ [n]) := by
  obtain ⟨hn0, hnl, hno⟩ := h.inF n (by simp)
  obtain ⟨hl, hm⟩ := last_lt h
  have hne : n ≠ (lk ls 0).ahead := by
    intro e
    rw [← e] at hm
    rcases List.mem_cons.1 hm with h0 | h1
    · omega
    · exact hno h1
  have ht := fun p => putL_at (x := x) hn0 hnl hl hne p
  have hlast : (lk ls 0).ahead = (0 :: order).getLast (by simp) := h.bw.last
  refine ⟨?_, ?_, (List.nodup_cons.1 h.fnodup).2, ?_, ?_, ?_, ?_⟩
  · exact List.nodup_append.2 ⟨h.nodup, by simp, fun a ha b hb => by simp at hb; subst hb; intro e; subst e; exact hno ha⟩
  · intro p hp
    rw [putL_len]
    rcases List.mem_append.1 hp with h1 | h1
    · exact h.inO p h1
    · simp at h1; subst h1; exact ⟨hn0, hnl⟩
  · intro p hp
    rw [putL_len]
    obtain ⟨h1, h2, h3⟩ := h.inF p (List.mem_cons_of_mem _ hp)
    refine ⟨h1, h2, fun hm => ?_⟩
    rcases List.mem_append.1 hm with h4 | h4
    · exact h3 h4
    · simp at h4; subst h4; exact (List.nodup_cons.1 h.fnodup).1 hp
  · rw [putL_len]
    have := h.len
    simp at this ⊢
    omega
  · refine h.fw.snoc h.cons (fun p hp hpl => ?_) ?_ ?_
    · rw [(ht p).2.1, ← hlast] at *
      rw [if_neg, if_neg hpl]
      intro e
      subst e
      rcases List.mem_cons.1 hp with h0 | h1
      · omega
      · exact hno h1
    · rw [← hlast, (ht _).2.1, if_neg (Ne.symm hne), if_pos rfl]
    · rw [(ht n).2.1, if_pos rfl]
  · refine h.bw.snoc (fun p hp => ?_) ?_ ?_
    · rw [(ht p).2.2, if_neg, if_neg]
      · intro e; subst e; exact hno hp
      · intro e; subst e; exact h.zero hp
    · rw [← hlast, (ht n).2.2, if_neg (by omega), if_pos rfl]
    · rw [(ht 0).2.2, if_pos rfl]
theorem items_put {ls : List Lnk} {free order : List Nat} {n : Nat} (h : Good ls (n :: free) order) (x : Itm) : itemsOf (putL ls n x) (order ++ [n]) = itemsOf ls order ++ [x] := by
  obtain ⟨hn0, hnl, hno⟩ := h.inF n (by simp)
  obtain ⟨hl, hm⟩ := last_lt h
  have hne : n ≠ (lk ls 0).ahead := by
    intro e
    rw [← e] at hm
    rcases List.mem_cons.1 hm with h0 | h1
    · omega
    · exact hno h1
  have ht := fun p => (putL_at (x := x) hn0 hnl hl hne p).1
  unfold itemsOf
  rw [List.map_append]
  congr 1
  · apply List.map_congr_left
    intro p hp
    rw [ht, if_neg]
    intro e; subst e; exact hno hp
  · simp [ht]
/-- A link more, not in use. -/
theorem Good.more {ls : List Lnk} {order : List Nat} (h : Good ls [] order) : Good (ls ++ [zl]) [ls.length] order := by
  have ht := fun p => lk_push ls zl p
  have h0 : ls.length ≠ 0 := by have := h.len; omega
  refine ⟨h.nodup, fun p hp => ?_, by simp, fun p hp => ?_, ?_, ?_, ?_⟩
  · have := h.inO p hp; simp; omega
  · simp at hp
    subst hp
    refine ⟨by omega, by simp, fun hm => ?_⟩
    have := (h.inO _ hm).2; omega
  · have := h.len; simp at this ⊢; omega
  · refine h.fw.congr (fun p hp => ?_)
    rw [ht, if_neg]
    rcases List.mem_cons.1 hp with h1 | h1
    · omega
    · have := (h.inO _ h1).2; omega
  · refine h.bw.congr (fun p hp => ?_) ?_
    · rw [ht, if_neg]
      have := (h.inO _ hp).2; omega
    · rw [ht, if_neg (by omega)]
theorem items_more {ls : List Lnk} {free order : List Nat} (h : Good ls free order) : itemsOf (ls ++ [zl]) order = itemsOf ls order := by
  unfold itemsOf
  apply List.map_congr_left
  intro p hp
  rw [lk_push, if_neg]
  have := (h.inO _ hp).2; omega

/-- The links behind take. -/
def takeL (ls : List Lnk) (n : Nat) : List Lnk :=
  let l1 := ls.set (lk ls n).ahead { lk ls (lk ls n).ahead with behind := (lk ls n).behind }
  l1.set (lk ls n).behind { lk l1 (lk ls n).behind with ahead := (lk ls n).ahead }
theorem takeL_len (ls : List Lnk) (n : Nat) : (takeL ls n).length = ls.length := by simp [takeL]
theorem takeL_at {ls : List Lnk} {n : Nat} (h1 : (lk ls n).ahead < ls.length) (h2 : (lk ls n).behind < ls.length) (p : Nat) :
    (lk (takeL ls n) p).val = (lk ls p).val ∧ (lk (takeL ls n) p).behind = (if p = (lk ls n).ahead then (lk ls n).behind else (lk ls p).behind) ∧
    (lk (takeL ls n) p).ahead = (if p = (lk ls n).behind then (lk ls n).ahead else (lk ls p).ahead) := by
  unfold takeL
  generalize (lk ls n).ahead = a at h1 ⊢
  generalize (lk ls n).behind = b at h2 ⊢
  simp only
  rw [lk_set _ b p _ (by simp; omega), lk_set _ a b _ h1, lk_set _ a p _ h1]
  by_cases hpb : p = b
  · subst hpb
    by_cases hpa : p = a
    · subst hpa; simp
    · simp [hpa]
  · by_cases hpa : p = a
    · subst hpa; simp [hpb]
    · simp [hpb, hpa]
theorem mid_lt {ls : List Lnk} {free l1 l2 : List Nat} {n : Nat} (h : Good ls free (l1 ++ n :: l2)) : (lk ls n).ahead < ls.length ∧ (lk ls n).behind < ls.length ∧ (lk ls n).ahead = (0 :: l1).getLast (by simp) ∧ (lk ls n).behind = l2.headD 0 := by
  have e1 : (lk ls n).ahead = (0 :: l1).getLast (by simp) := h.bw.mid
  have e2 : (lk ls n).behind = l2.headD 0 := h.fw.mid.head
  refine ⟨?_, ?_, e1, e2⟩
  · rw [e1]
    rcases List.mem_cons.1 (List.getLast_mem (l := 0 :: l1) (by simp)) with h0 | h1
    · rw [h0]; have := h.len; omega
    · exact (h.inO _ (List.mem_append_left _ h1)).2
  · rw [e2]
    cases l2 with
    | nil => have := h.len; simp at this ⊢; omega
    | cons c r => exact (h.inO c (by simp)).2
theorem Good.take {ls : List Lnk} {free l1 l2 : List Nat} {n : Nat} (h : Good ls free (l1 ++ n :: l2)) : Good (takeL ls n) (free ++ [n]) (l1 ++ l2) := by
  obtain ⟨ha, hb, ea, eb⟩ := mid_lt h
  have ht := fun p => takeL_at ha hb p
  have hsub : ∀ p, p ∈ l1 ++ l2 → p ∈ l1 ++ n :: l2 := fun p hp => by
    rcases List.mem_append.1 hp with h1 | h1
    · exact List.mem_append_left _ h1
    · exact List.mem_append_right _ (List.mem_cons_of_mem _ h1)
  have hnn : n ∉ l1 ++ l2 := by
    have h1 := h.nodup
    rw [List.nodup_append] at h1
    intro hm
    rcases List.mem_append.1 hm with h2 | h2
    · exact h1.2.2 n h2 n (by simp) rfl
    · exact (List.nodup_cons.1 h1.2.1).1 h2
  refine ⟨?_, ?_, ?_, ?_, ?_, ?_, ?_⟩
  · have h1 := h.nodup
    rw [List.nodup_append] at h1 ⊢
    exact ⟨h1.1, (List.nodup_cons.1 h1.2.1).2, fun a ha b hb => h1.2.2 a ha b (List.mem_cons_of_mem _ hb)⟩
  · intro p hp
    rw [takeL_len]
    exact h.inO p (hsub p hp)
  · refine List.nodup_append.2 ⟨h.fnodup, by simp, fun c hc d hd => by
      simp at hd; subst hd; intro e; subst e
      exact (h.inF _ hc).2.2 (by simp)⟩
  · intro p hp
    rw [takeL_len]
    rcases List.mem_append.1 hp with h1 | h1
    · obtain ⟨h2, h3, h4⟩ := h.inF p h1
      exact ⟨h2, h3, fun hm => h4 (hsub p hm)⟩
    · simp at h1
      subst h1
      have := h.inO p (by simp)
      exact ⟨this.1, this.2, hnn⟩
  · rw [takeL_len]
    have := h.len
    simp at this ⊢
    omega
  · refine h.fw.del h.cons (fun p hp hpl => ?_) ?_
    · rw [← ea] at hpl
      rw [(ht p).2.1, if_neg hpl]
    · rw [← ea, (ht _).2.1, if_pos rfl]
  · refine h.bw.del h.nodup h.zero (fun p hp hpl => ?_) ?_
    · rw [← eb] at hpl
      rw [(ht p).2.2, if_neg hpl]
    · rw [← eb, (ht _).2.2, if_pos rfl]
theorem items_take {ls : List Lnk} {free l1 l2 : List Nat} {n : Nat} (h : Good ls free (l1 ++ n :: l2)) (l : List Nat) : itemsOf (takeL ls n) l = itemsOf ls l := by
  obtain ⟨ha, hb, ea, eb⟩ := mid_lt h
  unfold itemsOf
  exact List.map_congr_left (fun p _ => (takeL_at ha hb p).1)
end Chain
end Go.Proofs.YtkdcofmpbmiloaaGreatDoor
/-
  Links as they lie in memory: seven cells each, one behind the other; a row of whole numbers. No Go function is spoken of here.
-/
namespace Go.Proofs.YtkdcofmpbmiloaaGreatDoor
namespace Chain
open Go.RowKit Base Items Keep
set_option linter.unusedVariables false

theorem row_set {w : World} {e : TypeId} {size g n cap : Nat} {xs : List Value} (h : Row w e size g n cap xs) {j : Nat} (hj : j < n * size) (u : Value) : Row (w.setCell ⟨g, j, none⟩ u) e size g n cap (xs.set j u) := by
  obtain ⟨h1, cur, hh, h2, h3, h4, h5⟩ := h
  refine ⟨by simp [h1], cur.setIfInBounds j u, ?_, h2, h3, by simp [h4], ?_⟩
  · simp [World.setCell, Array.getElem?_modify, hh]
  · rw [Array.toList_setIfInBounds, ← h5, List.take_set]
theorem row_pop {w : World} {e : TypeId} {g n cap : Nat} {xs : List Value} (h : Row w e 1 g (n + 1) cap xs) : Row w e 1 g n cap (xs.take n) := by
  obtain ⟨h1, cur, hh, h2, h3, h4, h5⟩ := h
  refine ⟨by simp [h1], cur, hh, by omega, h3, h4, ?_⟩
  rw [← h5, List.take_take]
  congr 1
  omega

def lcells (x : Lnk) : List Value := [.string x.val.key, .int .i64 x.val.flags, .string x.val.data, .int .i64 x.val.upto, .int .i64 x.val.token, .int .i64 x.ahead, .int .i64 x.behind]
def lflat (ls : List Lnk) : List Value := ls.flatMap lcells
theorem lflat_append (a b : List Lnk) : lflat (a ++ b) = lflat a ++ lflat b := by simp [lflat]
theorem lflat_one (x : Lnk) : lflat [x] = lcells x := by simp [lflat]
theorem lflat_length (ls : List Lnk) : (lflat ls).length = ls.length * 7 := by
  induction ls with
  | nil => rfl
  | cons x r ih =>
    have e : lflat (x :: r) = lcells x ++ lflat r := by simp [lflat]
    rw [e, List.length_append, ih]
    simp [lcells]; omega
theorem lflat_get (ls : List Lnk) (p : Nat) (hp : p < ls.length) (i : Nat) (hi : i < 7) : (lflat ls)[p * 7 + i]? = (lcells (lk ls p))[i]? := by
  induction ls generalizing p with
  | nil => simp at hp
  | cons x r ih =>
    have e : lflat (x :: r) = lcells x ++ lflat r := by simp [lflat]
    have el : (lcells x).length = 7 := rfl
    rw [e]
    cases p with
    | zero => rw [List.getElem?_append_left (by rw [el]; omega)]; simp [lk]
    | succ q =>
      rw [List.getElem?_append_right (by rw [el]; omega), el, show (q + 1) * 7 + i - 7 = q * 7 + i by omega, ih q (by simpa using hp)]
      simp [lk]
theorem lflat_set (ls : List Lnk) (p : Nat) (hp : p < ls.length) (i : Nat) (hi : i < 7) (v : Value) (x : Lnk) (hx : lcells x = (lcells (lk ls p)).set i v) : (lflat ls).set (p * 7 + i) v = lflat (ls.set p x) := by
  induction ls generalizing p with
  | nil => simp at hp
  | cons y r ih =>
    have e : ∀ z q, lflat (z :: q) = lcells z ++ lflat q := by simp [lflat]
    have el : (lcells y).length = 7 := rfl
    cases p with
    | zero =>
      simp only [lk, List.getD_cons_zero] at hx
      rw [e, List.set_append, if_pos (by rw [el]; omega), List.set_cons_zero, e, hx]
      simp
    | succ q =>
      simp only [lk, List.getD_cons_succ] at hx
      rw [e, List.set_append, if_neg (by rw [el]; omega), el, show (q + 1) * 7 + i - 7 = q * 7 + i by omega, ih q (by simpa using hp) hx, List.set_cons_succ, e]
theorem lcells_one (x : Lnk) (u : Value) (hu : u ∈ lcells x) : u.oneCell' = true := by
  simp only [lcells, List.mem_cons, List.not_mem_nil, or_false] at hu
  rcases hu with rfl | rfl | rfl | rfl | rfl | rfl | rfl <;> rfl

/-- A row of links. -/
def LinksAt (w : World) (t : TypeId) (g cap : Nat) (ls : List Lnk) : Prop := Row w t 7 g ls.length cap (lflat ls)
section
variable {w w' : World} {t : TypeId} {g cap : Nat} {ls : List Lnk}
theorem LinksAt.cell (h : LinksAt w t g cap ls) {p : Nat} (hp : p < ls.length) {i : Nat} (hi : i < 7) : w.cell? ⟨g, p * 7 + i, none⟩ = (lcells (lk ls p))[i]? := by
  have hg := lflat_get ls p hp i hi
  obtain ⟨u, hu⟩ : ∃ u, (lcells (lk ls p))[i]? = some u := ⟨_, List.getElem?_eq_getElem (by simpa [lcells] using hi)⟩
  rw [hu] at hg ⊢
  exact Row.cell h hg
theorem LinksAt.item (h : LinksAt w t g cap ls) {p : Nat} (hp : p < ls.length) : At w g (p * 7) (lk ls p).val :=
  ⟨h.cell hp (i := 0) (by omega), h.cell hp (i := 1) (by omega), h.cell hp (i := 2) (by omega), h.cell hp (i := 3) (by omega), h.cell hp (i := 4) (by omega)⟩
theorem LinksAt.ahead (h : LinksAt w t g cap ls) {p : Nat} (hp : p < ls.length) : w.cell? ⟨g, p * 7 + 5, none⟩ = some (.int .i64 (lk ls p).ahead) := h.cell hp (i := 5) (by omega)
theorem LinksAt.behind (h : LinksAt w t g cap ls) {p : Nat} (hp : p < ls.length) : w.cell? ⟨g, p * 7 + 6, none⟩ = some (.int .i64 (lk ls p).behind) := h.cell hp (i := 6) (by omega)
theorem LinksAt.setAhead (h : LinksAt w t g cap ls) {p : Nat} (hp : p < ls.length) (n : Nat) : LinksAt (w.setCell ⟨g, p * 7 + 5, none⟩ (.int .i64 n)) t g cap (ls.set p { lk ls p with ahead := n }) := by
  have h1 := row_set h (j := p * 7 + 5) (by omega) (.int .i64 n)
  rw [lflat_set ls p hp 5 (by omega) (.int .i64 n) { lk ls p with ahead := n } rfl] at h1
  unfold LinksAt
  rw [List.length_set]
  exact h1
theorem LinksAt.setBehind (h : LinksAt w t g cap ls) {p : Nat} (hp : p < ls.length) (n : Nat) : LinksAt (w.setCell ⟨g, p * 7 + 6, none⟩ (.int .i64 n)) t g cap (ls.set p { lk ls p with behind := n }) := by
  have h1 := row_set h (j := p * 7 + 6) (by omega) (.int .i64 n)
  rw [lflat_set ls p hp 6 (by omega) (.int .i64 n) { lk ls p with behind := n } rfl] at h1
  unfold LinksAt
  rw [List.length_set]
  exact h1
/-- A whole link is laid, cell by cell. -/
theorem LinksAt.setAll (h : LinksAt w t g cap ls) {p : Nat} (hp : p < ls.length) (x : Lnk) :
    LinksAt (((((((w.setCell ⟨g, p * 7, none⟩ (.string x.val.key)).setCell ⟨g, p * 7 + 1, none⟩ (.int .i64 x.val.flags)).setCell ⟨g, p * 7 + 2, none⟩ (.string x.val.data)).setCell ⟨g, p * 7 + 3, none⟩ (.int .i64 x.val.upto)).setCell ⟨g, p * 7 + 4, none⟩ (.int .i64 x.val.token)).setCell ⟨g, p * 7 + 5, none⟩ (.int .i64 x.ahead)).setCell ⟨g, p * 7 + 6, none⟩ (.int .i64 x.behind)) t g cap (ls.set p x) := by
  have h0 := row_set h (j := p * 7) (by omega) (.string x.val.key)
  have h1 := row_set h0 (j := p * 7 + 1) (by omega) (.int .i64 x.val.flags)
  have h2 := row_set h1 (j := p * 7 + 2) (by omega) (.string x.val.data)
  have h3 := row_set h2 (j := p * 7 + 3) (by omega) (.int .i64 x.val.upto)
  have h4 := row_set h3 (j := p * 7 + 4) (by omega) (.int .i64 x.val.token)
  have h5 := row_set h4 (j := p * 7 + 5) (by omega) (.int .i64 x.ahead)
  have h6 := row_set h5 (j := p * 7 + 6) (by omega) (.int .i64 x.behind)
  have e0 := lflat_set ls p hp 0 (by omega) (.string x.val.key) ⟨⟨x.val.key, (lk ls p).val.flags, (lk ls p).val.data, (lk ls p).val.upto, (lk ls p).val.token⟩, (lk ls p).ahead, (lk ls p).behind⟩ rfl
  rw [Nat.add_zero] at e0
  have step : ∀ (y z : Lnk) (i : Nat) (v : Value), i < 7 → lcells z = (lcells y).set i v → (lflat (ls.set p y)).set (p * 7 + i) v = lflat (ls.set p z) := by
    intro y z i v hi hz
    rw [lflat_set (ls.set p y) p (by simpa using hp) i hi v z (by rw [lk_set _ _ _ _ hp, if_pos rfl]; exact hz), List.set_set]
  have s1 := step ⟨⟨x.val.key, (lk ls p).val.flags, (lk ls p).val.data, (lk ls p).val.upto, (lk ls p).val.token⟩, (lk ls p).ahead, (lk ls p).behind⟩ ⟨⟨x.val.key, x.val.flags, (lk ls p).val.data, (lk ls p).val.upto, (lk ls p).val.token⟩, (lk ls p).ahead, (lk ls p).behind⟩ 1 (.int .i64 x.val.flags) (by omega) rfl
  have s2 := step ⟨⟨x.val.key, x.val.flags, (lk ls p).val.data, (lk ls p).val.upto, (lk ls p).val.token⟩, (lk ls p).ahead, (lk ls p).behind⟩ ⟨⟨x.val.key, x.val.flags, x.val.data, (lk ls p).val.upto, (lk ls p).val.token⟩, (lk ls p).ahead, (lk ls p).behind⟩ 2 (.string x.val.data) (by omega) rfl
  have s3 := step ⟨⟨x.val.key, x.val.flags, x.val.data, (lk ls p).val.upto, (lk ls p).val.token⟩, (lk ls p).ahead, (lk ls p).behind⟩ ⟨⟨x.val.key, x.val.flags, x.val.data, x.val.upto, (lk ls p).val.token⟩, (lk ls p).ahead, (lk ls p).behind⟩ 3 (.int .i64 x.val.upto) (by omega) rfl
  have s4 := step ⟨⟨x.val.key, x.val.flags, x.val.data, x.val.upto, (lk ls p).val.token⟩, (lk ls p).ahead, (lk ls p).behind⟩ ⟨⟨x.val.key, x.val.flags, x.val.data, x.val.upto, x.val.token⟩, (lk ls p).ahead, (lk ls p).behind⟩ 4 (.int .i64 x.val.token) (by omega) rfl
  have s5 := step ⟨⟨x.val.key, x.val.flags, x.val.data, x.val.upto, x.val.token⟩, (lk ls p).ahead, (lk ls p).behind⟩ ⟨⟨x.val.key, x.val.flags, x.val.data, x.val.upto, x.val.token⟩, x.ahead, (lk ls p).behind⟩ 5 (.int .i64 x.ahead) (by omega) rfl
  have s6 := step ⟨⟨x.val.key, x.val.flags, x.val.data, x.val.upto, x.val.token⟩, x.ahead, (lk ls p).behind⟩ x 6 (.int .i64 x.behind) (by omega) rfl
  rw [e0, s1, s2, s3, s4, s5, s6] at h6
  unfold LinksAt
  rw [List.length_set]
  exact h6
end

/-- A row of whole numbers, or nothing yet. -/
def ints (l : List Nat) : List Value := l.map (fun p : Nat => .int .i64 (p : Int))
end Chain
end Go.Proofs.YtkdcofmpbmiloaaGreatDoor
/-
  The program's list of links (newChain, freeLink, putLast, take, values), inside a shelf: what each does to the plain links.
-/
namespace Go.Proofs.YtkdcofmpbmiloaaGreatDoor
namespace Chain
open Go.RowKit Base Items Keep
set_option linter.unusedVariables false

/-- The other fields of a shelf. -/
structure Hd where
  lim : Int
  nx : Int
  chg : Int
  lost : Int
  vm : Value
/-- A shelf's cells. -/
def Box (w : World) (hb : Nat) (h : Hd) (vl vf : Value) : Prop := w.heap[hb]? = some (.cells #[.int .i64 h.lim, .int .i64 h.nx, .int .i64 h.chg, .int .i64 h.lost, vl, vf, h.vm] 61 (0, 0))
section
variable {w w' : World} {hb : Nat} {h : Hd} {vl vf : Value}
theorem Box.lt (hB : Box w hb h vl vf) : hb < w.heap.size := (Array.getElem?_eq_some_iff.1 hB).1
theorem Box.cells (hB : Box w hb h vl vf) : w.cell? ⟨hb, 0, none⟩ = some (.int .i64 h.lim) ∧ w.cell? ⟨hb, 1, none⟩ = some (.int .i64 h.nx) ∧ w.cell? ⟨hb, 2, none⟩ = some (.int .i64 h.chg) ∧ w.cell? ⟨hb, 3, none⟩ = some (.int .i64 h.lost) ∧
    w.cell? ⟨hb, 4, none⟩ = some vl ∧ w.cell? ⟨hb, 5, none⟩ = some vf ∧ w.cell? ⟨hb, 6, none⟩ = some h.vm := by
  unfold Box at hB
  refine ⟨?_, ?_, ?_, ?_, ?_, ?_, ?_⟩ <;> simp [World.cell?, hB]
theorem Box.frozen (hB : Box w hb h vl vf) (o : Nat) : w.frozen? ⟨hb, o, none⟩ = false := by unfold Box at hB; simp [World.frozen?, hB]
theorem Box.of_block (hB : Box w hb h vl vf) (e : w'.heap[hb]? = w.heap[hb]?) : Box w' hb h vl vf := by unfold Box at *; rw [e]; exact hB
theorem Box.keep {S : List Nat} (hB : Box w hb h vl vf) (hk : Keeps S w w') (hn : hb ∉ S) : Box w' hb h vl vf := hB.of_block (hk.block hb hB.lt hn)
theorem Box.set4 (hB : Box w hb h vl vf) (v : Value) : Box (w.setCell ⟨hb, 4, none⟩ v) hb h v vf := by unfold Box at *; simp [World.setCell, Array.getElem?_modify, hB]
theorem Box.set5 (hB : Box w hb h vl vf) (v : Value) : Box (w.setCell ⟨hb, 5, none⟩ v) hb h vl v := by unfold Box at *; simp [World.setCell, Array.getElem?_modify, hB]
theorem Box.setOther (hB : Box w hb h vl vf) {p : Addr} (hp : hb ≠ p.block) (u : Value) : Box (w.setCell p u) hb h vl vf := hB.of_block (Below.heap_setCell _ _ _ _ hp)
end

/-- A shelf's list in memory: its links at block gl, its free numbers at gf. -/
structure Mem (w : World) (hb : Nat) (h : Hd) (gl : Nat) (gf : Option Nat) (ls : List Lnk) (free : List Nat) (cl : Nat) (vf : Value) : Prop where
  box : Box w hb h (.slice (some ⟨gl, 0, none⟩) ls.length cl) vf
  links : LinksAt w 92 gl cl ls
  fr : w.ownsRow 0 3 1 vf free.length (ints free)
  own : vf.ownBlock = gf
  n1 : hb ≠ gl
  n2 : gf ≠ some hb
  n3 : gf ≠ some gl

theorem Mem.keep {w w' : World} {hb : Nat} {h : Hd} {gl : Nat} {gf : Option Nat} {ls : List Lnk} {free : List Nat} {cl : Nat} {vf : Value} {S : List Nat} (hm : Mem w hb h gl gf ls free cl vf) (hk : Keeps S w w') (h1 : hb ∉ S) (h2 : gl ∉ S) (h3 : ∀ g, gf = some g → g ∉ S) :
    Mem w' hb h gl gf ls free cl vf :=
  ⟨hm.box.keep hk h1, Row.keep hm.links hk h2, own_blocks hm.fr (fun g hg => hk.block g (own_lt hm.fr hg) (h3 g (hm.own ▸ hg))), hm.own, hm.n1, hm.n2, hm.n3⟩
theorem Mem.gf_lt {w : World} {hb : Nat} {h : Hd} {gl : Nat} {gf : Option Nat} {ls : List Lnk} {free : List Nat} {cl : Nat} {vf : Value} (hm : Mem w hb h gl gf ls free cl vf) {g : Nat} (hg : gf = some g) : g < w.heap.size := own_lt hm.fr (hm.own.trans hg)

theorem linfo_ex : ∃ i : TypeInfo, Tryz.prog.info? 92 = some i ∧ i.zero = some (.agg #[.string ByteArray.empty, .int .i64 0, .string ByteArray.empty, .int .i64 0, .int .i64 0, .int .i64 0, .int .i64 0]) ∧ i.size = 7 ∧ i.bytes = 72 := by
  have h : (Tryz.prog.info? 92).map (fun i => (i.zero, i.size, i.bytes)) = some (some (.agg #[.string ByteArray.empty, .int .i64 0, .string ByteArray.empty, .int .i64 0, .int .i64 0, .int .i64 0, .int .i64 0]), 7, 72) := by kernel_rfl
  obtain ⟨i, hi, hz⟩ := Option.map_eq_some_iff.1 h
  simp only [Prod.mk.injEq] at hz
  exact ⟨i, hi, hz.1, hz.2.1, hz.2.2⟩

theorem lnews (w : World) (t : TypeId) (j : Nat) (u : Value) (hj : (lcells zl)[j]? = some u) :
    (w.alloc (.cells #[.string ⟨#[]⟩, .int .i64 0, .string ⟨#[]⟩, .int .i64 0, .int .i64 0, .int .i64 0, .int .i64 0] t)).cell? ((⟨w.heap.size, 0, none⟩ : Addr).add j) = some u := by
  rw [Go.WideShapes.add_plain, Nat.zero_add, World.cell?_alloc_new]
  show (lcells zl).toArray[j]? = some u
  simpa using hj

set_option maxRecDepth 10000 in
set_option maxHeartbeats 1000000 in
theorem freeLink_none (w : World) (hb : Nat) (h : Hd) (gl : Nat) (gf : Option Nat) (ls : List Lnk) (cl : Nat) (vf : Value) (hm : Mem w hb h gl gf ls [] cl vf) (hlen : ls.length ≤ 1000) :
    Calls Tryz.prog 75 #[.pointer (some ⟨hb, 4, none⟩)] w fun e w' => e = .returned (.int .i64 ls.length) ∧
      ∃ gl' cl', Mem w' hb h gl' gf (ls ++ [zl]) [] cl' vf ∧ (gl' = gl ∨ w.heap.size ≤ gl') ∧ Keeps [hb, gl] w w' := by
  obtain ⟨va, vc, hv⟩ : ∃ a c, vf = .slice a 0 c := by
    rcases hm.fr.2 with ⟨e, _⟩ | ⟨g, c, cur, e, _⟩
    · exact ⟨_, _, e⟩
    · exact ⟨_, _, e⟩
  subst hv
  obtain ⟨c0, c1, c2, c3, c4, c5, c6⟩ := hm.box.cells
  have f4 := hm.box.frozen 4
  have HM := hide hm
  clear hm c0 c1 c2 c3 c6
  obtain ⟨i0, hi, hz0, hz1, hz2⟩ := linfo_ex
  have HI := hide hi
  have HZ0 := hide hz0
  have HZ1 := hide hz1
  have HZ2 := hide hz2
  clear hi hz0 hz1 hz2
  go_enter Tryz.func75, Tryz.ntmps75
  go_wp2_with (at_builtin; go_loud (refine wpList_append_own_at _ rfl _ _ 55 rfl 0 92 i0 _ 7 72 Tryz.underlying55 (unhide HI) (unhide HZ0) (unhide HZ1) (unhide HZ2) rfl (by decide) _ _ _ rfl (((unhide HM).links.owns (Nat.zero_le _)).alloc _) ⟨w.heap.size, 0, none⟩ 1 1 (lcells zl) rfl rfl ?c1 (lcells_one zl) (by unfold maxLen; omega) (by omega) (Nat.zero_le _) ?_))
  case c1 => exact lnews w _
  intro v' w2 hown' hgrow _ hloc
  obtain ⟨gl', cl', rfl, _, hrow⟩ := Row.of_owns hown' (by omega)
  have hbx := ((unhide HM).box.of_block (Below.heap_alloc _ _ _ (unhide HM).box.lt)).of_block (hgrow.block hb (by simp; have := (unhide HM).box.lt; omega) (by simp [Value.ownBlock]; exact (unhide HM).n1))
  obtain ⟨d0, d1, d2, d3, d4, d5, d6⟩ := hbx.cells
  have g4 := hbx.frozen 4
  have HB := hide hbx
  have HO := hide hrow
  have HG := hide hgrow
  have HL := hide hloc
  clear hbx hrow hgrow hloc hown' d0 d1 d2 d3 d6 c4 c5 f4
  go_wp2
  go_ret
  refine ⟨ret_int (by omega), gl', cl', ?_, ?_, ?_⟩
  · have hm := unhide HM
    have hlt := hm.box.lt
    have hgl : gl' = gl ∨ gl' = w.heap.size + 1 := by
      rcases unhide HL with e | e
      · simp [Value.ownBlock] at e; exact .inl e
      · simp [Value.ownBlock] at e; exact .inr e
    have hne : gl' ≠ hb := by
      rcases hgl with e | e
      · rw [e]; exact Ne.symm hm.n1
      · omega
    refine ⟨?_, ?_, ?_, hm.own, Ne.symm hne, hm.n2, ?_⟩
    · have h1 := (unhide HB).set4 (.slice (some ⟨gl', 0, none⟩) (ls.length + 1) cl')
      rw [List.length_append]
      exact h1
    · have h1 := (unhide HO).setOther (p := ⟨hb, 4, none⟩) hne (.slice (some ⟨gl', 0, none⟩) (ls.length + 1) cl')
      show Row _ _ 7 gl' (ls ++ [zl]).length cl' (lflat (ls ++ [zl]))
      rw [List.length_append, lflat_append, lflat_one]
      exact h1
    · refine own_blocks hm.fr (fun g hg => ?_)
      have hgf : gf = some g := hm.own.symm.trans hg
      have hg1 : g ≠ hb := fun e => hm.n2 (by rw [hgf, e])
      have hg2 : g ≠ gl := fun e => hm.n3 (by rw [hgf, e])
      have hglt := hm.gf_lt hgf
      rw [Below.heap_setCell _ _ _ _ hg1, (unhide HG).block g (by simp; omega) (by simp [Value.ownBlock]; exact hg2), Below.heap_alloc _ _ _ hglt]
    · rcases hgl with e | e
      · rw [e]; exact hm.n3
      · intro e2
        have := hm.gf_lt e2
        omega
  · rcases unhide HL with e | e
    · simp [Value.ownBlock] at e; exact .inl e
    · simp [Value.ownBlock] at e; exact .inr (by omega)
  · exact (((Keeps.refl _ w).alloc _).grown (unhide HG) (fun k e => by simp [Value.ownBlock] at e; left; simp [e])).setCell (.inl (by simp)) _

theorem ints_get {free : List Nat} {j : Nat} (hj : j < free.length) : (ints free)[j]? = some (.int .i64 (free.getD j 0 : Nat)) := by
  simp [ints, List.getElem?_eq_getElem hj]

set_option maxRecDepth 10000 in
set_option maxHeartbeats 1000000 in
theorem freeLink_some (w : World) (hb : Nat) (h : Hd) (gl : Nat) (gf : Option Nat) (ls : List Lnk) (fr : List Nat) (p : Nat) (cl : Nat) (vf : Value) (hm : Mem w hb h gl gf ls (fr ++ [p]) cl vf) (hlen : fr.length ≤ 1000) :
    Calls Tryz.prog 75 #[.pointer (some ⟨hb, 4, none⟩)] w fun e w' => e = .returned (.int .i64 p) ∧
      ∃ vf', Mem w' hb h gl gf ls fr cl vf' ∧ Keeps [hb] w w' := by
  obtain ⟨g, cf, rfl, _, hrow⟩ := Row.of_owns hm.fr (by simp)
  simp only [List.length_append, List.length_singleton] at hm hrow
  obtain ⟨c0, c1, c2, c3, c4, c5, c6⟩ := hm.box.cells
  have f5 := hm.box.frozen 5
  have hcap : fr.length + 1 ≤ cf := by obtain ⟨_, cur, _, h2, _⟩ := hrow; exact h2
  have hmax : cf ≤ maxLen := by obtain ⟨_, cur, _, _, h2, _⟩ := hrow; exact h2
  have hcell : w.cell? ⟨g, fr.length, none⟩ = some (.int .i64 p) := by
    refine Row.cell hrow ?_
    rw [ints_get (by simp)]
    simp
  have HM := hide hm
  have HR := hide hrow
  clear hm hrow c0 c1 c2 c3 c4 c6
  unfold maxLen at hmax
  go_enter Tryz.func75, Tryz.ntmps75
  go_wp2
  go_region
  go_wp2
  go_region
  go_wp2
  go_ret
  have hm := unhide HM
  have hg : g ≠ hb := fun e => hm.n2 (by rw [← hm.own, ← e]; rfl)
  refine ⟨rfl, _, ⟨hm.box.set5 (.slice (some ⟨g, 0, none⟩) fr.length cf), ?_, ?_, ?_, hm.n1, hm.n2, hm.n3⟩, ((Keeps.refl _ w).drew.drew).setCell (.inl (by simp)) _⟩
  · exact Row.setOther (p := ⟨hb, 5, none⟩) hm.links (Ne.symm hm.n1) _
  · have h1 := row_pop (unhide HR)
    have e : (ints (fr ++ [p])).take fr.length = ints fr := by simp [ints]
    rw [e] at h1
    exact (Row.setOther (p := ⟨hb, 5, none⟩) h1 hg _).owns (Nat.zero_le _)
  · exact hm.own
end Chain
end Go.Proofs.YtkdcofmpbmiloaaGreatDoor
/-
  The program's list of links: freeLink as one contract, putLast.
-/
namespace Go.Proofs.YtkdcofmpbmiloaaGreatDoor
namespace Chain
open Go.RowKit Base Items Keep
set_option linter.unusedVariables false

theorem freeLink_any (w : World) (hb : Nat) (h : Hd) (gl : Nat) (gf : Option Nat) (ls : List Lnk) (free order : List Nat) (cl : Nat) (vf : Value) (hm : Mem w hb h gl gf ls free cl vf) (hG : Good ls free order) (hlen : ls.length ≤ 1000) :
    Calls Tryz.prog 75 #[.pointer (some ⟨hb, 4, none⟩)] w fun e w' => ∃ n ls' free' gl' cl' vf', e = .returned (.int .i64 (n : Nat)) ∧ Mem w' hb h gl' gf ls' free' cl' vf' ∧ Good ls' (n :: free') order ∧
      itemsOf ls' order = itemsOf ls order ∧ (ls'.length ≤ ls.length ∨ ls'.length = order.length + 2) ∧ (gl' = gl ∨ w.heap.size ≤ gl') ∧ Keeps [hb, gl] w w' ∧ (∀ p ∈ order, (lk ls' p).val = (lk ls p).val) := by
  rcases List.eq_nil_or_concat free with rfl | ⟨fr, p, rfl⟩
  · refine (freeLink_none w hb h gl gf ls cl vf hm hlen).mono ?_
    rintro e w' ⟨rfl, gl', cl', hm', hgl, hk⟩
    refine ⟨ls.length, ls ++ [zl], [], gl', cl', vf, rfl, hm', hG.more, items_more hG, .inr (by have := hG.len; simp at this ⊢; omega), hgl, hk, fun p hp => ?_⟩
    rw [lk_push, if_neg]
    have := (hG.inO _ hp).2; omega
  · rw [List.concat_eq_append] at hm hG
    have hl := hG.len
    simp at hl
    refine (freeLink_some w hb h gl gf ls fr p cl vf hm (by omega)).mono ?_
    rintro e w' ⟨rfl, vf', hm', hk⟩
    exact ⟨p, ls, fr, gl, cl, vf', rfl, hm', hG.perm (List.perm_append_comm (l₁ := fr) (l₂ := [p])), rfl, .inl (by omega), .inl rfl, hk.mono (by simp), fun _ _ => rfl⟩

theorem Mem.step {w w' : World} {hb : Nat} {h : Hd} {gl : Nat} {gf : Option Nat} {ls ls' : List Lnk} {free : List Nat} {cl : Nat} {vf : Value} (hm : Mem w hb h gl gf ls free cl vf) (hk : ∀ k, k ≠ gl → w'.heap[k]? = w.heap[k]?)
    (hl : LinksAt w' 92 gl cl ls') (hn : ls'.length = ls.length) : Mem w' hb h gl gf ls' free cl vf :=
  ⟨by rw [hn]; exact hm.box.of_block (hk hb hm.n1), hl, own_blocks hm.fr (fun g hg => hk g (fun e => hm.n3 (by rw [← hm.own, hg, e]))), hm.own, hm.n1, hm.n2, hm.n3⟩
/-- Only block g has turned. -/
structure One (w w' : World) (g : Nat) : Prop where
  os : w'.os = w.os
  tape : w'.tape = w.tape
  output : w'.output = w.output
  size : w.heap.size ≤ w'.heap.size
  block : ∀ k, k ≠ g → w'.heap[k]? = w.heap[k]?
theorem One.refl (w : World) (g : Nat) : One w w g := ⟨rfl, rfl, rfl, Nat.le_refl _, fun _ _ => rfl⟩
theorem One.set {w w' : World} {g : Nat} (h : One w w' g) (o : Nat) (v : Value) : One w (w'.setCell ⟨g, o, none⟩ v) g :=
  ⟨h.os, h.tape, h.output, by simpa [World.setCell] using h.size, fun k hk => (Below.heap_setCell _ _ _ _ hk).trans (h.block k hk)⟩
theorem One.drew {w w' : World} {g : Nat} (h : One w w' g) : One w w'.drew g := ⟨h.os, h.tape, h.output, h.size, h.block⟩
theorem One.keeps {S : List Nat} {a w w' : World} {g : Nat} (h : One w w' g) (hk : Keeps S a w) (hg : g ∈ S ∨ a.heap.size ≤ g) : Keeps S a w' :=
  hk.trans (S' := [g]) ⟨h.os, h.tape, h.output, h.size, fun k _ hn => h.block k (by simpa using hn)⟩ (by simpa using hg)
theorem LinksAt.drew {w : World} {t : TypeId} {g cap : Nat} {ls : List Lnk} (h : LinksAt w t g cap ls) : LinksAt w.drew t g cap ls := h
theorem keep_row {S : List Nat} {a w w' : World} {g : Nat} (h : Keeps S a w) (ho : w'.os = w.os) (ht : w'.tape = w.tape) (hp : w'.output = w.output) (hs : w.heap.size ≤ w'.heap.size) (hk : ∀ k, k ≠ g → w'.heap[k]? = w.heap[k]?) (hg : g ∈ S ∨ a.heap.size ≤ g) : Keeps S a w' :=
  h.trans (S' := [g]) ⟨ho, ht, hp, hs, fun k _ hn => hk k (by simpa using hn)⟩ (by simpa using hg)

set_option maxRecDepth 10000 in
set_option maxHeartbeats 2000000 in
theorem putLast_any (w : World) (hb : Nat) (h : Hd) (gl : Nat) (gf : Option Nat) (ls : List Lnk) (free order : List Nat) (cl : Nat) (vf : Value) (x : Itm) (hm : Mem w hb h gl gf ls free cl vf) (hG : Good ls free order) (hlen : ls.length ≤ 1000) :
    Calls Tryz.prog 58 #[.pointer (some ⟨hb, 4, none⟩), .agg #[.string x.key, .int .i64 x.flags, .string x.data, .int .i64 x.upto, .int .i64 x.token]] w fun e w' => ∃ n ls' free' gl' cl' vf', e = .returned (.int .i64 (n : Nat)) ∧ Mem w' hb h gl' gf ls' free' cl' vf' ∧ Good ls' free' (order ++ [n]) ∧
      itemsOf ls' (order ++ [n]) = itemsOf ls order ++ [x] ∧ (ls'.length ≤ ls.length ∨ ls'.length = order.length + 2) ∧ (gl' = gl ∨ w.heap.size ≤ gl') ∧ Keeps [hb, gl] w w' ∧ (∀ p ∈ order, (lk ls' p).val = (lk ls p).val) ∧ (lk ls' n).val = x ∧ n ∉ order := by
  have HM := hide hm
  have HG := hide hG
  clear hm hG
  go_enter Tryz.func58, Tryz.ntmps58
  go_wp2_with fail
  refine (freeLink_any _ hb h gl gf ls free order cl vf ((unhide HM).keep ((Keeps.refl [] w).alloc _) (by simp) (by simp) (by simp)) (unhide HG) hlen).mono ?_
  rintro e w1 ⟨n, ls1, free1, gl1, cl1, vf1, rfl, hm1, hG1, hit, hl1, hgl, hk, hv⟩
  simp only [World.size_alloc] at hgl
  have hK1 := hide (((Keeps.refl [hb, gl] w).alloc _).trans hk (by simp))
  have hlt0 := last_lt hG1
  obtain ⟨hn0, hnl, hno⟩ := hG1.inF n (by simp)
  have hne : n ≠ (lk ls1 0).ahead := by
    intro e
    rw [← e] at hlt0
    rcases List.mem_cons.1 hlt0.2 with h0 | h1
    · omega
    · exact hno h1
  obtain ⟨c0, c1, c2, c3, c4, c5, c6⟩ := hm1.box.cells
  have a0 := hm1.links.ahead (p := 0) (by omega)
  have hcx := fun o => hk.cell (b := w.heap.size) (o := o) (by simp) (by simp; have h1 := (unhide HM).box.lt; have h2 := Row.lt (unhide HM).links; omega)
  have HM1 := hide hm1
  have HG1 := hide hG1
  have HV := hide hv
  have HIT := hide hit
  have HGL := hide hgl
  clear hm1 hG1 hv hit hk hgl c0 c1 c2 c3 c5 c6
  generalize hlast : (lk ls1 0).ahead = last at a0 hlt0 hne
  have fz := fun j => Row.frozen (unhide HM1).links j
  have hn' : (n : Int) < ls1.length := by omega
  obtain ⟨i0, i1, i2, i3, i4⟩ := (unhide HM1).links.item hnl
  have i5 := (unhide HM1).links.ahead hnl
  have i6 := (unhide HM1).links.behind hnl
  have hglS : gl1 ∈ [hb, gl] ∨ w.heap.size ≤ gl1 := (unhide HGL).elim (fun e => .inl (by simp [e])) (fun e => .inr (by omega))
  go_wp2
  go_region
  have L2 := ((unhide HM1).links.setAll hnl ⟨x, last, 0⟩).drew
  have O2 := ((((((((One.refl w1 gl1).set (n * 7) (.string x.key)).set (n * 7 + 1) (.int .i64 x.flags)).set (n * 7 + 2) (.string x.data)).set (n * 7 + 3) (.int .i64 x.upto)).set (n * 7 + 4) (.int .i64 x.token)).set (n * 7 + 5) (.int .i64 last)).set (n * 7 + 6) (.int .i64 0)).drew
  simp only [Int.natCast_zero] at L2
  generalize ((((((((w1.setCell ⟨gl1, n * 7, none⟩ (.string x.key)).setCell ⟨gl1, n * 7 + 1, none⟩ (.int .i64 x.flags)).setCell ⟨gl1, n * 7 + 2, none⟩ (.string x.data)).setCell ⟨gl1, n * 7 + 3, none⟩ (.int .i64 x.upto)).setCell ⟨gl1, n * 7 + 4, none⟩ (.int .i64 x.token)).setCell ⟨gl1, n * 7 + 5, none⟩ (.int .i64 last)).setCell ⟨gl1, n * 7 + 6, none⟩ (.int .i64 0)).drew) = w2 at L2 O2 ⊢
  have HM2 : Hid (Mem w2 hb h gl1 gf (ls1.set n ⟨x, last, 0⟩) free1 cl1 vf1) := (unhide HM1).step O2.block L2 (by simp)
  have HK2 : Hid (Keeps [hb, gl] w w2) := O2.keeps (unhide hK1) hglS
  clear L2 O2 i0 i1 i2 i3 i4 i5 i6 c4 a0 hcx fz HM1 hK1
  have hl2 : (ls1.set n ⟨x, last, 0⟩).length = ls1.length := by simp
  generalize hls2 : ls1.set n ⟨x, last, 0⟩ = ls2 at HM2 hl2
  obtain ⟨c0, c1, c2, c3, c4, c5, c6⟩ := (unhide HM2).box.cells
  have fz := fun j => Row.frozen (unhide HM2).links j
  have i6 := (unhide HM2).links.behind (p := last) (by omega)
  have hla : (last : Int) < ls1.length := by omega
  have i5 : w2.cell? ⟨gl1, 5, none⟩ = some (.int .i64 (lk ls2 0).ahead) := by
    have := (unhide HM2).links.ahead (p := 0) (by omega)
    rwa [Nat.zero_mul, Nat.zero_add] at this
  rw [hl2] at c4
  clear c0 c1 c2 c3 c5 c6
  go_wp2
  go_ret
  have hm2 := unhide HM2
  have hG := unhide HG1
  have hll : last < ls2.length := by omega
  have L3 := hm2.links.setBehind hll n
  have L4 := L3.setAhead (p := 0) (by simp; omega) n
  rw [Nat.zero_mul, Nat.zero_add] at L4
  have eput : (ls2.set last { lk ls2 last with behind := n }).set 0 { lk (ls2.set last { lk ls2 last with behind := n }) 0 with ahead := n } = putL ls1 n x := by
    unfold putL
    simp only [hlast, hls2]
  rw [eput] at L4
  have O4 := ((One.refl w2 gl1).set (last * 7 + 6) (.int .i64 (n : Int))).set 5 (.int .i64 (n : Int))
  refine ⟨n, putL ls1 n x, free1, gl1, cl1, vf1, rfl, hm2.step O4.block L4 (by rw [putL_len, hl2]), hG.put x, ?_, by rw [putL_len]; exact hl1, ?_, O4.keeps (unhide HK2) hglS, ?_, ?_, hno⟩
  · rw [items_put hG, unhide HIT]
  · exact (unhide HGL).imp id (fun e => by omega)
  · intro p hp
    rw [(putL_at hn0 hnl (by rw [hlast]; omega) (by rw [hlast]; exact hne) p).1, if_neg (show ¬ p = n from fun e => hno (e ▸ hp))]
    exact unhide HV p hp
  · rw [(putL_at hn0 hnl (by rw [hlast]; omega) (by rw [hlast]; exact hne) n).1, if_pos rfl]
end Chain
end Go.Proofs.YtkdcofmpbmiloaaGreatDoor
/-
  The program's list of links: take, values, newChain.
-/
namespace Go.Proofs.YtkdcofmpbmiloaaGreatDoor
namespace Chain
open Go.RowKit Base Items Keep Own
set_option linter.unusedVariables false

theorem iinfo_ex : ∃ i : TypeInfo, Tryz.prog.info? 3 = some i ∧ i.zero = some (.int .i64 0) ∧ i.size = 1 ∧ i.bytes = 8 := by
  have h : (Tryz.prog.info? 3).map (fun i => (i.zero, i.size, i.bytes)) = some (some (.int .i64 0), 1, 8) := by kernel_rfl
  obtain ⟨i, hi, hz⟩ := Option.map_eq_some_iff.1 h
  simp only [Prod.mk.injEq] at hz
  exact ⟨i, hi, hz.1, hz.2.1, hz.2.2⟩

theorem lcell5 {w : World} {g : Nat} {t : TypeId} {v0 v1 v2 v3 v4 v5 v6 : Value} (h : w.heap[g]? = some (.cells #[v0, v1, v2, v3, v4, v5, v6] t (0, 0))) :
    w.cell? ⟨g, 0, none⟩ = some v0 ∧ w.cell? ⟨g, 1, none⟩ = some v1 ∧ w.cell? ⟨g, 2, none⟩ = some v2 ∧ w.cell? ⟨g, 3, none⟩ = some v3 ∧ w.cell? ⟨g, 4, none⟩ = some v4 ∧ w.cell? ⟨g, 5, none⟩ = some v5 ∧ w.cell? ⟨g, 6, none⟩ = some v6 := by
  refine ⟨?_, ?_, ?_, ?_, ?_, ?_, ?_⟩ <;> simp [World.cell?, h]

theorem lcell4 {w : World} {g : Nat} {t : TypeId} {v0 v1 v2 v3 v4 : Value} (h : w.heap[g]? = some (.cells #[v0, v1, v2, v3, v4] t (0, 0))) :
    w.cell? ⟨g, 0, none⟩ = some v0 ∧ w.cell? ⟨g, 1, none⟩ = some v1 ∧ w.cell? ⟨g, 2, none⟩ = some v2 ∧ w.cell? ⟨g, 3, none⟩ = some v3 ∧ w.cell? ⟨g, 4, none⟩ = some v4 := by
  refine ⟨?_, ?_, ?_, ?_, ?_⟩ <;> simp [World.cell?, h]

set_option maxRecDepth 10000 in
set_option maxHeartbeats 2000000 in
theorem take_any (w : World) (hb : Nat) (h : Hd) (gl : Nat) (gf : Option Nat) (ls : List Lnk) (free l1 l2 : List Nat) (n : Nat) (cl : Nat) (vf : Value) (hm : Mem w hb h gl gf ls free cl vf) (hG : Good ls free (l1 ++ n :: l2)) (hlen : ls.length ≤ 1000) :
    Calls Tryz.prog 59 #[.pointer (some ⟨hb, 4, none⟩), .int .i64 n] w fun e w' => ∃ gf' vf', e = .returned (.agg #[.string (lk ls n).val.key, .int .i64 (lk ls n).val.flags, .string (lk ls n).val.data, .int .i64 (lk ls n).val.upto, .int .i64 (lk ls n).val.token]) ∧
      Mem w' hb h gl gf' (takeL ls n) (free ++ [n]) cl vf' ∧ (gf' = gf ∨ ∃ g, gf' = some g ∧ w.heap.size ≤ g) ∧ Keeps ([hb, gl] ++ gf.toList) w w' := by
  obtain ⟨ha, hbd, ea, eb⟩ := mid_lt hG
  have hn := hG.inO n (by simp)
  have hln := hG.len
  obtain ⟨c0, c1, c2, c3, c4, c5, c6⟩ := hm.box.cells
  obtain ⟨i0, i1, i2, i3, i4⟩ := hm.links.item hn.2
  have i5 := hm.links.ahead hn.2
  have i6 := hm.links.behind hn.2
  have j6 := hm.links.behind ha
  have fz := fun j => Row.frozen hm.links j
  have hlt := hm.box.lt
  have hgt := Row.lt hm.links
  have hne := hm.n1
  have HM := hide hm
  have HG := hide hG
  generalize hx : (lk ls n).val = x at i0 i1 i2 i3 i4
  generalize ea' : (lk ls n).ahead = a at i5 ha j6
  generalize eb' : (lk ls n).behind = b at i6 hbd
  have hn' : (n : Int) < ls.length := by omega
  have ha' : (a : Int) < ls.length := by omega
  have hb' : (b : Int) < ls.length := by omega
  clear hm hG c0 c1 c2 c3 c5 c6 hln
  go_enter Tryz.func59, Tryz.ntmps59
  go_wp2_with (at_builtin; fail)
  have HM1 := hide ((unhide HM).keep (((Keeps.refl [] w).alloc (.cells #[.string ⟨#[]⟩, .int .i64 0, .string ⟨#[]⟩, .int .i64 0, .int .i64 0] 37)).alloc (.cells #[.string x.key, .int .i64 x.flags, .string x.data, .int .i64 x.upto, .int .i64 x.token, .int .i64 a, .int .i64 b] 92)) (by simp) (by simp) (by simp))
  have HK1 := hide (((Keeps.refl ([hb, gl] ++ gf.toList) w).alloc (.cells #[.string ⟨#[]⟩, .int .i64 0, .string ⟨#[]⟩, .int .i64 0, .int .i64 0] 37)).alloc (.cells #[.string x.key, .int .i64 x.flags, .string x.data, .int .i64 x.upto, .int .i64 x.token, .int .i64 a, .int .i64 b] 92))
  have l5 : ((w.alloc (.cells #[.string ⟨#[]⟩, .int .i64 0, .string ⟨#[]⟩, .int .i64 0, .int .i64 0] 37)).alloc (.cells #[.string x.key, .int .i64 x.flags, .string x.data, .int .i64 x.upto, .int .i64 x.token, .int .i64 a, .int .i64 b] 92)).heap[w.heap.size + 1]? = some (.cells #[.string x.key, .int .i64 x.flags, .string x.data, .int .i64 x.upto, .int .i64 x.token, .int .i64 a, .int .i64 b] 92 (0, 0)) := by
    have := heap_alloc_new (w.alloc (.cells #[.string ⟨#[]⟩, .int .i64 0, .string ⟨#[]⟩, .int .i64 0, .int .i64 0] 37)) (.cells #[.string x.key, .int .i64 x.flags, .string x.data, .int .i64 x.upto, .int .i64 x.token, .int .i64 a, .int .i64 b] 92)
    rwa [World.size_alloc] at this
  have r5 : ((w.alloc (.cells #[.string ⟨#[]⟩, .int .i64 0, .string ⟨#[]⟩, .int .i64 0, .int .i64 0] 37)).alloc (.cells #[.string x.key, .int .i64 x.flags, .string x.data, .int .i64 x.upto, .int .i64 x.token, .int .i64 a, .int .i64 b] 92)).heap[w.heap.size]? = some (.cells #[.string ⟨#[]⟩, .int .i64 0, .string ⟨#[]⟩, .int .i64 0, .int .i64 0] 37 (0, 0)) := by
    rw [Below.heap_alloc _ _ _ (by simp)]
    exact heap_alloc_new _ _
  generalize ((w.alloc (.cells #[.string ⟨#[]⟩, .int .i64 0, .string ⟨#[]⟩, .int .i64 0, .int .i64 0] 37)).alloc (.cells #[.string x.key, .int .i64 x.flags, .string x.data, .int .i64 x.upto, .int .i64 x.token, .int .i64 a, .int .i64 b] 92)) = w1 at HM1 HK1 l5 r5 ⊢
  clear c4 i0 i1 i2 i3 i4 i5 i6 j6 fz
  obtain ⟨c0, c1, c2, c3, c4, c5, c6⟩ := (unhide HM1).box.cells
  clear c0 c1 c2 c3 c5 c6
  have j6 := (unhide HM1).links.behind ha
  have fz := fun j => Row.frozen (unhide HM1).links j
  have q5 := lcell5 l5
  go_region
  have O2 := ((One.refl w1 gl).set (a * 7 + 6) (.int .i64 (b : Int))).drew
  have L2 := ((unhide HM1).links.setBehind ha b).drew
  generalize ((w1.setCell ⟨gl, a * 7 + 6, none⟩ (.int .i64 b)).drew) = w2 at O2 L2 ⊢
  have HM2 := hide ((unhide HM1).step O2.block L2 (by simp))
  have HK2 : Hid (Keeps ([hb, gl] ++ gf.toList) w w2) := O2.keeps (unhide HK1) (.inl (by simp))
  have l5' := (O2.block (w.heap.size + 1) (by omega)).trans l5
  have r5' := (O2.block w.heap.size (by omega)).trans r5
  clear O2 L2 l5 r5 q5 fz j6 c4 HM1 HK1
  obtain ⟨c0, c1, c2, c3, c4, c5, c6⟩ := (unhide HM2).box.cells
  have hl2 : (ls.set a { lk ls a with behind := b }).length = ls.length := by simp
  rw [hl2] at c4
  have j5 := (unhide HM2).links.ahead (p := b) (by omega)
  have fz := fun j => Row.frozen (unhide HM2).links j
  have q5 := lcell5 l5'
  clear c0 c1 c2 c3 c5 c6
  go_wp2
  go_region
  have O3 := ((One.refl w2 gl).set (b * 7 + 5) (.int .i64 (a : Int))).drew
  have L3 := ((unhide HM2).links.setAhead (p := b) (by omega) a).drew
  generalize ((w2.setCell ⟨gl, b * 7 + 5, none⟩ (.int .i64 a)).drew) = w3 at O3 L3 ⊢
  have etake : (ls.set a { lk ls a with behind := b }).set b { lk (ls.set a { lk ls a with behind := b }) b with ahead := a } = takeL ls n := by
    unfold takeL
    simp only [ea', eb']
  rw [etake] at L3
  have HM3 := hide ((unhide HM2).step O3.block L3 (by rw [takeL_len, hl2]))
  have HK3 : Hid (Keeps ([hb, gl] ++ gf.toList) w w3) := O3.keeps (unhide HK2) (.inl (by simp))
  have l6 := (O3.block (w.heap.size + 1) (by omega)).trans l5'
  have r6 := (O3.block w.heap.size (by omega)).trans r5'
  clear O3 L3 l5' r5' q5 fz j5 c4 HM2 HK2 etake
  obtain ⟨c0, c1, c2, c3, c4, c5, c6⟩ := (unhide HM3).box.cells
  have f5 := (unhide HM3).box.frozen 5
  clear c0 c1 c2 c3 c4 c6
  obtain ⟨i0, hi, hz0, hz1, hz2⟩ := iinfo_ex
  have HI := hide hi
  have HZ0 := hide hz0
  have HZ1 := hide hz1
  have HZ2 := hide hz2
  have hfl : free.length ≤ 1000 := by have := (unhide HG).len; simp at this; omega
  clear hi hz0 hz1 hz2
  go_wp2_with (at_builtin; go_loud (refine wpList_append_own_at _ rfl _ _ 56 rfl 0 3 i0 _ 1 8 Tryz.underlying56 (unhide HI) (unhide HZ0) (unhide HZ1) (unhide HZ2) rfl (by decide) _ _ _ rfl ((unhide HM3).fr.alloc _) ⟨w3.heap.size, 0, none⟩ 1 1 [.int .i64 n] rfl rfl (cell_one_new _ _ _) (ints_oneCell .i64 [(n : Int)]) (by unfold maxLen; omega) (by omega) (Nat.zero_le _) ?_))
  intro v' w4 hown' hgrow _ hloc
  obtain ⟨va, vc, hv'⟩ := own_form hown'
  have hm3 := unhide HM3
  have hz3 : w.heap.size + 1 < w3.heap.size := (Array.getElem?_eq_some_iff.1 l6).1
  have hgf : ∀ k, k < w3.heap.size → vf.ownBlock ≠ some k → w4.heap[k]? = w3.heap[k]? := fun k hk hn =>
    (hgrow.block k (by simp; omega) (fun e => hn e.symm)).trans (Below.heap_alloc _ _ _ hk)
  have hgn : ∀ g, vf.ownBlock = some g → g < w.heap.size := fun g hg => (unhide HM).gf_lt (hm3.own.symm.trans hg)
  have hbx := hm3.box.of_block (hgf hb hm3.box.lt (fun e => hm3.n2 (hm3.own.symm.trans e)))
  have l7 := (hgf (w.heap.size + 1) hz3 (fun e => by have := hgn _ e; omega)).trans l6
  have r7 := (hgf w.heap.size (by omega) (fun e => by have := hgn _ e; omega)).trans r6
  have HL4 := hide (Row.of_block hm3.links (hgf gl (Row.lt hm3.links) (fun e => hm3.n3 (hm3.own.symm.trans e))))
  have HK4 : Hid (Keeps ([hb, gl] ++ gf.toList) w w4) := ((unhide HK3).alloc _).grown hgrow (fun k e => .inl (by
    have := hm3.own.symm.trans e
    simp [this]))
  obtain ⟨c0, c1, c2, c3, c4, c5', c6⟩ := hbx.cells
  have f5' := hbx.frozen 5
  have q7 := lcell5 l7
  have fr7 : ∀ o, w4.frozen? ⟨w.heap.size, o, none⟩ = false := fun o => by simp [World.frozen?, r7]
  obtain ⟨s0, s1, s2, s3, s4⟩ := lcell4 r7
  have hz4 : w.heap.size + 1 < w4.heap.size := (Array.getElem?_eq_some_iff.1 l7).1
  have HB4 := hide hbx
  have HO4 := hide hown'
  have HLoc := hide hloc
  have R7 := hide r7
  subst hv'
  clear c0 c1 c2 c3 c4 c6 hbx hown' hgrow hloc hgf l6 r6 l7 r7 c5 f5 hm3
  go_wp2
  refine bodyPost_ret (v := .agg #[.string x.key, .int .i64 x.flags, .string x.data, .int .i64 x.upto, .int .i64 x.token]) (by simp [results, Tryz.results59, go_sem, s0, s1, s2, s3, s4]) rfl ?_
  have hm := unhide HM
  have O8 := (((((One.refl (w4.setCell ⟨hb, 5, none⟩ (.slice va (free.length + 1) vc)) w.heap.size).set 0 (.string x.key)).set 1 (.int .i64 x.flags)).set 2 (.string x.data)).set 3 (.int .i64 x.upto)).set 4 (.int .i64 x.token)
  generalize ((((((w4.setCell ⟨hb, 5, none⟩ (.slice va (free.length + 1) vc)).setCell ⟨w.heap.size, 0, none⟩ (.string x.key)).setCell ⟨w.heap.size, 1, none⟩ (.int .i64 x.flags)).setCell ⟨w.heap.size, 2, none⟩ (.string x.data)).setCell ⟨w.heap.size, 3, none⟩ (.int .i64 x.upto)).setCell ⟨w.heap.size, 4, none⟩ (.int .i64 x.token)) = w8 at O8 ⊢
  have hbk : ∀ k, k ≠ hb → k ≠ w.heap.size → w8.heap[k]? = w4.heap[k]? := fun k h1 h2 => (O8.block k h2).trans (Below.heap_setCell _ _ _ _ h1)
  have hloc2 : ∀ g, (Value.slice va (free.length + 1) vc).ownBlock = some g → vf.ownBlock = some g ∨ w.heap.size + 1 < g := by
    intro g hg
    rcases unhide HLoc with e | e
    · exact .inl (e.symm.trans hg)
    · rw [hg] at e
      simp at e
      exact .inr (by omega)
  refine ⟨(Value.slice va (free.length + 1) vc).ownBlock, .slice va (free.length + 1) vc, rfl, ⟨?_, ?_, ?_, rfl, hm.n1, ?_, ?_⟩, ?_, ?_⟩
  · exact ((unhide HB4).set5 _).of_block (O8.block hb (by omega))
  · exact Row.of_block (unhide HL4) (hbk gl (Ne.symm hm.n1) (by omega))
  · have e1 : ints (free ++ [n]) = ints free ++ [.int .i64 (n : Int)] := by simp [ints]
    rw [e1, List.length_append]
    exact own_blocks (unhide HO4) (fun g hg => hbk g
      (fun e => by
        rcases hloc2 g hg with h1 | h1
        · have := hgn g h1; exact (unhide HM3).n2 ((unhide HM3).own.symm.trans (h1.trans (by rw [e])))
        · omega)
      (fun e => by
        rcases hloc2 g hg with h1 | h1
        · have := hgn g h1; omega
        · omega))
  · intro e
    rcases hloc2 hb e with h1 | h1
    · exact (unhide HM3).n2 ((unhide HM3).own.symm.trans h1)
    · omega
  · intro e
    rcases hloc2 gl e with h1 | h1
    · exact (unhide HM3).n3 ((unhide HM3).own.symm.trans h1)
    · omega
  · rcases unhide HLoc with e | e
    · exact .inl (e.trans (unhide HM3).own)
    · exact .inr ⟨_, e, by omega⟩
  · exact O8.keeps ((unhide HK4).setCell (.inl (by simp)) _) (.inr (Nat.le_refl _))
end Chain
end Go.Proofs.YtkdcofmpbmiloaaGreatDoor
/-
  The contract of the program's GoodKey: it answers by the same plain function of the bytes as the model's, for every string.
-/
namespace Go.Proofs.YtkdcofmpbmiloaaGreatDoor
namespace GoodKey
open Go.RowKit Base
set_option linter.unusedVariables false

set_option maxHeartbeats 400000 in
theorem impl_any (s : ByteArray) (w : World) (hs : s.size ≤ maxLen) :
    Calls Tryz.prog 55 #[.string s] w fun e w' => e = .returned (.bool (gk s.data.toList)) ∧ w' = w := by
  unfold maxLen at hs
  by_cases g1 : (s.size : Int) < 1
  · have H := hide (gk_len s (.inl g1))
    go_enter Tryz.func55, Tryz.ntmps55
    go_wp2
    go_ret
    exact ⟨ret_bool (unhide H).symm, rfl⟩
  by_cases g2 : 30 < (s.size : Int)
  · have H := hide (gk_len s (.inr g2))
    go_enter Tryz.func55, Tryz.ntmps55
    go_wp2
    go_ret
    exact ⟨ret_bool (unhide H).symm, rfl⟩
  have HT := hide (inB_true s g1 g2)
  go_enter Tryz.func55, Tryz.ntmps55
  go_wp2
  go_loop [14] (fun i => ∃ k : Nat, k ≤ s.size ∧ i = .int .i64 k ∧ Hid ((s.data.toList.take k).all okb = true)) (fun i => s.size - (intOf i).toNat)
  case atStart => exact ⟨0, Nat.zero_le _, rfl, hide rfl⟩
  case round =>
    obtain ⟨k, hk, rfl, ha⟩ := hrel
    by_cases hlt : k < s.size
    · by_cases h1 : (s[k].toNat : Int) < 33
      · have H := hide (gk_bad s k hlt (.inl h1))
        go_wp2
        go_ret
        exact ⟨ret_bool (unhide H).symm, rfl⟩
      · by_cases h2 : 126 < (s[k].toNat : Int)
        · have H := hide (gk_bad s k hlt (.inr h2))
          go_wp2
          go_ret
          exact ⟨ret_bool (unhide H).symm, rfl⟩
        · have H := hide (all_snoc s k hlt (unhide ha) h1 h2)
          go_wp2
          go_round
          case rel => exact ⟨k + 1, by omega, by go_num, H⟩
          case measure => simp [intOf]; omega
    · have H := hide (gk_all s k hk hlt (unhide ha))
      go_wp2
      go_ret
      exact ⟨ret_bool (by rw [← unhide H]; exact (unhide HT).symm), rfl⟩

end GoodKey
end Go.Proofs.YtkdcofmpbmiloaaGreatDoor
/-
  The program's goodItem: what it answers, by the plain function.
-/
namespace Go.Proofs.YtkdcofmpbmiloaaGreatDoor
namespace Store
open Go.RowKit Base GoodKey Items
set_option linter.unusedVariables false

theorem itemB_iff (x : Itm) : itemB x = true ↔ gk x.key.data.toList = true ∧ 0 ≤ x.flags ∧ x.flags ≤ 1000000000 ∧ (x.data.size : Int) ≤ 100 ∧ 0 ≤ x.upto ∧ x.upto ≤ 2000000000 ∧ 1 ≤ x.token ∧ x.token ≤ 1000000000 := by
  simp only [itemB, inB, Bool.and_eq_true, decide_eq_true_eq]
  constructor
  · rintro ⟨⟨⟨⟨a, b, c⟩, d⟩, e, f⟩, g, h⟩
    exact ⟨a, b, c, d, e, f, g, h⟩
  · rintro ⟨a, b, c, d, e, f, g, h⟩
    exact ⟨⟨⟨⟨a, b, c⟩, d⟩, e, f⟩, g, h⟩
theorem item_no {x : Itm} (h : ¬ (gk x.key.data.toList = true ∧ 0 ≤ x.flags ∧ x.flags ≤ 1000000000 ∧ (x.data.size : Int) ≤ 100 ∧ 0 ≤ x.upto ∧ x.upto ≤ 2000000000 ∧ 1 ≤ x.token ∧ x.token ≤ 1000000000)) : false = itemB x := by
  cases e : itemB x
  · rfl
  · exact absurd ((itemB_iff x).1 e) h
theorem item_yes {x : Itm} (h : gk x.key.data.toList = true ∧ 0 ≤ x.flags ∧ x.flags ≤ 1000000000 ∧ (x.data.size : Int) ≤ 100 ∧ 0 ≤ x.upto ∧ x.upto ≤ 2000000000 ∧ 1 ≤ x.token) : decide (x.token ≤ 1000000000) = itemB x := by
  rw [Bool.eq_iff_iff, itemB_iff, decide_eq_true_eq]
  exact ⟨fun e => ⟨h.1, h.2.1, h.2.2.1, h.2.2.2.1, h.2.2.2.2.1, h.2.2.2.2.2.1, h.2.2.2.2.2.2, e⟩, fun e => e.2.2.2.2.2.2.2⟩

set_option maxRecDepth 10000 in
set_option maxHeartbeats 400000 in
theorem goodItem_any (x : Itm) (w : World) (hs : Fits x) : Calls Tryz.prog 26 #[.agg #[.string x.key, .int .i64 x.flags, .string x.data, .int .i64 x.upto, .int .i64 x.token]] w fun e w' => e = .returned (.bool (itemB x)) ∧ Below w.heap.size w w' := by
  obtain ⟨hk, hd⟩ := hs
  have HK := hide hk
  unfold maxLen at hk hd
  go_enter Tryz.func26, Tryz.ntmps26
  go_wp2_with (go_at_call 55; refine (GoodKey.impl_any _ _ (unhide HK)).mono ?_; rintro e w1 ⟨rfl, rfl⟩)
  all_goals
    go_ret
    refine ⟨ret_bool ?_, bel1 w _⟩
    first
      | exact item_no (fun hh => absurd hh.1 ‹_›)
      | exact item_no (fun hh => by omega)
      | exact item_yes ⟨‹_›, by omega, by omega, by omega, by omega, by omega, by omega⟩
end Store
end Go.Proofs.YtkdcofmpbmiloaaGreatDoor
/-
  Sets of keys and of tokens told by the lists of what was put into them; what a good store is, by them. No Go function is spoken of here.
-/
namespace Go.Proofs.YtkdcofmpbmiloaaGreatDoor
namespace Store
open Go.RowKit Base GoodKey Items
set_option linter.unusedVariables false

def kL (x : Itm) : Lit := .string x.key.data.toList
def tL (x : Itm) : Lit := .int .i64 x.token
theorem kL_key (x : Itm) : WideAt.IsKeyLit (kL x) := by simp [kL, WideAt.IsKeyLit]
theorem tL_key (x : Itm) : WideAt.IsKeyLit (tL x) := by simp [tL, WideAt.IsKeyLit]
theorem keysOf_key {f : Itm → Lit} (hf : ∀ x, WideAt.IsKeyLit (f x)) (its : List Itm) : ∀ l ∈ its.map f, WideAt.IsKeyLit l := by
  intro l hl
  obtain ⟨x, _, rfl⟩ := List.mem_map.1 hl
  exact hf x

theorem size_set (u : DataW Unit) (ls : List Lit) (h : ∀ x ∈ ls, WideAt.IsKeyLit x) : Maps.size (Maps.setOf u ls) ≤ ls.length ∧ (Maps.size (Maps.setOf u ls) = ls.length ↔ ls.Nodup) := by
  obtain ⟨n, hn⟩ : ∃ n, ls.length = n := ⟨_, rfl⟩
  induction n generalizing ls with
  | zero => rw [List.length_eq_zero_iff.1 hn]; simp [Maps.setOf, Maps.size]
  | succ n ih =>
    have hne : ls ≠ [] := by intro e; simp [e] at hn
    obtain ⟨r, y, rfl⟩ : ∃ r y, ls = r ++ [y] := ⟨ls.dropLast, ls.getLast hne, (List.dropLast_concat_getLast hne).symm⟩
    have hr : ∀ x ∈ r, WideAt.IsKeyLit x := fun x hx => h x (List.mem_append_left _ hx)
    obtain ⟨h1, h2⟩ := ih r hr (by simpa using hn)
    rw [Maps.setOf_snoc, Maps.size_put (Maps.tidy_setOf u r hr), Maps.has_setOf u y r hr]
    have hany : (r.any fun x => x.sameKey y) = true ↔ y ∈ r := by
      rw [List.any_eq_true]
      constructor
      · rintro ⟨x, hx, hs⟩
        exact (WideAt.sameKey_eq hs) ▸ hx
      · exact fun hy => ⟨y, hy, WideAt.sameKey_self (hr y hy)⟩
    have hnd : (r ++ [y]).Nodup ↔ r.Nodup ∧ y ∉ r := by
      rw [List.nodup_append]
      constructor
      · rintro ⟨a, _, c⟩
        exact ⟨a, fun hy => c y hy y (by simp) rfl⟩
      · rintro ⟨a, c⟩
        exact ⟨a, by simp, fun z hz t ht => by simp at ht; subst ht; intro e; subst e; exact c hz⟩
    rw [hnd, List.length_append]
    by_cases hy : y ∈ r
    · rw [if_pos (hany.2 hy)]
      simp
      constructor
      · omega
      · constructor
        · intro e; omega
        · intro e; exact absurd hy e.2
    · rw [if_neg (fun e => hy (hany.1 e))]
      simp
      exact ⟨h1, fun e => ⟨h2.1 e, hy⟩, fun e => h2.2 e.1⟩

theorem map_step {α : Type} (f : Itm → α) (its : List Itm) (k : Nat) (h : k < its.length) : (its.take (k + 1)).map f = (its.take k).map f ++ [f (its.getD k zero)] := by
  rw [List.take_succ_eq_append_getElem h, List.map_append]
  simp [List.getD_eq_getElem?_getD, List.getElem?_eq_getElem h]

/-- An item that is good, its token below Next. -/
def okB (nx : Int) (x : Itm) : Bool := itemB x && decide (x.token < nx)
theorem clash_iff (o x : Itm) : clash o x = true ↔ kL o = kL x ∨ tL o = tL x := by
  unfold clash kL tL
  rw [Lib.toList_data, Lib.toList_data]
  simp
theorem fresh_iff (x : Itm) (l : List Itm) : freshB x l = true ↔ kL x ∉ l.map kL ∧ tL x ∉ l.map tL := by
  unfold freshB
  rw [List.all_eq_true]
  simp only [List.mem_map, not_exists, not_and]
  constructor
  · intro h
    refine ⟨fun o ho e => ?_, fun o ho e => ?_⟩
    · have := h o ho
      rw [(clash_iff o x).2 (.inl e)] at this; simp at this
    · have := h o ho
      rw [(clash_iff o x).2 (.inr e)] at this; simp at this
  · rintro ⟨h1, h2⟩ o ho
    cases e : clash o x
    · rfl
    · rcases (clash_iff o x).1 e with e' | e'
      · exact absurd e' (h1 o ho)
      · exact absurd e' (h2 o ho)
theorem goodTo_iff (nx : Int) (its : List Itm) : ∀ k, k ≤ its.length → (goodTo nx its k = true ↔ (∀ i, i < k → okB nx (its.getD i zero) = true) ∧ ((its.take k).map kL).Nodup ∧ ((its.take k).map tL).Nodup)
  | 0, _ => by simp [goodTo]
  | k + 1, h => by
    have ih := goodTo_iff nx its k (by omega)
    have e : goodTo nx its (k + 1) = (goodTo nx its k && stepB nx its k) := by
      unfold goodTo
      rw [List.range_succ, List.all_append]
      simp
    have hnd : ∀ (r : List Lit) (y : Lit), (r ++ [y]).Nodup ↔ r.Nodup ∧ y ∉ r := by
      intro r y
      rw [List.nodup_append]
      constructor
      · rintro ⟨a, _, c⟩
        exact ⟨a, fun hy => c y hy y (by simp) rfl⟩
      · rintro ⟨a, c⟩
        exact ⟨a, by simp, fun z hz t ht => by simp at ht; subst ht; intro e; subst e; exact c hz⟩
    have es : stepB nx its k = (okB nx (its.getD k zero) && freshB (its.getD k zero) (its.take k)) := rfl
    rw [e, es, Bool.and_eq_true, Bool.and_eq_true, ih, map_step kL its k (by omega), map_step tL its k (by omega), hnd, hnd, fresh_iff]
    constructor
    · rintro ⟨⟨h1, h2, h3⟩, h4, h5, h6⟩
      refine ⟨fun i hi => ?_, ⟨h2, h5⟩, h3, h6⟩
      by_cases hik : i = k
      · rw [hik]; exact h4
      · exact h1 i (by omega)
    · rintro ⟨h1, ⟨h2, h5⟩, h3, h6⟩
      exact ⟨⟨fun i hi => h1 i (by omega), h2, h3⟩, h1 k (by omega), h5, h6⟩
theorem ok_bad {lim nx : Int} {its : List Itm} {k : Nat} (hk : k < its.length) (h : okB nx (its.getD k zero) = false) : gsB lim nx its = false := by
  refine gs_4 hk ?_
  have es : stepB nx its k = (okB nx (its.getD k zero) && freshB (its.getD k zero) (its.take k)) := rfl
  rw [es, h]; rfl
theorem ok_small {nx : Int} {x : Itm} (h : okB nx x = true) : Small x := by
  simp only [okB, itemB, gk, inB, Bool.and_eq_true, decide_eq_true_eq] at h
  have el : x.key.data.toList.length = x.key.size := by simp
  unfold Small
  omega
theorem ok_total {nx : Int} {its : List Itm} {k : Nat} (hk : k ≤ its.length) (h60 : k ≤ 60) (h : ∀ j, j < k → okB nx (its.getD j zero) = true) : total (its.take k) ≤ 60 * 2097162 := by
  have h1 := total_bd (its.take k) (fun x hx => by
    obtain ⟨i, hi, rfl⟩ := List.getElem_of_mem hx
    have hi' : i < k := by simp at hi; omega
    have h2 := ok_small (h i hi')
    rw [List.getD_eq_getElem?_getD, List.getElem?_eq_getElem (show i < its.length by omega)] at h2
    simpa using h2)
  have h3 : (its.take k).length ≤ 60 := by simp; omega
  omega
theorem map_step' (f : Itm → Lit) (its : List Itm) (k : Nat) (h : k < its.length) : (its.map f).take (k + 1) = (its.map f).take k ++ [f (its.getD k zero)] := by
  rw [← List.map_take, ← List.map_take]; exact map_step f its k h
/-- What the program's GoodStore says behind its loop. -/
theorem gs_sets {lim nx : Int} {its : List Itm} (h1 : inB lim 0 10000 = true) (h2 : inB nx 1 1000000000 = true) (h3 : ¬ 60 < (its.length : Int)) (h4 : ∀ i, i < its.length → okB nx (its.getD i zero) = true) (u : DataW Unit) :
    gsB lim nx its = (decide ((Maps.size (Maps.setOf u (its.map kL)) : Int) = its.length) && decide ((Maps.size (Maps.setOf u (its.map tL)) : Int) = its.length) && decide (total its ≤ lim)) := by
  have e1 := (size_set u (its.map kL) (keysOf_key kL_key its)).2
  have e2 := (size_set u (its.map tL) (keysOf_key tL_key its)).2
  rw [List.length_map] at e1 e2
  have eg := goodTo_iff nx its its.length (Nat.le_refl _)
  rw [List.take_length] at eg
  have d1 : ∀ c : Bool, (c = true ↔ (its.map kL).Nodup) → decide ((Maps.size (Maps.setOf u (its.map kL)) : Int) = its.length) = c := by
    intro c hc
    rw [Bool.eq_iff_iff, hc, ← e1, decide_eq_true_eq]; omega
  have d2 : ∀ c : Bool, (c = true ↔ (its.map tL).Nodup) → decide ((Maps.size (Maps.setOf u (its.map tL)) : Int) = its.length) = c := by
    intro c hc
    rw [Bool.eq_iff_iff, hc, ← e2, decide_eq_true_eq]; omega
  cases hg : goodTo nx its its.length
  · have hn : ¬ ((its.map kL).Nodup ∧ (its.map tL).Nodup) := fun hh => by rw [eg.2 ⟨h4, hh⟩] at hg; cases hg
    have e3 : gsB lim nx its = false := by unfold gsB; rw [hg]; simp
    rw [e3]
    by_cases n1 : (its.map kL).Nodup
    · rw [d2 false (by simp; exact fun n2 => hn ⟨n1, n2⟩)]; simp
    · rw [d1 false (by simp; exact n1)]; simp
  · obtain ⟨_, n1, n2⟩ := eg.1 hg
    rw [← gs_5 h1 h2 h3 hg, d1 true (by simp; exact n1), d2 true (by simp; exact n2)]; rfl
end Store
end Go.Proofs.YtkdcofmpbmiloaaGreatDoor
