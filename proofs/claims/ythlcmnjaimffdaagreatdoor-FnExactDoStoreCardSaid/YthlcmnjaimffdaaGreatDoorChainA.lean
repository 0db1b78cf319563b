/-
  A world that is another but for a few blocks: laws of my own. No Go function is spoken of here.
-/
import Derived.Test.YthlcmnjaimffdaaGreatDoorBase
import Derived.Maps.OwnSet
import Derived.Test.YthlcmnjaimffdaaGreatDoorItemsP
import Derived.Test.YthlcmnjaimffdaaGreatDoorRows
import Derived.Maps.AppendAt
import Derived.Deep.RegionWith
namespace Go.Proofs.YthlcmnjaimffdaaGreatDoor
namespace Keep
open Go.RowKit Base

/-- w' is w but for the blocks on a list, and new ones. -/
structure Keeps (S : List Nat) (w w' : World) : Prop where
  os : w'.os = w.os
  tape : w'.tape = w.tape
  output : w'.output = w.output
  size : w.heap.size ≤ w'.heap.size
  block : ∀ k, k < w.heap.size → k ∉ S → w'.heap[k]? = w.heap[k]?

theorem Keeps.refl (S : List Nat) (w : World) : Keeps S w w := ⟨rfl, rfl, rfl, Nat.le_refl _, fun _ _ _ => rfl⟩
/-- Two steps: what the second may write was written by the first too, or is new since. -/
theorem Keeps.trans {S S' : List Nat} {a b c : World} (h : Keeps S a b) (k : Keeps S' b c) (hs : ∀ x ∈ S', x ∈ S ∨ a.heap.size ≤ x) : Keeps S a c :=
  ⟨k.os.trans h.os, k.tape.trans h.tape, k.output.trans h.output, Nat.le_trans h.size k.size, fun i hi hn =>
    (k.block i (Nat.lt_of_lt_of_le hi h.size) (fun hm => (hs i hm).elim hn (fun hle => by omega))).trans (h.block i hi hn)⟩
theorem Keeps.mono {S S' : List Nat} {w w' : World} (h : Keeps S w w') (hs : ∀ x ∈ S, x ∈ S') : Keeps S' w w' :=
  ⟨h.os, h.tape, h.output, h.size, fun i hi hn => h.block i hi (fun hm => hn (hs i hm))⟩
theorem Keeps.drew {S : List Nat} {a w : World} (h : Keeps S a w) : Keeps S a w.drew := ⟨h.os, h.tape, h.output, h.size, h.block⟩
theorem Keeps.alloc {S : List Nat} {a w : World} (h : Keeps S a w) (o : Obj) : Keeps S a (w.alloc o) :=
  h.trans (S' := []) ⟨rfl, rfl, rfl, by simp, fun k hk _ => Below.heap_alloc _ _ _ hk⟩ (by simp)
theorem Keeps.setCell {S : List Nat} {a w : World} (h : Keeps S a w) {p : Addr} (hp : p.block ∈ S ∨ a.heap.size ≤ p.block) (u : Value) : Keeps S a (w.setCell p u) :=
  h.trans (S' := [p.block]) ⟨rfl, rfl, rfl, by simp [World.setCell], fun k _ hk => Below.heap_setCell _ _ _ _ (by simpa using hk)⟩ (by simpa using hp)
theorem Keeps.grown {S : List Nat} {a w w' : World} {row : Option Nat} (h : Keeps S a w) (hg : w.grownBy w' row) (hr : ∀ k, row = some k → k ∈ S ∨ a.heap.size ≤ k) : Keeps S a w' := by
  cases row with
  | none => exact h.trans (S' := []) ⟨hg.os, hg.tape, hg.output, hg.size, fun k hk _ => hg.block k hk (by simp)⟩ (by simp)
  | some r => exact h.trans (S' := [r]) ⟨hg.os, hg.tape, hg.output, hg.size, fun k hk hn => hg.block k hk (by simpa using hn)⟩ (by simpa using hr r rfl)
theorem Keeps.turned {S : List Nat} {a w w' : World} {b : Nat} (h : Keeps S a w) (hg : w.mapTurned w' b) (hr : b ∈ S ∨ a.heap.size ≤ b) : Keeps S a w' :=
  h.grown hg.grown (fun k e => by simp at e; exact e ▸ hr)
theorem Keeps.of_below {S : List Nat} {B : Nat} {w w' : World} (h : Below B w w') (hB : ∀ k, k < w.heap.size → k ∉ S → k < B) : Keeps S w w' :=
  ⟨h.os, h.tape, h.output, h.size, fun k hk hn => h.block k (hB k hk hn)⟩
theorem Keeps.below {S : List Nat} {B : Nat} {w w' : World} (h : Keeps S w w') (hS : ∀ x ∈ S, B ≤ x) (hB : B ≤ w.heap.size) : Below B w w' :=
  ⟨h.os, h.tape, h.output, h.size, fun k hk => h.block k (by omega) (fun hm => by have := hS k hm; omega)⟩
theorem Keeps.cell {S : List Nat} {w w' : World} (h : Keeps S w w') {b o : Nat} (hb : b < w.heap.size) (hn : b ∉ S) : w'.cell? ⟨b, o, none⟩ = w.cell? ⟨b, o, none⟩ :=
  World.cell?_of_block (w := w) (h.block b hb hn)
theorem Keeps.frozen {S : List Nat} {w w' : World} (h : Keeps S w w') {b o : Nat} (hb : b < w.heap.size) (hn : b ∉ S) : w'.frozen? ⟨b, o, none⟩ = w.frozen? ⟨b, o, none⟩ :=
  World.frozen?_of_block (w := w) (h.block b hb hn)
theorem Keeps.map {H : Type} {P : Program} {k : TypeId} {R : Value → Option (DataW H × List MemPlace)} {b n : Nat} {D : DataW H} {S : List Nat} {w w' : World} (h : Keeps S w w') (hm : w.ownsMap P k R b n D) (hn : b ∉ S) : w'.ownsMap P k R b n D := by
  have hb := hm.lt
  obtain ⟨es, clock, hh, r⟩ := hm
  exact ⟨es, clock, by rw [h.block b hb hn]; exact hh, r⟩
theorem map_below {H : Type} {P : Program} {k : TypeId} {R : Value → Option (DataW H × List MemPlace)} {b n B : Nat} {D : DataW H} {w w' : World} (hm : w.ownsMap P k R b n D) (h : Below B w w') (hb : b < B) : w'.ownsMap P k R b n D := by
  obtain ⟨es, clock, hh, r⟩ := hm
  exact ⟨es, clock, by rw [h.block b hb]; exact hh, r⟩
theorem map_tight {H : Type} {P : Program} {k : TypeId} {R : Value → Option (DataW H × List MemPlace)} {b n m : Nat} {D : DataW H} {w : World} (hm : w.ownsMap P k R b n D) (h : Maps.size D ≤ m) : w.ownsMap P k R b m D := by
  obtain ⟨es, clock, hh, F, hs, rfl⟩ := hm
  refine ⟨es, clock, hh, F, ?_, rfl⟩
  simpa [Maps.size, length_sorted] using h

theorem own_blocks {w w' : World} {base : Nat} {e : TypeId} {size : Nat} {v : Value} {n : Nat} {xs : List Value} (h : w.ownsRow base e size v n xs) (hb : ∀ g, v.ownBlock = some g → w'.heap[g]? = w.heap[g]?) : w'.ownsRow base e size v n xs := by
  refine ⟨h.1, h.2.elim Or.inl ?_⟩
  rintro ⟨g, cap, cur, rfl, hg, hh, r⟩
  exact Or.inr ⟨g, cap, cur, rfl, hg, by rw [hb g rfl]; exact hh, r⟩
theorem own_lt {w : World} {base : Nat} {e : TypeId} {size : Nat} {v : Value} {n : Nat} {xs : List Value} (h : w.ownsRow base e size v n xs) {g : Nat} (hg : v.ownBlock = some g) : g < w.heap.size := (h.lt g hg).2

/-- A row of cells of the call's own: a slice that leads to the beginning of a block, with the cells that it has. -/
def Row (w : World) (e : TypeId) (size g n cap : Nat) (xs : List Value) : Prop :=
  xs.length = n * size ∧ ∃ cur, w.heap[g]? = some (.cells cur e (0, 0)) ∧ n ≤ cap ∧ cap ≤ maxLen ∧ cur.size = cap * size ∧ cur.toList.take (n * size) = xs
section
variable {w w' : World} {e : TypeId} {size g n cap : Nat} {xs : List Value}
theorem Row.owns (h : Row w e size g n cap xs) {base : Nat} (hb : base ≤ g) : w.ownsRow base e size (.slice (some ⟨g, 0, none⟩) n cap) n xs := by
  obtain ⟨h1, cur, h2⟩ := h
  exact ⟨h1, .inr ⟨g, cap, cur, rfl, hb, h2⟩⟩
theorem Row.of_owns {base : Nat} {v : Value} (h : w.ownsRow base e size v n xs) (hn : 0 < n) : ∃ g cap, v = .slice (some ⟨g, 0, none⟩) n cap ∧ base ≤ g ∧ Row w e size g n cap xs := by
  obtain ⟨h1, h2⟩ := h
  rcases h2 with ⟨_, h0⟩ | ⟨g, cap, cur, hv, hg, r⟩
  · omega
  · exact ⟨g, cap, hv, hg, h1, cur, r⟩
theorem Row.lt (h : Row w e size g n cap xs) : g < w.heap.size := by
  obtain ⟨_, cur, hh, _⟩ := h
  exact (Array.getElem?_eq_some_iff.1 hh).1
theorem Row.of_block (h : Row w e size g n cap xs) (hb : w'.heap[g]? = w.heap[g]?) : Row w' e size g n cap xs := by
  obtain ⟨h1, cur, hh, r⟩ := h
  exact ⟨h1, cur, by rw [hb]; exact hh, r⟩
theorem Row.keep {S : List Nat} (h : Row w e size g n cap xs) (hk : Keeps S w w') (hn : g ∉ S) : Row w' e size g n cap xs := h.of_block (hk.block g h.lt hn)
theorem Row.alloc (h : Row w e size g n cap xs) (o : Obj) : Row (w.alloc o) e size g n cap xs := h.of_block (Below.heap_alloc _ _ _ h.lt)
theorem Row.cell (h : Row w e size g n cap xs) {j : Nat} {u : Value} (hj : xs[j]? = some u) : w.cell? ⟨g, j, none⟩ = some u := by
  obtain ⟨h1, cur, hh, h2, h3, h4, h5⟩ := h
  have hlt : j < n * size := by rw [← h1]; exact (List.getElem?_eq_some_iff.1 hj).1
  rw [← h5, List.getElem?_take_of_lt hlt] at hj
  simp only [World.cell?, hh]
  simpa using hj
theorem Row.frozen (h : Row w e size g n cap xs) (j : Nat) : w.frozen? ⟨g, j, none⟩ = false := by
  obtain ⟨h1, cur, hh, h2, h3, h4, h5⟩ := h
  simp [World.frozen?, hh]
theorem Row.setOther (h : Row w e size g n cap xs) {p : Addr} (hp : g ≠ p.block) (u : Value) : Row (w.setCell p u) e size g n cap xs := h.of_block (Below.heap_setCell _ _ _ _ hp)
end
end Keep
end Go.Proofs.YthlcmnjaimffdaaGreatDoor
/-
  A list of links that hang together by their numbers, as plain data. No Go function is spoken of here.
-/
namespace Go.Proofs.YthlcmnjaimffdaaGreatDoor
namespace Chain
open Go.RowKit Base Items
set_option linter.unusedVariables false

structure Lnk where
  val : Itm
  ahead : Nat
  behind : Nat
def zl : Lnk := ⟨zero, 0, 0⟩
def lk (ls : List Lnk) (p : Nat) : Lnk := ls.getD p zl
theorem lk_set (ls : List Lnk) (i j : Nat) (x : Lnk) (hi : i < ls.length) : lk (ls.set i x) j = if j = i then x else lk ls j := by
  unfold lk
  rw [List.getD_eq_getElem?_getD, List.getD_eq_getElem?_getD, List.getElem?_set]
  by_cases h : i = j
  · subst h; simp [hi]
  · simp [h, Ne.symm h]
theorem lk_push (ls : List Lnk) (x : Lnk) (j : Nat) : lk (ls ++ [x]) j = if j = ls.length then x else lk ls j := by
  unfold lk
  rw [List.getD_eq_getElem?_getD, List.getD_eq_getElem?_getD, List.getElem?_append]
  by_cases h : j < ls.length
  · rw [if_pos h, if_neg (by omega)]
  · rw [if_neg h]
    by_cases h2 : j = ls.length
    · subst h2; simp
    · rw [if_neg h2, List.getElem?_eq_none (by simp; omega), List.getElem?_eq_none (by omega)]

/-- The numbers from a on, one behind the other, and then 0. -/
def Fw (f : Nat → Nat) : Nat → List Nat → Prop
  | a, [] => f a = 0
  | a, b :: r => f a = b ∧ Fw f b r
/-- Each number's is the one ahead of it, and 0's the last. -/
def Bw (g : Nat → Nat) : Nat → List Nat → Prop
  | a, [] => g 0 = a
  | a, b :: r => g b = a ∧ Bw g b r

theorem Fw.congr {f f' : Nat → Nat} : ∀ {a : Nat} {l : List Nat}, Fw f a l → (∀ p ∈ a :: l, f' p = f p) → Fw f' a l
  | a, [], h, e => by have := e a (by simp); simp only [Fw] at h ⊢; omega
  | a, b :: r, h, e => by
    simp only [Fw] at h ⊢
    exact ⟨(e a (by simp)).trans h.1, h.2.congr (fun p hp => e p (List.mem_cons_of_mem _ hp))⟩
theorem Bw.congr {g g' : Nat → Nat} : ∀ {a : Nat} {l : List Nat}, Bw g a l → (∀ p ∈ l, g' p = g p) → g' 0 = g 0 → Bw g' a l
  | a, [], h, _, e0 => by simp only [Bw] at h ⊢; omega
  | a, b :: r, h, e, e0 => by
    simp only [Bw] at h ⊢
    exact ⟨(e b (by simp)).trans h.1, h.2.congr (fun p hp => e p (List.mem_cons_of_mem _ hp)) e0⟩
theorem Bw.last {g : Nat → Nat} : ∀ {a : Nat} {l : List Nat}, Bw g a l → g 0 = (a :: l).getLast (by simp)
  | a, [], h => h
  | a, b :: r, h => by
    simp only [Bw] at h
    rw [List.getLast_cons (by simp)]
    exact h.2.last
theorem Fw.snoc {f f' : Nat → Nat} {n : Nat} : ∀ {a : Nat} {l : List Nat}, Fw f a l → (a :: l).Nodup → (∀ p ∈ a :: l, p ≠ (a :: l).getLast (by simp) → f' p = f p) → f' ((a :: l).getLast (by simp)) = n → f' n = 0 → Fw f' a (l ++ [n])
  | a, [], h, _, _, e1, e2 => by simp at e1; simp only [List.nil_append, Fw]; exact ⟨e1, e2⟩
  | a, b :: r, h, hn, e, e1, e2 => by
    simp only [Fw] at h
    have hl : (a :: b :: r).getLast (by simp) = (b :: r).getLast (by simp) := List.getLast_cons (by simp)
    have hne : a ≠ (b :: r).getLast (by simp) := fun ha => (List.nodup_cons.1 hn).1 (ha ▸ List.getLast_mem _)
    simp only [List.cons_append, Fw]
    refine ⟨(e a (by simp) (by rw [hl]; exact hne)).trans h.1, h.2.snoc (List.nodup_cons.1 hn).2 (fun p hp hpn => e p (List.mem_cons_of_mem _ hp) (by rw [hl]; exact hpn)) (by rw [← hl]; exact e1) e2⟩
theorem Bw.snoc {g g' : Nat → Nat} {n : Nat} : ∀ {a : Nat} {l : List Nat}, Bw g a l → (∀ p ∈ l, g' p = g p) → g' n = (a :: l).getLast (by simp) → g' 0 = n → Bw g' a (l ++ [n])
  | a, [], h, _, e1, e2 => by simp at e1; simp only [List.nil_append, Bw]; exact ⟨e1, e2⟩
  | a, b :: r, h, e, e1, e2 => by
    simp only [Bw] at h
    rw [List.getLast_cons (by simp)] at e1
    simp only [List.cons_append, Bw]
    exact ⟨(e b (by simp)).trans h.1, h.2.snoc (fun p hp => e p (List.mem_cons_of_mem _ hp)) e1 e2⟩
theorem Bw.mid {g : Nat → Nat} {n : Nat} {l2 : List Nat} : ∀ {a : Nat} {l1 : List Nat}, Bw g a (l1 ++ n :: l2) → g n = (a :: l1).getLast (by simp)
  | a, [], h => by simp only [List.nil_append, Bw] at h; simpa using h.1
  | a, b :: r, h => by
    simp only [List.cons_append, Bw] at h
    rw [List.getLast_cons (by simp)]
    exact h.2.mid
theorem Fw.mid {f : Nat → Nat} {n : Nat} {l2 : List Nat} : ∀ {a : Nat} {l1 : List Nat}, Fw f a (l1 ++ n :: l2) → Fw f n l2
  | a, [], h => by simp only [List.nil_append, Fw] at h; exact h.2
  | a, b :: r, h => by simp only [List.cons_append, Fw] at h; exact h.2.mid
theorem Fw.head {f : Nat → Nat} {a : Nat} : ∀ {l : List Nat}, Fw f a l → f a = l.headD 0
  | [], h => h
  | b :: r, h => h.1
theorem Fw.del {f f' : Nat → Nat} {n : Nat} {l2 : List Nat} : ∀ {a : Nat} {l1 : List Nat}, Fw f a (l1 ++ n :: l2) → (a :: (l1 ++ n :: l2)).Nodup → (∀ p ∈ a :: (l1 ++ l2), p ≠ (a :: l1).getLast (by simp) → f' p = f p) → f' ((a :: l1).getLast (by simp)) = f n → Fw f' a (l1 ++ l2)
  | a, [], h, hn, e, e1 => by
    simp only [List.nil_append, Fw] at h
    simp at e1
    simp only [List.nil_append] at e hn ⊢
    cases l2 with
    | nil => simp only [Fw] at h ⊢; omega
    | cons c r =>
      simp only [Fw] at h ⊢
      refine ⟨by omega, h.2.2.congr (fun p hp => e p (List.mem_cons_of_mem _ hp) ?_)⟩
      simp only [List.getLast_singleton]
      intro hpa
      exact (List.nodup_cons.1 hn).1 (hpa ▸ List.mem_cons_of_mem _ hp)
  | a, b :: r, h, hn, e, e1 => by
    simp only [List.cons_append, Fw] at h
    have hl : (a :: b :: r).getLast (by simp) = (b :: r).getLast (by simp) := List.getLast_cons (by simp)
    have hne : a ≠ (b :: r).getLast (by simp) := fun ha => (List.nodup_cons.1 hn).1 (by
      have hm : (b :: r).getLast (by simp) ∈ b :: r := List.getLast_mem _
      rw [← ha] at hm
      exact List.mem_append_left _ hm)
    simp only [List.cons_append, Fw]
    exact ⟨(e a (by simp) (by rw [hl]; exact hne)).trans h.1, h.2.del (List.nodup_cons.1 hn).2 (fun p hp hpn => e p (List.mem_cons_of_mem _ hp) (by rw [hl]; exact hpn)) (by rw [← hl]; exact e1)⟩
theorem Bw.del {g g' : Nat → Nat} {n : Nat} {l2 : List Nat} : ∀ {a : Nat} {l1 : List Nat}, Bw g a (l1 ++ n :: l2) → (l1 ++ n :: l2).Nodup → 0 ∉ l1 ++ n :: l2 → (∀ p, p = 0 ∨ p ∈ l1 ++ l2 → p ≠ l2.headD 0 → g' p = g p) → g' (l2.headD 0) = g n → Bw g' a (l1 ++ l2)
  | a, [], h, hn, h0, e, e1 => by
    simp only [List.nil_append, Bw] at h e h0 hn ⊢
    cases l2 with
    | nil => simp only [List.headD_nil, Bw] at e1 h ⊢; omega
    | cons c r =>
      simp only [List.headD_cons, Bw] at h e e1 ⊢
      refine ⟨by omega, h.2.2.congr (fun p hp => e p (.inr (List.mem_cons_of_mem _ hp)) ?_) (e 0 (.inl rfl) ?_)⟩
      · intro hpc
        subst hpc
        exact (List.nodup_cons.1 (List.nodup_cons.1 hn).2).1 hp
      · intro hc
        subst hc
        simp at h0
  | a, b :: r, h, hn, h0, e, e1 => by
    simp only [List.cons_append, Bw] at h ⊢
    refine ⟨(e b (.inr (by simp)) ?_).trans h.1, h.2.del (List.nodup_cons.1 hn).2 (fun hm => h0 (List.mem_cons_of_mem _ hm)) (fun p hp hpn => e p (hp.imp id (fun hm => List.mem_cons_of_mem _ hm)) hpn) e1⟩
    intro hb
    cases l2 with
    | nil => simp at hb; subst hb; simp at h0
    | cons c s =>
      simp at hb
      subst hb
      exact (List.nodup_cons.1 hn).1 (by simp)

/-- Links that hang together: 'order' are the numbers of those that are in use, in their order; 'free' those that are not. -/
structure Good (ls : List Lnk) (free order : List Nat) : Prop where
  nodup : order.Nodup
  inO : ∀ p ∈ order, 0 < p ∧ p < ls.length
  fnodup : free.Nodup
  inF : ∀ p ∈ free, 0 < p ∧ p < ls.length ∧ p ∉ order
  len : ls.length = 1 + order.length + free.length
  fw : Fw (fun p => (lk ls p).behind) 0 order
  bw : Bw (fun p => (lk ls p).ahead) 0 order
def itemsOf (ls : List Lnk) (order : List Nat) : List Itm := order.map (fun p => (lk ls p).val)

theorem Good.zero {ls : List Lnk} {free order : List Nat} (h : Good ls free order) : 0 ∉ order := fun hm => by have := (h.inO 0 hm).1; omega
theorem Good.cons {ls : List Lnk} {free order : List Nat} (h : Good ls free order) : (0 :: order).Nodup := List.nodup_cons.2 ⟨h.zero, h.nodup⟩
theorem good_new : Good [zl] [] [] := ⟨by simp, by simp, by simp, by simp, rfl, rfl, rfl⟩

theorem Good.perm {ls : List Lnk} {free free' order : List Nat} (h : Good ls free order) (hp : free.Perm free') : Good ls free' order :=
  ⟨h.nodup, h.inO, hp.nodup_iff.1 h.fnodup, fun p hm => h.inF p (hp.mem_iff.2 hm), by rw [h.len, hp.length_eq], h.fw, h.bw⟩

/-- The links behind putLast at a number that is not in use. -/
def putL (ls : List Lnk) (n : Nat) (x : Itm) : List Lnk :=
  let last := (lk ls 0).ahead
  let l1 := ls.set n ⟨x, last, 0⟩
  let l2 := l1.set last { lk l1 last with behind := n }
  l2.set 0 { lk l2 0 with ahead := n }
theorem putL_len (ls : List Lnk) (n : Nat) (x : Itm) : (putL ls n x).length = ls.length := by simp [putL]
theorem last_lt {ls : List Lnk} {free order : List Nat} (h : Good ls free order) : (lk ls 0).ahead < ls.length ∧ ((lk ls 0).ahead ∈ 0 :: order) := by
  have e : (lk ls 0).ahead = (0 :: order).getLast (by simp) := h.bw.last
  rw [e]
  have hm := List.getLast_mem (l := 0 :: order) (by simp)
  refine ⟨?_, hm⟩
  rcases List.mem_cons.1 hm with h0 | h1
  · rw [h0]; have := h.len; omega
  · exact (h.inO _ h1).2
theorem putL_at {ls : List Lnk} {n : Nat} {x : Itm} (hn : 0 < n) (hl : n < ls.length) (h0 : (lk ls 0).ahead < ls.length) (hne : n ≠ (lk ls 0).ahead) (p : Nat) :
    (lk (putL ls n x) p).val = (if p = n then x else (lk ls p).val) ∧ (lk (putL ls n x) p).behind = (if p = n then 0 else if p = (lk ls 0).ahead then n else (lk ls p).behind) ∧
    (lk (putL ls n x) p).ahead = (if p = 0 then n else if p = n then (lk ls 0).ahead else (lk ls p).ahead) := by
  unfold putL
  generalize (lk ls 0).ahead = last at h0 hne ⊢
  simp only
  rw [lk_set _ 0 p _ (by simp; omega), lk_set _ last 0 _ (by simp; omega), lk_set _ last p _ (by simp; omega), lk_set _ n last _ hl, lk_set _ n 0 _ hl, lk_set _ n p _ hl]
  by_cases hp0 : p = 0
  · subst hp0
    by_cases hl0 : 0 = last
    · subst hl0
      simp [show (0 : Nat) ≠ n by omega]
    · simp [hl0, show (0 : Nat) ≠ n by omega]
  · by_cases hpl : p = last
    · subst hpl
      simp [hp0, Ne.symm hne]
    · by_cases hpn : p = n
      · subst hpn
        simp [hp0, hpl]
      · simp [hp0, hpl, hpn]

/-- putLast at a number that is not in use. -/
theorem Good.put {ls : List Lnk} {free order : List Nat} {n : Nat} (h : Good ls (n :: free) order) (x : Itm) : Good (putL ls n x) free (order ++ [n]) := by
  obtain ⟨hn0, hnl, hno⟩ := h.inF n (by simp)
  obtain ⟨hl, hm⟩ := last_lt h
  have hne : n ≠ (lk ls 0).ahead := by
    intro e
    rw [← e] at hm
    rcases List.mem_cons.1 hm with h0 | h1
    · omega
    · exact hno h1
  have ht := fun p => putL_at (x := x) hn0 hnl hl hne p
  have hlast : (lk ls 0).ahead = (0 :: order).getLast (by simp) := h.bw.last
  refine ⟨?_, ?_, (List.nodup_cons.1 h.fnodup).2, ?_, ?_, ?_, ?_⟩
  · exact List.nodup_append.2 ⟨h.nodup, by simp, fun a ha b hb => by simp at hb; subst hb; intro e; subst e; exact hno ha⟩
  · intro p hp
    rw [putL_len]
    rcases List.mem_append.1 hp with h1 | h1
    · exact h.inO p h1
    · simp at h1; subst h1; exact ⟨hn0, hnl⟩
  · intro p hp
    rw [putL_len]
    obtain ⟨h1, h2, h3⟩ := h.inF p (List.mem_cons_of_mem _ hp)
    refine ⟨h1, h2, fun hm => ?_⟩
    rcases List.mem_append.1 hm with h4 | h4
    · exact h3 h4
    · simp at h4; subst h4; exact (List.nodup_cons.1 h.fnodup).1 hp
  · rw [putL_len]
    have := h.len
    simp at this ⊢
    omega
  · refine h.fw.snoc h.cons (fun p hp hpl => ?_) ?_ ?_
    · rw [(ht p).2.1, ← hlast] at *
      rw [if_neg, if_neg hpl]
      intro e
      subst e
      rcases List.mem_cons.1 hp with h0 | h1
      · omega
      · exact hno h1
    · rw [← hlast, (ht _).2.1, if_neg (Ne.symm hne), if_pos rfl]
    · rw [(ht n).2.1, if_pos rfl]
  · refine h.bw.snoc (fun p hp => ?_) ?_ ?_
    · rw [(ht p).2.2, if_neg, if_neg]
      · intro e; subst e; exact hno hp
      · intro e; subst e; exact h.zero hp
    · rw [← hlast, (ht n).2.2, if_neg (by omega), if_pos rfl]
    · rw [(ht 0).2.2, if_pos rfl]
theorem items_put {ls : List Lnk} {free order : List Nat} {n : Nat} (h : Good ls (n :: free) order) (x : Itm) : itemsOf (putL ls n x) (order ++ [n]) = itemsOf ls order ++ [x] := by
  obtain ⟨hn0, hnl, hno⟩ := h.inF n (by simp)
  obtain ⟨hl, hm⟩ := last_lt h
  have hne : n ≠ (lk ls 0).ahead := by
    intro e
    rw [← e] at hm
    rcases List.mem_cons.1 hm with h0 | h1
    · omega
    · exact hno h1
  have ht := fun p => (putL_at (x := x) hn0 hnl hl hne p).1
  unfold itemsOf
  rw [List.map_append]
  congr 1
  · apply List.map_congr_left
    intro p hp
    rw [ht, if_neg]
    intro e; subst e; exact hno hp
  · simp [ht]
/-- A link more, not in use. -/
theorem Good.more {ls : List Lnk} {order : List Nat} (h : Good ls [] order) : Good (ls ++ [zl]) [ls.length] order := by
  have ht := fun p => lk_push ls zl p
  have h0 : ls.length ≠ 0 := by have := h.len; omega
  refine ⟨h.nodup, fun p hp => ?_, by simp, fun p hp => ?_, ?_, ?_, ?_⟩
  · have := h.inO p hp; simp; omega
  · simp at hp
    subst hp
    refine ⟨by omega, by simp, fun hm => ?_⟩
    have := (h.inO _ hm).2; omega
  · have := h.len; simp at this ⊢; omega
  · refine h.fw.congr (fun p hp => ?_)
    rw [ht, if_neg]
    rcases List.mem_cons.1 hp with h1 | h1
    · omega
    · have := (h.inO _ h1).2; omega
  · refine h.bw.congr (fun p hp => ?_) ?_
    · rw [ht, if_neg]
      have := (h.inO _ hp).2; omega
    · rw [ht, if_neg (by omega)]
theorem items_more {ls : List Lnk} {free order : List Nat} (h : Good ls free order) : itemsOf (ls ++ [zl]) order = itemsOf ls order := by
  unfold itemsOf
  apply List.map_congr_left
  intro p hp
  rw [lk_push, if_neg]
  have := (h.inO _ hp).2; omega

/-- The links behind take. -/
def takeL (ls : List Lnk) (n : Nat) : List Lnk :=
  let l1 := ls.set (lk ls n).ahead { lk ls (lk ls n).ahead with behind := (lk ls n).behind }
  l1.set (lk ls n).behind { lk l1 (lk ls n).behind with ahead := (lk ls n).ahead }
theorem takeL_len (ls : List Lnk) (n : Nat) : (takeL ls n).length = ls.length := by simp [takeL]
theorem takeL_at {ls : List Lnk} {n : Nat} (h1 : (lk ls n).ahead < ls.length) (h2 : (lk ls n).behind < ls.length) (p : Nat) :
    (lk (takeL ls n) p).val = (lk ls p).val ∧ (lk (takeL ls n) p).behind = (if p = (lk ls n).ahead then (lk ls n).behind else (lk ls p).behind) ∧
    (lk (takeL ls n) p).ahead = (if p = (lk ls n).behind then (lk ls n).ahead else (lk ls p).ahead) := by
  unfold takeL
  generalize (lk ls n).ahead = a at h1 ⊢
  generalize (lk ls n).behind = b at h2 ⊢
  simp only
  rw [lk_set _ b p _ (by simp; omega), lk_set _ a b _ h1, lk_set _ a p _ h1]
  by_cases hpb : p = b
  · subst hpb
    by_cases hpa : p = a
    · subst hpa; simp
    · simp [hpa]
  · by_cases hpa : p = a
    · subst hpa; simp [hpb]
    · simp [hpb, hpa]
theorem mid_lt {ls : List Lnk} {free l1 l2 : List Nat} {n : Nat} (h : Good ls free (l1 ++ n :: l2)) : (lk ls n).ahead < ls.length ∧ (lk ls n).behind < ls.length ∧ (lk ls n).ahead = (0 :: l1).getLast (by simp) ∧ (lk ls n).behind = l2.headD 0 := by
  have e1 : (lk ls n).ahead = (0 :: l1).getLast (by simp) := h.bw.mid
  have e2 : (lk ls n).behind = l2.headD 0 := h.fw.mid.head
  refine ⟨?_, ?_, e1, e2⟩
  · rw [e1]
    rcases List.mem_cons.1 (List.getLast_mem (l := 0 :: l1) (by simp)) with h0 | h1
    · rw [h0]; have := h.len; omega
    · exact (h.inO _ (List.mem_append_left _ h1)).2
  · rw [e2]
    cases l2 with
    | nil => have := h.len; simp at this ⊢; omega
    | cons c r => exact (h.inO c (by simp)).2
theorem Good.take {ls : List Lnk} {free l1 l2 : List Nat} {n : Nat} (h : Good ls free (l1 ++ n :: l2)) : Good (takeL ls n) (free ++ [n]) (l1 ++ l2) := by
  obtain ⟨ha, hb, ea, eb⟩ := mid_lt h
  have ht := fun p => takeL_at ha hb p
  have hsub : ∀ p, p ∈ l1 ++ l2 → p ∈ l1 ++ n :: l2 := fun p hp => by
    rcases List.mem_append.1 hp with h1 | h1
    · exact List.mem_append_left _ h1
    · exact List.mem_append_right _ (List.mem_cons_of_mem _ h1)
  have hnn : n ∉ l1 ++ l2 := by
    have h1 := h.nodup
    rw [List.nodup_append] at h1
    intro hm
    rcases List.mem_append.1 hm with h2 | h2
    · exact h1.2.2 n h2 n (by simp) rfl
    · exact (List.nodup_cons.1 h1.2.1).1 h2
  refine ⟨?_, ?_, ?_, ?_, ?_, ?_, ?_⟩
  · have h1 := h.nodup
    rw [List.nodup_append] at h1 ⊢
    exact ⟨h1.1, (List.nodup_cons.1 h1.2.1).2, fun a ha b hb => h1.2.2 a ha b (List.mem_cons_of_mem _ hb)⟩
  · intro p hp
    rw [takeL_len]
    exact h.inO p (hsub p hp)
  · refine List.nodup_append.2 ⟨h.fnodup, by simp, fun c hc d hd => by
      simp at hd; subst hd; intro e; subst e
      exact (h.inF _ hc).2.2 (by simp)⟩
  · intro p hp
    rw [takeL_len]
    rcases List.mem_append.1 hp with h1 | h1
    · obtain ⟨h2, h3, h4⟩ := h.inF p h1
      exact ⟨h2, h3, fun hm => h4 (hsub p hm)⟩
    · simp at h1
      subst h1
      have := h.inO p (by simp)
      exact ⟨this.1, this.2, hnn⟩
  · rw [takeL_len]
    have := h.len
    simp at this ⊢
    omega
  · refine h.fw.del h.cons (fun p hp hpl => ?_) ?_
    · rw [← ea] at hpl
      rw [(ht p).2.1, if_neg hpl]
    · rw [← ea, (ht _).2.1, if_pos rfl]
  · refine h.bw.del h.nodup h.zero (fun p hp hpl => ?_) ?_
    · rw [← eb] at hpl
      rw [(ht p).2.2, if_neg hpl]
    · rw [← eb, (ht _).2.2, if_pos rfl]
theorem items_take {ls : List Lnk} {free l1 l2 : List Nat} {n : Nat} (h : Good ls free (l1 ++ n :: l2)) (l : List Nat) : itemsOf (takeL ls n) l = itemsOf ls l := by
  obtain ⟨ha, hb, ea, eb⟩ := mid_lt h
  unfold itemsOf
  exact List.map_congr_left (fun p _ => (takeL_at ha hb p).1)
end Chain
end Go.Proofs.YthlcmnjaimffdaaGreatDoor
/-
  Links as they lie in memory: seven cells each, one behind the other; a row of whole numbers. No Go function is spoken of here.
-/
namespace Go.Proofs.YthlcmnjaimffdaaGreatDoor
namespace Chain
open Go.RowKit Base Items Keep
set_option linter.unusedVariables false

theorem row_set {w : World} {e : TypeId} {size g n cap : Nat} {xs : List Value} (h : Row w e size g n cap xs) {j : Nat} (hj : j < n * size) (u : Value) : Row (w.setCell ⟨g, j, none⟩ u) e size g n cap (xs.set j u) := by
  obtain ⟨h1, cur, hh, h2, h3, h4, h5⟩ := h
  refine ⟨by simp [h1], cur.setIfInBounds j u, ?_, h2, h3, by simp [h4], ?_⟩
  · simp [World.setCell, Array.getElem?_modify, hh]
  · rw [Array.toList_setIfInBounds, ← h5, List.take_set]
theorem row_pop {w : World} {e : TypeId} {g n cap : Nat} {xs : List Value} (h : Row w e 1 g (n + 1) cap xs) : Row w e 1 g n cap (xs.take n) := by
  obtain ⟨h1, cur, hh, h2, h3, h4, h5⟩ := h
  refine ⟨by simp [h1], cur, hh, by omega, h3, h4, ?_⟩
  rw [← h5, List.take_take]
  congr 1
  omega

def lcells (x : Lnk) : List Value := [.string x.val.key, .int .i64 x.val.flags, .string x.val.data, .int .i64 x.val.upto, .int .i64 x.val.token, .int .i64 x.ahead, .int .i64 x.behind]
def lflat (ls : List Lnk) : List Value := ls.flatMap lcells
theorem lflat_append (a b : List Lnk) : lflat (a ++ b) = lflat a ++ lflat b := by simp [lflat]
theorem lflat_one (x : Lnk) : lflat [x] = lcells x := by simp [lflat]
theorem lflat_length (ls : List Lnk) : (lflat ls).length = ls.length * 7 := by
  induction ls with
  | nil => rfl
  | cons x r ih =>
    have e : lflat (x :: r) = lcells x ++ lflat r := by simp [lflat]
    rw [e, List.length_append, ih]
    simp [lcells]; omega
theorem lflat_get (ls : List Lnk) (p : Nat) (hp : p < ls.length) (i : Nat) (hi : i < 7) : (lflat ls)[p * 7 + i]? = (lcells (lk ls p))[i]? := by
  induction ls generalizing p with
  | nil => simp at hp
  | cons x r ih =>
    have e : lflat (x :: r) = lcells x ++ lflat r := by simp [lflat]
    have el : (lcells x).length = 7 := rfl
    rw [e]
    cases p with
    | zero => rw [List.getElem?_append_left (by rw [el]; omega)]; simp [lk]
    | succ q =>
      rw [List.getElem?_append_right (by rw [el]; omega), el, show (q + 1) * 7 + i - 7 = q * 7 + i by omega, ih q (by simpa using hp)]
      simp [lk]
theorem lflat_set (ls : List Lnk) (p : Nat) (hp : p < ls.length) (i : Nat) (hi : i < 7) (v : Value) (x : Lnk) (hx : lcells x = (lcells (lk ls p)).set i v) : (lflat ls).set (p * 7 + i) v = lflat (ls.set p x) := by
  induction ls generalizing p with
  | nil => simp at hp
  | cons y r ih =>
    have e : ∀ z q, lflat (z :: q) = lcells z ++ lflat q := by simp [lflat]
    have el : (lcells y).length = 7 := rfl
    cases p with
    | zero =>
      simp only [lk, List.getD_cons_zero] at hx
      rw [e, List.set_append, if_pos (by rw [el]; omega), List.set_cons_zero, e, hx]
      simp
    | succ q =>
      simp only [lk, List.getD_cons_succ] at hx
      rw [e, List.set_append, if_neg (by rw [el]; omega), el, show (q + 1) * 7 + i - 7 = q * 7 + i by omega, ih q (by simpa using hp) hx, List.set_cons_succ, e]
theorem lcells_one (x : Lnk) (u : Value) (hu : u ∈ lcells x) : u.oneCell' = true := by
  simp only [lcells, List.mem_cons, List.not_mem_nil, or_false] at hu
  rcases hu with rfl | rfl | rfl | rfl | rfl | rfl | rfl <;> rfl

/-- A row of links. -/
def LinksAt (w : World) (t : TypeId) (g cap : Nat) (ls : List Lnk) : Prop := Row w t 7 g ls.length cap (lflat ls)
section
variable {w w' : World} {t : TypeId} {g cap : Nat} {ls : List Lnk}
theorem LinksAt.cell (h : LinksAt w t g cap ls) {p : Nat} (hp : p < ls.length) {i : Nat} (hi : i < 7) : w.cell? ⟨g, p * 7 + i, none⟩ = (lcells (lk ls p))[i]? := by
  have hg := lflat_get ls p hp i hi
  obtain ⟨u, hu⟩ : ∃ u, (lcells (lk ls p))[i]? = some u := ⟨_, List.getElem?_eq_getElem (by simpa [lcells] using hi)⟩
  rw [hu] at hg ⊢
  exact Row.cell h hg
theorem LinksAt.item (h : LinksAt w t g cap ls) {p : Nat} (hp : p < ls.length) : At w g (p * 7) (lk ls p).val :=
  ⟨h.cell hp (i := 0) (by omega), h.cell hp (i := 1) (by omega), h.cell hp (i := 2) (by omega), h.cell hp (i := 3) (by omega), h.cell hp (i := 4) (by omega)⟩
theorem LinksAt.ahead (h : LinksAt w t g cap ls) {p : Nat} (hp : p < ls.length) : w.cell? ⟨g, p * 7 + 5, none⟩ = some (.int .i64 (lk ls p).ahead) := h.cell hp (i := 5) (by omega)
theorem LinksAt.behind (h : LinksAt w t g cap ls) {p : Nat} (hp : p < ls.length) : w.cell? ⟨g, p * 7 + 6, none⟩ = some (.int .i64 (lk ls p).behind) := h.cell hp (i := 6) (by omega)
theorem LinksAt.setAhead (h : LinksAt w t g cap ls) {p : Nat} (hp : p < ls.length) (n : Nat) : LinksAt (w.setCell ⟨g, p * 7 + 5, none⟩ (.int .i64 n)) t g cap (ls.set p { lk ls p with ahead := n }) := by
  have h1 := row_set h (j := p * 7 + 5) (by omega) (.int .i64 n)
  rw [lflat_set ls p hp 5 (by omega) (.int .i64 n) { lk ls p with ahead := n } rfl] at h1
  unfold LinksAt
  rw [List.length_set]
  exact h1
theorem LinksAt.setBehind (h : LinksAt w t g cap ls) {p : Nat} (hp : p < ls.length) (n : Nat) : LinksAt (w.setCell ⟨g, p * 7 + 6, none⟩ (.int .i64 n)) t g cap (ls.set p { lk ls p with behind := n }) := by
  have h1 := row_set h (j := p * 7 + 6) (by omega) (.int .i64 n)
  rw [lflat_set ls p hp 6 (by omega) (.int .i64 n) { lk ls p with behind := n } rfl] at h1
  unfold LinksAt
  rw [List.length_set]
  exact h1
/-- A whole link is laid, cell by cell. -/
theorem LinksAt.setAll (h : LinksAt w t g cap ls) {p : Nat} (hp : p < ls.length) (x : Lnk) :
    LinksAt (((((((w.setCell ⟨g, p * 7, none⟩ (.string x.val.key)).setCell ⟨g, p * 7 + 1, none⟩ (.int .i64 x.val.flags)).setCell ⟨g, p * 7 + 2, none⟩ (.string x.val.data)).setCell ⟨g, p * 7 + 3, none⟩ (.int .i64 x.val.upto)).setCell ⟨g, p * 7 + 4, none⟩ (.int .i64 x.val.token)).setCell ⟨g, p * 7 + 5, none⟩ (.int .i64 x.ahead)).setCell ⟨g, p * 7 + 6, none⟩ (.int .i64 x.behind)) t g cap (ls.set p x) := by
  have h0 := row_set h (j := p * 7) (by omega) (.string x.val.key)
  have h1 := row_set h0 (j := p * 7 + 1) (by omega) (.int .i64 x.val.flags)
  have h2 := row_set h1 (j := p * 7 + 2) (by omega) (.string x.val.data)
  have h3 := row_set h2 (j := p * 7 + 3) (by omega) (.int .i64 x.val.upto)
  have h4 := row_set h3 (j := p * 7 + 4) (by omega) (.int .i64 x.val.token)
  have h5 := row_set h4 (j := p * 7 + 5) (by omega) (.int .i64 x.ahead)
  have h6 := row_set h5 (j := p * 7 + 6) (by omega) (.int .i64 x.behind)
  have e0 := lflat_set ls p hp 0 (by omega) (.string x.val.key) ⟨⟨x.val.key, (lk ls p).val.flags, (lk ls p).val.data, (lk ls p).val.upto, (lk ls p).val.token⟩, (lk ls p).ahead, (lk ls p).behind⟩ rfl
  rw [Nat.add_zero] at e0
  have step : ∀ (y z : Lnk) (i : Nat) (v : Value), i < 7 → lcells z = (lcells y).set i v → (lflat (ls.set p y)).set (p * 7 + i) v = lflat (ls.set p z) := by
    intro y z i v hi hz
    rw [lflat_set (ls.set p y) p (by simpa using hp) i hi v z (by rw [lk_set _ _ _ _ hp, if_pos rfl]; exact hz), List.set_set]
  have s1 := step ⟨⟨x.val.key, (lk ls p).val.flags, (lk ls p).val.data, (lk ls p).val.upto, (lk ls p).val.token⟩, (lk ls p).ahead, (lk ls p).behind⟩ ⟨⟨x.val.key, x.val.flags, (lk ls p).val.data, (lk ls p).val.upto, (lk ls p).val.token⟩, (lk ls p).ahead, (lk ls p).behind⟩ 1 (.int .i64 x.val.flags) (by omega) rfl
  have s2 := step ⟨⟨x.val.key, x.val.flags, (lk ls p).val.data, (lk ls p).val.upto, (lk ls p).val.token⟩, (lk ls p).ahead, (lk ls p).behind⟩ ⟨⟨x.val.key, x.val.flags, x.val.data, (lk ls p).val.upto, (lk ls p).val.token⟩, (lk ls p).ahead, (lk ls p).behind⟩ 2 (.string x.val.data) (by omega) rfl
  have s3 := step ⟨⟨x.val.key, x.val.flags, x.val.data, (lk ls p).val.upto, (lk ls p).val.token⟩, (lk ls p).ahead, (lk ls p).behind⟩ ⟨⟨x.val.key, x.val.flags, x.val.data, x.val.upto, (lk ls p).val.token⟩, (lk ls p).ahead, (lk ls p).behind⟩ 3 (.int .i64 x.val.upto) (by omega) rfl
  have s4 := step ⟨⟨x.val.key, x.val.flags, x.val.data, x.val.upto, (lk ls p).val.token⟩, (lk ls p).ahead, (lk ls p).behind⟩ ⟨⟨x.val.key, x.val.flags, x.val.data, x.val.upto, x.val.token⟩, (lk ls p).ahead, (lk ls p).behind⟩ 4 (.int .i64 x.val.token) (by omega) rfl
  have s5 := step ⟨⟨x.val.key, x.val.flags, x.val.data, x.val.upto, x.val.token⟩, (lk ls p).ahead, (lk ls p).behind⟩ ⟨⟨x.val.key, x.val.flags, x.val.data, x.val.upto, x.val.token⟩, x.ahead, (lk ls p).behind⟩ 5 (.int .i64 x.ahead) (by omega) rfl
  have s6 := step ⟨⟨x.val.key, x.val.flags, x.val.data, x.val.upto, x.val.token⟩, x.ahead, (lk ls p).behind⟩ x 6 (.int .i64 x.behind) (by omega) rfl
  rw [e0, s1, s2, s3, s4, s5, s6] at h6
  unfold LinksAt
  rw [List.length_set]
  exact h6
end

/-- A row of whole numbers, or nothing yet. -/
def ints (l : List Nat) : List Value := l.map (fun p : Nat => .int .i64 (p : Int))
end Chain
end Go.Proofs.YthlcmnjaimffdaaGreatDoor
/-
  The program's list of links (newChain, freeLink, putLast, take, values), inside a shelf: what each does to the plain links.
-/
namespace Go.Proofs.YthlcmnjaimffdaaGreatDoor
namespace Chain
open Go.RowKit Base Items Keep
set_option linter.unusedVariables false

/-- The other fields of a shelf. -/
structure Hd where
  lim : Int
  nx : Int
  chg : Int
  lost : Int
  vm : Value
/-- A shelf's cells. -/
def Box (w : World) (hb : Nat) (h : Hd) (vl vf : Value) : Prop := w.heap[hb]? = some (.cells #[.int .i64 h.lim, .int .i64 h.nx, .int .i64 h.chg, .int .i64 h.lost, vl, vf, h.vm] 63 (0, 0))
section
variable {w w' : World} {hb : Nat} {h : Hd} {vl vf : Value}
theorem Box.lt (hB : Box w hb h vl vf) : hb < w.heap.size := (Array.getElem?_eq_some_iff.1 hB).1
theorem Box.cells (hB : Box w hb h vl vf) : w.cell? ⟨hb, 0, none⟩ = some (.int .i64 h.lim) ∧ w.cell? ⟨hb, 1, none⟩ = some (.int .i64 h.nx) ∧ w.cell? ⟨hb, 2, none⟩ = some (.int .i64 h.chg) ∧ w.cell? ⟨hb, 3, none⟩ = some (.int .i64 h.lost) ∧
    w.cell? ⟨hb, 4, none⟩ = some vl ∧ w.cell? ⟨hb, 5, none⟩ = some vf ∧ w.cell? ⟨hb, 6, none⟩ = some h.vm := by
  unfold Box at hB
  refine ⟨?_, ?_, ?_, ?_, ?_, ?_, ?_⟩ <;> simp [World.cell?, hB]
theorem Box.frozen (hB : Box w hb h vl vf) (o : Nat) : w.frozen? ⟨hb, o, none⟩ = false := by unfold Box at hB; simp [World.frozen?, hB]
theorem Box.of_block (hB : Box w hb h vl vf) (e : w'.heap[hb]? = w.heap[hb]?) : Box w' hb h vl vf := by unfold Box at *; rw [e]; exact hB
theorem Box.keep {S : List Nat} (hB : Box w hb h vl vf) (hk : Keeps S w w') (hn : hb ∉ S) : Box w' hb h vl vf := hB.of_block (hk.block hb hB.lt hn)
theorem Box.set4 (hB : Box w hb h vl vf) (v : Value) : Box (w.setCell ⟨hb, 4, none⟩ v) hb h v vf := by unfold Box at *; simp [World.setCell, Array.getElem?_modify, hB]
theorem Box.set5 (hB : Box w hb h vl vf) (v : Value) : Box (w.setCell ⟨hb, 5, none⟩ v) hb h vl v := by unfold Box at *; simp [World.setCell, Array.getElem?_modify, hB]
theorem Box.setOther (hB : Box w hb h vl vf) {p : Addr} (hp : hb ≠ p.block) (u : Value) : Box (w.setCell p u) hb h vl vf := hB.of_block (Below.heap_setCell _ _ _ _ hp)
end

/-- A shelf's list in memory: its links at block gl, its free numbers at gf. -/
structure Mem (w : World) (hb : Nat) (h : Hd) (gl : Nat) (gf : Option Nat) (ls : List Lnk) (free : List Nat) (cl : Nat) (vf : Value) : Prop where
  box : Box w hb h (.slice (some ⟨gl, 0, none⟩) ls.length cl) vf
  links : LinksAt w 105 gl cl ls
  fr : w.ownsRow 0 3 1 vf free.length (ints free)
  own : vf.ownBlock = gf
  n1 : hb ≠ gl
  n2 : gf ≠ some hb
  n3 : gf ≠ some gl

theorem Mem.keep {w w' : World} {hb : Nat} {h : Hd} {gl : Nat} {gf : Option Nat} {ls : List Lnk} {free : List Nat} {cl : Nat} {vf : Value} {S : List Nat} (hm : Mem w hb h gl gf ls free cl vf) (hk : Keeps S w w') (h1 : hb ∉ S) (h2 : gl ∉ S) (h3 : ∀ g, gf = some g → g ∉ S) :
    Mem w' hb h gl gf ls free cl vf :=
  ⟨hm.box.keep hk h1, Row.keep hm.links hk h2, own_blocks hm.fr (fun g hg => hk.block g (own_lt hm.fr hg) (h3 g (hm.own ▸ hg))), hm.own, hm.n1, hm.n2, hm.n3⟩
theorem Mem.gf_lt {w : World} {hb : Nat} {h : Hd} {gl : Nat} {gf : Option Nat} {ls : List Lnk} {free : List Nat} {cl : Nat} {vf : Value} (hm : Mem w hb h gl gf ls free cl vf) {g : Nat} (hg : gf = some g) : g < w.heap.size := own_lt hm.fr (hm.own.trans hg)

theorem linfo_ex : ∃ i : TypeInfo, Tryz.prog.info? 105 = some i ∧ i.zero = some (.agg #[.string ByteArray.empty, .int .i64 0, .string ByteArray.empty, .int .i64 0, .int .i64 0, .int .i64 0, .int .i64 0]) ∧ i.size = 7 ∧ i.bytes = 72 := by
  have h : (Tryz.prog.info? 105).map (fun i => (i.zero, i.size, i.bytes)) = some (some (.agg #[.string ByteArray.empty, .int .i64 0, .string ByteArray.empty, .int .i64 0, .int .i64 0, .int .i64 0, .int .i64 0]), 7, 72) := by kernel_rfl
  obtain ⟨i, hi, hz⟩ := Option.map_eq_some_iff.1 h
  simp only [Prod.mk.injEq] at hz
  exact ⟨i, hi, hz.1, hz.2.1, hz.2.2⟩

theorem lnews (w : World) (t : TypeId) (j : Nat) (u : Value) (hj : (lcells zl)[j]? = some u) :
    (w.alloc (.cells #[.string ⟨#[]⟩, .int .i64 0, .string ⟨#[]⟩, .int .i64 0, .int .i64 0, .int .i64 0, .int .i64 0] t)).cell? ((⟨w.heap.size, 0, none⟩ : Addr).add j) = some u := by
  rw [Go.WideShapes.add_plain, Nat.zero_add, World.cell?_alloc_new]
  show (lcells zl).toArray[j]? = some u
  simpa using hj

set_option maxRecDepth 10000 in
set_option maxHeartbeats 1000000 in
theorem freeLink_none (w : World) (hb : Nat) (h : Hd) (gl : Nat) (gf : Option Nat) (ls : List Lnk) (cl : Nat) (vf : Value) (hm : Mem w hb h gl gf ls [] cl vf) (hlen : ls.length ≤ 1000) :
    Calls Tryz.prog 87 #[.pointer (some ⟨hb, 4, none⟩)] w fun e w' => e = .returned (.int .i64 ls.length) ∧
      ∃ gl' cl', Mem w' hb h gl' gf (ls ++ [zl]) [] cl' vf ∧ (gl' = gl ∨ w.heap.size ≤ gl') ∧ Keeps [hb, gl] w w' := by
  obtain ⟨va, vc, hv⟩ : ∃ a c, vf = .slice a 0 c := by
    rcases hm.fr.2 with ⟨e, _⟩ | ⟨g, c, cur, e, _⟩
    · exact ⟨_, _, e⟩
    · exact ⟨_, _, e⟩
  subst hv
  obtain ⟨c0, c1, c2, c3, c4, c5, c6⟩ := hm.box.cells
  have f4 := hm.box.frozen 4
  have HM := hide hm
  clear hm c0 c1 c2 c3 c6
  obtain ⟨i0, hi, hz0, hz1, hz2⟩ := linfo_ex
  have HI := hide hi
  have HZ0 := hide hz0
  have HZ1 := hide hz1
  have HZ2 := hide hz2
  clear hi hz0 hz1 hz2
  go_enter Tryz.func87, Tryz.ntmps87
  go_wp2_with (at_builtin; go_loud (refine wpList_append_own_at _ rfl _ _ 57 rfl 0 105 i0 _ 7 72 Tryz.underlying57 (unhide HI) (unhide HZ0) (unhide HZ1) (unhide HZ2) rfl (by decide) _ _ _ rfl (((unhide HM).links.owns (Nat.zero_le _)).alloc _) ⟨w.heap.size, 0, none⟩ 1 1 (lcells zl) rfl rfl ?c1 (lcells_one zl) (by unfold maxLen; omega) (by omega) (Nat.zero_le _) ?_))
  case c1 => exact lnews w _
  intro v' w2 hown' hgrow _ hloc
  obtain ⟨gl', cl', rfl, _, hrow⟩ := Row.of_owns hown' (by omega)
  have hbx := ((unhide HM).box.of_block (Below.heap_alloc _ _ _ (unhide HM).box.lt)).of_block (hgrow.block hb (by simp; have := (unhide HM).box.lt; omega) (by simp [Value.ownBlock]; exact (unhide HM).n1))
  obtain ⟨d0, d1, d2, d3, d4, d5, d6⟩ := hbx.cells
  have g4 := hbx.frozen 4
  have HB := hide hbx
  have HO := hide hrow
  have HG := hide hgrow
  have HL := hide hloc
  clear hbx hrow hgrow hloc hown' d0 d1 d2 d3 d6 c4 c5 f4
  go_wp2
  go_ret
  refine ⟨ret_int (by omega), gl', cl', ?_, ?_, ?_⟩
  · have hm := unhide HM
    have hlt := hm.box.lt
    have hgl : gl' = gl ∨ gl' = w.heap.size + 1 := by
      rcases unhide HL with e | e
      · simp [Value.ownBlock] at e; exact .inl e
      · simp [Value.ownBlock] at e; exact .inr e
    have hne : gl' ≠ hb := by
      rcases hgl with e | e
      · rw [e]; exact Ne.symm hm.n1
      · omega
    refine ⟨?_, ?_, ?_, hm.own, Ne.symm hne, hm.n2, ?_⟩
    · have h1 := (unhide HB).set4 (.slice (some ⟨gl', 0, none⟩) (ls.length + 1) cl')
      rw [List.length_append]
      exact h1
    · have h1 := (unhide HO).setOther (p := ⟨hb, 4, none⟩) hne (.slice (some ⟨gl', 0, none⟩) (ls.length + 1) cl')
      show Row _ _ 7 gl' (ls ++ [zl]).length cl' (lflat (ls ++ [zl]))
      rw [List.length_append, lflat_append, lflat_one]
      exact h1
    · refine own_blocks hm.fr (fun g hg => ?_)
      have hgf : gf = some g := hm.own.symm.trans hg
      have hg1 : g ≠ hb := fun e => hm.n2 (by rw [hgf, e])
      have hg2 : g ≠ gl := fun e => hm.n3 (by rw [hgf, e])
      have hglt := hm.gf_lt hgf
      rw [Below.heap_setCell _ _ _ _ hg1, (unhide HG).block g (by simp; omega) (by simp [Value.ownBlock]; exact hg2), Below.heap_alloc _ _ _ hglt]
    · rcases hgl with e | e
      · rw [e]; exact hm.n3
      · intro e2
        have := hm.gf_lt e2
        omega
  · rcases unhide HL with e | e
    · simp [Value.ownBlock] at e; exact .inl e
    · simp [Value.ownBlock] at e; exact .inr (by omega)
  · exact (((Keeps.refl _ w).alloc _).grown (unhide HG) (fun k e => by simp [Value.ownBlock] at e; left; simp [e])).setCell (.inl (by simp)) _

theorem ints_get {free : List Nat} {j : Nat} (hj : j < free.length) : (ints free)[j]? = some (.int .i64 (free.getD j 0 : Nat)) := by
  simp [ints, List.getElem?_eq_getElem hj]

set_option maxRecDepth 10000 in
set_option maxHeartbeats 1000000 in
theorem freeLink_some (w : World) (hb : Nat) (h : Hd) (gl : Nat) (gf : Option Nat) (ls : List Lnk) (fr : List Nat) (p : Nat) (cl : Nat) (vf : Value) (hm : Mem w hb h gl gf ls (fr ++ [p]) cl vf) (hlen : fr.length ≤ 1000) :
    Calls Tryz.prog 87 #[.pointer (some ⟨hb, 4, none⟩)] w fun e w' => e = .returned (.int .i64 p) ∧
      ∃ vf', Mem w' hb h gl gf ls fr cl vf' ∧ Keeps [hb] w w' := by
  obtain ⟨g, cf, rfl, _, hrow⟩ := Row.of_owns hm.fr (by simp)
  simp only [List.length_append, List.length_singleton] at hm hrow
  obtain ⟨c0, c1, c2, c3, c4, c5, c6⟩ := hm.box.cells
  have f5 := hm.box.frozen 5
  have hcap : fr.length + 1 ≤ cf := by obtain ⟨_, cur, _, h2, _⟩ := hrow; exact h2
  have hmax : cf ≤ maxLen := by obtain ⟨_, cur, _, _, h2, _⟩ := hrow; exact h2
  have hcell : w.cell? ⟨g, fr.length, none⟩ = some (.int .i64 p) := by
    refine Row.cell hrow ?_
    rw [ints_get (by simp)]
    simp
  have HM := hide hm
  have HR := hide hrow
  clear hm hrow c0 c1 c2 c3 c4 c6
  unfold maxLen at hmax
  go_enter Tryz.func87, Tryz.ntmps87
  go_wp2
  go_region
  go_wp2
  go_region
  go_wp2
  go_ret
  have hm := unhide HM
  have hg : g ≠ hb := fun e => hm.n2 (by rw [← hm.own, ← e]; rfl)
  refine ⟨rfl, _, ⟨hm.box.set5 (.slice (some ⟨g, 0, none⟩) fr.length cf), ?_, ?_, ?_, hm.n1, hm.n2, hm.n3⟩, ((Keeps.refl _ w).drew.drew).setCell (.inl (by simp)) _⟩
  · exact Row.setOther (p := ⟨hb, 5, none⟩) hm.links (Ne.symm hm.n1) _
  · have h1 := row_pop (unhide HR)
    have e : (ints (fr ++ [p])).take fr.length = ints fr := by simp [ints]
    rw [e] at h1
    exact (Row.setOther (p := ⟨hb, 5, none⟩) h1 hg _).owns (Nat.zero_le _)
  · exact hm.own
end Chain
end Go.Proofs.YthlcmnjaimffdaaGreatDoor
/-
  The program's list of links: freeLink as one contract, putLast.
-/
namespace Go.Proofs.YthlcmnjaimffdaaGreatDoor
namespace Chain
open Go.RowKit Base Items Keep
set_option linter.unusedVariables false

theorem freeLink_any (w : World) (hb : Nat) (h : Hd) (gl : Nat) (gf : Option Nat) (ls : List Lnk) (free order : List Nat) (cl : Nat) (vf : Value) (hm : Mem w hb h gl gf ls free cl vf) (hG : Good ls free order) (hlen : ls.length ≤ 1000) :
    Calls Tryz.prog 87 #[.pointer (some ⟨hb, 4, none⟩)] w fun e w' => ∃ n ls' free' gl' cl' vf', e = .returned (.int .i64 (n : Nat)) ∧ Mem w' hb h gl' gf ls' free' cl' vf' ∧ Good ls' (n :: free') order ∧
      itemsOf ls' order = itemsOf ls order ∧ (ls'.length ≤ ls.length ∨ ls'.length = order.length + 2) ∧ (gl' = gl ∨ w.heap.size ≤ gl') ∧ Keeps [hb, gl] w w' ∧ (∀ p ∈ order, (lk ls' p).val = (lk ls p).val) := by
  rcases List.eq_nil_or_concat free with rfl | ⟨fr, p, rfl⟩
  · refine (freeLink_none w hb h gl gf ls cl vf hm hlen).mono ?_
    rintro e w' ⟨rfl, gl', cl', hm', hgl, hk⟩
    refine ⟨ls.length, ls ++ [zl], [], gl', cl', vf, rfl, hm', hG.more, items_more hG, .inr (by have := hG.len; simp at this ⊢; omega), hgl, hk, fun p hp => ?_⟩
    rw [lk_push, if_neg]
    have := (hG.inO _ hp).2; omega
  · rw [List.concat_eq_append] at hm hG
    have hl := hG.len
    simp at hl
    refine (freeLink_some w hb h gl gf ls fr p cl vf hm (by omega)).mono ?_
    rintro e w' ⟨rfl, vf', hm', hk⟩
    exact ⟨p, ls, fr, gl, cl, vf', rfl, hm', hG.perm (List.perm_append_comm (l₁ := fr) (l₂ := [p])), rfl, .inl (by omega), .inl rfl, hk.mono (by simp), fun _ _ => rfl⟩

theorem Mem.step {w w' : World} {hb : Nat} {h : Hd} {gl : Nat} {gf : Option Nat} {ls ls' : List Lnk} {free : List Nat} {cl : Nat} {vf : Value} (hm : Mem w hb h gl gf ls free cl vf) (hk : ∀ k, k ≠ gl → w'.heap[k]? = w.heap[k]?)
    (hl : LinksAt w' 105 gl cl ls') (hn : ls'.length = ls.length) : Mem w' hb h gl gf ls' free cl vf :=
  ⟨by rw [hn]; exact hm.box.of_block (hk hb hm.n1), hl, own_blocks hm.fr (fun g hg => hk g (fun e => hm.n3 (by rw [← hm.own, hg, e]))), hm.own, hm.n1, hm.n2, hm.n3⟩
/-- Only block g has turned. -/
structure One (w w' : World) (g : Nat) : Prop where
  os : w'.os = w.os
  tape : w'.tape = w.tape
  output : w'.output = w.output
  size : w.heap.size ≤ w'.heap.size
  block : ∀ k, k ≠ g → w'.heap[k]? = w.heap[k]?
theorem One.refl (w : World) (g : Nat) : One w w g := ⟨rfl, rfl, rfl, Nat.le_refl _, fun _ _ => rfl⟩
theorem One.set {w w' : World} {g : Nat} (h : One w w' g) (o : Nat) (v : Value) : One w (w'.setCell ⟨g, o, none⟩ v) g :=
  ⟨h.os, h.tape, h.output, by simpa [World.setCell] using h.size, fun k hk => (Below.heap_setCell _ _ _ _ hk).trans (h.block k hk)⟩
theorem One.drew {w w' : World} {g : Nat} (h : One w w' g) : One w w'.drew g := ⟨h.os, h.tape, h.output, h.size, h.block⟩
theorem One.keeps {S : List Nat} {a w w' : World} {g : Nat} (h : One w w' g) (hk : Keeps S a w) (hg : g ∈ S ∨ a.heap.size ≤ g) : Keeps S a w' :=
  hk.trans (S' := [g]) ⟨h.os, h.tape, h.output, h.size, fun k _ hn => h.block k (by simpa using hn)⟩ (by simpa using hg)
theorem LinksAt.drew {w : World} {t : TypeId} {g cap : Nat} {ls : List Lnk} (h : LinksAt w t g cap ls) : LinksAt w.drew t g cap ls := h
theorem keep_row {S : List Nat} {a w w' : World} {g : Nat} (h : Keeps S a w) (ho : w'.os = w.os) (ht : w'.tape = w.tape) (hp : w'.output = w.output) (hs : w.heap.size ≤ w'.heap.size) (hk : ∀ k, k ≠ g → w'.heap[k]? = w.heap[k]?) (hg : g ∈ S ∨ a.heap.size ≤ g) : Keeps S a w' :=
  h.trans (S' := [g]) ⟨ho, ht, hp, hs, fun k _ hn => hk k (by simpa using hn)⟩ (by simpa using hg)

set_option maxRecDepth 10000 in
set_option maxHeartbeats 2000000 in
theorem putLast_any (w : World) (hb : Nat) (h : Hd) (gl : Nat) (gf : Option Nat) (ls : List Lnk) (free order : List Nat) (cl : Nat) (vf : Value) (x : Itm) (hm : Mem w hb h gl gf ls free cl vf) (hG : Good ls free order) (hlen : ls.length ≤ 1000) :
    Calls Tryz.prog 70 #[.pointer (some ⟨hb, 4, none⟩), .agg #[.string x.key, .int .i64 x.flags, .string x.data, .int .i64 x.upto, .int .i64 x.token]] w fun e w' => ∃ n ls' free' gl' cl' vf', e = .returned (.int .i64 (n : Nat)) ∧ Mem w' hb h gl' gf ls' free' cl' vf' ∧ Good ls' free' (order ++ [n]) ∧
      itemsOf ls' (order ++ [n]) = itemsOf ls order ++ [x] ∧ (ls'.length ≤ ls.length ∨ ls'.length = order.length + 2) ∧ (gl' = gl ∨ w.heap.size ≤ gl') ∧ Keeps [hb, gl] w w' ∧ (∀ p ∈ order, (lk ls' p).val = (lk ls p).val) ∧ (lk ls' n).val = x ∧ n ∉ order := by
  have HM := hide hm
  have HG := hide hG
  clear hm hG
  go_enter Tryz.func70, Tryz.ntmps70
  go_wp2_with fail
  refine (freeLink_any _ hb h gl gf ls free order cl vf ((unhide HM).keep ((Keeps.refl [] w).alloc _) (by simp) (by simp) (by simp)) (unhide HG) hlen).mono ?_
  rintro e w1 ⟨n, ls1, free1, gl1, cl1, vf1, rfl, hm1, hG1, hit, hl1, hgl, hk, hv⟩
  simp only [World.size_alloc] at hgl
  have hK1 := hide (((Keeps.refl [hb, gl] w).alloc _).trans hk (by simp))
  have hlt0 := last_lt hG1
  obtain ⟨hn0, hnl, hno⟩ := hG1.inF n (by simp)
  have hne : n ≠ (lk ls1 0).ahead := by
    intro e
    rw [← e] at hlt0
    rcases List.mem_cons.1 hlt0.2 with h0 | h1
    · omega
    · exact hno h1
  obtain ⟨c0, c1, c2, c3, c4, c5, c6⟩ := hm1.box.cells
  have a0 := hm1.links.ahead (p := 0) (by omega)
  have hcx := fun o => hk.cell (b := w.heap.size) (o := o) (by simp) (by simp; have h1 := (unhide HM).box.lt; have h2 := Row.lt (unhide HM).links; omega)
  have HM1 := hide hm1
  have HG1 := hide hG1
  have HV := hide hv
  have HIT := hide hit
  have HGL := hide hgl
  clear hm1 hG1 hv hit hk hgl c0 c1 c2 c3 c5 c6
  generalize hlast : (lk ls1 0).ahead = last at a0 hlt0 hne
  have fz := fun j => Row.frozen (unhide HM1).links j
  have hn' : (n : Int) < ls1.length := by omega
  obtain ⟨i0, i1, i2, i3, i4⟩ := (unhide HM1).links.item hnl
  have i5 := (unhide HM1).links.ahead hnl
  have i6 := (unhide HM1).links.behind hnl
  have hglS : gl1 ∈ [hb, gl] ∨ w.heap.size ≤ gl1 := (unhide HGL).elim (fun e => .inl (by simp [e])) (fun e => .inr (by omega))
  go_wp2
  go_region
  have L2 := ((unhide HM1).links.setAll hnl ⟨x, last, 0⟩).drew
  have O2 := ((((((((One.refl w1 gl1).set (n * 7) (.string x.key)).set (n * 7 + 1) (.int .i64 x.flags)).set (n * 7 + 2) (.string x.data)).set (n * 7 + 3) (.int .i64 x.upto)).set (n * 7 + 4) (.int .i64 x.token)).set (n * 7 + 5) (.int .i64 last)).set (n * 7 + 6) (.int .i64 0)).drew
  simp only [Int.natCast_zero] at L2
  generalize ((((((((w1.setCell ⟨gl1, n * 7, none⟩ (.string x.key)).setCell ⟨gl1, n * 7 + 1, none⟩ (.int .i64 x.flags)).setCell ⟨gl1, n * 7 + 2, none⟩ (.string x.data)).setCell ⟨gl1, n * 7 + 3, none⟩ (.int .i64 x.upto)).setCell ⟨gl1, n * 7 + 4, none⟩ (.int .i64 x.token)).setCell ⟨gl1, n * 7 + 5, none⟩ (.int .i64 last)).setCell ⟨gl1, n * 7 + 6, none⟩ (.int .i64 0)).drew) = w2 at L2 O2 ⊢
  have HM2 : Hid (Mem w2 hb h gl1 gf (ls1.set n ⟨x, last, 0⟩) free1 cl1 vf1) := (unhide HM1).step O2.block L2 (by simp)
  have HK2 : Hid (Keeps [hb, gl] w w2) := O2.keeps (unhide hK1) hglS
  clear L2 O2 i0 i1 i2 i3 i4 i5 i6 c4 a0 hcx fz HM1 hK1
  have hl2 : (ls1.set n ⟨x, last, 0⟩).length = ls1.length := by simp
  generalize hls2 : ls1.set n ⟨x, last, 0⟩ = ls2 at HM2 hl2
  obtain ⟨c0, c1, c2, c3, c4, c5, c6⟩ := (unhide HM2).box.cells
  have fz := fun j => Row.frozen (unhide HM2).links j
  have i6 := (unhide HM2).links.behind (p := last) (by omega)
  have hla : (last : Int) < ls1.length := by omega
  have i5 : w2.cell? ⟨gl1, 5, none⟩ = some (.int .i64 (lk ls2 0).ahead) := by
    have := (unhide HM2).links.ahead (p := 0) (by omega)
    rwa [Nat.zero_mul, Nat.zero_add] at this
  rw [hl2] at c4
  clear c0 c1 c2 c3 c5 c6
  go_wp2
  go_ret
  have hm2 := unhide HM2
  have hG := unhide HG1
  have hll : last < ls2.length := by omega
  have L3 := hm2.links.setBehind hll n
  have L4 := L3.setAhead (p := 0) (by simp; omega) n
  rw [Nat.zero_mul, Nat.zero_add] at L4
  have eput : (ls2.set last { lk ls2 last with behind := n }).set 0 { lk (ls2.set last { lk ls2 last with behind := n }) 0 with ahead := n } = putL ls1 n x := by
    unfold putL
    simp only [hlast, hls2]
  rw [eput] at L4
  have O4 := ((One.refl w2 gl1).set (last * 7 + 6) (.int .i64 (n : Int))).set 5 (.int .i64 (n : Int))
  refine ⟨n, putL ls1 n x, free1, gl1, cl1, vf1, rfl, hm2.step O4.block L4 (by rw [putL_len, hl2]), hG.put x, ?_, by rw [putL_len]; exact hl1, ?_, O4.keeps (unhide HK2) hglS, ?_, ?_, hno⟩
  · rw [items_put hG, unhide HIT]
  · exact (unhide HGL).imp id (fun e => by omega)
  · intro p hp
    rw [(putL_at hn0 hnl (by rw [hlast]; omega) (by rw [hlast]; exact hne) p).1, if_neg (show ¬ p = n from fun e => hno (e ▸ hp))]
    exact unhide HV p hp
  · rw [(putL_at hn0 hnl (by rw [hlast]; omega) (by rw [hlast]; exact hne) n).1, if_pos rfl]
end Chain
end Go.Proofs.YthlcmnjaimffdaaGreatDoor
