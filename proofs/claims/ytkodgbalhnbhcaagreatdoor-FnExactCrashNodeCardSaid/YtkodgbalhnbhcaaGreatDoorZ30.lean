/-
  What a good cluster at work is, plainly. No Go function is spoken of here.
-/
import Derived.Test.YtkodgbalhnbhcaaGreatDoorFleetC
import Derived.Test.YtkodgbalhnbhcaaGreatDoorZ29
import Derived.Test.YtkodgbalhnbhcaaGreatDoorZ12
import Derived.Test.YtkodgbalhnbhcaaGreatDoorRows
import Derived.Laws.AppendOwn
namespace Go.Proofs.YtkodgbalhnbhcaaGreatDoor
namespace Fleet
open Go.RowKit Base Store Items OwnR Keep Clus Marks Plc
set_option linter.unusedVariables false

theorem name_eq (a b : ByteArray) : (a.toList == b.toList) = decide (a = b) := by
  by_cases h : a = b
  · rw [decide_eq_true h]; exact str_eq h
  · rw [decide_eq_false h]; exact str_ne h
theorem kOf_is {nm : List ByteArray} {x : ByteArray} {j : Nat} (hr : Rising (nm.map toL)) (hj : j < nm.length) (hx : nm.getD j ByteArray.empty = x) : kOf x nm = j := by
  have h1 : ¬ j < kOf x nm := fun h => by
    have := kOf_lt h
    rw [hx, less_iff] at this
    exact List.lt_irrefl _ this
  have h2 : ¬ kOf x nm < j := fun h => by
    have h3 := kOf_at (x := x) (L := nm) (by omega)
    have h4 := rise_at hr h hj
    rw [hx] at h4
    rw [(less_iff _ _).2 h4] at h3
    simp at h3
  omega
theorem at_some {ps : List Pls.Core} {x : ByteArray} {j : Nat} (h : atC ps x = some j) : j < ps.length ∧ (ps.map (·.name)).getD j ByteArray.empty = x := by
  unfold atC at h
  obtain ⟨hj, h1, _⟩ := List.findIdx?_eq_some_iff_getElem.1 h
  rw [name_eq, decide_eq_true_eq] at h1
  exact ⟨hj, by simp [List.getD_eq_getElem?_getD, List.getElem?_map, List.getElem?_eq_getElem hj, h1]⟩
/-- What the program's search finds is what the model's finds. -/
theorem at_fnd {ps : List Pls.Core} (hr : Rising ((ps.map (·.name)).map toL)) (x : ByteArray) : (∃ j, j < ps.length ∧ atC ps x = some j ∧ fnd (ps.map (·.name)) x = true ∧ kOf x (ps.map (·.name)) = j) ∨ (atC ps x = none ∧ fnd (ps.map (·.name)) x = false) := by
  cases h : atC ps x with
  | some j =>
    left
    obtain ⟨hj, hx⟩ := at_some h
    have hk := kOf_is hr (by simpa using hj) hx
    refine ⟨j, hj, rfl, ?_, hk⟩
    unfold fnd
    rw [hk, hx]
    simp [hj]
  | none =>
    right
    refine ⟨rfl, ?_⟩
    cases hf : fnd (ps.map (·.name)) x with
    | false => rfl
    | true =>
      unfold fnd at hf
      rw [Bool.and_eq_true, decide_eq_true_eq, decide_eq_true_eq] at hf
      obtain ⟨h1, h2⟩ := hf
      unfold atC at h
      have h3 := List.findIdx?_eq_none_iff.1 h
      have h4 : kOf x (ps.map (·.name)) < ps.length := by simpa using h1
      have h5 := h3 ps[kOf x (ps.map (·.name))] (List.getElem_mem _)
      rw [name_eq, decide_eq_false_iff_not] at h5
      exact absurd (by simpa [List.getD_eq_getElem?_getD, List.getElem?_map, List.getElem?_eq_getElem h4] using h2) h5
theorem gc_rising {C : CC} (h : gcB C = true) : Rising ((C.ps.map (·.name)).map toL) := by
  rw [gc_names h]; exact insAll_rising _
theorem nms_core {f : Fl} {ps : List Pls.Core} (h : f.ps.map pcore = ps) : nms f = ps.map (·.name) := by
  rw [← h]; simp [nms, pcore]
theorem core_at {f : Fl} {ps : List Pls.Core} (h : f.ps.map pcore = ps) {k : Nat} (hk : k < f.ps.length) : pcore (f.ps.getD k zeroP) = ps.getD k Pls.zeroC := by
  rw [← h]; simp [List.getD_eq_getElem?_getD, List.getElem?_map, List.getElem?_eq_getElem hk]
theorem lost_none {l : Int} (hl : l ≤ 1000000) : ∀ {ps : List Pc}, (∀ p ∈ ps, p.lost = 0) → lostTo l ps = l := by
  intro ps
  induction ps with
  | nil => intro _; rfl
  | cons p r ih =>
    intro h
    have e : lostTo l (p :: r) = lostTo (min (l + p.lost) 1000000) r := rfl
    have h0 := h p List.mem_cons_self
    rw [e, h0, show min (l + 0) 1000000 = l by omega]
    exact ih (fun q hq => h q (List.mem_cons_of_mem _ hq))
theorem gc_head' {C : CC} (h : gcB C = true) : 0 ≤ C.lost ∧ C.lost ≤ 1000000 ∧ NodesM.gnB C.ns = true ∧ (C.cs = [] ∨ NodesM.gnB C.cs = true) := by
  rw [gc_eq, Bool.and_eq_true, Bool.and_eq_true] at h
  obtain ⟨-, -, -, h4, h5, h6⟩ := (head_iff C).1 h.1.1
  simp only [GoodKey.inB, Bool.and_eq_true, decide_eq_true_eq] at h4
  exact ⟨by omega, by omega, h5, h6⟩
/-- A place as it should be told. -/
def okP (p : Pls.Core) : Prop := p.name.size ≤ 1048576 ∧ p.its.length ≤ 100
theorem gc_ok {C : CC} {L : List Pls.Pl} (hL : C.ps = L.map Pls.core) (h : gcB C = true) : C.ps.length ≤ 16 ∧ 0 < C.ps.length ∧ ∀ p ∈ C.ps, okP p := by
  obtain ⟨h1, h2⟩ := gc_stores hL h
  have hl : C.ps.length = L.length := by rw [hL]; simp
  have hp := (gc_head' h).2.2.1
  refine ⟨by omega, ?_, ?_⟩
  · obtain ⟨x, hx, -⟩ := own_in hp ByteArray.empty
    obtain ⟨j, hj⟩ := gc_at h (z := x.name) (List.mem_append_left _ (List.mem_map.2 ⟨x, hx, rfl⟩))
    have := (at_some hj).1
    omega
  · intro p hp
    rw [hL] at hp
    obtain ⟨y, hy, rfl⟩ := List.mem_map.1 hp
    obtain ⟨k, hk, rfl⟩ := List.getElem_of_mem hy
    obtain ⟨h3, h4⟩ := h2 k hk
    have e : L.getD k Pls.zeroL = L[k] := by simp [hk]
    rw [e] at h3 h4
    have := (Flush.good_keys h3).1
    exact ⟨by show L[k].name.size ≤ _; omega, by show L[k].its.length ≤ _; omega⟩
theorem fine_of {f : Fl} (h1 : f.ps.length ≤ 16) (h2 : 0 < f.ps.length) (h3 : 0 ≤ f.lost ∧ f.lost ≤ 1000000) (h4 : ∀ p ∈ f.ps, 0 ≤ p.lost ∧ p.lost ≤ 1000000) (h5 : ∀ p ∈ f.ps, okP (pcore p)) : Fine f :=
  ⟨by omega, h2, h3, fun p hp => ⟨(h4 p hp).1, (h4 p hp).2, (h5 p hp).1, (h5 p hp).2⟩⟩
theorem node_small {l : List Nodes.D} (h : NodesM.gnB l = true) : l.length ≤ 1000 ∧ ∀ x ∈ l, x.name.size ≤ 1048576 := by
  refine ⟨by have := Ring.good_len h; omega, fun x hx => ?_⟩
  obtain ⟨k, hk, rfl⟩ := List.getElem_of_mem hx
  have h1 := Ring.node_bd (Ring.good_at h hk)
  have e : l.getD k Nodes.zero = l[k] := by simp [hk]
  rw [e] at h1
  omega
end Fleet
end Go.Proofs.YtkodgbalhnbhcaaGreatDoor
/-
  Rows of numbers, in memory and by append. No Go function is spoken of here.
-/
namespace Go.Proofs.YtkodgbalhnbhcaaGreatDoor
namespace Ints
open Go.RowKit Base OwnR
set_option linter.unusedVariables false
def ncell (l : List Int) (i : Nat) : Value := .int .i64 (l.getD i 0)


/-- A slice of numbers that lies in memory. -/
def NAt (w : World) (a : Option Addr) (l : List Int) : Prop := l ≠ [] → ∃ b off, a = some ⟨b, off, none⟩ ∧ b < w.heap.size ∧ ∀ i, i < l.length → w.cell? ⟨b, off + i, none⟩ = some (.int .i64 (l.getD i 0))
theorem info_ex : ∃ i, Tryz.prog.info? 3 = some i ∧ i.zero = some (.int .i64 0) ∧ i.size = 1 ∧ i.bytes = 8 := by
  have h : (Tryz.prog.info? 3).map (fun i => (i.zero, i.size, i.bytes)) = some (some (.int .i64 0), 1, 8) := by kernel_rfl
  obtain ⟨i, hi, hz⟩ := Option.map_eq_some_iff.1 h
  simp only [Prod.mk.injEq] at hz
  exact ⟨i, hi, hz.1, hz.2.1, hz.2.2⟩
theorem info : (Tryz.prog.info? 3).map (fun i => (i.zero, i.size, i.bytes)) = some (some (.int .i64 0), 1, 8) := by kernel_rfl
def cells (l : List Int) : List Value := l.map (Value.int .i64)
theorem cells_len (l : List Int) : (cells l).length = l.length := by simp [cells]
theorem cells_get (l : List Int) (i : Nat) (hi : i < l.length) : (cells l)[i]? = some (ncell l i) := by
  simp [cells, ncell, List.getD_eq_getElem?_getD, List.getElem?_eq_getElem hi]
theorem own_snoc {w : World} {base : Nat} {v : Value} {kept kept' : List Int} {x : Int} (h : w.ownsRow base 3 1 v (kept.length + 1) (cells kept ++ [.int .i64 x])) (e : kept' = kept ++ [x]) : w.ownsRow base 3 1 v kept'.length (cells kept') := by
  rw [e, List.length_append]
  have : cells (kept ++ [x]) = cells kept ++ [.int .i64 x] := by simp [cells]
  rw [this]
  exact h
theorem news_one (x : Int) (u : Value) (hu : u ∈ [Value.int .i64 x]) : u.oneCell' = true := by
  simp at hu; rw [hu]; rfl
theorem news_cells (w : World) (x : Int) (t : TypeId) (j : Nat) (u : Value) (hj : [Value.int .i64 x][j]? = some u) :
    (w.alloc (.cells #[.int .i64 x] t)).cell? ((⟨w.heap.size, 0, none⟩ : Addr).add j) = some u := by
  rw [Go.WideShapes.add_plain, Nat.zero_add, World.cell?_alloc_new]
  show [Value.int .i64 x].toArray[j]? = some u
  simpa using hj
end Ints
end Go.Proofs.YtkodgbalhnbhcaaGreatDoor
/-
  Rows of texts by append; rows of numbers and texts that a call has made, as slices that lie. No Go function is spoken of here.
-/
namespace Go.Proofs.YtkodgbalhnbhcaaGreatDoor
namespace StrN
open Go.RowKit Base OwnR Marks
set_option linter.unusedVariables false

theorem info_ex : ∃ i, Tryz.prog.info? 9 = some i ∧ i.zero = some (.string ByteArray.empty) ∧ i.size = 1 ∧ i.bytes = 16 := by
  have h : (Tryz.prog.info? 9).map (fun i => (i.zero, i.size, i.bytes)) = some (some (.string ByteArray.empty), 1, 16) := by kernel_rfl
  obtain ⟨i, hi, hz⟩ := Option.map_eq_some_iff.1 h
  simp only [Prod.mk.injEq] at hz
  exact ⟨i, hi, hz.1, hz.2.1, hz.2.2⟩
def cells (l : List ByteArray) : List Value := l.map Value.string
theorem cells_get (l : List ByteArray) (i : Nat) (hi : i < l.length) : (cells l)[i]? = some (.string (l.getD i ByteArray.empty)) := by
  simp [cells, List.getD_eq_getElem?_getD, List.getElem?_eq_getElem hi]
def OwnT (w : World) (B : Nat) (v : Value) (l : List ByteArray) : Prop := w.ownsRow B 9 1 v l.length (cells l)
theorem own_snoc {w : World} {base : Nat} {v : Value} {kept : List ByteArray} {x : ByteArray} (h : w.ownsRow base 9 1 v (kept.length + 1) (cells kept ++ [.string x])) : OwnT w base v (kept ++ [x]) := by
  unfold OwnT
  rw [List.length_append]
  have : cells (kept ++ [x]) = cells kept ++ [.string x] := by simp [cells]
  rw [this]
  exact h
theorem news_one (x : ByteArray) (u : Value) (hu : u ∈ [Value.string x]) : u.oneCell' = true := by
  simp at hu; rw [hu]; rfl
theorem news_cells (w : World) (x : ByteArray) (t : TypeId) (j : Nat) (u : Value) (hj : [Value.string x][j]? = some u) :
    (w.alloc (.cells #[.string x] t)).cell? ((⟨w.heap.size, 0, none⟩ : Addr).add j) = some u := by
  rw [Go.WideShapes.add_plain, Nat.zero_add, World.cell?_alloc_new]
  show [Value.string x].toArray[j]? = some u
  simpa using hj
/-- It stands while only an elder block turns. -/
theorem own_gb {w w' : World} {base : Nat} {e : TypeId} {size : Nat} {v : Value} {n : Nat} {xs : List Value} {c : Nat} (h : w.ownsRow base e size v n xs) (hg : w.grownBy w' (some c)) (hc : c < base) : w'.ownsRow base e size v n xs := by
  refine ⟨h.1, h.2.elim Or.inl ?_⟩
  rintro ⟨g, cap, cur, hv, hgB, hh, rest⟩
  exact Or.inr ⟨g, cap, cur, hv, hgB, by rw [hg.block g (Array.getElem?_eq_some_iff.1 hh).1 (fun e => by simp at e; omega)]; exact hh, rest⟩
theorem gb_own {w0 w w' : World} {c : Nat} {r : Option Nat} (h : w0.grownBy w (some c)) (hg : w.grownBy w' r) (hr : ∀ k, r = some k → w0.heap.size ≤ k) : w0.grownBy w' (some c) :=
  ⟨hg.os.trans h.os, hg.tape.trans h.tape, hg.output.trans h.output, Nat.le_trans h.size hg.size, fun i hi hne => (hg.block i (Nat.lt_of_lt_of_le hi h.size) (fun e => by have := hr i e.symm; omega)).trans (h.block i hi hne)⟩
theorem own_strs {w : World} {B : Nat} {a : Option Addr} {c : Nat} {l : List ByteArray} (h : OwnT w B (.slice a l.length c) l) : StrsAt w a l ∧ ∀ b off, a = some ⟨b, off, none⟩ → b < w.heap.size := by
  rcases h.2 with ⟨hv, h0⟩ | ⟨g, cap', cur, hv, hg, hh, hn, _, hsz, ht⟩
  · simp only [Value.slice.injEq] at hv
    exact ⟨fun hne => absurd (List.length_eq_zero_iff.1 h0) hne, fun b off e => by rw [hv.1] at e; simp at e⟩
  · simp only [Value.slice.injEq] at hv
    have hlt : g < w.heap.size := (Array.getElem?_eq_some_iff.1 hh).1
    refine ⟨fun _ => ⟨g, 0, hv.1, hlt, fun i hi => ?_⟩, fun b off e => by rw [hv.1] at e; simp at e; omega⟩
    rw [Nat.zero_add]
    have e : cur[i]? = (cells l)[i]? := by rw [← ht, List.getElem?_take_of_lt (by omega)]; simp
    simp only [World.cell?, hh, e, cells_get l i hi]
    simp
theorem own_nums {w : World} {B : Nat} {a : Option Addr} {c : Nat} {l : List Int} (h : w.ownsRow B 3 1 (.slice a l.length c) l.length (Ints.cells l)) : Ints.NAt w a l ∧ ∀ b off, a = some ⟨b, off, none⟩ → b < w.heap.size := by
  rcases h.2 with ⟨hv, h0⟩ | ⟨g, cap', cur, hv, hg, hh, hn, _, hsz, ht⟩
  · simp only [Value.slice.injEq] at hv
    exact ⟨fun hne => absurd (List.length_eq_zero_iff.1 h0) hne, fun b off e => by rw [hv.1] at e; simp at e⟩
  · simp only [Value.slice.injEq] at hv
    have hlt : g < w.heap.size := (Array.getElem?_eq_some_iff.1 hh).1
    refine ⟨fun _ => ⟨g, 0, hv.1, hlt, fun i hi => ?_⟩, fun b off e => by rw [hv.1] at e; simp at e; omega⟩
    rw [Nat.zero_add]
    have e : cur[i]? = (Ints.cells l)[i]? := by rw [← ht, List.getElem?_take_of_lt (by omega)]; simp
    simp only [World.cell?, hh, e, Ints.cells_get l i hi]
    simp [Ints.ncell]
end StrN
end Go.Proofs.YtkodgbalhnbhcaaGreatDoor
