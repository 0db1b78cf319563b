/-
  What a step makes of a good cluster at work, plainly. No Go function is spoken of here.
-/
import Derived.Test.YtkodgbalhnbhcaaGreatDoorZ22
import Derived.Test.YtkodgbalhnbhcaaGreatDoorZ21
import Derived.Test.YtkodgbalhnbhcaaGreatDoorFleetN
import Derived.Test.YtkodgbalhnbhcaaGreatDoorZ9
import Derived.Test.YtkodgbalhnbhcaaGreatDoorRows
import Derived.Laws.AppendOwn
namespace Go.Proofs.YtkodgbalhnbhcaaGreatDoor
namespace Fleet
open Go.RowKit Base Store Items OwnR Keep Clus Marks Plc
set_option linter.unusedVariables false

/-- How a function ends that tells a cluster, a number and a yes. -/
def Tells3 (R : CC × Int × Bool) (w : World) (e : Ending) (w' : World) : Prop := ∃ c : Cl, e = .returned (.tuple #[clV c, .int .i64 R.2.1, .bool R.2.2]) ∧ plain c = R.1 ∧ CO w' w.heap.size c ∧ AP c ∧ Below w.heap.size w w'
theorem tells3_no {R : CC × Int × Bool} {w w' : World} (h : R = (noCC, 0, false)) (hb : Below w.heap.size w w') : Tells3 R w (.returned (.tuple #[.agg #[.int .i64 0, .int .i64 0, .int .i64 0, .int .i64 0, .slice none 0 0, .slice none 0 0, .slice none 0 0], .int .i64 0, .bool false])) w' := by
  subst h
  exact ⟨noCl, rfl, rfl, CO.no w' _, ⟨fun q h => by simp [noCl, Value.ownBlock] at h, List.Pairwise.nil⟩, hb⟩
/-- How a function ends that tells a cluster and a yes. -/
def Tells2 (R : CC × Bool) (w : World) (e : Ending) (w' : World) : Prop := ∃ c : Cl, e = .returned (.tuple #[clV c, .bool R.2]) ∧ plain c = R.1 ∧ CO w' w.heap.size c ∧ AP c ∧ Below w.heap.size w w'
/-- What a step leaves where it says yes: a cluster at work that can be told. -/
structure Left (M X : Nat) (R : CC × Int × Bool) (n : Int) (u' : World) : Prop where
  ex : ∃ (f : Fl) (na ca : Option Addr) (nc cc : Nat) (ns cs : List Nodes.D), FleetAt u' M X f ∧ f.v4 = .slice na ns.length nc ∧ f.v5 = .slice ca cs.length cc ∧ Nodes.LAt u' na ns ∧ Nodes.LAt u' ca cs ∧ ns.length ≤ 1000 ∧ cs.length ≤ 1000 ∧ (∀ x ∈ ns, x.name.size ≤ 1048576) ∧ (∀ x ∈ cs, x.name.size ≤ 1048576) ∧ Fine f ∧ R = (⟨f.now, f.nx, f.lim, lostTo f.lost f.ps, ns, cs, f.ps.map pcore⟩, n, true)
/-- How a step ends. -/
def StepTo (M X : Nat) (R : CC × Int × Bool) (u : World) (e : Ending) (u' : World) : Prop :=
  ∃ (n : Int) (ok : Bool), e = .returned (.tuple #[.int .i64 n, .bool ok]) ∧ Kp M X u u' ∧ ((ok = false ∧ R = (noCC, 0, false)) ∨ (ok = true ∧ Left M X R n u'))

end Fleet
end Go.Proofs.YtkodgbalhnbhcaaGreatDoor
/-
  A cluster at work whose box takes other lists; how a step ends that says yes or no.
-/
namespace Go.Proofs.YtkodgbalhnbhcaaGreatDoor
namespace Fleet
open Go.RowKit Base Store Items OwnR Keep Clus Marks Plc
set_option linter.unusedVariables false

theorem FB.set4 {w : World} {X : Nat} {f : Fl} (h : FB w X f) (v : Value) : FB (w.setCell ⟨X, 4, none⟩ v) X { f with v4 := v } := by
  unfold FB rowV at *; simp [World.setCell, Array.getElem?_modify, h]
theorem FB.set5 {w : World} {X : Nat} {f : Fl} (h : FB w X f) (v : Value) : FB (w.setCell ⟨X, 5, none⟩ v) X { f with v5 := v } := by
  unfold FB rowV at *; simp [World.setCell, Array.getElem?_modify, h]
/-- A cluster at work whose box takes other lists. -/
theorem FleetAt.rebox {w w' : World} {M X : Nat} {f f' : Fl} (h : FleetAt w M X f) (hb : FB w' X f') (e1 : f'.ps = f.ps) (e2 : f'.a = f.a) (e3 : f'.cap = f.cap) (hk : Keeps [X] w w') : FleetAt w' M X f' := by
  have hxm := h.xm
  have hrv : rowV f' = rowV f := by unfold rowV; rw [e1, e2, e3]
  refine ⟨hb, ?_, ?_, ?_, ?_, ?_, hxm⟩
  · rw [hrv, e1]
    exact own_blocks h.row (fun g hg => hk.block g (own_lt h.row hg) (by have := (h.row.lt g hg).1; simp; omega))
  · intro p hp
    rw [e1] at hp
    exact (h.pl p hp).keep hk (fun b hb => by have := h.lo p hp b hb; simp; omega)
  · rw [e1]; exact h.lo
  · rw [e1]; exact h.apart
  · rw [hrv, e1]; exact h.far
/-- How such a step ends. -/
def EnEnd (M X : Nat) (R : CC × Bool) (w : World) (e : Ending) (w' : World) : Prop := ∃ ok, e = .returned (.bool ok) ∧ Kp M X w w' ∧ ((ok = false ∧ R = (noCC, false)) ∨ (ok = true ∧ Left M X (R.1, 0, R.2) 0 w'))
end Fleet
end Go.Proofs.YtkodgbalhnbhcaaGreatDoor
/-
  Rows of numbers, in memory and by append. No Go function is spoken of here.
-/
namespace Go.Proofs.YtkodgbalhnbhcaaGreatDoor
namespace Ints
open Go.RowKit Base OwnR
set_option linter.unusedVariables false
def ncell (l : List Int) (i : Nat) : Value := .int .i64 (l.getD i 0)


/-- A slice of numbers that lies in memory. -/
def NAt (w : World) (a : Option Addr) (l : List Int) : Prop := l ≠ [] → ∃ b off, a = some ⟨b, off, none⟩ ∧ b < w.heap.size ∧ ∀ i, i < l.length → w.cell? ⟨b, off + i, none⟩ = some (.int .i64 (l.getD i 0))
theorem info_ex : ∃ i, Tryz.prog.info? 3 = some i ∧ i.zero = some (.int .i64 0) ∧ i.size = 1 ∧ i.bytes = 8 := by
  have h : (Tryz.prog.info? 3).map (fun i => (i.zero, i.size, i.bytes)) = some (some (.int .i64 0), 1, 8) := by kernel_rfl
  obtain ⟨i, hi, hz⟩ := Option.map_eq_some_iff.1 h
  simp only [Prod.mk.injEq] at hz
  exact ⟨i, hi, hz.1, hz.2.1, hz.2.2⟩
theorem info : (Tryz.prog.info? 3).map (fun i => (i.zero, i.size, i.bytes)) = some (some (.int .i64 0), 1, 8) := by kernel_rfl
def cells (l : List Int) : List Value := l.map (Value.int .i64)
theorem cells_len (l : List Int) : (cells l).length = l.length := by simp [cells]
theorem cells_get (l : List Int) (i : Nat) (hi : i < l.length) : (cells l)[i]? = some (ncell l i) := by
  simp [cells, ncell, List.getD_eq_getElem?_getD, List.getElem?_eq_getElem hi]
theorem own_snoc {w : World} {base : Nat} {v : Value} {kept kept' : List Int} {x : Int} (h : w.ownsRow base 3 1 v (kept.length + 1) (cells kept ++ [.int .i64 x])) (e : kept' = kept ++ [x]) : w.ownsRow base 3 1 v kept'.length (cells kept') := by
  rw [e, List.length_append]
  have : cells (kept ++ [x]) = cells kept ++ [.int .i64 x] := by simp [cells]
  rw [this]
  exact h
theorem news_one (x : Int) (u : Value) (hu : u ∈ [Value.int .i64 x]) : u.oneCell' = true := by
  simp at hu; rw [hu]; rfl
theorem news_cells (w : World) (x : Int) (t : TypeId) (j : Nat) (u : Value) (hj : [Value.int .i64 x][j]? = some u) :
    (w.alloc (.cells #[.int .i64 x] t)).cell? ((⟨w.heap.size, 0, none⟩ : Addr).add j) = some u := by
  rw [Go.WideShapes.add_plain, Nat.zero_add, World.cell?_alloc_new]
  show [Value.int .i64 x].toArray[j]? = some u
  simpa using hj
end Ints
end Go.Proofs.YtkodgbalhnbhcaaGreatDoor
/-
  Rows of texts by append; rows of numbers and texts that a call has made, as slices that lie. No Go function is spoken of here.
-/
namespace Go.Proofs.YtkodgbalhnbhcaaGreatDoor
namespace StrN
open Go.RowKit Base OwnR Marks
set_option linter.unusedVariables false

theorem info_ex : ∃ i, Tryz.prog.info? 9 = some i ∧ i.zero = some (.string ByteArray.empty) ∧ i.size = 1 ∧ i.bytes = 16 := by
  have h : (Tryz.prog.info? 9).map (fun i => (i.zero, i.size, i.bytes)) = some (some (.string ByteArray.empty), 1, 16) := by kernel_rfl
  obtain ⟨i, hi, hz⟩ := Option.map_eq_some_iff.1 h
  simp only [Prod.mk.injEq] at hz
  exact ⟨i, hi, hz.1, hz.2.1, hz.2.2⟩
def cells (l : List ByteArray) : List Value := l.map Value.string
theorem cells_get (l : List ByteArray) (i : Nat) (hi : i < l.length) : (cells l)[i]? = some (.string (l.getD i ByteArray.empty)) := by
  simp [cells, List.getD_eq_getElem?_getD, List.getElem?_eq_getElem hi]
def OwnT (w : World) (B : Nat) (v : Value) (l : List ByteArray) : Prop := w.ownsRow B 9 1 v l.length (cells l)
theorem own_snoc {w : World} {base : Nat} {v : Value} {kept : List ByteArray} {x : ByteArray} (h : w.ownsRow base 9 1 v (kept.length + 1) (cells kept ++ [.string x])) : OwnT w base v (kept ++ [x]) := by
  unfold OwnT
  rw [List.length_append]
  have : cells (kept ++ [x]) = cells kept ++ [.string x] := by simp [cells]
  rw [this]
  exact h
theorem news_one (x : ByteArray) (u : Value) (hu : u ∈ [Value.string x]) : u.oneCell' = true := by
  simp at hu; rw [hu]; rfl
theorem news_cells (w : World) (x : ByteArray) (t : TypeId) (j : Nat) (u : Value) (hj : [Value.string x][j]? = some u) :
    (w.alloc (.cells #[.string x] t)).cell? ((⟨w.heap.size, 0, none⟩ : Addr).add j) = some u := by
  rw [Go.WideShapes.add_plain, Nat.zero_add, World.cell?_alloc_new]
  show [Value.string x].toArray[j]? = some u
  simpa using hj
/-- It stands while only an elder block turns. -/
theorem own_gb {w w' : World} {base : Nat} {e : TypeId} {size : Nat} {v : Value} {n : Nat} {xs : List Value} {c : Nat} (h : w.ownsRow base e size v n xs) (hg : w.grownBy w' (some c)) (hc : c < base) : w'.ownsRow base e size v n xs := by
  refine ⟨h.1, h.2.elim Or.inl ?_⟩
  rintro ⟨g, cap, cur, hv, hgB, hh, rest⟩
  exact Or.inr ⟨g, cap, cur, hv, hgB, by rw [hg.block g (Array.getElem?_eq_some_iff.1 hh).1 (fun e => by simp at e; omega)]; exact hh, rest⟩
theorem gb_own {w0 w w' : World} {c : Nat} {r : Option Nat} (h : w0.grownBy w (some c)) (hg : w.grownBy w' r) (hr : ∀ k, r = some k → w0.heap.size ≤ k) : w0.grownBy w' (some c) :=
  ⟨hg.os.trans h.os, hg.tape.trans h.tape, hg.output.trans h.output, Nat.le_trans h.size hg.size, fun i hi hne => (hg.block i (Nat.lt_of_lt_of_le hi h.size) (fun e => by have := hr i e.symm; omega)).trans (h.block i hi hne)⟩
theorem own_strs {w : World} {B : Nat} {a : Option Addr} {c : Nat} {l : List ByteArray} (h : OwnT w B (.slice a l.length c) l) : StrsAt w a l ∧ ∀ b off, a = some ⟨b, off, none⟩ → b < w.heap.size := by
  rcases h.2 with ⟨hv, h0⟩ | ⟨g, cap', cur, hv, hg, hh, hn, _, hsz, ht⟩
  · simp only [Value.slice.injEq] at hv
    exact ⟨fun hne => absurd (List.length_eq_zero_iff.1 h0) hne, fun b off e => by rw [hv.1] at e; simp at e⟩
  · simp only [Value.slice.injEq] at hv
    have hlt : g < w.heap.size := (Array.getElem?_eq_some_iff.1 hh).1
    refine ⟨fun _ => ⟨g, 0, hv.1, hlt, fun i hi => ?_⟩, fun b off e => by rw [hv.1] at e; simp at e; omega⟩
    rw [Nat.zero_add]
    have e : cur[i]? = (cells l)[i]? := by rw [← ht, List.getElem?_take_of_lt (by omega)]; simp
    simp only [World.cell?, hh, e, cells_get l i hi]
    simp
theorem own_nums {w : World} {B : Nat} {a : Option Addr} {c : Nat} {l : List Int} (h : w.ownsRow B 3 1 (.slice a l.length c) l.length (Ints.cells l)) : Ints.NAt w a l ∧ ∀ b off, a = some ⟨b, off, none⟩ → b < w.heap.size := by
  rcases h.2 with ⟨hv, h0⟩ | ⟨g, cap', cur, hv, hg, hh, hn, _, hsz, ht⟩
  · simp only [Value.slice.injEq] at hv
    exact ⟨fun hne => absurd (List.length_eq_zero_iff.1 h0) hne, fun b off e => by rw [hv.1] at e; simp at e⟩
  · simp only [Value.slice.injEq] at hv
    have hlt : g < w.heap.size := (Array.getElem?_eq_some_iff.1 hh).1
    refine ⟨fun _ => ⟨g, 0, hv.1, hlt, fun i hi => ?_⟩, fun b off e => by rw [hv.1] at e; simp at e; omega⟩
    rw [Nat.zero_add]
    have e : cur[i]? = (Ints.cells l)[i]? := by rw [← ht, List.getElem?_take_of_lt (by omega)]; simp
    simp only [World.cell?, hh, e, Ints.cells_get l i hi]
    simp [Ints.ncell]
end StrN
end Go.Proofs.YtkodgbalhnbhcaaGreatDoor
