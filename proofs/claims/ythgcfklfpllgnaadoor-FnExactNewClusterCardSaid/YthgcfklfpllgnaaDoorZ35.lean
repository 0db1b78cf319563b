/-
  Boxes of stores and items beside a cluster's rows; a store put into a place. No Go function is spoken of here.
-/
import Derived.Test.YthgcfklfpllgnaaDoorZ30
import Derived.Test.YthgcfklfpllgnaaDoorZ12
import Derived.Test.YthgcfklfpllgnaaDoorZ33
import Derived.Deep.RegionWith
import Derived.Deep.DeepCutAuto
import Derived.Test.YthgcfklfpllgnaaDoorZ15
namespace Go.Proofs.YthgcfklfpllgnaaDoor
namespace Clus
open Go.RowKit Base OwnR Plc Store
set_option linter.unusedVariables false

/-- A store in a box. -/
def SB (w : World) (S : Nat) (lim nx : Int) (v : Value) : Prop := w.heap[S]? = some (.cells #[.int .i64 lim, .int .i64 nx, v] 57 (0, 0))
theorem SB.lt {w : World} {S : Nat} {lim nx : Int} {v : Value} (h : SB w S lim nx v) : S < w.heap.size := (Array.getElem?_eq_some_iff.1 h).1
theorem SB.cells {w : World} {S : Nat} {lim nx : Int} {v : Value} (h : SB w S lim nx v) : w.cell? ⟨S, 0, none⟩ = some (.int .i64 lim) ∧ w.cell? ⟨S, 1, none⟩ = some (.int .i64 nx) ∧ w.cell? ⟨S, 2, none⟩ = some v ∧ (∀ o, w.frozen? ⟨S, o, none⟩ = false) ∧ S < w.heap.size := by
  refine ⟨?_, ?_, ?_, fun o => Lib.frozen_of_heap h o, h.lt⟩ <;> (rw [Lib.cell_of_heap h]; rfl)
theorem SB.blk {w w' : World} {S : Nat} {lim nx : Int} {v : Value} (h : SB w S lim nx v) (e : w'.heap[S]? = w.heap[S]?) : SB w' S lim nx v := e.trans h
theorem SB.below {w w' : World} {S B : Nat} {lim nx : Int} {v : Value} (h : SB w S lim nx v) (hb : Below B w w') (hS : S < B) : SB w' S lim nx v := h.blk (hb.block S hS)
theorem SB.other {w : World} {S : Nat} {lim nx : Int} {v : Value} (h : SB w S lim nx v) {p : Addr} (hp : p.block ≠ S) (u : Value) : SB (w.setCell p u) S lim nx v := h.blk (Below.heap_setCell w p u S (fun e => hp e.symm))
theorem SB.new (u : World) (lim nx : Int) (v : Value) : SB (u.alloc (.cells #[.int .i64 lim, .int .i64 nx, v] 57)) u.heap.size lim nx v := heap_alloc_new u _
theorem SB.set1 {w : World} {S : Nat} {lim nx : Int} {v : Value} (h : SB w S lim nx v) (u : Int) : SB (w.setCell ⟨S, 1, none⟩ (.int .i64 u)) S lim u v := by
  unfold SB at *; simp [World.setCell, Array.getElem?_modify, h]
theorem SB.set2 {w : World} {S : Nat} {lim nx : Int} {v : Value} (h : SB w S lim nx v) (u : Value) : SB (w.setCell ⟨S, 2, none⟩ u) S lim nx u := by
  unfold SB at *; simp [World.setCell, Array.getElem?_modify, h]
/-- An item in a box. -/
def IB (w : World) (I : Nat) (x : Items.Itm) : Prop := w.heap[I]? = some (.cells #[.string x.key, .int .i64 x.flags, .string x.data, .int .i64 x.upto, .int .i64 x.token] 92 (0, 0))
theorem IB.lt {w : World} {I : Nat} {x : Items.Itm} (h : IB w I x) : I < w.heap.size := (Array.getElem?_eq_some_iff.1 h).1
theorem IB.cells {w : World} {I : Nat} {x : Items.Itm} (h : IB w I x) : w.cell? ⟨I, 0, none⟩ = some (.string x.key) ∧ w.cell? ⟨I, 1, none⟩ = some (.int .i64 x.flags) ∧ w.cell? ⟨I, 2, none⟩ = some (.string x.data) ∧ w.cell? ⟨I, 3, none⟩ = some (.int .i64 x.upto) ∧ w.cell? ⟨I, 4, none⟩ = some (.int .i64 x.token) := by
  refine ⟨?_, ?_, ?_, ?_, ?_⟩ <;> (rw [Lib.cell_of_heap h]; rfl)
theorem IB.blk {w w' : World} {I : Nat} {x : Items.Itm} (h : IB w I x) (e : w'.heap[I]? = w.heap[I]?) : IB w' I x := e.trans h
theorem IB.below {w w' : World} {I B : Nat} {x : Items.Itm} (h : IB w I x) (hb : Below B w w') (hI : I < B) : IB w' I x := h.blk (hb.block I hI)
theorem IB.other {w : World} {I : Nat} {x : Items.Itm} (h : IB w I x) {p : Addr} (hp : p.block ≠ I) (u : Value) : IB (w.setCell p u) I x := h.blk (Below.heap_setCell w p u I (fun e => hp e.symm))
theorem IB.new (u : World) (x : Items.Itm) : IB (u.alloc (.cells #[.string x.key, .int .i64 x.flags, .string x.data, .int .i64 x.upto, .int .i64 x.token] 92)) u.heap.size x := heap_alloc_new u _
theorem kind_far {w : World} {Y : Nat} {base : Nat} {e t : TypeId} {size : Nat} {v : Value} {n : Nat} {xs : List Value} {cs : Array Value} (h : w.ownsRow base e size v n xs) (hc : w.heap[Y]? = some (.cells cs t (0, 0))) (he : e ≠ t) : v.ownBlock ≠ some Y := by
  intro hv
  rcases h.2 with ⟨rfl, _⟩ | ⟨q, cap, cur, rfl, _, hh, _⟩
  · simp [Value.ownBlock] at hv
  · have e1 : q = Y := by simpa [Value.ownBlock] using hv
    rw [e1, hc] at hh
    simp only [Option.some.injEq, Obj.cells.injEq] at hh
    exact he hh.2.1.symm
theorem CO.sbox {w : World} {B Y : Nat} {c : Cl} {lim nx : Int} {v : Value} (h : CO w B c) (hc : SB w Y lim nx v) (o : Nat) (u : Value) : CO (w.setCell ⟨Y, o, none⟩ u) B c :=
  ⟨ownsRow_setCell_other h.n (a := ⟨Y, o, none⟩) (kind_far h.n hc (by decide)) u, ownsRow_setCell_other h.m (a := ⟨Y, o, none⟩) (kind_far h.m hc (by decide)) u,
    ⟨h.p.len, ownsRow_setCell_other h.p.row (a := ⟨Y, o, none⟩) (kind_far h.p.row hc (by decide)) u, fun x hx => ownsRow_setCell_other (h.p.its x hx) (a := ⟨Y, o, none⟩) (kind_far (h.p.its x hx) hc (by decide)) u, h.p.far⟩, h.fn, h.fm⟩

theorem pflat_put3 : ∀ (M : List Pls.Pl) (k : Nat) (y : Pls.Pl), k < M.length → y.name = (M.getD k Pls.zeroL).name → (((pflat M).set (k * 4 + 1) (.int .i64 y.lim)).set (k * 4 + 2) (.int .i64 y.nx)).set (k * 4 + 3) (.slice y.a y.its.length y.cap) = pflat (M.set k y)
  | [], k, y, h, _ => by simp at h
  | x :: m, k, y, h, hn => by
    have e : pflat (x :: m) = pcells x ++ pflat m := by simp [pflat]
    have el : (pcells x).length = 4 := rfl
    rw [e]
    cases k with
    | zero =>
      have hn' : y.name = x.name := hn
      simp [pflat, pcells, hn']
    | succ k =>
      rw [List.set_append_right _ _ (by omega), List.set_append_right _ _ (by omega), List.set_append_right _ _ (by omega), el, show (k + 1) * 4 + 1 - 4 = k * 4 + 1 by omega, show (k + 1) * 4 + 2 - 4 = k * 4 + 2 by omega, show (k + 1) * 4 + 3 - 4 = k * 4 + 3 by omega, pflat_put3 m k y (by simpa using h) (by simpa using hn)]
      simp [pflat]
/-- A store put into a place of a row. -/
def put3 (w : World) (g k : Nat) (y : Pls.Pl) : World := ((w.setCell ⟨g, k * 4 + 1, none⟩ (.int .i64 y.lim)).setCell ⟨g, k * 4 + 2, none⟩ (.int .i64 y.nx)).setCell ⟨g, k * 4 + 3, none⟩ (.slice y.a y.its.length y.cap)
theorem own_put3 {w : World} {base : Nat} {e : TypeId} {size : Nat} {v : Value} {n : Nat} {xs : List Value} (h : w.ownsRow base e size v n xs) {g : Nat} (hg : v.ownBlock ≠ some g) (k : Nat) (y : Pls.Pl) : (put3 w g k y).ownsRow base e size v n xs :=
  ownsRow_setCell_other (ownsRow_setCell_other (ownsRow_setCell_other h (a := ⟨g, _, none⟩) hg _) (a := ⟨g, _, none⟩) hg _) (a := ⟨g, _, none⟩) hg _
theorem PO.put3 {w : World} {B g n cap : Nat} {M : List Pls.Pl} (h : PO w B (some ⟨g, 0, none⟩) n cap M) (k : Nat) (hk : k < M.length) (y : Pls.Pl) (hn : y.name = (M.getD k Pls.zeroL).name) (hy : w.ownsRow B 92 5 (.slice y.a y.its.length y.cap) y.its.length (Own.flat y.its)) (hyf : (Value.slice y.a y.its.length y.cap).ownBlock ≠ some g) : PO (Clus.put3 w g k y) B (some ⟨g, 0, none⟩) n cap (M.set k y) := by
  refine ⟨by rw [List.length_set]; exact h.len, ?_, fun z hz => ?_, fun z hz q hq => ?_⟩
  · have := (((h.row.stored (k * 4 + 1) (.int .i64 y.lim)).1.stored (k * 4 + 2) (.int .i64 y.nx)).1.stored (k * 4 + 3) (.slice y.a y.its.length y.cap)).1
    rw [pflat_put3 M k y hk hn] at this
    exact this
  · rcases List.mem_or_eq_of_mem_set hz with hz | rfl
    · exact own_put3 (h.its z hz) (fun e => h.far z hz g e rfl) k y
    · exact own_put3 hy hyf k z
  · rcases List.mem_or_eq_of_mem_set hz with hz | rfl
    · exact h.far z hz q hq
    · intro e
      have e' : g = q := by simpa [Value.ownBlock] using e
      exact hyf (by rw [hq, e'])
theorem CO.put3 {w : World} {B : Nat} {c : Cl} {g : Nat} (h : CO w B c) (hg : c.pa = some ⟨g, 0, none⟩) (k : Nat) (hk : k < c.ps.length) (y : Pls.Pl) (hn : y.name = (c.ps.getD k Pls.zeroL).name) (hy : w.ownsRow B 92 5 (.slice y.a y.its.length y.cap) y.its.length (Own.flat y.its)) (hyf : (Value.slice y.a y.its.length y.cap).ownBlock ≠ some g) : CO (Clus.put3 w g k y) B (withP c k y) := by
  have hp := h.p
  have h1 := h.fn
  have h2 := h.fm
  rw [hg] at hp h1 h2
  have e : (Value.slice (some ⟨g, 0, none⟩) c.ps.length c.pc).ownBlock = some g := rfl
  have el : (c.ps.set k y).length = c.ps.length := List.length_set
  refine ⟨own_put3 h.n (fun h' => h1 g h' e) k y, own_put3 h.m (fun h' => h2 g h' e) k y, ?_, ?_, ?_⟩
  · show PO _ B c.pa (c.ps.set k y).length c.pc _
    rw [el, hg]
    exact hp.put3 k hk y hn hy hyf
  · show ∀ q, (Value.slice c.na c.ns.length c.nc).ownBlock = some q → (Value.slice c.pa (c.ps.set k y).length c.pc).ownBlock ≠ some q
    rw [el, hg]; exact h1
  · show ∀ q, (Value.slice c.ca c.cs.length c.cc).ownBlock = some q → (Value.slice c.pa (c.ps.set k y).length c.pc).ownBlock ≠ some q
    rw [el, hg]; exact h2

/-- A cluster that a call works on: its rows, the call's two boxes, and what lies outside. -/
structure MS (w : World) (B g : Nat) (c : Cl) (u : World) : Prop where
  co : CO u B c
  x : CB u w.heap.size c.now c.nx c.lim c.lost (.slice c.na c.ns.length c.nc) (.slice c.ca c.cs.length c.cc) (.slice c.pa c.ps.length c.pc)
  y : CB u (w.heap.size + 1) 0 0 0 0 (.slice none 0 0) (.slice none 0 0) (.slice none 0 0)
  b : Below B w u
  k : Kp g w u
  z : w.heap.size + 2 ≤ u.heap.size
  pa : c.pa = some ⟨g, 0, none⟩
  gl : g < w.heap.size
  bl : B ≤ w.heap.size
theorem MS.below {w u u' : World} {B g : Nat} {c : Cl} (h : MS w B g c u) (hb : Below u.heap.size u u') : MS w B g c u' := by
  have hz := h.z
  have hs := hb.size
  exact ⟨h.co.below hb (Nat.le_refl _), h.x.below hb (by omega), h.y.below hb (by omega), h.b.trans (hb.mono (by have := h.bl; omega)), h.k.below (by omega) hb, by omega, h.pa, h.gl, h.bl⟩
theorem MS.sto {w u : World} {B g S : Nat} {c : Cl} {lim nx : Int} {v : Value} (h : MS w B g c u) (hs : SB u S lim nx v) (hS : w.heap.size + 2 ≤ S) (o : Nat) (t : Value) : MS w B g c (u.setCell ⟨S, o, none⟩ t) := by
  have hz := h.z
  have hl := h.bl
  exact ⟨h.co.sbox hs o t, h.x.other (p := ⟨S, o, none⟩) (by show S ≠ w.heap.size; omega) t, h.y.other (p := ⟨S, o, none⟩) (by show S ≠ w.heap.size + 1; omega) t, h.b.setCell (p := ⟨S, o, none⟩) (by show B ≤ S; omega) t, h.k.new (by omega) o t, by rw [show (u.setCell ⟨S, o, none⟩ t).heap.size = u.heap.size by simp]; exact hz, h.pa, h.gl, hl⟩
theorem MS.put {w u : World} {B g : Nat} {c : Cl} (h : MS w B g c u) (k : Nat) (hk : k < c.ps.length) (y : Pls.Pl) (hn : y.name = (c.ps.getD k Pls.zeroL).name) (hy : u.ownsRow B 92 5 (.slice y.a y.its.length y.cap) y.its.length (Own.flat y.its)) : MS w B g (withP c k y) (put3 u g k y) := by
  have hz := h.z
  have hl := h.bl
  have hg := h.gl
  have hBg : B ≤ g := by
    have := h.co.p.row
    rw [h.pa] at this
    exact (this.lt g rfl).1
  have hyf : (Value.slice y.a y.its.length y.cap).ownBlock ≠ some g := by
    have hrow := h.co.p.row
    rw [h.pa] at hrow
    rcases hrow.2 with ⟨hv, _⟩ | ⟨q, cap, cur, hv, _, hh, _⟩
    · simp at hv
    · simp only [Value.slice.injEq, Option.some.injEq, Addr.mk.injEq, and_true] at hv
      rw [← hv.1] at hh
      exact kind_far hy hh (by decide)
  have el : (c.ps.set k y).length = c.ps.length := List.length_set
  have hx := h.x
  refine ⟨h.co.put3 h.pa k hk y hn hy hyf, ?_, ?_, ?_, ?_, ?_, h.pa, hg, hl⟩
  · show CB _ _ c.now c.nx c.lim c.lost (.slice c.na c.ns.length c.nc) (.slice c.ca c.cs.length c.cc) (.slice c.pa (c.ps.set k y).length c.pc)
    rw [el]
    exact ((hx.other (p := ⟨g, k * 4 + 1, none⟩) (by show g ≠ w.heap.size; omega) _).other (p := ⟨g, k * 4 + 2, none⟩) (by show g ≠ w.heap.size; omega) _).other (p := ⟨g, k * 4 + 3, none⟩) (by show g ≠ w.heap.size; omega) _
  · exact ((h.y.other (p := ⟨g, k * 4 + 1, none⟩) (by show g ≠ w.heap.size + 1; omega) _).other (p := ⟨g, k * 4 + 2, none⟩) (by show g ≠ w.heap.size + 1; omega) _).other (p := ⟨g, k * 4 + 3, none⟩) (by show g ≠ w.heap.size + 1; omega) _
  · exact ((h.b.setCell (p := ⟨g, k * 4 + 1, none⟩) hBg _).setCell (p := ⟨g, k * 4 + 2, none⟩) hBg _).setCell (p := ⟨g, k * 4 + 3, none⟩) hBg _
  · exact ((h.k.set _ _).set _ _).set _ _
  · unfold put3; simp; exact hz
/-- What lies at a place. -/
theorem MS.pl {w u : World} {B g : Nat} {c : Cl} (h : MS w B g c u) (i : Nat) (hi : i < c.ps.length) : u.cell? ⟨g, i * 4 + 1, none⟩ = some (.int .i64 (c.ps.getD i Pls.zeroL).lim) ∧ u.cell? ⟨g, i * 4 + 2, none⟩ = some (.int .i64 (c.ps.getD i Pls.zeroL).nx) ∧ u.cell? ⟨g, i * 4 + 3, none⟩ = some (.slice (c.ps.getD i Pls.zeroL).a (c.ps.getD i Pls.zeroL).its.length (c.ps.getD i Pls.zeroL).cap) ∧ (∀ o, u.frozen? ⟨g, o, none⟩ = false) ∧ g < u.heap.size := by
  have hp := h.co.p
  rw [h.pa] at hp
  obtain ⟨d0, d1, d2, d3⟩ := hp.pl i hi
  rw [Nat.zero_add] at d1 d2 d3
  exact ⟨d1, d2, d3, fun o => hp.row.frozenAt o, by have := h.gl; have := h.z; omega⟩
theorem SB.put3 {w : World} {S g k : Nat} {lim nx : Int} {v : Value} {y : Pls.Pl} (h : SB w S lim nx v) (hne : g ≠ S) : SB (put3 w g k y) S lim nx v :=
  ((h.other (p := ⟨g, k * 4 + 1, none⟩) hne _).other (p := ⟨g, k * 4 + 2, none⟩) hne _).other (p := ⟨g, k * 4 + 3, none⟩) hne _
theorem IB.put3 {w : World} {I g k : Nat} {x : Items.Itm} {y : Pls.Pl} (h : IB w I x) (hne : g ≠ I) : IB (put3 w g k y) I x :=
  ((h.other (p := ⟨g, k * 4 + 1, none⟩) hne _).other (p := ⟨g, k * 4 + 2, none⟩) hne _).other (p := ⟨g, k * 4 + 3, none⟩) hne _
end Clus
end Go.Proofs.YthgcfklfpllgnaaDoor
/-
  The model's l7Begin: a move's beginning.
-/
namespace Go.Proofs.YthgcfklfpllgnaaDoor
namespace Beg
open Go.RowKit Base OwnR Plc Clus
set_option linter.unusedVariables false

def fresh (lim : Int) (nm : ByteArray) : Pls.Pl := ⟨nm, lim, 1, none, 0, []⟩
theorem fresh_flat (lim : Int) (W : List ByteArray) : pflat (W.map (fresh lim)) = Plc.flat lim W := by
  unfold pflat Plc.flat
  rw [List.flatMap_map]
  rfl
theorem fresh_core (ps : List Pls.Core) (lim : Int) (W : List ByteArray) : (W.map (fresh lim)).map Pls.core = W.map (lookK ps lim 0) := by
  rw [List.map_map]
  apply List.map_congr_left
  intro nm _
  rw [look_zero]
  rfl
/-- The new places in their row. -/
theorem fresh_po {w : World} {B base g n cap : Nat} {lim : Int} {W : List ByteArray} (h : w.ownsRow base 59 4 (.slice (some ⟨g, 0, none⟩) n cap) n (Plc.flat lim W)) (hn : W.length = n) (hB : B ≤ base) : PO w B (some ⟨g, 0, none⟩) n cap (W.map (fresh lim)) := by
  refine ⟨by rw [List.length_map]; exact hn, by rw [fresh_flat]; exact own_le h hB, fun x hx => ?_, fun x hx q hq => ?_⟩
  · obtain ⟨nm, _, rfl⟩ := List.mem_map.1 hx
    exact World.ownsRow_nil _ _ _ _
  · obtain ⟨nm, _, rfl⟩ := List.mem_map.1 hx
    simp [fresh, Value.ownBlock] at hq
theorem PO.put4o {w : World} {B : Nat} {a : Option Addr} {n cap g k : Nat} {M : List Pls.Pl} {y : Pls.Pl} (h : PO w B a n cap M) (hg : (Value.slice a n cap).ownBlock ≠ some g) (hi : ∀ x ∈ M, (Value.slice x.a x.its.length x.cap).ownBlock ≠ some g) : PO (put4 w g k y) B a n cap M :=
  ⟨h.len, own_put4 h.row hg k y, fun x hx => own_put4 (h.its x hx) (hi x hx) k y, h.far⟩
theorem PO.setY {w : World} {B Y : Nat} {a : Option Addr} {n cap : Nat} {M : List Pls.Pl} {n0 n1 n2 n3 : Int} {u4 u5 u6 : Value} (h : PO w B a n cap M) (hc : CB w Y n0 n1 n2 n3 u4 u5 u6) (o : Nat) (v : Value) : PO (w.setCell ⟨Y, o, none⟩ v) B a n cap M :=
  ⟨h.len, ownsRow_setCell_other h.row (a := ⟨Y, o, none⟩) (box_far h.row hc (by decide)) v, fun x hx => ownsRow_setCell_other (h.its x hx) (a := ⟨Y, o, none⟩) (box_far (h.its x hx) hc (by decide)) v, h.far⟩
theorem at_in {s : List Pls.Core} {W : List ByteArray} {z : ByteArray} (hs : s.map (·.name) = W) (hz : z ∈ W) : ∃ j, j < W.length ∧ atC s z = some j ∧ W.getD j ByteArray.empty = z := by
  cases h : atC s z with
  | some j =>
    obtain ⟨h1, h2⟩ := Fleet.at_some h
    rw [hs] at h2
    exact ⟨j, by rw [← hs, List.length_map]; exact h1, rfl, h2⟩
  | none =>
    rw [← hs] at hz
    obtain ⟨c, hc, rfl⟩ := List.mem_map.1 hz
    unfold atC at h
    have := List.findIdx?_eq_none_iff.1 h c hc
    simp at this
theorem names_look (ps : List Pls.Core) (lim : Int) (k : Nat) (W : List ByteArray) : (W.map (lookK ps lim k)).map (·.name) = W := by
  rw [List.map_map]
  have : (fun nm => (lookK ps lim k nm).name) = id := by funext nm; exact look_name ps lim k nm
  show W.map (fun nm => (lookK ps lim k nm).name) = W
  rw [this, List.map_id]
theorem put4_cell {u : World} {g b k o : Nat} {y : Pls.Pl} (hb : b ≠ g) : (put4 u g k y).cell? ⟨b, o, none⟩ = u.cell? ⟨b, o, none⟩ := by
  refine World.cell?_of_block (w := u) (a := ⟨b, o, none⟩) ?_
  unfold put4
  rw [Below.heap_setCell _ _ _ _ (show b ≠ (⟨g, k * 4 + 3, none⟩ : Addr).block from hb), Below.heap_setCell _ _ _ _ (show b ≠ (⟨g, k * 4 + 2, none⟩ : Addr).block from hb), Below.heap_setCell _ _ _ _ (show b ≠ (⟨g, k * 4 + 1, none⟩ : Addr).block from hb), Below.heap_setCell _ _ _ _ (show b ≠ (⟨g, k * 4, none⟩ : Addr).block from hb)]
/-- How l7Begin ends. -/
def BgEnd (now nx lim lost : Int) (a1 : Option Addr) (c1 : Nat) (ns nd : List Nodes.D) (ps : List Pls.Core) (B : Nat) (w : World) (e : Ending) (w' : World) : Prop :=
  ∃ (a2 : Option Addr) (k2 g k3 : Nat) (N : List Pls.Pl), e = .returned (.agg #[.int .i64 now, .int .i64 nx, .int .i64 lim, .int .i64 lost, .slice a1 ns.length c1, .slice a2 nd.length k2, .slice (some ⟨g, 0, none⟩) N.length k3]) ∧
    N.map Pls.core = (insAll (ns.map (·.name) ++ nd.map (·.name))).map (look ps lim) ∧ CO w' B ⟨now, nx, lim, lost, a1, c1, ns, a2, k2, nd, some ⟨g, 0, none⟩, k3, N⟩ ∧ Below B w w' ∧ w.heap.size ≤ w'.heap.size

end Beg
end Go.Proofs.YthgcfklfpllgnaaDoor
/-
  The contract of the law files' heldNodeS: the marks of a row are read again (written by a program of mine).
-/
namespace Go.Proofs.YthgcfklfpllgnaaDoor
namespace NodesM
open Go.RowKit Base NumText Marks
set_option linter.unusedVariables false

set_option maxRecDepth 10000 in
set_option maxHeartbeats 2000000 in
theorem row_held (g cap n : Nat) (k : Int) (w : World) (hr : RowAt w g 42 (n * 2) (mcell k)) (hk0 : 0 < k) (hk1 : k ≤ 1000000000000) (hn : n ≤ 1000000000) :
    Calls Tryd.prog 24 #[.slice (some ⟨g, 0, none⟩) n cap, .int .i64 k] w fun e w' => e = .returned (.int .i64 (k + n * 2)) ∧ Below w.heap.size w w' := by
  have HR := hide hr
  clear hr
  go_enter Tryd.func24, Tryd.ntmps24
  go_wp2
  go_loopw [1, 5] (fun kv iv wr => ∃ (i : Nat) (z : Int), i ≤ n ∧ 0 < z ∧ z ≤ 1000000000000 + n * 2 ∧ iv = .int .i64 i ∧ kv = .int .i64 z ∧ Hid (z = k + i * 2) ∧ Hid (Below w.heap.size w wr)) (fun _ iv _ => n - (intOf iv).toNat)
  case atStart => exact ⟨0, k, Nat.zero_le _, hk0, by omega, rfl, rfl, hide (by simp), hide (Below.refl _ _)⟩
  case round =>
    obtain ⟨i, z, hi, hz0, hz1, rfl, rfl, hz, hbel⟩ := hrel
    by_cases hlt : i < n
    · have hzn : z + 2 ≤ 1000000000000 + n * 2 := by have := unhide hz; omega
      have T0 := hide (fun w => text_any (z) w (by omega) (by omega))
      have hzz := unhide hz
      have row := (unhide HR).below (unhide hbel) (unhide HR).lt
      have c0 : wr.cell? ⟨g, i * 2, none⟩ = some (.string (mtxt (z).toNat)) := by rw [row.cell (by omega), mc0 k (i * 2) (by omega), show k + ((i * 2 : Nat) : Int) = z by omega]
      have c1 : wr.cell? ⟨g, i * 2 + 1, none⟩ = some (.int .i64 (z + 1)) := by rw [row.cell (by omega), mc1 k (i * 2 + 1) (by omega), show k + ((i * 2 + 1 : Nat) : Int) = z + 1 by omega]
      have hglt : g < wr.heap.size := row.lt
      clear row hzz
      go_wp2
      go_region_with (go_at_call 22; refine (unhide T0 _).mono ?_; rintro e w1 ⟨rfl, hb1⟩; have hc1 := fun o => hb1.cell (p := ⟨g, o, none⟩) hglt; have hb1 := hide hb1)
      all_goals
        go_wp2
        go_roundw
        case rel => exact ⟨i + 1, z + 1 + 1, by omega, by omega, by omega, by go_num, rfl, hide (by have := unhide hz; omega), hide ((unhide hbel).drew.trans ((unhide hb1).mono (unhide hbel).size))⟩
        case measure => simp [intOf]; omega
    · obtain rfl : i = n := by omega
      have HZ := hide (unhide hz)
      go_wp2
      go_ret
      exact ⟨ret_int (unhide HZ), unhide hbel⟩

set_option maxHeartbeats 400000 in
theorem held_any (a : Option Addr) (cap n : Nat) (r : Option Nat) (k : Int) (w : World) (hr : Ours w a n (mcell k) r) (hk0 : 0 < k) (hk1 : k ≤ 1000000000000) (hn : n ≤ 1000000000) :
    Calls Tryd.prog 24 #[.slice a n cap, .int .i64 k] w fun e w' => e = .returned (.int .i64 (k + n * 2)) ∧ Below w.heap.size w w' := by
  rcases hr with ⟨h0, hr0⟩ | ⟨g, rfl, rfl, h⟩
  · subst h0 hr0
    go_enter Tryd.func24, Tryd.ntmps24
    go_wp2
    go_loop [1, 5] (fun kv i => i = .int .i64 0 ∧ kv = .int .i64 k) (fun _ _ => 0)
    case atStart => exact ⟨rfl, rfl⟩
    case round =>
      obtain ⟨rfl, rfl⟩ := hrel
      go_wp2
      go_ret
      exact ⟨ret_int (by simp), Below.refl _ _⟩
  · exact row_held g cap n k w h hk0 hk1 hn
end NodesM
end Go.Proofs.YthgcfklfpllgnaaDoor
