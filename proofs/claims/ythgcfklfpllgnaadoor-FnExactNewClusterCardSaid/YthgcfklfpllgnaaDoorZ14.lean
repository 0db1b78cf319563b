/-
  The program's copyOfNodes: nodes again, in a row of their own.
-/
import Derived.Test.YthgcfklfpllgnaaDoorZ13
import Derived.Deep.RegionHeld3
import Derived.Deep.AppendLies
import Derived.WalkLawsBesides
import Derived.Outline
import Derived.Test.YthgcfklfpllgnaaDoorZ7
import Derived.Test.YthgcfklfpllgnaaDoorZ9
import Derived.Test.YthgcfklfpllgnaaDoorZ12
namespace Go.Proofs.YthgcfklfpllgnaaDoor
namespace Clus
open Go.RowKit Base Marks Plc OwnR
set_option linter.unusedVariables false

theorem below_drew {B : Nat} {w w1 : World} (h : Below B w.drew w1) : Below B w w1 := ⟨h.os, h.tape, h.output, h.size, h.block⟩
theorem far {w1 w3 : World} {o : Obj} {r : Option Nat} {bx k : Nat} {u : Value} (hg : (w1.alloc o).grownBy w3 r) (hr : r ≠ some bx) (hb : bx < w1.heap.size) (h : w1.cell? ⟨bx, k, none⟩ = some u) : w3.cell? ⟨bx, k, none⟩ = some u :=
  (World.cell?_of_block (a := ⟨bx, k, none⟩) (hg.block bx (by rw [World.size_alloc]; omega) (fun e => hr e.symm))).trans ((World.cell?_of_block (a := ⟨bx, k, none⟩) (Below.heap_alloc w1 o bx hb)).trans h)
theorem info_nd : ∃ i, Tryd.prog.info? 42 = some i ∧ i.zero = some (.agg #[.string ByteArray.empty, .int .i64 0]) ∧ i.size = 2 ∧ i.bytes = 24 := by
  have h : (Tryd.prog.info? 42).map (fun i => (i.zero, i.size, i.bytes)) = some (some (.agg #[.string ByteArray.empty, .int .i64 0]), 2, 24) := by kernel_rfl
  obtain ⟨i, hi, hz⟩ := Option.map_eq_some_iff.1 h
  simp only [Prod.mk.injEq] at hz
  exact ⟨i, hi, hz.1, hz.2.1, hz.2.2⟩
def ncells (x : Nodes.D) : List Value := [.string x.name, .int .i64 x.weight]
theorem nd_one (x : Nodes.D) (u : Value) (hu : u ∈ ncells x) : u.oneCell' = true := by
  simp only [ncells, List.mem_cons, List.not_mem_nil, or_false] at hu
  rcases hu with rfl | rfl <;> rfl
theorem nd_cells (w : World) (x : Nodes.D) (t : TypeId) (j : Nat) (u : Value) (hj : (ncells x)[j]? = some u) : (w.alloc (.cells #[.string x.name, .int .i64 x.weight] t)).cell? ((⟨w.heap.size, 0, none⟩ : Addr).add j) = some u := by
  rw [Go.WideShapes.add_plain, Nat.zero_add, World.cell?_alloc_new]
  show (ncells x).toArray[j]? = some u
  simpa using hj
theorem nflat_snoc {l : List Nodes.D} {k : Nat} (hk : k < l.length) : nflat (l.take (k + 1)) = nflat (l.take k) ++ ncells (l.getD k Nodes.zero) := by
  have e : l.getD k Nodes.zero = l[k] := by simp [hk]
  rw [List.take_succ_eq_append_getElem hk, e]
  unfold nflat
  rw [List.flatMap_append]
  rfl

set_option maxRecDepth 10000 in
set_option maxHeartbeats 2000000 in
theorem copy_some (b off cap : Nat) (l : List Nodes.D) (w : World) (hb : b < w.heap.size) (hc : ∀ i, i < l.length → Nodes.At w b (off + i * 2) (l.getD i Nodes.zero)) (hl : l.length ≤ 1000) (hs : ∀ x ∈ l, x.name.size ≤ 1048576) :
    Calls Tryd.prog 32 #[.slice (some ⟨b, off, none⟩) l.length cap] w fun e w' => ∃ a cap, e = .returned (.slice a l.length cap) ∧ w'.ownsRow w.heap.size 42 2 (.slice a l.length cap) l.length (nflat l) ∧ Below w.heap.size w w' := by
  obtain ⟨i0, hi, hz0, hz1, hz2⟩ := info_nd
  have HI := hide hi
  have HZ0 := hide hz0
  have HZ1 := hide hz1
  have HZ2 := hide hz2
  have HC := hide hc
  have HS := hide hs
  clear hc hs hi hz0 hz1 hz2
  go_enter Tryd.func32, Tryd.ntmps32
  go_wp2_with fail
  go_loopw [3, 8] (fun ov iv wr => ∃ (k : Nat) (oa : Option Addr) (oc : Nat), k ≤ l.length ∧ iv = .int .i64 (k : Int) ∧ ov = .slice oa k oc ∧ Hid (wr.ownsRow w.heap.size 42 2 (.slice oa k oc) k (nflat (l.take k))) ∧ Hid (Below w.heap.size w wr)) (fun _ iv _ => l.length - (intOf iv).toNat)
  case atStart => exact ⟨0, none, 0, Nat.zero_le _, rfl, rfl, hide (World.ownsRow_nil _ _ _ _), hide (Below.refl _ _)⟩
  case round =>
    obtain ⟨k, oa, oc, hk, rfl, rfl, how, hbk⟩ := hrel
    have hzk := (unhide hbk).size
    by_cases hlt : k < l.length
    · obtain ⟨c0, c1⟩ := (unhide HC k hlt).below (unhide hbk) hb
      have HST := hide (nflat_snoc hlt)
      have hsz : (l.getD k Nodes.zero).name.size ≤ 1048576 := unhide HS _ (by rw [List.getD_eq_getElem?_getD, List.getElem?_eq_getElem hlt]; simp)
      generalize l.getD k Nodes.zero = nd at c0 c1 HST hsz
      have HCL := hide (fun w' => CloneS.clone_any nd.name w' hsz)
      go_wp2_with fail
      have d0 : (wr.alloc (.cells #[.string nd.name, .int .i64 nd.weight] 42)).cell? ⟨wr.heap.size, 0, none⟩ = some (.string nd.name) := by rw [World.cell?_alloc_new]; rfl
      have d1 : (wr.alloc (.cells #[.string nd.name, .int .i64 nd.weight] 42)).cell? ⟨wr.heap.size, 1, none⟩ = some (.int .i64 nd.weight) := by rw [World.cell?_alloc_new]; rfl
      have OW := hide ((unhide how).alloc (.cells #[.string nd.name, .int .i64 nd.weight] 42))
      have BW := hide ((unhide hbk).alloc hzk (.cells #[.string nd.name, .int .i64 nd.weight] 42))
      have hbx : wr.heap.size < (wr.alloc (.cells #[.string nd.name, .int .i64 nd.weight] 42)).heap.size := by simp
      have HNE : Hid ((Value.slice oa k oc).ownBlock ≠ some wr.heap.size) := fun e => by have := ((unhide how).lt _ e).2; omega
      generalize wr.alloc (.cells #[.string nd.name, .int .i64 nd.weight] 42) = W at d0 d1 OW BW hbx ⊢
      clear c0 c1 how hbk
      generalize wr.heap.size = bx at d0 d1 hbx hzk HNE ⊢
      have hzW := (unhide BW).size
      go_region_held3 (fun w' => w'.cell? ⟨bx, 0, none⟩ = some (.string nd.name) ∧ w'.cell? ⟨bx, 1, none⟩ = some (.int .i64 nd.weight)) (first | go_keep | (refine ⟨?_, ?_⟩ <;> first | assumption | (simp [*]; done) | (simp; omega))) (first | (go_at_call 33; refine (unhide HCL _).mono ?_; rintro e w1 ⟨rfl, hb1⟩; have q1 := (hb1.cell (p := ⟨bx, 0, none⟩) hbx).trans d0; have q2 := (hb1.cell (p := ⟨bx, 1, none⟩) hbx).trans d1; have hz1 : W.heap.size ≤ w1.heap.size := hb1.size; have HB1 := hide hb1) | (refine step_append_lies _ (by rfl) _ _ _ (by rfl) w.heap.size 42 i0 _ 2 24 Tryd.underlying24 (unhide HI) (unhide HZ0) (unhide HZ1) (unhide HZ2) rfl (by decide) _ _ _ (by rfl) (own_below (own_below (unhide OW) (below_drew (unhide HB1)) (Nat.le_refl _)) (bel1 _ _) (Nat.le_refl _)) ⟨w1.heap.size, 0, none⟩ 1 1 (ncells nd) (by rfl) rfl (nd_cells w1 nd _) (nd_one nd) (by omega) (by unfold maxLen; omega) (by omega) (by rw [World.size_alloc]; omega) (w1.heap.size + 1) (by simp) ?_; intro g cap w3 hown3 hgrow hat hlt3; have q3 := far hgrow (unhide HNE) (by omega) q1; have q4 := far hgrow (unhide HNE) (by omega) q2))
      have HO3 : Hid (w3.ownsRow w.heap.size 42 2 (.slice (some ⟨g, 0, none⟩) (k + 1) cap) (k + 1) (nflat (l.take (k + 1)))) := by rw [unhide HST]; exact hown3
      have HB3 := hide (((((unhide BW).drew).trans ((unhide HB1).mono hzW)).alloc (by omega) _).grown hgrow (by rw [World.size_alloc]; omega) (own_block (unhide OW)))
      clear hown3 hgrow hat q1 q2 q3 q4
      go_wp2
      go_roundw
      case rel => exact ⟨k + 1, some ⟨g, 0, none⟩, cap, by omega, by go_num, rfl, HO3, HB3⟩
      case measure => simp [intOf]; omega
    · obtain rfl : k = l.length := by omega
      rw [List.take_length] at how
      go_wp2
      go_ret
      exact ⟨oa, oc, rfl, unhide how, unhide hbk⟩
set_option maxRecDepth 10000 in
theorem copy_any (a : Option Addr) (cap : Nat) (l : List Nodes.D) (w : World) (h : Nodes.LAt w a l) (hl : l.length ≤ 1000) (hs : ∀ x ∈ l, x.name.size ≤ 1048576) :
    Calls Tryd.prog 32 #[.slice a l.length cap] w fun e w' => ∃ a cap, e = .returned (.slice a l.length cap) ∧ w'.ownsRow w.heap.size 42 2 (.slice a l.length cap) l.length (nflat l) ∧ Below w.heap.size w w' := by
  by_cases hne : l = []
  · subst hne
    go_enter Tryd.func32, Tryd.ntmps32
    go_wp2_with fail
    go_loopw [3, 8] (fun ov iv wr => ov = .slice none 0 0 ∧ iv = .int .i64 0 ∧ Hid (Below w.heap.size w wr)) (fun _ _ _ => 0)
    case atStart => exact ⟨rfl, rfl, hide (Below.refl _ _)⟩
    case round =>
      obtain ⟨rfl, rfl, hbk⟩ := hrel
      go_wp2
      go_ret
      exact ⟨none, 0, rfl, World.ownsRow_nil _ _ _ _, unhide hbk⟩
  · obtain ⟨b, off, rfl, hb, hc⟩ := h hne
    exact copy_some b off cap l w hb hc hl hs
end Clus
end Go.Proofs.YthgcfklfpllgnaaDoor
/-
  The model's l7At: which place has a name.
-/
namespace Go.Proofs.YthgcfklfpllgnaaDoor
namespace Clus
open Go.RowKit Base
set_option linter.unusedVariables false

def isAt (nm : ByteArray) (x : Pls.Pl) : Bool := x.name.toList == nm.toList
def plN (L : List Pls.Pl) (nm : ByteArray) : Option Nat := L.findIdx? (isAt nm)
def plI (L : List Pls.Pl) (nm : ByteArray) : Int := match plN L nm with | some k => k | none => -1
theorem plN_hit {L : List Pls.Pl} {nm : ByteArray} {k : Nat} (hk : k < L.length) (hn : ∀ j, j < k → isAt nm (L.getD j Pls.zeroL) = false) (h : isAt nm (L.getD k Pls.zeroL) = true) : plN L nm = some k := by
  unfold plN
  rw [List.findIdx?_eq_some_iff_getElem]
  refine ⟨hk, ?_, fun j hj => ?_⟩
  · simpa [List.getD_eq_getElem?_getD, List.getElem?_eq_getElem hk] using h
  · have := hn j hj
    rw [List.getD_eq_getElem?_getD, List.getElem?_eq_getElem (show j < L.length by omega)] at this
    simpa using this
theorem plN_none {L : List Pls.Pl} {nm : ByteArray} (hn : ∀ j, j < L.length → isAt nm (L.getD j Pls.zeroL) = false) : plN L nm = none := by
  unfold plN
  rw [List.findIdx?_eq_none_iff]
  intro x hx
  obtain ⟨j, hj, rfl⟩ := List.getElem_of_mem hx
  have := hn j hj
  rw [List.getD_eq_getElem?_getD, List.getElem?_eq_getElem hj] at this
  simpa using this
theorem plN_lt {L : List Pls.Pl} {nm : ByteArray} {k : Nat} (h : plN L nm = some k) : k < L.length := by
  unfold plN at h
  exact (List.findIdx?_eq_some_iff_getElem.1 h).1

end Clus
end Go.Proofs.YthgcfklfpllgnaaDoor
/-
  The model's l7Own: a cluster again, in rows of its own.
-/
namespace Go.Proofs.YthgcfklfpllgnaaDoor
namespace Clus
open Go.RowKit Base OwnR Plc
set_option linter.unusedVariables false

/-- The box of a cluster. -/
def CB (w : World) (X : Nat) (now nx lim lost : Int) (v4 v5 v6 : Value) : Prop := w.heap[X]? = some (.cells #[.int .i64 now, .int .i64 nx, .int .i64 lim, .int .i64 lost, v4, v5, v6] 27 (0, 0))
theorem CB.cells {w : World} {X : Nat} {now nx lim lost : Int} {v4 v5 v6 : Value} (h : CB w X now nx lim lost v4 v5 v6) : w.cell? ⟨X, 0, none⟩ = some (.int .i64 now) ∧ w.cell? ⟨X, 1, none⟩ = some (.int .i64 nx) ∧ w.cell? ⟨X, 2, none⟩ = some (.int .i64 lim) ∧ w.cell? ⟨X, 3, none⟩ = some (.int .i64 lost) ∧ w.cell? ⟨X, 4, none⟩ = some v4 ∧ w.cell? ⟨X, 5, none⟩ = some v5 ∧ w.cell? ⟨X, 6, none⟩ = some v6 ∧ (∀ o, w.frozen? ⟨X, o, none⟩ = false) ∧ X < w.heap.size := by
  have h' : w.heap[X]? = some (.cells #[.int .i64 now, .int .i64 nx, .int .i64 lim, .int .i64 lost, v4, v5, v6] 27 (0, 0)) := h
  have hl : X < w.heap.size := (Array.getElem?_eq_some_iff.1 h').1
  refine ⟨?_, ?_, ?_, ?_, ?_, ?_, ?_, fun o => ?_, hl⟩ <;> simp [World.cell?, World.frozen?, h']
theorem CB.blk {w w' : World} {X : Nat} {now nx lim lost : Int} {v4 v5 v6 : Value} (h : CB w X now nx lim lost v4 v5 v6) (e : w'.heap[X]? = w.heap[X]?) : CB w' X now nx lim lost v4 v5 v6 := e.trans h
theorem CB.below {w w' : World} {X B : Nat} {now nx lim lost : Int} {v4 v5 v6 : Value} (h : CB w X now nx lim lost v4 v5 v6) (hb : Below B w w') (hX : X < B) : CB w' X now nx lim lost v4 v5 v6 := h.blk (hb.block X hX)
theorem CB.set4 {w : World} {X : Nat} {now nx lim lost : Int} {v4 v5 v6 : Value} (h : CB w X now nx lim lost v4 v5 v6) (v : Value) : CB (w.setCell ⟨X, 4, none⟩ v) X now nx lim lost v v5 v6 := by
  have h' : w.heap[X]? = _ := h
  unfold CB; simp [World.setCell, Array.getElem?_modify, h']
theorem CB.set5 {w : World} {X : Nat} {now nx lim lost : Int} {v4 v5 v6 : Value} (h : CB w X now nx lim lost v4 v5 v6) (v : Value) : CB (w.setCell ⟨X, 5, none⟩ v) X now nx lim lost v4 v v6 := by
  have h' : w.heap[X]? = _ := h
  unfold CB; simp [World.setCell, Array.getElem?_modify, h']
theorem CB.set6 {w : World} {X : Nat} {now nx lim lost : Int} {v4 v5 v6 : Value} (h : CB w X now nx lim lost v4 v5 v6) (v : Value) : CB (w.setCell ⟨X, 6, none⟩ v) X now nx lim lost v4 v5 v := by
  have h' : w.heap[X]? = _ := h
  unfold CB; simp [World.setCell, Array.getElem?_modify, h']
theorem CB.other {w : World} {X : Nat} {now nx lim lost : Int} {v4 v5 v6 : Value} (h : CB w X now nx lim lost v4 v5 v6) {p : Addr} (hp : p.block ≠ X) (v : Value) : CB (w.setCell p v) X now nx lim lost v4 v5 v6 := h.blk (Below.heap_setCell w p v X (fun e => hp e.symm))

theorem own_grown {w w' : World} {base : Nat} {e : TypeId} {size : Nat} {v : Value} {n : Nat} {xs : List Value} {r : Option Nat} (h : w.ownsRow base e size v n xs) (hg : w.grownBy w' r) (hne : ∀ k, v.ownBlock = some k → r ≠ some k) : w'.ownsRow base e size v n xs := by
  refine ⟨h.1, h.2.elim Or.inl ?_⟩
  rintro ⟨g, cap, cur, hv, hb, hh, r'⟩
  have hlt : g < w.heap.size := (Array.getElem?_eq_some_iff.1 hh).1
  exact Or.inr ⟨g, cap, cur, hv, hb, by rw [hg.block g hlt (fun e => hne g (by rw [hv]; rfl) e.symm)]; exact hh, r'⟩

theorem inews {w : World} {b : Nat} {t : TypeId} {l : List Items.Itm} (h : w.rowIs b t (l.length * 5) (Items.icell l)) (j : Nat) (u : Value) (hj : (Own.flat l)[j]? = some u) : w.cell? ((⟨b, 0, none⟩ : Addr).add j) = some u := by
  have hlt : j < l.length * 5 := by rw [← Own.flat_length]; exact (List.getElem?_eq_some_iff.1 hj).1
  rw [Own.flat_get l j hlt] at hj
  rw [Go.WideShapes.add_plain, Nat.zero_add, h.cell hlt]
  exact hj

def pcells (x : Pls.Pl) : List Value := [.string x.name, .int .i64 x.lim, .int .i64 x.nx, .slice x.a x.its.length x.cap]
def pflat (L : List Pls.Pl) : List Value := L.flatMap pcells
theorem pflat_append (a b : List Pls.Pl) : pflat (a ++ b) = pflat a ++ pflat b := by simp [pflat]
theorem pflat_single (x : Pls.Pl) : pflat [x] = pcells x := by simp [pflat]
theorem pcells_one (x : Pls.Pl) (u : Value) (hu : u ∈ pcells x) : u.oneCell' = true := by
  simp only [pcells, List.mem_cons, List.not_mem_nil, or_false] at hu
  rcases hu with rfl | rfl | rfl | rfl <;> rfl
theorem pnews (w : World) (x : Pls.Pl) (t : TypeId) (j : Nat) (u : Value) (hj : (pcells x)[j]? = some u) : (w.alloc (.cells #[.string x.name, .int .i64 x.lim, .int .i64 x.nx, .slice x.a x.its.length x.cap] t)).cell? ((⟨w.heap.size, 0, none⟩ : Addr).add j) = some u := by
  rw [Go.WideShapes.add_plain, Nat.zero_add, World.cell?_alloc_new]
  show (pcells x).toArray[j]? = some u
  simpa using hj
theorem info_pl : ∃ i, Tryd.prog.info? 59 = some i ∧ i.zero = some (.agg #[.string ByteArray.empty, .int .i64 0, .int .i64 0, .slice none 0 0]) ∧ i.size = 4 ∧ i.bytes = 56 := by
  have h : (Tryd.prog.info? 59).map (fun i => (i.zero, i.size, i.bytes)) = some (some (.agg #[.string ByteArray.empty, .int .i64 0, .int .i64 0, .slice none 0 0]), 4, 56) := by kernel_rfl
  obtain ⟨i, hi, hz⟩ := Option.map_eq_some_iff.1 h
  simp only [Prod.mk.injEq] at hz
  exact ⟨i, hi, hz.1, hz.2.1, hz.2.2⟩

/-- Places in a row that the call has made itself, the items of each in another. -/
structure PO (w : World) (B : Nat) (a : Option Addr) (n cap : Nat) (L : List Pls.Pl) : Prop where
  len : L.length = n
  row : w.ownsRow B 59 4 (.slice a n cap) n (pflat L)
  its : ∀ x ∈ L, w.ownsRow B 92 5 (.slice x.a x.its.length x.cap) x.its.length (Own.flat x.its)
  far : ∀ x ∈ L, ∀ g, (Value.slice x.a x.its.length x.cap).ownBlock = some g → (Value.slice a n cap).ownBlock ≠ some g
theorem PO.nil (w : World) (B : Nat) : PO w B none 0 0 [] := ⟨rfl, World.ownsRow_nil _ _ _ _, by simp, by simp⟩
theorem PO.below {w w' : World} {B C : Nat} {a : Option Addr} {n cap : Nat} {L : List Pls.Pl} (h : PO w B a n cap L) (hb : Below C w w') (hC : w.heap.size ≤ C) : PO w' B a n cap L :=
  ⟨h.len, own_below h.row hb hC, fun x hx => own_below (h.its x hx) hb hC, h.far⟩
theorem PO.le {w : World} {B C : Nat} {a : Option Addr} {n cap : Nat} {L : List Pls.Pl} (h : PO w B a n cap L) (hC : C ≤ B) : PO w C a n cap L :=
  ⟨h.len, own_le h.row hC, fun x hx => own_le (h.its x hx) hC, h.far⟩
theorem PO.set {w : World} {B : Nat} {a : Option Addr} {n cap : Nat} {L : List Pls.Pl} (h : PO w B a n cap L) {p : Addr} (hp : p.block < B) (v : Value) : PO (w.setCell p v) B a n cap L :=
  ⟨h.len, ownsRow_setCell_below h.row hp v, fun x hx => ownsRow_setCell_below (h.its x hx) hp v, h.far⟩
/-- One place more. -/
theorem PO.snoc {w w' : World} {B : Nat} {a : Option Addr} {n cap g c : Nat} {L : List Pls.Pl} {x : Pls.Pl} (h : PO w B a n cap L) (hx : w.ownsRow B 92 5 (.slice x.a x.its.length x.cap) x.its.length (Own.flat x.its)) (hxf : ∀ k, (Value.slice x.a x.its.length x.cap).ownBlock = some k → (Value.slice a n cap).ownBlock ≠ some k)
    (hrow : w'.ownsRow B 59 4 (.slice (some ⟨g, 0, none⟩) (n + 1) c) (n + 1) (pflat L ++ pcells x)) (hg : w.grownBy w' (Value.slice a n cap).ownBlock) (hat : (Value.slice a n cap).ownBlock = some g ∨ g = w.heap.size) : PO w' B (some ⟨g, 0, none⟩) (n + 1) c (L ++ [x]) := by
  have hall : ∀ y ∈ L ++ [x], w.ownsRow B 92 5 (.slice y.a y.its.length y.cap) y.its.length (Own.flat y.its) ∧ ∀ k, (Value.slice y.a y.its.length y.cap).ownBlock = some k → (Value.slice a n cap).ownBlock ≠ some k := by
    intro y hy
    rcases List.mem_append.1 hy with hy | hy
    · exact ⟨h.its y hy, h.far y hy⟩
    · obtain rfl := List.mem_singleton.1 hy
      exact ⟨hx, hxf⟩
  refine ⟨by rw [List.length_append, h.len]; rfl, by rw [pflat_append, pflat_single]; exact hrow, fun y hy => own_grown (hall y hy).1 hg (hall y hy).2, fun y hy k hk e => ?_⟩
  have e' : g = k := by simpa [Value.ownBlock] using e
  rcases hat with hat | hat
  · exact (hall y hy).2 k hk (by rw [hat, e'])
  · have := ((hall y hy).1.lt _ hk).2
    omega
theorem core_snoc {L M : List Pls.Pl} {k : Nat} {y : Pls.Pl} (hk : k < L.length) (h : M.map Pls.core = (L.take k).map Pls.core) (hy : Pls.core y = Pls.core (L.getD k Pls.zeroL)) : (M ++ [y]).map Pls.core = (L.take (k + 1)).map Pls.core := by
  have e : L.getD k Pls.zeroL = L[k] := by simp [hk]
  rw [List.take_succ_eq_append_getElem hk, List.map_append, List.map_append, h, List.map_cons, List.map_cons, hy, e]

/-- How l7Own ends. -/
def OwnEnd (now nx lim lost : Int) (ns cs : List Nodes.D) (L : List Pls.Pl) (w : World) (e : Ending) (w' : World) : Prop :=
  ∃ a1 c1 a2 c2 a3 c3 M, e = .returned (.agg #[.int .i64 now, .int .i64 nx, .int .i64 lim, .int .i64 lost, .slice a1 ns.length c1, .slice a2 cs.length c2, .slice a3 L.length c3]) ∧ w'.ownsRow w.heap.size 42 2 (.slice a1 ns.length c1) ns.length (nflat ns) ∧ w'.ownsRow w.heap.size 42 2 (.slice a2 cs.length c2) cs.length (nflat cs) ∧ PO w' w.heap.size a3 L.length c3 M ∧ (∀ q, (Value.slice a1 ns.length c1).ownBlock = some q → (Value.slice a3 L.length c3).ownBlock ≠ some q) ∧ (∀ q, (Value.slice a2 cs.length c2).ownBlock = some q → (Value.slice a3 L.length c3).ownBlock ≠ some q) ∧ M.map Pls.core = L.map Pls.core ∧ Below w.heap.size w w'

end Clus
end Go.Proofs.YthgcfklfpllgnaaDoor
