/-
  One place of the cluster at work takes a step: the others stay. No Go function is spoken of here but by name.
-/
import Derived.Test.YthgcfklfpllgnaaDoorFleetN
import Derived.Test.YthgcfklfpllgnaaDoorZ29
import Derived.Test.YthgcfklfpllgnaaDoorZ24
namespace Go.Proofs.YthgcfklfpllgnaaDoor
namespace Fleet
open Go.RowKit Base Store Items OwnR Keep Clus Marks
set_option linter.unusedVariables false

theorem getD_at {ps : List Pc} {k : Nat} (hk : k < ps.length) : ps.getD k zeroP = ps[k] := by simp [hk]
theorem getD_mem {ps : List Pc} {k : Nat} (hk : k < ps.length) : ps.getD k zeroP ∈ ps := by rw [getD_at hk]; exact List.getElem_mem _
/-- A place with other blocks and another store. -/
def upd (p : Pc) (S : List Nat) (lim nx lost : Int) (its : List Itm) : Pc := ⟨p.name, p.pb, p.hb, S, lim, nx, lost, its⟩
theorem mem_set {ps : List Pc} {k : Nat} {q p' : Pc} (h : q ∈ ps.set k p') : q = p' ∨ ∃ i, ∃ hi : i < ps.length, i ≠ k ∧ q = ps[i] := by
  obtain ⟨i, hi, rfl⟩ := List.getElem_of_mem h
  rw [List.length_set] at hi
  by_cases e : i = k
  · subst e; left; simp
  · right; exact ⟨i, hi, e, by rw [List.getElem_set_ne (Ne.symm e)]⟩
theorem apart_at {ps : List Pc} (h : ps.Pairwise (fun p q => ∀ b ∈ bks p, b ∉ bks q)) {i j : Nat} (hi : i < ps.length) (hj : j < ps.length) (hne : i ≠ j) : ∀ b ∈ bks ps[i], b ∉ bks ps[j] := by
  intro b hb hb2
  rcases Nat.lt_or_gt_of_ne hne with hlt | hgt
  · exact (List.pairwise_iff_getElem.1 h) i j hi hj hlt b hb hb2
  · exact (List.pairwise_iff_getElem.1 h) j i hj hi hgt b hb2 hb
theorem FleetAt.step {w w' : World} {M X : Nat} {f : Fl} (hf : FleetAt w M X f) {k : Nat} (hk : k < f.ps.length) {lim nx lost : Int} {its : List Itm} (hM : M ≤ w.heap.size)
    (hst : _root_.Go.Proofs.YthgcfklfpllgnaaDoor.Shelf.Step w w' (f.ps.getD k zeroP).hb (f.ps.getD k zeroP).S lim nx lost its) :
    ∃ S', FleetAt w' M X { f with ps := f.ps.set k (upd (f.ps.getD k zeroP) S' lim nx lost its) } ∧ Kp M X w w' := by
  obtain ⟨S', hsh, hS', hke⟩ := hst
  have hpm := getD_mem hk
  have hpe := getD_at hk
  have hp := hf.pl _ hpm
  have hlo := hf.lo _ hpm
  have hfar := hf.far _ hpm
  have hlt := hp.lt
  generalize hpp : f.ps.getD k zeroP = p at *
  have hSM : ∀ b ∈ p.S, M ≤ b := fun b hb => hlo b (List.mem_cons_of_mem _ hb)
  have hkp : Kp M X w w' := Kp.of_keeps hke hM hSM
  have hnb : ∀ b ∈ bks (upd p S' lim nx lost its), b ∈ bks p ∨ w.heap.size ≤ b := by
    intro b hb
    rcases List.mem_cons.1 hb with rfl | hb
    · exact .inl List.mem_cons_self
    · rcases hS' b hb with h | h
      · exact .inl (List.mem_cons_of_mem _ h)
      · exact .inr h
  have hrv : rowV { f with ps := f.ps.set k (upd p S' lim nx lost its) } = rowV f := by unfold rowV; simp
  have hptr : (f.ps.set k (upd p S' lim nx lost its)).map ptr = f.ps.map ptr := by
    rw [List.map_set]
    have : ptr (upd p S' lim nx lost its) = (f.ps.map ptr)[k]'(by simpa using hk) := by
      rw [List.getElem_map, ← hpe]; rfl
    rw [this, List.set_getElem_self]
  have hoth : ∀ i (hi : i < f.ps.length), i ≠ k → PcAt w' f.ps[i] := fun i hi hne => (hf.pl _ (List.getElem_mem _)).keep hke (fun b hb hm => apart_at hf.apart hi hk hne b hb (by rw [← hpe]; exact List.mem_cons_of_mem _ hm))
  have hpbS : p.pb ∉ S' := fun hm => by
    rcases hS' _ hm with h | h
    · exact hp.out h
    · have := hlt p.pb List.mem_cons_self; omega
  refine ⟨S', ⟨?_, ?_, ?_, ?_, ?_, ?_, hf.xm⟩, hkp⟩
  · have h1 : FB w' X f := hf.box.of_block (hke.block X hf.box.lt (fun hm => by have := hSM X hm; have := hf.xm; omega))
    unfold FB at h1 ⊢
    rw [hrv]; exact h1
  · rw [hrv]
    show w'.ownsRow M _ 1 (rowV f) (f.ps.set k _).length ((f.ps.set k _).map ptr)
    rw [hptr, List.length_set]
    exact own_blocks hf.row (fun g hg => hke.block g (own_lt hf.row hg) (fun hm => hfar g (List.mem_cons_of_mem _ hm) hg))
  · intro q hq
    rcases mem_set hq with rfl | ⟨i, hi, hne, rfl⟩
    · refine ⟨(hke.block _ (hlt _ List.mem_cons_self) hp.out).trans hp.box, hsh, hpbS⟩
    · exact hoth i hi hne
  · intro q hq b hb
    rcases mem_set hq with rfl | ⟨i, hi, hne, rfl⟩
    · rcases hnb b hb with h | h
      · exact hlo b h
      · omega
    · exact hf.lo _ (List.getElem_mem _) b hb
  · rw [List.pairwise_iff_getElem]
    intro i j hi hj hij b hb hb2
    have hi' : i < f.ps.length := by simpa using hi
    have hj' : j < f.ps.length := by simpa using hj
    have hb1 : b ∈ bks (if k = i then upd p S' lim nx lost its else f.ps[i]) := by rw [List.getElem_set] at hb; exact hb
    have hb3 : b ∈ bks (if k = j then upd p S' lim nx lost its else f.ps[j]) := by rw [List.getElem_set] at hb2; exact hb2
    have hold : ∀ m (hm : m < f.ps.length), b ∈ bks f.ps[m] → b < w.heap.size := fun m hm h => (hf.pl _ (List.getElem_mem _)).lt b h
    by_cases ei : k = i
    · rw [if_pos ei] at hb1
      rw [if_neg (by omega)] at hb3
      rcases hnb b hb1 with h | h
      · exact apart_at hf.apart hk hj' (by omega) b (by rw [← hpe]; exact h) hb3
      · have := hold j hj' hb3; omega
    · rw [if_neg ei] at hb1
      by_cases ej : k = j
      · rw [if_pos ej] at hb3
        rcases hnb b hb3 with h | h
        · exact apart_at hf.apart hi' hk (by omega) b hb1 (by rw [← hpe]; exact h)
        · have := hold i hi' hb1; omega
      · rw [if_neg ej] at hb3
        exact apart_at hf.apart hi' hj' (by omega) b hb1 hb3
  · intro q hq b hb
    rw [hrv]
    rcases mem_set hq with rfl | ⟨i, hi, hne, rfl⟩
    · intro e
      rcases hnb b hb with h | h
      · exact hfar b h e
      · have := own_lt hf.row e; omega
    · exact hf.far _ (List.getElem_mem _) b hb
end Fleet
end Go.Proofs.YthgcfklfpllgnaaDoor
/-
  The program's (*fleet).find.
-/
namespace Go.Proofs.YthgcfklfpllgnaaDoor
namespace Fleet
open Go.RowKit Base Store Items OwnR Keep Clus Marks Plc
set_option linter.unusedVariables false

def nms (f : Fl) : List ByteArray := f.ps.map (·.name)
theorem nms_len (f : Fl) : (nms f).length = f.ps.length := by simp [nms]
theorem nms_at (f : Fl) {k : Nat} (hk : k < f.ps.length) : (nms f).getD k ByteArray.empty = (f.ps.getD k zeroP).name := by simp [nms, List.getD_eq_getElem?_getD, List.getElem?_eq_getElem hk]
/-- Where its row of places lies. -/
theorem FleetAt.head {w : World} {M X : Nat} {f : Fl} (h : FleetAt w M X f) (hpos : 0 < f.ps.length) : ∃ g, rowV f = .slice (some ⟨g, 0, none⟩) f.ps.length f.cap ∧ g < w.heap.size ∧ ∀ u, FleetAt u M X f → ∀ k, k < f.ps.length → u.cell? ⟨g, k, none⟩ = some (.pointer (some ⟨(f.ps.getD k zeroP).pb, 0, none⟩)) := by
  obtain ⟨g, gc, hgv, hgM, hgc, hgl⟩ := own_some h.row hpos
  have ha : f.a = some ⟨g, 0, none⟩ := by unfold rowV at hgv; simp only [Value.slice.injEq] at hgv; exact hgv.1
  have hr : rowV f = .slice (some ⟨g, 0, none⟩) f.ps.length f.cap := by unfold rowV; rw [ha]
  refine ⟨g, hr, hgl, fun u hu k hk => ?_⟩
  have hrow := hu.row
  rw [hr] at hrow
  exact own_cells hrow (by rw [List.getElem?_map, List.getElem?_eq_getElem hk, getD_at hk]; rfl)
theorem FleetAt.pr {w : World} {M X : Nat} {f : Fl} {g : Nat} (h : FleetAt w M X f) (hc : ∀ k, k < f.ps.length → w.cell? ⟨g, k, none⟩ = some (.pointer (some ⟨(f.ps.getD k zeroP).pb, 0, none⟩))) : PrAt w g (nms f) (fun i => (f.ps.getD i zeroP).pb) := by
  intro i hi
  rw [nms_len] at hi
  refine ⟨hc i hi, ?_⟩
  rw [nms_at f hi]
  exact (h.pl _ (getD_mem hi)).box.cells.2

set_option maxRecDepth 10000 in
set_option maxHeartbeats 1000000 in
theorem find_any (M X : Nat) (f : Fl) (key : ByteArray) (w : World) (hf : FleetAt w M X f) (hpos : 0 < f.ps.length) (hl : f.ps.length ≤ 1000) (hs : Rising ((nms f).map toL)) :
    Calls Tryd.prog 41 #[.pointer (some ⟨X, 0, none⟩), .string key] w fun e w' => e = .returned (.tuple #[.int .i64 (kOf key (nms f) : Int), .bool (fnd (nms f) key)]) ∧ Below w.heap.size w w' := by
  obtain ⟨g, hr, hgl, hc⟩ := hf.head hpos
  have HS := hide (search_some g f.cap (nms f) (fun i => (f.ps.getD i zeroP).pb) key w (hf.pr (hc w hf)) (by rw [nms_len]; exact hl) hs)
  rw [nms_len] at HS
  have x8 := hf.box.cells.2.2.2.2.2.2.2.2
  rw [hr] at x8
  generalize f.ps.length = n at HS x8
  generalize kOf key (nms f) = kk at HS ⊢
  generalize fnd (nms f) key = ff at HS ⊢
  clear hf hs hc hr hpos hl
  go_enter Tryd.func41, Tryd.ntmps41
  go_wp2_with fail
  refine (unhide HS).mono ?_
  rintro e w1 ⟨rfl, hb1⟩
  have B1 := hide hb1
  clear hb1
  go_wp2
  go_ret2
  exact ⟨rfl, unhide B1⟩

end Fleet
end Go.Proofs.YthgcfklfpllgnaaDoor
/-
  The model's l7Old: what is old goes, at every place.
-/
namespace Go.Proofs.YthgcfklfpllgnaaDoor
namespace Clus
open Go.RowKit Base OwnR Plc Store
set_option linter.unusedVariables false

theorem pflat_put : ∀ (M : List Pls.Pl) (k : Nat) (y : Pls.Pl), k < M.length → ((((pflat M).set (k * 4) (.string y.name)).set (k * 4 + 1) (.int .i64 y.lim)).set (k * 4 + 2) (.int .i64 y.nx)).set (k * 4 + 3) (.slice y.a y.its.length y.cap) = pflat (M.set k y)
  | [], k, y, h => by simp at h
  | x :: m, k, y, h => by
    have e : pflat (x :: m) = pcells x ++ pflat m := by simp [pflat]
    have el : (pcells x).length = 4 := rfl
    rw [e]
    cases k with
    | zero => simp [pflat, pcells]
    | succ k =>
      rw [List.set_append_right _ _ (by omega), List.set_append_right _ _ (by omega), List.set_append_right _ _ (by omega), List.set_append_right _ _ (by omega), el, show (k + 1) * 4 - 4 = k * 4 by omega, show (k + 1) * 4 + 1 - 4 = k * 4 + 1 by omega, show (k + 1) * 4 + 2 - 4 = k * 4 + 2 by omega, show (k + 1) * 4 + 3 - 4 = k * 4 + 3 by omega, pflat_put m k y (by simpa using h)]
      simp [pflat]
/-- A place stored into a row. -/
def put4 (w : World) (g k : Nat) (y : Pls.Pl) : World := (((w.setCell ⟨g, k * 4, none⟩ (.string y.name)).setCell ⟨g, k * 4 + 1, none⟩ (.int .i64 y.lim)).setCell ⟨g, k * 4 + 2, none⟩ (.int .i64 y.nx)).setCell ⟨g, k * 4 + 3, none⟩ (.slice y.a y.its.length y.cap)
theorem own_put4 {w : World} {base : Nat} {e : TypeId} {size : Nat} {v : Value} {n : Nat} {xs : List Value} (h : w.ownsRow base e size v n xs) {g : Nat} (hg : v.ownBlock ≠ some g) (k : Nat) (y : Pls.Pl) : (put4 w g k y).ownsRow base e size v n xs :=
  ownsRow_setCell_other (ownsRow_setCell_other (ownsRow_setCell_other (ownsRow_setCell_other h (a := ⟨g, _, none⟩) hg _) (a := ⟨g, _, none⟩) hg _) (a := ⟨g, _, none⟩) hg _) (a := ⟨g, _, none⟩) hg _
theorem PO.put {w : World} {B g n cap : Nat} {M : List Pls.Pl} (h : PO w B (some ⟨g, 0, none⟩) n cap M) (k : Nat) (hk : k < M.length) (y : Pls.Pl) (hy : w.ownsRow B 92 5 (.slice y.a y.its.length y.cap) y.its.length (Own.flat y.its)) (hyf : (Value.slice y.a y.its.length y.cap).ownBlock ≠ some g) : PO (put4 w g k y) B (some ⟨g, 0, none⟩) n cap (M.set k y) := by
  refine ⟨by rw [List.length_set]; exact h.len, ?_, fun z hz => ?_, fun z hz q hq => ?_⟩
  · have := ((((h.row.stored (k * 4) (.string y.name)).1.stored (k * 4 + 1) (.int .i64 y.lim)).1.stored (k * 4 + 2) (.int .i64 y.nx)).1.stored (k * 4 + 3) (.slice y.a y.its.length y.cap)).1
    rw [pflat_put M k y hk] at this
    exact this
  · rcases List.mem_or_eq_of_mem_set hz with hz | rfl
    · exact own_put4 (h.its z hz) (fun e => h.far z hz g e rfl) k y
    · exact own_put4 hy hyf k z
  · rcases List.mem_or_eq_of_mem_set hz with hz | rfl
    · exact h.far z hz q hq
    · intro e
      have e' : g = q := by simpa [Value.ownBlock] using e
      exact hyf (by rw [hq, e'])
/-- The cluster with another place k. -/
def withP (c : Cl) (k : Nat) (y : Pls.Pl) : Cl := ⟨c.now, c.nx, c.lim, c.lost, c.na, c.nc, c.ns, c.ca, c.cc, c.cs, c.pa, c.pc, c.ps.set k y⟩
theorem CO.put {w : World} {B : Nat} {c : Cl} {g : Nat} (h : CO w B c) (hg : c.pa = some ⟨g, 0, none⟩) (k : Nat) (hk : k < c.ps.length) (y : Pls.Pl) (hy : w.ownsRow B 92 5 (.slice y.a y.its.length y.cap) y.its.length (Own.flat y.its)) (hyf : (Value.slice y.a y.its.length y.cap).ownBlock ≠ some g) : CO (put4 w g k y) B (withP c k y) := by
  have hp := h.p
  have h1 := h.fn
  have h2 := h.fm
  rw [hg] at hp h1 h2
  have e : (Value.slice (some ⟨g, 0, none⟩) c.ps.length c.pc).ownBlock = some g := rfl
  have el : (c.ps.set k y).length = c.ps.length := List.length_set
  refine ⟨own_put4 h.n (fun h' => h1 g h' e) k y, own_put4 h.m (fun h' => h2 g h' e) k y, ?_, ?_, ?_⟩
  · show PO _ B c.pa (c.ps.set k y).length c.pc _
    rw [el, hg]
    exact hp.put k hk y hy hyf
  · show ∀ q, (Value.slice c.na c.ns.length c.nc).ownBlock = some q → (Value.slice c.pa (c.ps.set k y).length c.pc).ownBlock ≠ some q
    rw [el, hg]; exact h1
  · show ∀ q, (Value.slice c.ca c.cs.length c.cc).ownBlock = some q → (Value.slice c.pa (c.ps.set k y).length c.pc).ownBlock ≠ some q
    rw [el, hg]; exact h2

def dropC (now : Int) (x : Pls.Core) : Pls.Core := ⟨x.name, x.lim, x.nx, Store.keepB x.its now⟩
theorem mix_at {N M : List Pls.Pl} {k : Nat} (hN : N.length = k) (hk : k < M.length) : (N ++ M.drop k).getD k Pls.zeroL = M.getD k Pls.zeroL := by
  simp only [List.getD_eq_getElem?_getD]
  rw [List.getElem?_append_right (by omega), hN, Nat.sub_self, List.getElem?_drop, Nat.add_zero]
theorem mix_set {N M : List Pls.Pl} {k : Nat} (hN : N.length = k) (hk : k < M.length) (y : Pls.Pl) : (N ++ M.drop k).set k y = (N ++ [y]) ++ M.drop (k + 1) := by
  rw [List.set_append_right _ _ (by omega), hN, Nat.sub_self, List.drop_eq_getElem_cons hk, List.set_cons_zero, List.append_assoc]
  rfl
theorem mix_core {N M : List Pls.Pl} {k : Nat} {now : Int} {y : Pls.Pl} (hk : k < M.length) (h : N.map Pls.core = (M.take k).map (fun x => dropC now (Pls.core x))) (hy : Pls.core y = dropC now (Pls.core (M.getD k Pls.zeroL))) : (N ++ [y]).map Pls.core = (M.take (k + 1)).map (fun x => dropC now (Pls.core x)) := by
  have e : M.getD k Pls.zeroL = M[k] := by simp [hk]
  rw [List.take_succ_eq_append_getElem hk, List.map_append, List.map_append, h, List.map_cons, List.map_cons, hy, e]
  rfl

theorem box_far {w : World} {Y : Nat} {n0 n1 n2 n3 : Int} {u4 u5 u6 : Value} {base : Nat} {e : TypeId} {size : Nat} {v : Value} {n : Nat} {xs : List Value} (h : w.ownsRow base e size v n xs) (hc : CB w Y n0 n1 n2 n3 u4 u5 u6) (he : e ≠ 27) : v.ownBlock ≠ some Y := by
  intro hv
  rcases h.2 with ⟨rfl, _⟩ | ⟨q, cap, cur, rfl, _, hh, _⟩
  · simp [Value.ownBlock] at hv
  · have e1 : q = Y := by simpa [Value.ownBlock] using hv
    have hc' : w.heap[Y]? = _ := hc
    rw [e1, hc'] at hh
    simp only [Option.some.injEq, Obj.cells.injEq] at hh
    exact he hh.2.1.symm
theorem CO.box {w : World} {B Y : Nat} {c : Cl} {n0 n1 n2 n3 : Int} {u4 u5 u6 : Value} (h : CO w B c) (hc : CB w Y n0 n1 n2 n3 u4 u5 u6) (o : Nat) (v : Value) : CO (w.setCell ⟨Y, o, none⟩ v) B c :=
  ⟨ownsRow_setCell_other h.n (a := ⟨Y, o, none⟩) (box_far h.n hc (by decide)) v, ownsRow_setCell_other h.m (a := ⟨Y, o, none⟩) (box_far h.m hc (by decide)) v,
    ⟨h.p.len, ownsRow_setCell_other h.p.row (a := ⟨Y, o, none⟩) (box_far h.p.row hc (by decide)) v, fun x hx => ownsRow_setCell_other (h.p.its x hx) (a := ⟨Y, o, none⟩) (box_far (h.p.its x hx) hc (by decide)) v, h.p.far⟩, h.fn, h.fm⟩
theorem CO.box7 {w : World} {B Y : Nat} {c : Cl} {n0 n1 n2 n3 : Int} {u4 u5 u6 : Value} (h : CO w B c) (hc : CB w Y n0 n1 n2 n3 u4 u5 u6) (now nx lim lost : Int) (v4 v5 v6 : Value) : CO (Clus.st7 w Y now nx lim lost v4 v5 v6) B c := by
  have k0 := h.box hc 0 (.int .i64 now)
  have d0 := hc.set0 now
  have k1 := k0.box d0 1 (.int .i64 nx)
  have d1 := d0.set1 nx
  have k2 := k1.box d1 2 (.int .i64 lim)
  have d2 := d1.set2 lim
  have k3 := k2.box d2 3 (.int .i64 lost)
  have d3 := d2.set3 lost
  have k4 := k3.box d3 4 v4
  have d4 := d3.set4 v4
  have k5 := k4.box d4 5 v5
  exact k5.box (d4.set5 v5) 6 v6
/-- All that lay there is as it was, but for one block. -/
def Kp (g : Nat) (w w' : World) : Prop := ∀ q, q < w.heap.size → q ≠ g → w'.heap[q]? = w.heap[q]?
theorem Kp.of {g : Nat} {w w' : World} (h : Below w.heap.size w w') : Kp g w w' := fun q hq _ => h.block q hq
theorem Kp.below {g : Nat} {w w1 w2 : World} (h : Kp g w w1) (hz : w.heap.size ≤ w1.heap.size) (hb : Below w1.heap.size w1 w2) : Kp g w w2 := fun q hq hne => (hb.block q (by omega)).trans (h q hq hne)
theorem Kp.set {g : Nat} {w w1 : World} (h : Kp g w w1) (o : Nat) (v : Value) : Kp g w (w1.setCell ⟨g, o, none⟩ v) := fun q hq hne => (Below.heap_setCell w1 ⟨g, o, none⟩ v q hne).trans (h q hq hne)
theorem Kp.new {g Y : Nat} {w w1 : World} (h : Kp g w w1) (hY : w.heap.size ≤ Y) (o : Nat) (v : Value) : Kp g w (w1.setCell ⟨Y, o, none⟩ v) := fun q hq hne => (Below.heap_setCell w1 ⟨Y, o, none⟩ v q (by show q ≠ Y; omega)).trans (h q hq hne)
/-- How l7Old ends. -/
def OldEnd (c : Cl) (g : Nat) (w : World) (B : Nat) (e : Ending) (w' : World) : Prop :=
  ∃ N : List Pls.Pl, N.length = c.ps.length ∧ e = .returned (.agg #[.int .i64 c.now, .int .i64 c.nx, .int .i64 c.lim, .int .i64 c.lost, .slice c.na c.ns.length c.nc, .slice c.ca c.cs.length c.cc, .slice c.pa c.ps.length c.pc]) ∧ N.map Pls.core = c.ps.map (fun x => dropC c.now (Pls.core x)) ∧ CO w' B ⟨c.now, c.nx, c.lim, c.lost, c.na, c.nc, c.ns, c.ca, c.cc, c.cs, c.pa, c.pc, N⟩ ∧ Below B w w' ∧ w.heap.size ≤ w'.heap.size ∧ Kp g w w'

end Clus
end Go.Proofs.YthgcfklfpllgnaaDoor
