/-
  One place of the cluster at work takes a step: the others stay. No Go function is spoken of here but by name.
-/
import Derived.Test.YtkodgbalhnbhcaaGreatDoorFleetN
import Derived.Test.YtkodgbalhnbhcaaGreatDoorZ12
import Derived.Test.YtkodgbalhnbhcaaGreatDoorZ21
import Derived.Test.YtkodgbalhnbhcaaGreatDoorFleetC
namespace Go.Proofs.YtkodgbalhnbhcaaGreatDoor
namespace Fleet
open Go.RowKit Base Store Items OwnR Keep Clus Marks
set_option linter.unusedVariables false

theorem getD_at {ps : List Pc} {k : Nat} (hk : k < ps.length) : ps.getD k zeroP = ps[k] := by simp [hk]
theorem getD_mem {ps : List Pc} {k : Nat} (hk : k < ps.length) : ps.getD k zeroP ∈ ps := by rw [getD_at hk]; exact List.getElem_mem _
/-- A place with other blocks and another store. -/
def upd (p : Pc) (S : List Nat) (lim nx lost : Int) (its : List Itm) : Pc := ⟨p.name, p.pb, p.hb, S, lim, nx, lost, its⟩
theorem mem_set {ps : List Pc} {k : Nat} {q p' : Pc} (h : q ∈ ps.set k p') : q = p' ∨ ∃ i, ∃ hi : i < ps.length, i ≠ k ∧ q = ps[i] := by
  obtain ⟨i, hi, rfl⟩ := List.getElem_of_mem h
  rw [List.length_set] at hi
  by_cases e : i = k
  · subst e; left; simp
  · right; exact ⟨i, hi, e, by rw [List.getElem_set_ne (Ne.symm e)]⟩
theorem apart_at {ps : List Pc} (h : ps.Pairwise (fun p q => ∀ b ∈ bks p, b ∉ bks q)) {i j : Nat} (hi : i < ps.length) (hj : j < ps.length) (hne : i ≠ j) : ∀ b ∈ bks ps[i], b ∉ bks ps[j] := by
  intro b hb hb2
  rcases Nat.lt_or_gt_of_ne hne with hlt | hgt
  · exact (List.pairwise_iff_getElem.1 h) i j hi hj hlt b hb hb2
  · exact (List.pairwise_iff_getElem.1 h) j i hj hi hgt b hb2 hb
theorem FleetAt.step {w w' : World} {M X : Nat} {f : Fl} (hf : FleetAt w M X f) {k : Nat} (hk : k < f.ps.length) {lim nx lost : Int} {its : List Itm} (hM : M ≤ w.heap.size)
    (hst : _root_.Go.Proofs.YtkodgbalhnbhcaaGreatDoor.Shelf.Step w w' (f.ps.getD k zeroP).hb (f.ps.getD k zeroP).S lim nx lost its) :
    ∃ S', FleetAt w' M X { f with ps := f.ps.set k (upd (f.ps.getD k zeroP) S' lim nx lost its) } ∧ Kp M X w w' := by
  obtain ⟨S', hsh, hS', hke⟩ := hst
  have hpm := getD_mem hk
  have hpe := getD_at hk
  have hp := hf.pl _ hpm
  have hlo := hf.lo _ hpm
  have hfar := hf.far _ hpm
  have hlt := hp.lt
  generalize hpp : f.ps.getD k zeroP = p at *
  have hSM : ∀ b ∈ p.S, M ≤ b := fun b hb => hlo b (List.mem_cons_of_mem _ hb)
  have hkp : Kp M X w w' := Kp.of_keeps hke hM hSM
  have hnb : ∀ b ∈ bks (upd p S' lim nx lost its), b ∈ bks p ∨ w.heap.size ≤ b := by
    intro b hb
    rcases List.mem_cons.1 hb with rfl | hb
    · exact .inl List.mem_cons_self
    · rcases hS' b hb with h | h
      · exact .inl (List.mem_cons_of_mem _ h)
      · exact .inr h
  have hrv : rowV { f with ps := f.ps.set k (upd p S' lim nx lost its) } = rowV f := by unfold rowV; simp
  have hptr : (f.ps.set k (upd p S' lim nx lost its)).map ptr = f.ps.map ptr := by
    rw [List.map_set]
    have : ptr (upd p S' lim nx lost its) = (f.ps.map ptr)[k]'(by simpa using hk) := by
      rw [List.getElem_map, ← hpe]; rfl
    rw [this, List.set_getElem_self]
  have hoth : ∀ i (hi : i < f.ps.length), i ≠ k → PcAt w' f.ps[i] := fun i hi hne => (hf.pl _ (List.getElem_mem _)).keep hke (fun b hb hm => apart_at hf.apart hi hk hne b hb (by rw [← hpe]; exact List.mem_cons_of_mem _ hm))
  have hpbS : p.pb ∉ S' := fun hm => by
    rcases hS' _ hm with h | h
    · exact hp.out h
    · have := hlt p.pb List.mem_cons_self; omega
  refine ⟨S', ⟨?_, ?_, ?_, ?_, ?_, ?_, hf.xm⟩, hkp⟩
  · have h1 : FB w' X f := hf.box.of_block (hke.block X hf.box.lt (fun hm => by have := hSM X hm; have := hf.xm; omega))
    unfold FB at h1 ⊢
    rw [hrv]; exact h1
  · rw [hrv]
    show w'.ownsRow M _ 1 (rowV f) (f.ps.set k _).length ((f.ps.set k _).map ptr)
    rw [hptr, List.length_set]
    exact own_blocks hf.row (fun g hg => hke.block g (own_lt hf.row hg) (fun hm => hfar g (List.mem_cons_of_mem _ hm) hg))
  · intro q hq
    rcases mem_set hq with rfl | ⟨i, hi, hne, rfl⟩
    · refine ⟨(hke.block _ (hlt _ List.mem_cons_self) hp.out).trans hp.box, hsh, hpbS⟩
    · exact hoth i hi hne
  · intro q hq b hb
    rcases mem_set hq with rfl | ⟨i, hi, hne, rfl⟩
    · rcases hnb b hb with h | h
      · exact hlo b h
      · omega
    · exact hf.lo _ (List.getElem_mem _) b hb
  · rw [List.pairwise_iff_getElem]
    intro i j hi hj hij b hb hb2
    have hi' : i < f.ps.length := by simpa using hi
    have hj' : j < f.ps.length := by simpa using hj
    have hb1 : b ∈ bks (if k = i then upd p S' lim nx lost its else f.ps[i]) := by rw [List.getElem_set] at hb; exact hb
    have hb3 : b ∈ bks (if k = j then upd p S' lim nx lost its else f.ps[j]) := by rw [List.getElem_set] at hb2; exact hb2
    have hold : ∀ m (hm : m < f.ps.length), b ∈ bks f.ps[m] → b < w.heap.size := fun m hm h => (hf.pl _ (List.getElem_mem _)).lt b h
    by_cases ei : k = i
    · rw [if_pos ei] at hb1
      rw [if_neg (by omega)] at hb3
      rcases hnb b hb1 with h | h
      · exact apart_at hf.apart hk hj' (by omega) b (by rw [← hpe]; exact h) hb3
      · have := hold j hj' hb3; omega
    · rw [if_neg ei] at hb1
      by_cases ej : k = j
      · rw [if_pos ej] at hb3
        rcases hnb b hb3 with h | h
        · exact apart_at hf.apart hi' hk (by omega) b hb1 (by rw [← hpe]; exact h)
        · have := hold i hi' hb1; omega
      · rw [if_neg ej] at hb3
        exact apart_at hf.apart hi' hj' (by omega) b hb1 hb3
  · intro q hq b hb
    rw [hrv]
    rcases mem_set hq with rfl | ⟨i, hi, hne, rfl⟩
    · intro e
      rcases hnb b hb with h | h
      · exact hfar b h e
      · have := own_lt hf.row e; omega
    · exact hf.far _ (List.getElem_mem _) b hb
end Fleet
end Go.Proofs.YtkodgbalhnbhcaaGreatDoor
/-
  The program's (*fleet).find.
-/
namespace Go.Proofs.YtkodgbalhnbhcaaGreatDoor
namespace Fleet
open Go.RowKit Base Store Items OwnR Keep Clus Marks Plc
set_option linter.unusedVariables false

def nms (f : Fl) : List ByteArray := f.ps.map (·.name)
theorem nms_len (f : Fl) : (nms f).length = f.ps.length := by simp [nms]
theorem nms_at (f : Fl) {k : Nat} (hk : k < f.ps.length) : (nms f).getD k ByteArray.empty = (f.ps.getD k zeroP).name := by simp [nms, List.getD_eq_getElem?_getD, List.getElem?_eq_getElem hk]
/-- Where its row of places lies. -/
theorem FleetAt.head {w : World} {M X : Nat} {f : Fl} (h : FleetAt w M X f) (hpos : 0 < f.ps.length) : ∃ g, rowV f = .slice (some ⟨g, 0, none⟩) f.ps.length f.cap ∧ g < w.heap.size ∧ ∀ u, FleetAt u M X f → ∀ k, k < f.ps.length → u.cell? ⟨g, k, none⟩ = some (.pointer (some ⟨(f.ps.getD k zeroP).pb, 0, none⟩)) := by
  obtain ⟨g, gc, hgv, hgM, hgc, hgl⟩ := own_some h.row hpos
  have ha : f.a = some ⟨g, 0, none⟩ := by unfold rowV at hgv; simp only [Value.slice.injEq] at hgv; exact hgv.1
  have hr : rowV f = .slice (some ⟨g, 0, none⟩) f.ps.length f.cap := by unfold rowV; rw [ha]
  refine ⟨g, hr, hgl, fun u hu k hk => ?_⟩
  have hrow := hu.row
  rw [hr] at hrow
  exact own_cells hrow (by rw [List.getElem?_map, List.getElem?_eq_getElem hk, getD_at hk]; rfl)
theorem FleetAt.pr {w : World} {M X : Nat} {f : Fl} {g : Nat} (h : FleetAt w M X f) (hc : ∀ k, k < f.ps.length → w.cell? ⟨g, k, none⟩ = some (.pointer (some ⟨(f.ps.getD k zeroP).pb, 0, none⟩))) : PrAt w g (nms f) (fun i => (f.ps.getD i zeroP).pb) := by
  intro i hi
  rw [nms_len] at hi
  refine ⟨hc i hi, ?_⟩
  rw [nms_at f hi]
  exact (h.pl _ (getD_mem hi)).box.cells.2

set_option maxRecDepth 10000 in
set_option maxHeartbeats 1000000 in
theorem find_any (M X : Nat) (f : Fl) (key : ByteArray) (w : World) (hf : FleetAt w M X f) (hpos : 0 < f.ps.length) (hl : f.ps.length ≤ 1000) (hs : Rising ((nms f).map toL)) :
    Calls Tryz.prog 79 #[.pointer (some ⟨X, 0, none⟩), .string key] w fun e w' => e = .returned (.tuple #[.int .i64 (kOf key (nms f) : Int), .bool (fnd (nms f) key)]) ∧ Below w.heap.size w w' := by
  obtain ⟨g, hr, hgl, hc⟩ := hf.head hpos
  have HS := hide (search_some g f.cap (nms f) (fun i => (f.ps.getD i zeroP).pb) key w (hf.pr (hc w hf)) (by rw [nms_len]; exact hl) hs)
  rw [nms_len] at HS
  have x8 := hf.box.cells.2.2.2.2.2.2.2.2
  rw [hr] at x8
  generalize f.ps.length = n at HS x8
  generalize kOf key (nms f) = kk at HS ⊢
  generalize fnd (nms f) key = ff at HS ⊢
  clear hf hs hc hr hpos hl
  go_enter Tryz.func79, Tryz.ntmps79
  go_wp2_with fail
  refine (unhide HS).mono ?_
  rintro e w1 ⟨rfl, hb1⟩
  have B1 := hide hb1
  clear hb1
  go_wp2
  go_ret2
  exact ⟨rfl, unhide B1⟩

end Fleet
end Go.Proofs.YtkodgbalhnbhcaaGreatDoor
/-
  In a good cluster the owner of every key has a place. No Go function is spoken of here.
-/
namespace Go.Proofs.YtkodgbalhnbhcaaGreatDoor
namespace Clus
open Go.RowKit Base Plc
set_option linter.unusedVariables false

theorem owner_of {l : List Points.D} {h : Int} (hl : l ≠ []) : ∃ p ∈ l, Ring.ownerN (Ring.ring l) h = p.name := by
  have hp := Ring.ring_perm l
  unfold Ring.ownerN
  cases e : (Ring.ring l).find? (fun p => decide (h ≤ p.pos)) with
  | some p => exact ⟨p, hp.mem_iff.1 (List.mem_of_find?_eq_some e), rfl⟩
  | none =>
    have hlen : 0 < (Ring.ring l).length := by rw [hp.length_eq]; exact List.length_pos_iff.2 hl
    refine ⟨(Ring.ring l)[0], hp.mem_iff.1 (List.getElem_mem hlen), ?_⟩
    simp [List.getD_eq_getElem?_getD, List.getElem?_eq_getElem hlen]
theorem pts_has {x : Nodes.D} (h : 1 ≤ x.weight) : Ring.ptsOf x ≠ [] := by
  intro e
  have : (Ring.ptsOf x).length = 0 := by rw [e]; rfl
  unfold Ring.ptsOf at this
  rw [Ring.ptsN_length] at this
  omega
theorem own_in {l : List Nodes.D} (h : NodesM.gnB l = true) (key : ByteArray) : ∃ x ∈ l, own l key = x.name := by
  have hne : Ring.points l ≠ [] := by
    cases l with
    | nil => have := (Ring.good_len h).1; simp at this
    | cons x r =>
      have hw : 1 ≤ x.weight := by
        unfold NodesM.gnB NodesM.goodTo at h
        simp only [Bool.and_eq_true, List.all_eq_true, List.mem_range] at h
        have h1 := h.1 0 (by simp)
        unfold NodesM.stepB NodesM.nodeB GoodKey.inB at h1
        simp only [Bool.and_eq_true, decide_eq_true_eq] at h1
        have := h1.1.2.1
        simpa using this
      unfold Ring.points
      rw [List.flatMap_cons]
      intro e
      exact pts_has hw (List.append_eq_nil_iff.1 e).1
  obtain ⟨p, hp, e⟩ := owner_of (h := Hash.hashN key.data.toList) hne
  obtain ⟨x, hx, hpx⟩ := List.mem_flatMap.1 hp
  refine ⟨x, hx, e.trans ?_⟩
  unfold Ring.ptsOf Ring.ptsN at hpx
  obtain ⟨i, _, rfl⟩ := List.mem_map.1 hpx
  rfl
theorem gc_names {C : CC} (h : gcB C = true) : C.ps.map (·.name) = names C := by
  rw [gc_eq, Bool.and_eq_true, Bool.and_eq_true] at h
  have hp := h.1.2
  unfold placesB at hp
  rw [Bool.and_eq_true, decide_eq_true_eq, List.all_eq_true] at hp
  refine List.ext_getElem (by rw [List.length_map]; exact hp.1.symm) fun i h1 h2 => ?_
  have hi : i < C.ps.length := by simpa using h1
  have := hp.2 i (by simpa using hi)
  unfold plB at this
  simp only [Bool.and_eq_true, decide_eq_true_eq] at this
  have e := this.1.1.1
  rw [List.getD_eq_getElem?_getD, List.getD_eq_getElem?_getD, List.getElem?_eq_getElem hi, List.getElem?_eq_getElem h2] at e
  simpa using e
theorem gc_at {C : CC} (h : gcB C = true) {z : ByteArray} (hz : z ∈ C.ns.map (·.name) ++ C.cs.map (·.name)) : ∃ j, atC C.ps z = some j := by
  have hm : z ∈ names C := (insAll_mem _ z).2 hz
  rw [← gc_names h] at hm
  obtain ⟨x, hx, e⟩ := List.mem_map.1 hm
  cases ha : atC C.ps z with
  | some j => exact ⟨j, rfl⟩
  | none =>
    unfold atC at ha
    rw [List.findIdx?_eq_none_iff] at ha
    have := ha x hx
    rw [e] at this
    simp at this
theorem gc_owner {C : CC} (h : gcB C = true) (key : ByteArray) : (∃ j, atC C.ps (own C.ns key) = some j) ∧ (C.cs ≠ [] → ∃ j, atC C.ps (own C.cs key) = some j) := by
  have h' := h
  rw [gc_eq, Bool.and_eq_true, Bool.and_eq_true] at h'
  obtain ⟨_, _, _, _, g5, g6⟩ := (head_iff C).1 h'.1.1
  refine ⟨?_, fun hc => ?_⟩
  · obtain ⟨x, hx, e⟩ := own_in g5 key
    refine gc_at h ?_
    rw [show own C.ns key = x.name from e]
    exact List.mem_append_left _ (List.mem_map.2 ⟨x, hx, rfl⟩)
  · obtain ⟨x, hx, e⟩ := own_in (g6.resolve_left hc) key
    refine gc_at h ?_
    rw [show own C.cs key = x.name from e]
    exact List.mem_append_right _ (List.mem_map.2 ⟨x, hx, rfl⟩)
end Clus
end Go.Proofs.YtkodgbalhnbhcaaGreatDoor
/-
  What a good cluster at work is, plainly. No Go function is spoken of here.
-/
namespace Go.Proofs.YtkodgbalhnbhcaaGreatDoor
namespace Fleet
open Go.RowKit Base Store Items OwnR Keep Clus Marks Plc
set_option linter.unusedVariables false

theorem name_eq (a b : ByteArray) : (a.toList == b.toList) = decide (a = b) := by
  by_cases h : a = b
  · rw [decide_eq_true h]; exact str_eq h
  · rw [decide_eq_false h]; exact str_ne h
theorem kOf_is {nm : List ByteArray} {x : ByteArray} {j : Nat} (hr : Rising (nm.map toL)) (hj : j < nm.length) (hx : nm.getD j ByteArray.empty = x) : kOf x nm = j := by
  have h1 : ¬ j < kOf x nm := fun h => by
    have := kOf_lt h
    rw [hx, less_iff] at this
    exact List.lt_irrefl _ this
  have h2 : ¬ kOf x nm < j := fun h => by
    have h3 := kOf_at (x := x) (L := nm) (by omega)
    have h4 := rise_at hr h hj
    rw [hx] at h4
    rw [(less_iff _ _).2 h4] at h3
    simp at h3
  omega
theorem at_some {ps : List Pls.Core} {x : ByteArray} {j : Nat} (h : atC ps x = some j) : j < ps.length ∧ (ps.map (·.name)).getD j ByteArray.empty = x := by
  unfold atC at h
  obtain ⟨hj, h1, _⟩ := List.findIdx?_eq_some_iff_getElem.1 h
  rw [name_eq, decide_eq_true_eq] at h1
  exact ⟨hj, by simp [List.getD_eq_getElem?_getD, List.getElem?_map, List.getElem?_eq_getElem hj, h1]⟩
/-- What the program's search finds is what the model's finds. -/
theorem at_fnd {ps : List Pls.Core} (hr : Rising ((ps.map (·.name)).map toL)) (x : ByteArray) : (∃ j, j < ps.length ∧ atC ps x = some j ∧ fnd (ps.map (·.name)) x = true ∧ kOf x (ps.map (·.name)) = j) ∨ (atC ps x = none ∧ fnd (ps.map (·.name)) x = false) := by
  cases h : atC ps x with
  | some j =>
    left
    obtain ⟨hj, hx⟩ := at_some h
    have hk := kOf_is hr (by simpa using hj) hx
    refine ⟨j, hj, rfl, ?_, hk⟩
    unfold fnd
    rw [hk, hx]
    simp [hj]
  | none =>
    right
    refine ⟨rfl, ?_⟩
    cases hf : fnd (ps.map (·.name)) x with
    | false => rfl
    | true =>
      unfold fnd at hf
      rw [Bool.and_eq_true, decide_eq_true_eq, decide_eq_true_eq] at hf
      obtain ⟨h1, h2⟩ := hf
      unfold atC at h
      have h3 := List.findIdx?_eq_none_iff.1 h
      have h4 : kOf x (ps.map (·.name)) < ps.length := by simpa using h1
      have h5 := h3 ps[kOf x (ps.map (·.name))] (List.getElem_mem _)
      rw [name_eq, decide_eq_false_iff_not] at h5
      exact absurd (by simpa [List.getD_eq_getElem?_getD, List.getElem?_map, List.getElem?_eq_getElem h4] using h2) h5
theorem gc_rising {C : CC} (h : gcB C = true) : Rising ((C.ps.map (·.name)).map toL) := by
  rw [gc_names h]; exact insAll_rising _
theorem nms_core {f : Fl} {ps : List Pls.Core} (h : f.ps.map pcore = ps) : nms f = ps.map (·.name) := by
  rw [← h]; simp [nms, pcore]
theorem core_at {f : Fl} {ps : List Pls.Core} (h : f.ps.map pcore = ps) {k : Nat} (hk : k < f.ps.length) : pcore (f.ps.getD k zeroP) = ps.getD k Pls.zeroC := by
  rw [← h]; simp [List.getD_eq_getElem?_getD, List.getElem?_map, List.getElem?_eq_getElem hk]
theorem lost_none {l : Int} (hl : l ≤ 1000000) : ∀ {ps : List Pc}, (∀ p ∈ ps, p.lost = 0) → lostTo l ps = l := by
  intro ps
  induction ps with
  | nil => intro _; rfl
  | cons p r ih =>
    intro h
    have e : lostTo l (p :: r) = lostTo (min (l + p.lost) 1000000) r := rfl
    have h0 := h p List.mem_cons_self
    rw [e, h0, show min (l + 0) 1000000 = l by omega]
    exact ih (fun q hq => h q (List.mem_cons_of_mem _ hq))
theorem gc_head' {C : CC} (h : gcB C = true) : 0 ≤ C.lost ∧ C.lost ≤ 1000000 ∧ NodesM.gnB C.ns = true ∧ (C.cs = [] ∨ NodesM.gnB C.cs = true) := by
  rw [gc_eq, Bool.and_eq_true, Bool.and_eq_true] at h
  obtain ⟨-, -, -, h4, h5, h6⟩ := (head_iff C).1 h.1.1
  simp only [GoodKey.inB, Bool.and_eq_true, decide_eq_true_eq] at h4
  exact ⟨by omega, by omega, h5, h6⟩
/-- A place as it should be told. -/
def okP (p : Pls.Core) : Prop := p.name.size ≤ 1048576 ∧ p.its.length ≤ 100
theorem gc_ok {C : CC} {L : List Pls.Pl} (hL : C.ps = L.map Pls.core) (h : gcB C = true) : C.ps.length ≤ 16 ∧ 0 < C.ps.length ∧ ∀ p ∈ C.ps, okP p := by
  obtain ⟨h1, h2⟩ := gc_stores hL h
  have hl : C.ps.length = L.length := by rw [hL]; simp
  have hp := (gc_head' h).2.2.1
  refine ⟨by omega, ?_, ?_⟩
  · obtain ⟨x, hx, -⟩ := own_in hp ByteArray.empty
    obtain ⟨j, hj⟩ := gc_at h (z := x.name) (List.mem_append_left _ (List.mem_map.2 ⟨x, hx, rfl⟩))
    have := (at_some hj).1
    omega
  · intro p hp
    rw [hL] at hp
    obtain ⟨y, hy, rfl⟩ := List.mem_map.1 hp
    obtain ⟨k, hk, rfl⟩ := List.getElem_of_mem hy
    obtain ⟨h3, h4⟩ := h2 k hk
    have e : L.getD k Pls.zeroL = L[k] := by simp [hk]
    rw [e] at h3 h4
    have := (Flush.good_keys h3).1
    exact ⟨by show L[k].name.size ≤ _; omega, by show L[k].its.length ≤ _; omega⟩
theorem fine_of {f : Fl} (h1 : f.ps.length ≤ 16) (h2 : 0 < f.ps.length) (h3 : 0 ≤ f.lost ∧ f.lost ≤ 1000000) (h4 : ∀ p ∈ f.ps, 0 ≤ p.lost ∧ p.lost ≤ 1000000) (h5 : ∀ p ∈ f.ps, okP (pcore p)) : Fine f :=
  ⟨by omega, h2, h3, fun p hp => ⟨(h4 p hp).1, (h4 p hp).2, (h5 p hp).1, (h5 p hp).2⟩⟩
theorem node_small {l : List Nodes.D} (h : NodesM.gnB l = true) : l.length ≤ 1000 ∧ ∀ x ∈ l, x.name.size ≤ 1048576 := by
  refine ⟨by have := Ring.good_len h; omega, fun x hx => ?_⟩
  obtain ⟨k, hk, rfl⟩ := List.getElem_of_mem hx
  have h1 := Ring.node_bd (Ring.good_at h hk)
  have e : l.getD k Nodes.zero = l[k] := by simp [hk]
  rw [e] at h1
  omega
end Fleet
end Go.Proofs.YtkodgbalhnbhcaaGreatDoor
