/-
  In a good cluster the owner of every key has a place. No Go function is spoken of here.
-/
import Derived.Test.YthgcfklfpllgnaaDoorZ24
import Derived.Test.YthgcfklfpllgnaaDoorFleetC
import Derived.Test.YthgcfklfpllgnaaDoorZ30
import Derived.Test.YthgcfklfpllgnaaDoorZ6
import Derived.BigRegion
namespace Go.Proofs.YthgcfklfpllgnaaDoor
namespace Clus
open Go.RowKit Base Plc
set_option linter.unusedVariables false

theorem owner_of {l : List Points.D} {h : Int} (hl : l ≠ []) : ∃ p ∈ l, Ring.ownerN (Ring.ring l) h = p.name := by
  have hp := Ring.ring_perm l
  unfold Ring.ownerN
  cases e : (Ring.ring l).find? (fun p => decide (h ≤ p.pos)) with
  | some p => exact ⟨p, hp.mem_iff.1 (List.mem_of_find?_eq_some e), rfl⟩
  | none =>
    have hlen : 0 < (Ring.ring l).length := by rw [hp.length_eq]; exact List.length_pos_iff.2 hl
    refine ⟨(Ring.ring l)[0], hp.mem_iff.1 (List.getElem_mem hlen), ?_⟩
    simp [List.getD_eq_getElem?_getD, List.getElem?_eq_getElem hlen]
theorem pts_has {x : Nodes.D} (h : 1 ≤ x.weight) : Ring.ptsOf x ≠ [] := by
  intro e
  have : (Ring.ptsOf x).length = 0 := by rw [e]; rfl
  unfold Ring.ptsOf at this
  rw [Ring.ptsN_length] at this
  omega
theorem own_in {l : List Nodes.D} (h : NodesM.gnB l = true) (key : ByteArray) : ∃ x ∈ l, own l key = x.name := by
  have hne : Ring.points l ≠ [] := by
    cases l with
    | nil => have := (Ring.good_len h).1; simp at this
    | cons x r =>
      have hw : 1 ≤ x.weight := by
        unfold NodesM.gnB NodesM.goodTo at h
        simp only [Bool.and_eq_true, List.all_eq_true, List.mem_range] at h
        have h1 := h.1 0 (by simp)
        unfold NodesM.stepB NodesM.nodeB GoodKey.inB at h1
        simp only [Bool.and_eq_true, decide_eq_true_eq] at h1
        have := h1.1.2.1
        simpa using this
      unfold Ring.points
      rw [List.flatMap_cons]
      intro e
      exact pts_has hw (List.append_eq_nil_iff.1 e).1
  obtain ⟨p, hp, e⟩ := owner_of (h := Hash.hashN key.data.toList) hne
  obtain ⟨x, hx, hpx⟩ := List.mem_flatMap.1 hp
  refine ⟨x, hx, e.trans ?_⟩
  unfold Ring.ptsOf Ring.ptsN at hpx
  obtain ⟨i, _, rfl⟩ := List.mem_map.1 hpx
  rfl
theorem gc_names {C : CC} (h : gcB C = true) : C.ps.map (·.name) = names C := by
  rw [gc_eq, Bool.and_eq_true, Bool.and_eq_true] at h
  have hp := h.1.2
  unfold placesB at hp
  rw [Bool.and_eq_true, decide_eq_true_eq, List.all_eq_true] at hp
  refine List.ext_getElem (by rw [List.length_map]; exact hp.1.symm) fun i h1 h2 => ?_
  have hi : i < C.ps.length := by simpa using h1
  have := hp.2 i (by simpa using hi)
  unfold plB at this
  simp only [Bool.and_eq_true, decide_eq_true_eq] at this
  have e := this.1.1.1
  rw [List.getD_eq_getElem?_getD, List.getD_eq_getElem?_getD, List.getElem?_eq_getElem hi, List.getElem?_eq_getElem h2] at e
  simpa using e
theorem gc_at {C : CC} (h : gcB C = true) {z : ByteArray} (hz : z ∈ C.ns.map (·.name) ++ C.cs.map (·.name)) : ∃ j, atC C.ps z = some j := by
  have hm : z ∈ names C := (insAll_mem _ z).2 hz
  rw [← gc_names h] at hm
  obtain ⟨x, hx, e⟩ := List.mem_map.1 hm
  cases ha : atC C.ps z with
  | some j => exact ⟨j, rfl⟩
  | none =>
    unfold atC at ha
    rw [List.findIdx?_eq_none_iff] at ha
    have := ha x hx
    rw [e] at this
    simp at this
theorem gc_owner {C : CC} (h : gcB C = true) (key : ByteArray) : (∃ j, atC C.ps (own C.ns key) = some j) ∧ (C.cs ≠ [] → ∃ j, atC C.ps (own C.cs key) = some j) := by
  have h' := h
  rw [gc_eq, Bool.and_eq_true, Bool.and_eq_true] at h'
  obtain ⟨_, _, _, _, g5, g6⟩ := (head_iff C).1 h'.1.1
  refine ⟨?_, fun hc => ?_⟩
  · obtain ⟨x, hx, e⟩ := own_in g5 key
    refine gc_at h ?_
    rw [show own C.ns key = x.name from e]
    exact List.mem_append_left _ (List.mem_map.2 ⟨x, hx, rfl⟩)
  · obtain ⟨x, hx, e⟩ := own_in (g6.resolve_left hc) key
    refine gc_at h ?_
    rw [show own C.cs key = x.name from e]
    exact List.mem_append_right _ (List.mem_map.2 ⟨x, hx, rfl⟩)
end Clus
end Go.Proofs.YthgcfklfpllgnaaDoor
/-
  What a good cluster at work is, plainly. No Go function is spoken of here.
-/
namespace Go.Proofs.YthgcfklfpllgnaaDoor
namespace Fleet
open Go.RowKit Base Store Items OwnR Keep Clus Marks Plc
set_option linter.unusedVariables false

theorem name_eq (a b : ByteArray) : (a.toList == b.toList) = decide (a = b) := by
  by_cases h : a = b
  · rw [decide_eq_true h]; exact str_eq h
  · rw [decide_eq_false h]; exact str_ne h
theorem kOf_is {nm : List ByteArray} {x : ByteArray} {j : Nat} (hr : Rising (nm.map toL)) (hj : j < nm.length) (hx : nm.getD j ByteArray.empty = x) : kOf x nm = j := by
  have h1 : ¬ j < kOf x nm := fun h => by
    have := kOf_lt h
    rw [hx, less_iff] at this
    exact List.lt_irrefl _ this
  have h2 : ¬ kOf x nm < j := fun h => by
    have h3 := kOf_at (x := x) (L := nm) (by omega)
    have h4 := rise_at hr h hj
    rw [hx] at h4
    rw [(less_iff _ _).2 h4] at h3
    simp at h3
  omega
theorem at_some {ps : List Pls.Core} {x : ByteArray} {j : Nat} (h : atC ps x = some j) : j < ps.length ∧ (ps.map (·.name)).getD j ByteArray.empty = x := by
  unfold atC at h
  obtain ⟨hj, h1, _⟩ := List.findIdx?_eq_some_iff_getElem.1 h
  rw [name_eq, decide_eq_true_eq] at h1
  exact ⟨hj, by simp [List.getD_eq_getElem?_getD, List.getElem?_map, List.getElem?_eq_getElem hj, h1]⟩
/-- What the program's search finds is what the model's finds. -/
theorem at_fnd {ps : List Pls.Core} (hr : Rising ((ps.map (·.name)).map toL)) (x : ByteArray) : (∃ j, j < ps.length ∧ atC ps x = some j ∧ fnd (ps.map (·.name)) x = true ∧ kOf x (ps.map (·.name)) = j) ∨ (atC ps x = none ∧ fnd (ps.map (·.name)) x = false) := by
  cases h : atC ps x with
  | some j =>
    left
    obtain ⟨hj, hx⟩ := at_some h
    have hk := kOf_is hr (by simpa using hj) hx
    refine ⟨j, hj, rfl, ?_, hk⟩
    unfold fnd
    rw [hk, hx]
    simp [hj]
  | none =>
    right
    refine ⟨rfl, ?_⟩
    cases hf : fnd (ps.map (·.name)) x with
    | false => rfl
    | true =>
      unfold fnd at hf
      rw [Bool.and_eq_true, decide_eq_true_eq, decide_eq_true_eq] at hf
      obtain ⟨h1, h2⟩ := hf
      unfold atC at h
      have h3 := List.findIdx?_eq_none_iff.1 h
      have h4 : kOf x (ps.map (·.name)) < ps.length := by simpa using h1
      have h5 := h3 ps[kOf x (ps.map (·.name))] (List.getElem_mem _)
      rw [name_eq, decide_eq_false_iff_not] at h5
      exact absurd (by simpa [List.getD_eq_getElem?_getD, List.getElem?_map, List.getElem?_eq_getElem h4] using h2) h5
theorem gc_rising {C : CC} (h : gcB C = true) : Rising ((C.ps.map (·.name)).map toL) := by
  rw [gc_names h]; exact insAll_rising _
theorem nms_core {f : Fl} {ps : List Pls.Core} (h : f.ps.map pcore = ps) : nms f = ps.map (·.name) := by
  rw [← h]; simp [nms, pcore]
theorem core_at {f : Fl} {ps : List Pls.Core} (h : f.ps.map pcore = ps) {k : Nat} (hk : k < f.ps.length) : pcore (f.ps.getD k zeroP) = ps.getD k Pls.zeroC := by
  rw [← h]; simp [List.getD_eq_getElem?_getD, List.getElem?_map, List.getElem?_eq_getElem hk]
theorem lost_none {l : Int} (hl : l ≤ 1000000) : ∀ {ps : List Pc}, (∀ p ∈ ps, p.lost = 0) → lostTo l ps = l := by
  intro ps
  induction ps with
  | nil => intro _; rfl
  | cons p r ih =>
    intro h
    have e : lostTo l (p :: r) = lostTo (min (l + p.lost) 1000000) r := rfl
    have h0 := h p List.mem_cons_self
    rw [e, h0, show min (l + 0) 1000000 = l by omega]
    exact ih (fun q hq => h q (List.mem_cons_of_mem _ hq))
theorem gc_head' {C : CC} (h : gcB C = true) : 0 ≤ C.lost ∧ C.lost ≤ 1000000 ∧ NodesM.gnB C.ns = true ∧ (C.cs = [] ∨ NodesM.gnB C.cs = true) := by
  rw [gc_eq, Bool.and_eq_true, Bool.and_eq_true] at h
  obtain ⟨-, -, -, h4, h5, h6⟩ := (head_iff C).1 h.1.1
  simp only [GoodKey.inB, Bool.and_eq_true, decide_eq_true_eq] at h4
  exact ⟨by omega, by omega, h5, h6⟩
/-- A place as it should be told. -/
def okP (p : Pls.Core) : Prop := p.name.size ≤ 1048576 ∧ p.its.length ≤ 100
theorem gc_ok {C : CC} {L : List Pls.Pl} (hL : C.ps = L.map Pls.core) (h : gcB C = true) : C.ps.length ≤ 16 ∧ 0 < C.ps.length ∧ ∀ p ∈ C.ps, okP p := by
  obtain ⟨h1, h2⟩ := gc_stores hL h
  have hl : C.ps.length = L.length := by rw [hL]; simp
  have hp := (gc_head' h).2.2.1
  refine ⟨by omega, ?_, ?_⟩
  · obtain ⟨x, hx, -⟩ := own_in hp ByteArray.empty
    obtain ⟨j, hj⟩ := gc_at h (z := x.name) (List.mem_append_left _ (List.mem_map.2 ⟨x, hx, rfl⟩))
    have := (at_some hj).1
    omega
  · intro p hp
    rw [hL] at hp
    obtain ⟨y, hy, rfl⟩ := List.mem_map.1 hp
    obtain ⟨k, hk, rfl⟩ := List.getElem_of_mem hy
    obtain ⟨h3, h4⟩ := h2 k hk
    have e : L.getD k Pls.zeroL = L[k] := by simp [hk]
    rw [e] at h3 h4
    have := (Flush.good_keys h3).1
    exact ⟨by show L[k].name.size ≤ _; omega, by show L[k].its.length ≤ _; omega⟩
theorem fine_of {f : Fl} (h1 : f.ps.length ≤ 16) (h2 : 0 < f.ps.length) (h3 : 0 ≤ f.lost ∧ f.lost ≤ 1000000) (h4 : ∀ p ∈ f.ps, 0 ≤ p.lost ∧ p.lost ≤ 1000000) (h5 : ∀ p ∈ f.ps, okP (pcore p)) : Fine f :=
  ⟨by omega, h2, h3, fun p hp => ⟨(h4 p hp).1, (h4 p hp).2, (h5 p hp).1, (h5 p hp).2⟩⟩
theorem node_small {l : List Nodes.D} (h : NodesM.gnB l = true) : l.length ≤ 1000 ∧ ∀ x ∈ l, x.name.size ≤ 1048576 := by
  refine ⟨by have := Ring.good_len h; omega, fun x hx => ?_⟩
  obtain ⟨k, hk, rfl⟩ := List.getElem_of_mem hx
  have h1 := Ring.node_bd (Ring.good_at h hk)
  have e : l.getD k Nodes.zero = l[k] := by simp [hk]
  rw [e] at h1
  omega
end Fleet
end Go.Proofs.YthgcfklfpllgnaaDoor
/-
  Whether two lists of nodes are one: the model's l7SameNodes, the program's slices.Equal.
-/
namespace Go.Proofs.YthgcfklfpllgnaaDoor
namespace Same
open Go.RowKit Base
set_option linter.unusedVariables false

def eqN (x y : Nodes.D) : Bool := x.name.toList == y.name.toList && x.weight == y.weight
def key (x : Nodes.D) : List UInt8 × Int := (x.name.toList, x.weight)
def sameB (l m : List Nodes.D) : Bool := decide (l.map key = m.map key)
theorem eqN_key (x y : Nodes.D) : eqN x y = true ↔ key x = key y := by
  unfold eqN key
  simp
theorem same_len {l m : List Nodes.D} (h : l.length ≠ m.length) : sameB l m = false := by
  unfold sameB
  rw [decide_eq_false_iff_not]
  intro e
  have := congrArg List.length e
  simp at this
  exact h this
theorem same_diff {l m : List Nodes.D} {k : Nat} (h1 : k < l.length) (h2 : k < m.length) (h : eqN (l.getD k Nodes.zero) (m.getD k Nodes.zero) = false) : sameB l m = false := by
  unfold sameB
  rw [decide_eq_false_iff_not]
  intro e
  have := congrArg (fun t => t[k]?) e
  simp only [List.getElem?_map, List.getElem?_eq_getElem h1, List.getElem?_eq_getElem h2, Option.map_some, Option.some.injEq] at this
  have h3 := (eqN_key _ _).2 this
  rw [List.getD_eq_getElem?_getD, List.getD_eq_getElem?_getD, List.getElem?_eq_getElem h1, List.getElem?_eq_getElem h2] at h
  simp only [Option.getD_some] at h
  rw [h3] at h
  cases h
theorem same_all {l m : List Nodes.D} (hl : l.length = m.length) (h : ∀ j, j < l.length → eqN (l.getD j Nodes.zero) (m.getD j Nodes.zero) = true) : sameB l m = true := by
  unfold sameB
  rw [decide_eq_true_eq]
  apply List.ext_getElem
  · simpa using hl
  · intro i h1 h2
    have a1 : i < l.length := by simpa using h1
    have a2 : i < m.length := by omega
    have h3 := h i a1
    rw [List.getD_eq_getElem?_getD, List.getD_eq_getElem?_getD, List.getElem?_eq_getElem a1, List.getElem?_eq_getElem a2] at h3
    simp only [List.getElem_map]
    exact (eqN_key _ _).1 h3
theorem eqNd (x y : Nodes.D) (w : World) : (Op.equalIn 10000 42 (.agg #[.string x.name, .int .i64 x.weight]) (.agg #[.string y.name, .int .i64 y.weight])).run Tryd.prog w = .ok (eqN x y) w := by
  have u1 := Tryd.underlying3
  have u2 := Tryd.underlying9
  have hS : Tryd.prog.underlying 42 = some (.struct (Tryd.prog.fieldsOf 42)) := by kernel_rfl
  have hp : Tryd.prog.stoodInHeld 42 = false := by kernel_rfl
  rw [show (10000 : Nat) = 9999 + 1 from rfl, run_equalIn_agg w 9999 42 _ _ hS hp]
  simp only [Program.fieldsOf, Tryd.underlying42]
  go_simp
  unfold eqN
  by_cases h1 : x.name.toList = y.name.toList <;> by_cases h2 : x.weight = y.weight <;> simp [h1, h2]

end Same
end Go.Proofs.YthgcfklfpllgnaaDoor
