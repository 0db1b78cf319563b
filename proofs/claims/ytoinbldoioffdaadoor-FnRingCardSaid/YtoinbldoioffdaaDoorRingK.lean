/-
  A ring without its first node: every place that belonged to another node belongs to it still; the shares of all nodes are all keys. Plain; no Go function is spoken of here.
-/
import Derived.Test.YtoinbldoioffdaaDoorSharesP
namespace Go.Proofs.YtoinbldoioffdaaDoor
namespace Ring
open Go.RowKit Base Points KeysS GoodCmd
set_option linter.unusedVariables false

theorem sum0 {l : List Nat} (h : ∀ n ∈ l, n = 0) : l.sum = 0 := by
  induction l with
  | nil => rfl
  | cons a r ih => rw [List.sum_cons, h a (by simp), ih (fun n hn => h n (by simp [hn]))]
theorem least_ex {l : List D} (h : l ≠ []) : ∃ p, IsLeast l p := by
  have hs := ring_sorted l
  have hp := ring_perm l
  cases e : ring l with
  | nil => rw [e] at hp; exact absurd (List.nil_perm.1 hp) h
  | cons a r =>
    rw [e] at hp hs
    refine ⟨a, hp.subset (by simp), fun q hq => ?_⟩
    rcases List.mem_cons.1 (hp.symm.subset hq) with rfl | hq'
    · simp [le, less_irrefl]
    · exact (List.pairwise_cons.1 hs).1 q hq'
theorem least_sub {l r : List D} {p : D} (h : IsLeast l p) (hp : p ∈ r) (hs : ∀ q ∈ r, q ∈ l) : IsLeast r p := ⟨hp, fun q hq => h.2 q (hs q hq)⟩
/-- Who owns a place: the least point that is not below it, or the least of all. -/
theorem owner_cases {l : List D} {h : Int} (hl : l ≠ []) :
    (∃ p, IsLeast (l.filter (fun p => decide (h ≤ p.pos))) p ∧ ownerN (ring l) h = p.name) ∨ (l.filter (fun p => decide (h ≤ p.pos)) = [] ∧ ∃ p, IsLeast l p ∧ ownerN (ring l) h = p.name) := by
  have hpf : ((ring l).filter (fun p => decide (h ≤ p.pos))).Perm (l.filter (fun p => decide (h ≤ p.pos))) := (ring_perm l).filter _
  by_cases hf : l.filter (fun p => decide (h ≤ p.pos)) = []
  · right
    obtain ⟨p, hp⟩ := least_ex hl
    refine ⟨hf, p, hp, owner_first (ring_sorted l) ?_ (least_perm (ring_perm l).symm hp)⟩
    rw [hf] at hpf
    exact List.perm_nil.1 hpf
  · left
    obtain ⟨p, hp⟩ := least_ex hf
    exact ⟨p, hp, owner_least (ring_sorted l) (least_perm hpf.symm hp)⟩
theorem owner_mem {l : List D} {h : Int} (hl : l ≠ []) : ∃ p ∈ l, ownerN (ring l) h = p.name := by
  rcases owner_cases (h := h) hl with ⟨p, hp, e⟩ | ⟨_, p, hp, e⟩
  · exact ⟨p, (List.mem_filter.1 hp.1).1, e⟩
  · exact ⟨p, hp.1, e⟩
theorem owner_rest {A B : List D} {n0 : ByteArray} (h : Int) (hA : ∀ p ∈ A, p.name = n0) (hB : B ≠ []) : ownerN (ring (A ++ B)) h = n0 ∨ ownerN (ring (A ++ B)) h = ownerN (ring B) h := by
  have hAB : A ++ B ≠ [] := by simp [hB]
  rcases owner_cases (h := h) hAB with ⟨p, hp, e⟩ | ⟨hf, p, hp, e⟩
  · have hm := List.mem_filter.1 hp.1
    rcases List.mem_append.1 hm.1 with ha | hb
    · exact .inl (e.trans (hA p ha))
    · right
      have hpB : p ∈ B.filter (fun p => decide (h ≤ p.pos)) := List.mem_filter.2 ⟨hb, hm.2⟩
      have hl : IsLeast (B.filter (fun p => decide (h ≤ p.pos))) p := least_sub hp hpB (fun q hq => by
        have := List.mem_filter.1 hq
        exact List.mem_filter.2 ⟨List.mem_append.2 (.inr this.1), this.2⟩)
      rw [e]
      exact (owner_least (ring_sorted B) (least_perm ((ring_perm B).filter _).symm hl)).symm
  · rcases List.mem_append.1 hp.1 with ha | hb
    · exact .inl (e.trans (hA p ha))
    · right
      have hl : IsLeast B p := least_sub hp hb (fun q hq => List.mem_append.2 (.inr hq))
      have hfB : B.filter (fun p => decide (h ≤ p.pos)) = [] := by
        rw [List.filter_append] at hf
        exact (List.append_eq_nil_iff.1 hf).2
      have hfr : (ring B).filter (fun p => decide (h ≤ p.pos)) = [] := by
        have := (ring_perm B).filter (fun p => decide (h ≤ p.pos))
        rw [hfB] at this
        exact List.perm_nil.1 this
      rw [e]
      exact (owner_first (ring_sorted B) hfr (least_perm (ring_perm B).symm hl)).symm

theorem gn_split {l : List Nodes.D} : NodesM.gnB l = true ↔ (∀ j, j < l.length → NodesM.stepB l j = true) ∧ 1 ≤ l.length ∧ l.length ≤ 8 := by
  unfold NodesM.gnB NodesM.goodTo GoodKey.inB
  simp only [Bool.and_eq_true, List.all_eq_true, List.mem_range, decide_eq_true_eq]
  constructor
  · rintro ⟨h1, h2⟩; exact ⟨h1, by omega, by omega⟩
  · rintro ⟨h1, h2, h3⟩; exact ⟨h1, by omega, by omega⟩
theorem gn_tail {x : Nodes.D} {r : List Nodes.D} (h : NodesM.gnB (x :: r) = true) (hr : r ≠ []) : NodesM.gnB r = true := by
  rw [gn_split] at h ⊢
  obtain ⟨h1, h2, h3⟩ := h
  refine ⟨fun j hj => ?_, ?_, by simp at h3; omega⟩
  · have := h1 (j + 1) (by simpa using hj)
    unfold NodesM.stepB at this ⊢
    simp only [Bool.and_eq_true, Bool.or_eq_true, decide_eq_true_eq] at this ⊢
    refine ⟨by simpa using this.1, ?_⟩
    rcases this.2 with h | h
    · omega
    · by_cases hj0 : j = 0
      · exact .inl hj0
      · right
        obtain ⟨i, rfl⟩ : ∃ i, j = i + 1 := ⟨j - 1, by omega⟩
        simpa using h
  · cases r with
    | nil => exact absurd rfl hr
    | cons y s => simp
theorem lt_byName {a b : ByteArray} (h : Op.bytesLess a.toList b.toList = true) : a.toList < b.toList := by
  rw [bytesLess_lt] at h
  simpa using h
/-- The names stand in their order: the first is below all others. -/
theorem gn_below {x : Nodes.D} {r : List Nodes.D} (h : NodesM.gnB (x :: r) = true) : ∀ y ∈ r, x.name.toList < y.name.toList := by
  induction r generalizing x with
  | nil => simp
  | cons y s ih =>
    intro z hz
    have h1 := (gn_split.1 h).1 1 (by simp)
    unfold NodesM.stepB at h1
    simp only [Bool.and_eq_true, Bool.or_eq_true, decide_eq_true_eq] at h1
    have hxy : x.name.toList < y.name.toList := by
      rcases h1.2 with h | h
      · omega
      · exact lt_byName (by simpa using h)
    rcases List.mem_cons.1 hz with rfl | hz
    · exact hxy
    · exact List.lt_trans hxy (ih (gn_tail h (by simp)) z hz)
theorem pts_name {x : Nodes.D} {p : D} (h : p ∈ ptsOf x) : p.name = x.name := by
  unfold ptsOf ptsN at h
  obtain ⟨i, _, rfl⟩ := List.mem_map.1 h
  rfl
theorem pts_ne {x : Nodes.D} (h : 1 ≤ x.weight) : ptsOf x ≠ [] := by
  intro e
  have : (ptsOf x).length = 0 := by rw [e]; rfl
  unfold ptsOf at this
  rw [ptsN_length] at this
  omega
theorem gn_weight {x : Nodes.D} {r : List Nodes.D} (h : NodesM.gnB (x :: r) = true) : 1 ≤ x.weight := by
  have h1 := (gn_split.1 h).1 0 (by simp)
  unfold NodesM.stepB NodesM.nodeB GoodKey.inB at h1
  simp only [Bool.and_eq_true, decide_eq_true_eq] at h1
  have := h1.1.2.1
  simpa using this
theorem points_ne {l : List Nodes.D} (h : NodesM.gnB l = true) : points l ≠ [] := by
  cases l with
  | nil => have := (gn_split.1 h).2.1; simp at this
  | cons x r =>
    unfold points
    rw [List.flatMap_cons]
    intro e
    exact pts_ne (gn_weight h) (List.append_eq_nil_iff.1 e).1
theorem own_mem {l : List Nodes.D} (h : NodesM.gnB l = true) (key : ByteArray) : ∃ x ∈ l, ownK l key = x.name := by
  obtain ⟨p, hp, e⟩ := owner_mem (h := Hash.hashN key.data.toList) (points_ne h)
  obtain ⟨x, hx, hpx⟩ := List.mem_flatMap.1 hp
  exact ⟨x, hx, e.trans (pts_name hpx)⟩
/-- What the law asks of a key. -/
theorem own_rest {x : Nodes.D} {r : List Nodes.D} (h : NodesM.gnB (x :: r) = true) (hr : r ≠ []) (key : ByteArray) : ownK (x :: r) key = x.name ∨ ownK (x :: r) key = ownK r key := by
  unfold ownK
  have e : points (x :: r) = ptsOf x ++ points r := by unfold points; rw [List.flatMap_cons]
  rw [e]
  exact owner_rest _ (fun p hp => pts_name hp) (points_ne (gn_tail h hr))
theorem own_not {x : Nodes.D} {r : List Nodes.D} (h : NodesM.gnB (x :: r) = true) (hr : r ≠ []) (key : ByteArray) : ownK r key ≠ x.name := by
  obtain ⟨y, hy, e⟩ := own_mem (gn_tail h hr) key
  intro e'
  have := gn_below h y hy
  rw [← e, e'] at this
  exact List.lt_irrefl _ this
theorem moved_iff {x : Nodes.D} {r : List Nodes.D} (h : NodesM.gnB (x :: r) = true) (hr : r ≠ []) (key : ByteArray) : movedB (x :: r) r key = ((ownK (x :: r) key).toList == x.name.toList) := by
  unfold movedB
  rcases own_rest h hr key with e | e
  · have hne : ¬ (ownK (x :: r) key).toList = (ownK r key).toList := by
      intro e2
      rw [e] at e2
      obtain ⟨y, hy, ey⟩ := own_mem (gn_tail h hr) key
      have := gn_below h y hy
      rw [← ey, ← e2] at this
      exact List.lt_irrefl _ this
    rw [e] at hne ⊢
    simp [hne]
  · obtain ⟨y, hy, ey⟩ := own_mem (gn_tail h hr) key
    have := gn_below h y hy
    rw [e, ey]
    have hne : ¬ y.name.toList = x.name.toList := fun e2 => by rw [e2] at this; exact List.lt_irrefl _ this
    simp [hne]
/-- As many keys move as the first node had. -/
theorem moved_cnt {x : Nodes.D} {r : List Nodes.D} (h : NodesM.gnB (x :: r) = true) (hr : r ≠ []) (ks : List ByteArray) : (movK (x :: r) r ks).length = cnt (x :: r) ks x.name := by
  unfold movK cnt
  congr 1
  exact List.filter_congr (fun k _ => moved_iff h hr k)
/-- All shares together are all keys. -/
theorem cnt_sum_one {l : List Nodes.D} (hp : l.Pairwise (fun a b => a.name.toList < b.name.toList)) (o : ByteArray) (hm : ∃ x ∈ l, o = x.name) : (l.map (fun x => if (o.toList == x.name.toList) = true then 1 else 0)).sum = 1 := by
  induction l with
  | nil => obtain ⟨x, hx, _⟩ := hm; simp at hx
  | cons y s ih =>
    rw [List.map_cons, List.sum_cons]
    have hys := (List.pairwise_cons.1 hp).1
    by_cases e : o.toList = y.name.toList
    · have hz : (s.map (fun x => if (o.toList == x.name.toList) = true then 1 else 0)).sum = 0 := by
        refine sum0 (fun n hn => ?_)
        obtain ⟨z, hz, rfl⟩ := List.mem_map.1 hn
        have := hys z hz
        rw [← e] at this
        have hne : ¬ o.toList = z.name.toList := fun e2 => by rw [e2] at this; exact List.lt_irrefl _ this
        simp [hne]
      rw [hz]
      simp [e]
    · obtain ⟨x, hx, ex⟩ := hm
      have hxs : x ∈ s := by
        rcases List.mem_cons.1 hx with rfl | h
        · exact absurd (by rw [ex]) e
        · exact h
      rw [ih (List.pairwise_cons.1 hp).2 ⟨x, hxs, ex⟩]
      simp [e]
theorem gn_pairwise {l : List Nodes.D} (h : NodesM.gnB l = true) : l.Pairwise (fun a b => a.name.toList < b.name.toList) := by
  induction l with
  | nil => simp
  | cons x r ih =>
    refine List.pairwise_cons.2 ⟨gn_below h, ?_⟩
    by_cases hr : r = []
    · subst hr; simp
    · exact ih (gn_tail h hr)
theorem cnt_sum {l : List Nodes.D} (h : NodesM.gnB l = true) (ks : List ByteArray) : (l.map (fun x => cnt l ks x.name)).sum = ks.length := by
  induction ks with
  | nil =>
    refine sum0 (fun n hn => ?_)
    obtain ⟨z, _, rfl⟩ := List.mem_map.1 hn
    rfl
  | cons k ks ih =>
    have e : ∀ m : List Nodes.D, (m.map (fun x => cnt l (k :: ks) x.name)).sum = (m.map (fun x => if ((ownK l k).toList == x.name.toList) = true then 1 else 0)).sum + (m.map (fun x => cnt l ks x.name)).sum := by
      intro m
      induction m with
      | nil => rfl
      | cons y s ihm =>
        rw [List.map_cons, List.sum_cons, List.map_cons, List.sum_cons, List.map_cons, List.sum_cons, ihm]
        have : cnt l (k :: ks) y.name = (if ((ownK l k).toList == y.name.toList) = true then 1 else 0) + cnt l ks y.name := by
          unfold cnt
          rw [List.filter_cons]
          split
          · rw [List.length_cons]; omega
          · omega
        omega
    rw [e, ih, cnt_sum_one (gn_pairwise h) _ (own_mem h k), List.length_cons]
    omega
end Ring
end Go.Proofs.YtoinbldoioffdaaDoor
