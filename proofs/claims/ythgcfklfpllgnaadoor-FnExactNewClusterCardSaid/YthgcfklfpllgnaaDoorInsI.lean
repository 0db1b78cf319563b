/-
  The program's slices.Insert of one place into a row of places.
-/
import Derived.Test.YthgcfklfpllgnaaDoorNewPl
import Derived.Shelf.Spec.SlicesInsert
import Derived.Lib.AppendZerosOnto
import Derived.Deep.AppendLies
import Derived.Deep.RegionLaw
namespace Go.Proofs.YthgcfklfpllgnaaDoor
namespace Ins
open Go.RowKit Base OwnR
set_option linter.unusedVariables false

theorem sets_heap (g : Nat) {e : TypeId} : ∀ (vs : List Value) (o : Nat) (w : World) (cur : Array Value), w.heap[g]? = some (.cells cur e (0, 0)) → ∃ cur', (w.setCells g o vs).heap[g]? = some (.cells cur' e (0, 0)) ∧ cur'.size = cur.size
  | [], _, _, cur, h => ⟨cur, h, rfl⟩
  | v :: r, o, w, cur, h => by
    obtain ⟨c, hc, hs⟩ := sets_heap g (e := e) r (o + 1) (w.setCell ⟨g, o, none⟩ v) (cur.setIfInBounds o v) (by simp [World.setCell, Array.getElem?_modify, h])
    exact ⟨c, hc, by rw [hs, Array.size_setIfInBounds]⟩
theorem sets_grown {a : World} {g : Nat} : ∀ (vs : List Value) (o : Nat) (w : World), a.grownBy w (some g) → a.grownBy (w.setCells g o vs) (some g)
  | [], _, _, h => h
  | v :: r, o, w, h => sets_grown r (o + 1) _ ⟨h.os, h.tape, h.output, by simpa using h.size, fun k hk hn => (Below.heap_setCell _ _ _ _ (fun e => hn (by rw [e]))).trans (h.block k hk hn)⟩
theorem sets_new {a : World} {g : Nat} {row : Option Nat} (hg : a.heap.size ≤ g) : ∀ (vs : List Value) (o : Nat) (w : World), a.grownBy w row → a.grownBy (w.setCells g o vs) row
  | [], _, _, h => h
  | v :: r, o, w, h => sets_new hg r (o + 1) _ ⟨h.os, h.tape, h.output, by simpa using h.size, fun k hk hn => (Below.heap_setCell _ _ _ _ (show k ≠ g by omega)).trans (h.block k hk hn)⟩
theorem own_cells {w : World} {M g n cap : Nat} {e : TypeId} {cur : Array Value} {xs : List Value} (hM : M ≤ g) (hh : w.heap[g]? = some (.cells cur e (0, 0))) (hn : n ≤ cap) (hc : cap ≤ maxLen) (hs : cur.size = cap) (hl : xs.length = n) (hx : ∀ j, j < n → w.cell? ⟨g, j, none⟩ = xs[j]?) : w.ownsRow M e 1 (.slice (some ⟨g, 0, none⟩) n cap) n xs := by
  refine ⟨by omega, .inr ⟨g, cap, cur, rfl, hM, hh, hn, hc, by omega, ?_⟩⟩
  apply List.ext_getElem?
  intro j
  by_cases hj : j < n
  · rw [List.getElem?_take_of_lt (by omega), ← hx j hj, cell_of_row w g j cur e (0, 0) hh]
    simp
  · rw [List.getElem?_eq_none (by rw [List.length_take]; omega), List.getElem?_eq_none (by omega)]
/-- How the insertion ends. -/
def InsEnd (M : Nat) (v : Value) (n i : Nat) (cs : List Value) (p : Value) (w : World) (e : Ending) (w' : World) : Prop :=
  ∃ g cap, e = .returned (.slice (some ⟨g, 0, none⟩) (n + 1) cap) ∧ w'.ownsRow M 67 1 (.slice (some ⟨g, 0, none⟩) (n + 1) cap) (n + 1) (cs.take i ++ p :: cs.drop i) ∧ w.grownBy w' v.ownBlock ∧ (v.ownBlock = some g ∨ w.heap.size ≤ g)

set_option maxRecDepth 10000 in
set_option maxHeartbeats 4000000 in
theorem insert_end (M : Nat) (a : Option Addr) (n cap : Nat) (cs : List Value) (vb : Nat) (p : Value) (w : World) (hown : w.ownsRow M 67 1 (.slice a n cap) n cs) (hM : M ≤ w.heap.size) (hn : n ≤ 1000) (hp : p.oneCell' = true) (hv : w.cell? ⟨vb, 0, none⟩ = some p) :
    Calls Tryd.prog 42 #[.slice a n cap, .int .i64 (n : Int), .slice (some ⟨vb, 0, none⟩) 1 1] w (InsEnd M (.slice a n cap) n n cs p w) := by
  obtain ⟨i0, hi, hz0, hz1, hz2⟩ := Fleet.info_p
  have HI := hide hi
  have HZ0 := hide hz0
  have HZ1 := hide hz1
  have HZ2 := hide hz2
  have HO := hide hown
  have hcl : cs.length = n := by have := hown.1; omega
  have HV : Hid (∀ j u, [p][j]? = some u → w.cell? ((⟨vb, 0, none⟩ : Addr).add j) = some u) := fun j u hj => by
    rw [Go.WideShapes.add_plain, Nat.zero_add]
    cases j with
    | zero => simp at hj; subst hj; exact hv
    | succ j => simp at hj
  have HP : Hid (∀ u ∈ [p], u.oneCell' = true) := fun u hu => by rw [List.mem_singleton] at hu; subst hu; exact hp
  have hcn : n ≤ cap := by
    rcases hown.2 with ⟨h, h0⟩ | ⟨g, c, cur, h, _, _, h1, _⟩
    · omega
    · simp only [Value.slice.injEq] at h; omega
  clear hi hz0 hz1 hz2 hown hp hv
  by_cases hc : cap = n
  · subst hc
    go_enter Tryd.func42, Tryd.ntmps42
    go_wp2_with (at_builtin; refine wpList_append_lies _ rfl _ _ _ rfl M 67 i0 _ 1 8 Tryd.underlying63 (unhide HI) (unhide HZ0) (unhide HZ1) (unhide HZ2) rfl (by decide) (.slice a cap cap) cap cs rfl (unhide HO) ⟨vb, 0, none⟩ 1 1 [p] rfl rfl (unhide HV) (unhide HP) (by decide) (by unfold maxLen; omega) (by omega) hM w.heap.size rfl ?_; intro g c w1 h1 h2 h3 h4; have H1 := hide h1; have H2 := hide h2; have H3 := hide h3; clear h1 h2 h3 h4)
    go_ret
    refine ⟨g, c, rfl, ?_, unhide H2, (unhide H3).imp id (fun h => by omega)⟩
    rw [List.take_of_length_le (by omega), List.drop_of_length_le (by omega)]
    exact unhide H1
  · have hc2 : ¬ (n = cap) := fun h => hc h.symm
    go_enter Tryd.func42, Tryd.ntmps42
    go_wp2_with (at_builtin; refine wpList_append_lies _ rfl _ _ _ rfl M 67 i0 _ 1 8 Tryd.underlying63 (unhide HI) (unhide HZ0) (unhide HZ1) (unhide HZ2) rfl (by decide) (.slice a n cap) n cs rfl (unhide HO) ⟨vb, 0, none⟩ 1 1 [p] rfl rfl (unhide HV) (unhide HP) (by decide) (by unfold maxLen; omega) (by omega) hM w.heap.size rfl ?_; intro g c w1 h1 h2 h3 h4; have H1 := hide h1; have H2 := hide h2; have H3 := hide h3; clear h1 h2 h3 h4)
    go_ret
    refine ⟨g, c, rfl, ?_, unhide H2, (unhide H3).imp id (fun h => by omega)⟩
    rw [List.take_of_length_le (by omega), List.drop_of_length_le (by omega)]
    exact unhide H1
theorem own_facts {w : World} {M g n cap : Nat} {e : TypeId} {cs : List Value} (h : w.ownsRow M e 1 (.slice (some ⟨g, 0, none⟩) n cap) n cs) : ∃ cur : Array Value, w.heap[g]? = some (.cells cur e (0, 0)) ∧ M ≤ g ∧ n ≤ cap ∧ cap ≤ maxLen ∧ cur.size = cap ∧ cs.length = n ∧ (∀ j, j < n → w.cell? ⟨g, j, none⟩ = cs[j]?) ∧ (∀ j, j < cap → (w.cell? ⟨g, j, none⟩).isSome = true) ∧ (∀ j, w.frozen? ⟨g, j, none⟩ = false) := by
  rcases h.2 with ⟨h1, _⟩ | ⟨q, c, cur, h1, h2, h3, h4, h5, h6, h7⟩
  · simp at h1
  · simp only [Value.slice.injEq, Option.some.injEq, Addr.mk.injEq, and_true, true_and] at h1
    obtain ⟨rfl, rfl⟩ := h1
    refine ⟨cur, h3, h2, h4, h5, by omega, by have := h.1; omega, fun j hj => h.cellAt j (by omega), fun j hj => ?_, fun j => h.frozenAt j⟩
    rw [cell_of_row w g j cur e (0, 0) h3, Array.getElem?_eq_getElem (by omega)]
    rfl
theorem insd_at {cs : List Value} {n i j : Nat} {p : Value} (hl : cs.length = n) (hi : i < n) : (cs.take i ++ p :: cs.drop i)[j]? = if j < i then cs[j]? else if j = i then some p else cs[j - 1]? := by
  by_cases h1 : j < i
  · rw [if_pos h1, List.getElem?_append_left (by rw [List.length_take]; omega), List.getElem?_take_of_lt h1]
  · rw [if_neg h1, List.getElem?_append_right (by rw [List.length_take]; omega), List.length_take, Nat.min_eq_left (by omega)]
    by_cases h2 : j = i
    · subst h2; simp
    · rw [if_neg h2]
      obtain ⟨q, rfl⟩ : ∃ q, j = i + 1 + q := ⟨j - i - 1, by omega⟩
      rw [show i + 1 + q - i = q + 1 by omega, List.getElem?_cons_succ, List.getElem?_drop]
      congr 1
      omega

set_option maxRecDepth 10000 in
set_option maxHeartbeats 4000000 in
theorem insert_room (M g n cap i : Nat) (cs : List Value) (vb : Nat) (p : Value) (w : World) (hown : w.ownsRow M 67 1 (.slice (some ⟨g, 0, none⟩) n cap) n cs) (hn : n ≤ 1000) (hp : p.oneCell' = true) (h1 : ∀ u ∈ cs, u.oneCell' = true) (hv : w.heap[vb]? = some (.cells #[p] 67 (0, 0))) (hvg : vb ≠ g) (hi : i < n) (hroom : n + 1 ≤ cap) :
    Calls Tryd.prog 42 #[.slice (some ⟨g, 0, none⟩) n cap, .int .i64 (i : Int), .slice (some ⟨vb, 0, none⟩) 1 1] w (InsEnd M (.slice (some ⟨g, 0, none⟩) n cap) n i cs p w) := by
  obtain ⟨cur, hh, hMg, hnc, hcm, hcs, hcl, hat, hsp, hfz⟩ := own_facts hown
  obtain ⟨i0, hi0, hz0, hz1, hz2⟩ := Fleet.info_p
  have hsz : (Tryd.prog.info? 67).map (·.size) = some 1 := by rw [hi0]; simp [hz1]
  have hcv : w.cell? ⟨vb, 0, none⟩ = some p := by rw [Lib.cell_of_heap hv]; rfl
  have hdl : (cs.drop i).length = n - i := by rw [List.length_drop, hcl]
  have hov : ∀ lb cb, (callFunc 55 #[.slice (some ⟨vb, 0, none⟩) 1 1, .slice (some ⟨g, i + 1, none⟩) lb cb]).run Tryd.prog w = .ok (.value (.bool false)) w := fun lb cb => by
    rw [run_callFunc_extern Tryd.func55 (by kernel_rfl) (by kernel_rfl) (by kernel_rfl) (e := Extern.SlicesOverlaps.overlaps #[63, 63] #[4]) (by kernel_rfl),
      Lib.run_overlaps_apart w 63 4 67 Tryd.underlying63 1 (fun w' => by simp [Go.sizeOf, typeInfo, hi0, hz1]) ⟨vb, 0, none⟩ ⟨g, i + 1, none⟩ 1 1 lb cb hvg 67 67 1 cap (by simp [World.shape?, hv]) (by simp [World.shape?, hh, hcs]) (by omega) (Lib.frozen_of_heap hv 0) (Lib.frozen_of_heap hv 1)]
    rfl
  have hcp1 : ∀ ty dl dc sl sc, Nat.min sl dl = n - i → (Builtin.copy_ #[63, 63] ty #[.slice (some ⟨g, i + 1, none⟩) dl dc, .slice (some ⟨g, i, none⟩) sl sc]).run Tryd.prog w.drew = .ok (goInt (cs.drop i).length) (w.drew.setCells g (i + 1) (cs.drop i)) := fun ty dl dc sl sc hm =>
    run_copy_cells w.drew _ _ ty 67 g (i + 1) dl dc ⟨g, i, none⟩ sl sc (cs.drop i) Tryd.underlying63 hsz (by rw [hdl, hm])
      (fun j v hj => by
        rw [Addr.add_lit]
        rw [List.getElem?_drop] at hj
        exact (hat (i + j) (by have := (List.getElem?_eq_some_iff.1 hj).1; omega)).trans hj)
      (fun j hj => hsp _ (by omega)) (fun j hj => hfz _) (fun v hv => h1 v (List.mem_of_mem_drop hv))
  obtain ⟨W1, hW1⟩ : ∃ W1, W1 = w.drew.setCells g (i + 1) (cs.drop i) := ⟨_, rfl⟩
  have hsp1 : ∀ k, k < cap → (W1.cell? ⟨g, k, none⟩).isSome = true := fun k hk => by
    rw [hW1]
    exact isSome_setCells g (cs.drop i) (i + 1) w.drew (fun j hj => hsp (i + 1 + j) (by rw [hdl] at hj; omega)) k (hsp k hk)
  have hcp2 : ∀ (W : World), (∀ x, W.cell? x = W1.cell? x) → (∀ x, W.frozen? x = W1.frozen? x) → ∀ ty dl dc, 1 ≤ dl → (Builtin.copy_ #[63, 63] ty #[.slice (some ⟨g, i, none⟩) dl dc, .slice (some ⟨vb, 0, none⟩) 1 1]).run Tryd.prog W = .ok (goInt ([p] : List Value).length) (W.setCells g i [p]) := fun W hWc hWf ty dl dc hd =>
    run_copy_cells W _ _ ty 67 g i dl dc ⟨vb, 0, none⟩ 1 1 [p] Tryd.underlying63 hsz (by simp only [Nat.min_def, List.length_singleton]; split <;> omega)
      (fun j v hj => by
        rw [Addr.add_lit, hWc, hW1, World.cell?_setCells_out g _ _ _ _ (fun h _ => absurd h hvg)]
        cases j with
        | zero => simp at hj; subst hj; exact hcv
        | succ j => simp at hj)
      (fun j hj => by rw [hWc]; exact hsp1 _ (by simp at hj; omega)) (fun j hj => by rw [hWf, hW1, World.frozen?_setCells]; exact hfz _) (fun v hv => by rw [List.mem_singleton] at hv; subst hv; exact hp)
  have FIN : Hid (InsEnd M (.slice (some ⟨g, 0, none⟩) n cap) n i cs p w (.returned (.slice (some ⟨g, 0, none⟩) (n + 1) cap)) (W1.setCells g i [p])) := by
    obtain ⟨cu1, hu1, hs1⟩ := sets_heap g (e := 67) (cs.drop i) (i + 1) w.drew cur hh
    rw [← hW1] at hu1
    obtain ⟨cu2, hu2, hs2⟩ := sets_heap g (e := 67) [p] i W1 cu1 hu1
    have hg1 : w.grownBy (W1.setCells g i [p]) (some g) := by
      rw [hW1]
      exact sets_grown _ _ _ (sets_grown _ _ _ ⟨rfl, rfl, rfl, Nat.le_refl _, fun _ _ _ => rfl⟩)
    refine ⟨g, cap, rfl, own_cells hMg hu2 hroom hcm (by omega) (by simp; omega) (fun j hj => ?_), hg1, .inl rfl⟩
    rw [insd_at hcl hi]
    by_cases h1 : j < i
    · rw [if_pos h1, World.cell?_setCells_out g _ _ _ _ (fun _ _ => .inl h1), hW1, World.cell?_setCells_out g _ _ _ _ (fun _ _ => .inl (by show j < i + 1; omega))]
      exact hat j (by omega)
    · rw [if_neg h1]
      by_cases h2 : j = i
      · subst h2
        rw [if_pos rfl]
        have := World.cell?_setCells_in g [p] j W1 (fun q hq => hsp1 _ (by simp at hq; omega)) 0 (by simp)
        simpa using this
      · rw [if_neg h2, World.cell?_setCells_out g _ _ _ _ (fun _ _ => .inr (by show i + 1 ≤ j; omega)), hW1]
        obtain ⟨q, rfl⟩ : ∃ q, j = i + 1 + q := ⟨j - i - 1, by omega⟩
        rw [World.cell?_setCells_in g (cs.drop i) (i + 1) w.drew (fun q hq => hsp _ (by omega)) q (by omega)]
        rw [List.getElem_drop, ← List.getElem?_eq_getElem]
        congr 1
        omega
  rw [← hW1] at hcp1
  have hz3 : ¬ ((i : Int) = (n : Int)) := by omega
  have hz4 : ¬ ((cap : Int) < (n : Int) + 1) := by omega
  have hw1 : IntKind.i64.wrap ((i : Int) + 1) = (i : Int) + 1 := by rw [IntKind.wrap_i64]; omega
  have hw2 : IntKind.i64.wrap ((n : Int) + 1) = (n : Int) + 1 := by rw [IntKind.wrap_i64]; omega
  have hb1 : (0 : Int) ≤ (i : Int) + 1 := by omega
  have hin : i ≤ n := by omega
  have htn : ((i : Int) + 1).toNat = i + 1 := by omega
  have htn2 : ((n : Int) + 1).toNat = n + 1 := by omega
  have hb2 : ¬ (cap = i + 1) := by omega
  have hb3 : (i : Int) ≤ (n : Int) + 1 := by omega
  have hb4 : ¬ (cap = i) := by omega
  have hcpx := hcp1 3 (n - i) (cap - (i + 1)) (n + 1 - i) (cap - i) (by simp only [Nat.min_def]; split <;> omega)
  have hcpy := hcp2 W1 (fun _ => rfl) (fun _ => rfl) 3 (n + 1 - i) (cap - i) (by omega)
  clear hcp1 hcp2
  clear hat hsp hfz hsp1 hW1 hcl hcs hown hh hv h1 hcv
  go_enter Tryd.func42, Tryd.ntmps42
  go_wp2_with (simp only [hov])
  go_region_law fail
  go_wp2
  go_ret
  exact unhide FIN

set_option maxRecDepth 10000 in
set_option maxHeartbeats 4000000 in
theorem insert_grow (M g n cap i : Nat) (cs : List Value) (vb : Nat) (p : Value) (w : World) (hown : w.ownsRow M 67 1 (.slice (some ⟨g, 0, none⟩) n cap) n cs) (hM : M ≤ w.heap.size) (hn : n ≤ 1000) (hp : p.oneCell' = true) (h1 : ∀ u ∈ cs, u.oneCell' = true) (hv : w.heap[vb]? = some (.cells #[p] 67 (0, 0))) (hi : i < n) (hroom : cap < n + 1) :
    Calls Tryd.prog 42 #[.slice (some ⟨g, 0, none⟩) n cap, .int .i64 (i : Int), .slice (some ⟨vb, 0, none⟩) 1 1] w (InsEnd M (.slice (some ⟨g, 0, none⟩) n cap) n i cs p w) := by
  obtain ⟨cur, hh, hMg, hnc, hcm, hcs, hcl, hat, hsp, hfz⟩ := own_facts hown
  obtain ⟨i0, hi0, hz0, hz1, hz2⟩ := Fleet.info_p
  have hsz : (Tryd.prog.info? 67).map (·.size) = some 1 := by rw [hi0]; simp [hz1]
  have hcv : w.cell? ⟨vb, 0, none⟩ = some p := by rw [Lib.cell_of_heap hv]; rfl
  have hvw : vb < w.heap.size := (Array.getElem?_eq_some_iff.1 hv).1
  have hgw : g < w.heap.size := (Array.getElem?_eq_some_iff.1 hh).1
  have hdl : (cs.drop i).length = n - i := by rw [List.length_drop, hcl]
  have hold : (Builtin.firstCells i0.size i (.slice (some ⟨g, 0, none⟩) i cap)).run Tryd.prog w.drew = .ok (cs.take i).toArray w.drew := by
    rw [hz1]
    exact run_firstCells_some w.drew 1 i ⟨g, 0, none⟩ i cap (cs.take i) (by rw [List.length_take]; omega) (fun j v hj => by
      rw [Addr.add_lit, Nat.zero_add]
      rw [List.getElem?_take] at hj
      split at hj
      · exact (hat j (by omega)).trans hj
      · cases hj)
  obtain ⟨G, hG⟩ : ∃ G, G = grownCap w (n + 1) cap 67 := ⟨_, rfl⟩
  have hGn : n + 1 ≤ G := by rw [hG]; exact grownCap_ge w _ _ _
  have hGm : G ≤ maxLen := by rw [hG]; exact grownCap_le_maxLen w (n + 1) cap 67 (by unfold maxLen; omega)
  obtain ⟨ROW, hROW⟩ : ∃ ROW : Array Value, ROW = (cs.take i).toArray ++ Builtin.zeroCells (Value.pointer none).cells (n + 1 - i) ++ Builtin.zeroCells (Value.pointer none).cells (G - (n + 1)) := ⟨_, rfl⟩
  have hrz : ∀ ty, (Builtin.append_ #[63, 3] ty #[.slice (some ⟨g, 0, none⟩) i cap, .int .i64 ((n : Int) + 1 - (i : Int))]).run Tryd.prog w =
      .ok (.slice (some ⟨w.heap.size, 0, none⟩) (n + 1) G) (w.drew.alloc (.cells ROW 67)) := fun ty => by
    have h := Lib.run_append_grow_zeros (P := Tryd.prog) w 63 3 ty 67 i0 _ .i64 .i64 Tryd.underlying63 Tryd.underlying3 hi0 hz0 (some ⟨g, 0, none⟩) i cap (cs.take i) hold (n + 1 - i) (by omega) (by omega) (by omega) (by omega) (by rw [hz2]; omega) (by rw [hz2, show i + (n + 1 - i) = n + 1 by omega]; exact growslice_fits hroom (by omega))
    rw [show i + (n + 1 - i) = n + 1 by omega, ← hG, ← hROW] at h
    rw [show (n : Int) + 1 - (i : Int) = ((n + 1 - i : Nat) : Int) by omega]
    exact h
  have hRl : ROW.size = G := by
    rw [hROW]
    simp [Builtin.zeroCells, Value.cells]
    omega
  obtain ⟨W1, hW1⟩ : ∃ W1, W1 = w.drew.alloc (.cells ROW 67) := ⟨_, rfl⟩
  rw [← hW1] at hrz
  have hN : ∀ j, j < G → (W1.cell? ⟨w.heap.size, j, none⟩).isSome = true := fun j hj => by
    rw [hW1, World.cell?_alloc_at (w := w.drew) ROW _ w.heap.size j rfl, Array.getElem?_eq_getElem (by omega)]; rfl
  have hNf : ∀ j, W1.frozen? ⟨w.heap.size, j, none⟩ = false := fun j => by rw [hW1]; exact World.frozen?_alloc_at (w := w.drew) ROW _ w.heap.size j rfl
  have hOb : ∀ b j, b < w.heap.size → W1.cell? ⟨b, j, none⟩ = w.cell? ⟨b, j, none⟩ := fun b j h => by rw [hW1, World.cell?_alloc_past (w := w.drew) _ b j h]; rfl
  have hR1 : ∀ j, j < i → W1.cell? ⟨w.heap.size, j, none⟩ = cs[j]? := fun j hj => by
    rw [hW1, World.cell?_alloc_at (w := w.drew) ROW _ w.heap.size j rfl, hROW, Array.append_assoc, Array.getElem?_append_left (by simp; omega)]
    simp [List.getElem?_take_of_lt hj]
  have hcpA := run_copy_cells W1 63 63 3 67 w.heap.size i (n + 1 - i) (G - i) ⟨vb, 0, none⟩ 1 1 [p] Tryd.underlying63 hsz (by simp only [Nat.min_def, List.length_singleton]; split <;> omega)
      (fun j v hj => by
        rw [Addr.add_lit, hOb vb _ hvw]
        cases j with
        | zero => simp at hj; subst hj; exact hcv
        | succ j => simp at hj)
      (fun j hj => hN _ (by simp at hj; omega)) (fun j hj => hNf _) (fun v hv => by rw [List.mem_singleton] at hv; subst hv; exact hp)
  obtain ⟨W2, hW2⟩ : ∃ W2, W2 = W1.setCells w.heap.size i [p] := ⟨_, rfl⟩
  rw [← hW2] at hcpA
  have hN2 : ∀ k, k < G → (W2.cell? ⟨w.heap.size, k, none⟩).isSome = true := fun k hk => by
    rw [hW2]
    exact isSome_setCells w.heap.size [p] i W1 (fun j hj => hN (i + j) (by simp at hj; omega)) k (hN k hk)
  have hcpB := run_copy_cells W2.drew 63 63 3 67 w.heap.size (i + 1) (n - i) (G - (i + 1)) ⟨g, i, none⟩ (n - i) (cap - i) (cs.drop i) Tryd.underlying63 hsz (by rw [hdl]; simp only [Nat.min_def]; split <;> omega)
      (fun j v hj => by
        rw [Addr.add_lit]
        show W2.cell? _ = _
        rw [hW2, World.cell?_setCells_out _ _ _ _ _ (fun h _ => absurd h (by show g ≠ w.heap.size; omega)), hOb g _ hgw]
        rw [List.getElem?_drop] at hj
        exact (hat (i + j) (by have := (List.getElem?_eq_some_iff.1 hj).1; omega)).trans hj)
      (fun j hj => hN2 _ (by rw [hdl] at hj; omega)) (fun j hj => by show W2.frozen? _ = _; rw [hW2, World.frozen?_setCells]; exact hNf _) (fun v hv => h1 v (List.mem_of_mem_drop hv))
  have FIN : Hid (InsEnd M (.slice (some ⟨g, 0, none⟩) n cap) n i cs p w (.returned (.slice (some ⟨w.heap.size, 0, none⟩) (n + 1) G)) (W2.drew.setCells w.heap.size (i + 1) (cs.drop i))) := by
    have hu0 : W1.heap[w.heap.size]? = some (.cells ROW 67 (0, 0)) := by rw [hW1]; exact heap_alloc_new w.drew _
    obtain ⟨cu1, hu1, hs1⟩ := sets_heap w.heap.size (e := 67) [p] i W1 ROW hu0
    rw [← hW2] at hu1
    obtain ⟨cu2, hu2, hs2⟩ := sets_heap w.heap.size (e := 67) (cs.drop i) (i + 1) W2.drew cu1 hu1
    have hg0 : w.grownBy W1 (some g) := by rw [hW1]; exact ⟨rfl, rfl, rfl, by simp, fun k hk _ => heap_alloc_old w.drew _ hk⟩
    have hg2 : w.grownBy W2 (some g) := by rw [hW2]; exact sets_new (Nat.le_refl _) _ _ _ hg0
    have hg3 : w.grownBy (W2.drew.setCells w.heap.size (i + 1) (cs.drop i)) (some g) := sets_new (Nat.le_refl _) _ _ _ ⟨hg2.os, hg2.tape, hg2.output, hg2.size, hg2.block⟩
    refine ⟨w.heap.size, G, rfl, own_cells hM hu2 hGn hGm (by omega) (by simp; omega) (fun j hj => ?_), hg3, .inr (Nat.le_refl _)⟩
    rw [insd_at hcl hi]
    by_cases h1 : j < i
    · rw [if_pos h1, World.cell?_setCells_out _ _ _ _ _ (fun _ _ => .inl (by show j < i + 1; omega))]
      show W2.cell? _ = _
      rw [hW2, World.cell?_setCells_out _ _ _ _ _ (fun _ _ => .inl h1)]
      exact hR1 j h1
    · rw [if_neg h1]
      by_cases h2 : j = i
      · subst h2
        rw [if_pos rfl, World.cell?_setCells_out _ _ _ _ _ (fun _ _ => .inl (by show j < j + 1; omega))]
        show W2.cell? _ = _
        rw [hW2]
        have := World.cell?_setCells_in w.heap.size [p] j W1 (fun q hq => hN _ (by simp at hq; omega)) 0 (by simp)
        simpa using this
      · rw [if_neg h2]
        obtain ⟨q, rfl⟩ : ∃ q, j = i + 1 + q := ⟨j - i - 1, by omega⟩
        rw [World.cell?_setCells_in w.heap.size (cs.drop i) (i + 1) W2.drew (fun q hq => hN2 _ (by rw [hdl] at hq; omega)) q (by omega)]
        rw [List.getElem_drop, ← List.getElem?_eq_getElem]
        congr 1
        omega
  have hz3 : ¬ ((i : Int) = (n : Int)) := by omega
  have hz4 : (cap : Int) < (n : Int) + 1 := by omega
  have hw1 : IntKind.i64.wrap ((i : Int) + 1) = (i : Int) + 1 := by rw [IntKind.wrap_i64]; omega
  have hw2 : IntKind.i64.wrap ((n : Int) + 1) = (n : Int) + 1 := by rw [IntKind.wrap_i64]; omega
  have hw3 : IntKind.i64.wrap ((n : Int) + 1 - (i : Int)) = (n : Int) + 1 - (i : Int) := by rw [IntKind.wrap_i64]; omega
  have hb1 : (0 : Int) ≤ (i : Int) + 1 := by omega
  have hin : i ≤ n := by omega
  have htn : ((i : Int) + 1).toNat = i + 1 := by omega
  have hb2 : ¬ (G = i + 1) := by omega
  have hb4 : ¬ (G = i) := by omega
  have hb5 : ¬ (cap = i) := by omega
  have hb6 : i ≤ cap := by omega
  have hGx : G ≤ 9223372036854775807 := by unfold maxLen at hGm; omega
  clear hat hsp hfz hN hNf hOb hR1 hN2 hW1 hW2 hcl hown hh hv h1 hcv hold hROW hG hRl hGm hcm hcs
  go_enter Tryd.func42, Tryd.ntmps42
  go_wp2_with (at_builtin; refine Lib.wpList_append_run _ rfl _ _ _ _ rfl _ _ rfl rfl _ _ (hrz _) ?_)
  go_region_law fail
  go_wp2
  go_ret
  exact unhide FIN
end Ins
end Go.Proofs.YthgcfklfpllgnaaDoor
