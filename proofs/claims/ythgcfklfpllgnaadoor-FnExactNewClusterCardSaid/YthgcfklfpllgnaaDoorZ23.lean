/-
  The model's l3Owner and OwnerOf: by one pass over the points the owner of the ring.
-/
import Derived.Test.YthgcfklfpllgnaaDoorZ21
import Derived.Test.YthgcfklfpllgnaaDoorZ22
import Derived.Test.YthgcfklfpllgnaaDoorZ4
import Derived.Outline
import Derived.Test.YthgcfklfpllgnaaDoorZ9
import Derived.Test.YthgcfklfpllgnaaDoorZ17
import Derived.Test.YthgcfklfpllgnaaDoorZ10
import Derived.Test.YthgcfklfpllgnaaDoorZ13
import Derived.Lib.QuietBelow
import Derived.BigQuiet
namespace Go.Proofs.YthgcfklfpllgnaaDoor
namespace Ring
open Go.RowKit Base Points Marks
set_option linter.unusedVariables false

/-- The state of the pass: the boxes of the best and of the first, the row, and the box of the point at hand. -/
structure OwnS (w wr : World) (g n pb : Nat) (L : List D) (x b f : D) : Prop where
  best : Box2 wr w.heap.size 113 b
  first : Box2 wr (w.heap.size + 1) 113 f
  pbox : Box2 wr pb 113 x
  p0 : w.heap.size + 2 ≤ pb
  g0 : w.heap.size + 2 ≤ g
  row : RowAt wr g 113 (n * 2) (icell L)
  bel : Below w.heap.size w wr
/-- Between two rounds. -/
structure OwnR' (w wr : World) (g n : Nat) (L : List D) (b f : D) : Prop where
  best : Box2 wr w.heap.size 113 b
  first : Box2 wr (w.heap.size + 1) 113 f
  g0 : w.heap.size + 2 ≤ g
  row : RowAt wr g 113 (n * 2) (icell L)
  bel : Below w.heap.size w wr
section
variable {w wr w' : World} {g n pb : Nat} {L : List D} {x b f : D}
theorem OwnS.done (h : OwnS w wr g n pb L x b f) : OwnR' w wr g n L b f := ⟨h.best, h.first, h.g0, h.row, h.bel⟩
theorem OwnR'.setFirst (h : OwnR' w wr g n L b f) (y : D) : OwnR' w ((wr.setCell ⟨w.heap.size + 1, 0, none⟩ (.int .u32 y.pos)).setCell ⟨w.heap.size + 1, 1, none⟩ (.string y.name)) g n L b y := by
  have := h.g0
  exact ⟨(h.best.other (by simp) _).other (by simp) _, h.first.set y, h.g0,
    (h.row.of_block (Below.heap_setCell _ _ _ _ (by simp; omega))).of_block (Below.heap_setCell _ _ _ _ (by simp; omega)), (h.bel.setCell (by simp) _).setCell (by simp) _⟩
theorem OwnR'.point (h : OwnR' w wr g n L b f) (x : D) : OwnS w (wr.alloc (.cells #[.int .u32 x.pos, .string x.name] 113)) g n wr.heap.size L x b f :=
  ⟨h.best.alloc _, h.first.alloc _, Box2.new _ _ _, by have := h.first.lt; omega, h.g0, h.row.below (bel1 _ _) h.row.lt, h.bel.alloc h.bel.size _⟩
theorem OwnS.below (h : OwnS w wr g n pb L x b f) (hb : Below wr.heap.size wr w') : OwnS w w' g n pb L x b f :=
  ⟨h.best.below hb h.best.lt, h.first.below hb h.first.lt, h.pbox.below hb h.pbox.lt, h.p0, h.g0, h.row.below hb h.row.lt, h.bel.trans (hb.mono h.bel.size)⟩
theorem OwnS.setBest (h : OwnS w wr g n pb L x b f) (y : D) : OwnS w ((wr.setCell ⟨w.heap.size, 0, none⟩ (.int .u32 y.pos)).setCell ⟨w.heap.size, 1, none⟩ (.string y.name)) g n pb L x y f := by
  have := h.p0
  have := h.g0
  exact ⟨h.best.set y, (h.first.other (by simp) _).other (by simp) _, (h.pbox.other (by simp; omega) _).other (by simp; omega) _, h.p0, h.g0,
    (h.row.of_block (Below.heap_setCell _ _ _ _ (by simp; omega))).of_block (Below.heap_setCell _ _ _ _ (by simp; omega)), (h.bel.setCell (by simp) _).setCell (by simp) _⟩
theorem OwnS.setFirst (h : OwnS w wr g n pb L x b f) (y : D) : OwnS w ((wr.setCell ⟨w.heap.size + 1, 0, none⟩ (.int .u32 y.pos)).setCell ⟨w.heap.size + 1, 1, none⟩ (.string y.name)) g n pb L x b y := by
  have := h.p0
  have := h.g0
  exact ⟨(h.best.other (by simp) _).other (by simp) _, h.first.set y, (h.pbox.other (by simp; omega) _).other (by simp; omega) _, h.p0, h.g0,
    (h.row.of_block (Below.heap_setCell _ _ _ _ (by simp; omega))).of_block (Below.heap_setCell _ _ _ _ (by simp; omega)), (h.bel.setCell (by simp) _).setCell (by simp) _⟩
end

end Ring
end Go.Proofs.YthgcfklfpllgnaaDoor
/-
  The model's GoodCluster: it answers by the plain function, for every cluster that a call has laid itself.
-/
namespace Go.Proofs.YthgcfklfpllgnaaDoor
namespace Clus
open Go.RowKit Base GoodKey Items Store Plc
set_option linter.unusedVariables false

theorem snodes_row (b : Nat) (l : List Nodes.D) (t : TypeId) (w : World) (h : w.rowIs b t (l.length * 2) (Nodes.icell l)) (hl : l.length ≤ maxLen) (hf : ∀ x ∈ l, Nodes.Fits x) :
    Calls Tryd.prog 14 #[.slice (some ⟨b, 0, none⟩) l.length l.length] w fun e w' => e = .returned (.bool (NodesM.gnB l)) ∧ Below w.heap.size w w' :=
  NodesM.nodes_some b 0 l.length l w h.lt (Nodes.at_row h) hl hf
theorem places2 (b1 b2 : Nat) (ns cs : List Nodes.D) (t : TypeId) (lim : Int) (w : World) (h1 : w.rowIs b1 t (ns.length * 2) (Nodes.icell ns)) (h2 : w.rowIs b2 t (cs.length * 2) (Nodes.icell cs)) (l1 : ns.length ≤ 1048576) (l2 : cs.length ≤ 1048576) (hne : ns ≠ []) :
    Calls Tryd.prog 16 #[.slice (some ⟨b1, 0, none⟩) ns.length ns.length, .slice (some ⟨b2, 0, none⟩) cs.length cs.length, .int .i64 lim] w fun e w' =>
      ∃ g cap, e = .returned (.slice (some ⟨g, 0, none⟩) (insAll (ns.map (·.name) ++ cs.map (·.name))).length cap) ∧ (∀ i, i < (insAll (ns.map (·.name) ++ cs.map (·.name))).length → w'.cell? ⟨g, i * 4, none⟩ = some (.string ((insAll (ns.map (·.name) ++ cs.map (·.name))).getD i ByteArray.empty))) ∧ Below w.heap.size w w' := by
  have h := places_any (fun i => if i = 0 then some ⟨b1, 0, none⟩ else some ⟨b2, 0, none⟩) (fun i => if i = 0 then ns.length else cs.length) (fun i => if i = 0 then ns else cs) lim w (fun i hi => by
    by_cases h0 : i = 0
    · subst h0; exact Nodes.LAt.row h1
    · simp only [if_neg h0]; exact Nodes.LAt.row h2) (fun i hi => by by_cases h0 : i = 0 <;> simp [h0, l1, l2])
  have e : pre (fun i => if i = 0 then ns else cs) 2 = ns.map (·.name) ++ cs.map (·.name) := by simp [pre]
  simp only [e] at h
  refine h.mono ?_
  rintro e w' ⟨v, rfl, how, hb⟩
  have hpos : 0 < (insAll (ns.map (·.name) ++ cs.map (·.name))).length := by
    obtain ⟨x, r, rfl⟩ := List.exists_cons_of_ne_nil hne
    have hm := (insAll_mem (((x :: r).map (·.name)) ++ cs.map (·.name)) x.name).2 (by simp)
    exact List.length_pos_of_mem hm
  obtain ⟨g, cap, rfl, hg, hr⟩ := Keep.Row.of_owns how hpos
  exact ⟨g, cap, rfl, fun i hi => hr.cell (flat_name lim _ i hi), hb⟩


end Clus
end Go.Proofs.YthgcfklfpllgnaaDoor
/-
  What goodKeeping finds, step by step. No Go function is spoken of here.
-/
namespace Go.Proofs.YthgcfklfpllgnaaDoor
namespace Clus
open Go.RowKit Base GoodKey Items Store Plc
set_option linter.unusedVariables false

/-- The ring that is gone to. -/
def goal (ns cs : List Nodes.D) : List Nodes.D := if cs.isEmpty then ns else cs
theorem home_goal (ns cs : List Nodes.D) (nm : ByteArray) (x : Itm) : homeB ns cs nm x = (decide (own ns x.key = nm) || decide (own (goal ns cs) x.key = nm)) := by
  unfold homeB goal
  cases cs <;> simp
theorem goal_good {ns cs : List Nodes.D} (h1 : NodesM.gnB ns = true) (h2 : cs = [] ∨ NodesM.gnB cs = true) : NodesM.gnB (goal ns cs) = true := by
  unfold goal
  rcases h2 with rfl | h2
  · exact h1
  · cases cs
    · exact h1
    · exact h2
/-- The items of the first k places. -/
def fl (L : List Pls.Pl) (k : Nat) : List Itm := (L.take k).flatMap (·.its)
theorem fl_succ {L : List Pls.Pl} {k : Nat} (hk : k < L.length) : fl L (k + 1) = fl L k ++ (L.getD k Pls.zeroL).its := by
  unfold fl
  rw [List.take_succ_eq_append_getElem hk, List.flatMap_append]
  simp [List.getD_eq_getElem?_getD, List.getElem?_eq_getElem hk]
theorem fl_all (L : List Pls.Pl) : fl L L.length = allI (L.map Pls.core) := by
  unfold fl allI
  rw [List.take_length, List.flatMap_map]
  rfl
theorem take_it {its : List Itm} {q : Nat} (hq : q < its.length) (a : List Itm) : a ++ its.take (q + 1) = (a ++ its.take q) ++ [its.getD q zero] := by
  rw [List.take_succ_eq_append_getElem hq, List.append_assoc]
  simp [List.getD_eq_getElem?_getD, List.getElem?_eq_getElem hq]
theorem gs_item {lim nx : Int} {its : List Itm} (h : gsB lim nx its = true) : its.length ≤ 60 ∧ ∀ q, q < its.length → itemB (its.getD q zero) = true := by
  simp only [gsB, Bool.and_eq_true, decide_eq_true_eq] at h
  refine ⟨by omega, fun q hq => ?_⟩
  have := ((goodTo_iff nx its its.length (Nat.le_refl _)).1 h.1.2).1 q hq
  simp only [okB, Bool.and_eq_true] at this
  exact this.1
theorem keep_bad {c : CC} {L : List Pls.Pl} {k q : Nat} (hL : c.ps = L.map Pls.core) (hk : k < L.length) (hq : q < (L.getD k Pls.zeroL).its.length) (h : homeB c.ns c.cs (L.getD k Pls.zeroL).name ((L.getD k Pls.zeroL).its.getD q zero) = false) : keepB c = false := by
  have e : L.getD k Pls.zeroL = L[k] := by simp [hk]
  rw [e] at hq h
  have : c.ps.all (fun p => p.its.all (homeB c.ns c.cs p.name)) = false := by
    rw [List.all_eq_false]
    refine ⟨Pls.core L[k], by rw [hL]; exact List.mem_map.2 ⟨_, List.getElem_mem hk, rfl⟩, ?_⟩
    rw [Bool.not_eq_true, List.all_eq_false]
    refine ⟨_, List.getElem_mem (show q < L[k].its.length from hq), ?_⟩
    rw [List.getD_eq_getElem?_getD, List.getElem?_eq_getElem hq, Option.getD_some] at h
    show ¬ homeB c.ns c.cs L[k].name _ = true
    rw [h]; simp
  unfold keepB; rw [this]; rfl
theorem keep_end {c : CC} {L : List Pls.Pl} (hL : c.ps = L.map Pls.core) (h : ∀ k, k < L.length → ∀ q, q < (L.getD k Pls.zeroL).its.length → homeB c.ns c.cs (L.getD k Pls.zeroL).name ((L.getD k Pls.zeroL).its.getD q zero) = true) :
    keepB c = (decide ((Maps.size (Maps.setOf (.agg [] : DataW Unit) ((fl L L.length).map kL)) : Int) = ((fl L L.length).length : Int)) && decide ((Maps.size (Maps.setOf (.agg [] : DataW Unit) ((fl L L.length).map tL)) : Int) = ((fl L L.length).length : Int))) := by
  have : c.ps.all (fun p => p.its.all (homeB c.ns c.cs p.name)) = true := by
    rw [List.all_eq_true]
    intro p hp
    rw [hL] at hp
    obtain ⟨x, hx, rfl⟩ := List.mem_map.1 hp
    obtain ⟨k, hk, rfl⟩ := List.getElem_of_mem hx
    rw [List.all_eq_true]
    intro y hy
    obtain ⟨q, hq, rfl⟩ := List.getElem_of_mem hy
    have e : L.getD k Pls.zeroL = L[k] := by simp [hk]
    have h2 := h k hk q (by rw [e]; exact hq)
    rw [e, List.getD_eq_getElem?_getD, List.getElem?_eq_getElem (show q < L[k].its.length from hq)] at h2
    exact h2
  unfold keepB
  rw [this, fl_all, hL]
  simp only [Bool.true_and, Int.natCast_inj]
end Clus
end Go.Proofs.YthgcfklfpllgnaaDoor
