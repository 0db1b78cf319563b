/-
  The beginning of a move, plainly: places for all nodes, those that were there as they were. No Go function is spoken of here.
-/
import Derived.Test.YthgcfklfpllgnaaDoorZ32
import Derived.Test.YthgcfklfpllgnaaDoorInsI
import Derived.Test.YthgcfklfpllgnaaDoorZ30
namespace Go.Proofs.YthgcfklfpllgnaaDoor
namespace Beg
open Go.RowKit Base OwnR Plc Clus Fleet
set_option linter.unusedVariables false

/-- The place of a name: one of the first k that were there, or a new one. -/
def lookK (ps : List Pls.Core) (lim : Int) (k : Nat) (nm : ByteArray) : Pls.Core := match atC (ps.take k) nm with | some j => ps.getD j Pls.zeroC | none => ⟨nm, lim, 1, []⟩
def look (ps : List Pls.Core) (lim : Int) (nm : ByteArray) : Pls.Core := lookK ps lim ps.length nm
theorem look_zero (ps : List Pls.Core) (lim : Int) (nm : ByteArray) : lookK ps lim 0 nm = ⟨nm, lim, 1, []⟩ := by
  unfold lookK atC
  simp
theorem take_atC {ps : List Pls.Core} {k : Nat} (hk : k < ps.length) (nm : ByteArray) : atC (ps.take (k + 1)) nm = match atC (ps.take k) nm with | some j => some j | none => if (ps.getD k Pls.zeroC).name = nm then some k else none := by
  have e : ps.getD k Pls.zeroC = ps[k] := by simp [hk]
  unfold atC
  rw [List.take_succ_eq_append_getElem hk, List.findIdx?_append, e]
  cases h : (ps.take k).findIdx? (fun x => x.name.toList == nm.toList) with
  | some j => simp
  | none =>
    simp only [Option.none_or]
    by_cases hn : ps[k].name = nm
    · rw [if_pos hn, List.findIdx?_cons]
      simp [hn]
      omega
    · rw [if_neg hn, List.findIdx?_cons]
      have : (ps[k].name.toList == nm.toList) = false := str_ne hn
      simp [this]
theorem atC_lt {ps : List Pls.Core} {nm : ByteArray} {j k : Nat} (h : atC (ps.take k) nm = some j) : j < k ∧ j < ps.length ∧ (ps.getD j Pls.zeroC).name = nm := by
  obtain ⟨h1, h2⟩ := at_some h
  rw [List.length_take] at h1
  refine ⟨by omega, by omega, ?_⟩
  rw [← h2]
  have h3 : j < ps.length := by omega
  have h4 : j < k := by omega
  simp [List.getD_eq_getElem?_getD, List.getElem?_map, List.getElem?_take_of_lt h4, List.getElem?_eq_getElem h3]
theorem look_name (ps : List Pls.Core) (lim : Int) (k : Nat) (nm : ByteArray) : (lookK ps lim k nm).name = nm := by
  unfold lookK
  cases h : atC (ps.take k) nm with
  | some j => exact (atC_lt h).2.2
  | none => rfl
theorem ris_ne {nm : List ByteArray} (h : Rising (nm.map toL)) {i j : Nat} (hi : i < nm.length) (hj : j < nm.length) (e : nm.getD i ByteArray.empty = nm.getD j ByteArray.empty) : i = j := by
  have h1 := kOf_is h hi (x := nm.getD j ByteArray.empty) e
  have h2 := kOf_is h hj (x := nm.getD j ByteArray.empty) rfl
  exact h1.symm.trans h2
/-- One place more that was there is put where it belongs. -/
theorem look_step {ps : List Pls.Core} {lim : Int} {k j : Nat} {W : List ByteArray} (hr : Rising ((ps.map (·.name)).map toL)) (hW : Rising (W.map toL)) (hk : k < ps.length) (hj : j < W.length) (hn : W.getD j ByteArray.empty = (ps.getD k Pls.zeroC).name) : (W.map (lookK ps lim k)).set j (ps.getD k Pls.zeroC) = W.map (lookK ps lim (k + 1)) := by
  have hnm : ∀ i, i < ps.length → (ps.map (·.name)).getD i ByteArray.empty = (ps.getD i Pls.zeroC).name := fun i hi => by simp [List.getD_eq_getElem?_getD, List.getElem?_map, List.getElem?_eq_getElem hi]
  apply List.ext_getElem
  · simp
  · intro i h1 h2
    have hi : i < W.length := by simpa using h2
    have ei : W.getD i ByteArray.empty = W[i] := by simp [hi]
    rw [List.getElem_map]
    by_cases e : i = j
    · subst e
      rw [List.getElem_set_self]
      unfold lookK
      rw [take_atC hk]
      have hno : atC (ps.take k) W[i] = none := by
        cases h : atC (ps.take k) W[i] with
        | none => rfl
        | some q =>
          obtain ⟨q1, q2, q3⟩ := atC_lt h
          have := ris_ne hr (i := q) (j := k) (by simpa using q2) (by simpa using hk) (by rw [hnm q q2, hnm k hk, q3, ← ei, hn])
          omega
      rw [hno]
      dsimp only
      rw [if_pos (by rw [← hn, ei])]
    · rw [List.getElem_set_ne (fun h => e h.symm), List.getElem_map]
      unfold lookK
      rw [take_atC hk]
      have hne : (ps.getD k Pls.zeroC).name ≠ W[i] := fun h => e (ris_ne hW hi hj (by rw [ei, ← h, hn]))
      cases h : atC (ps.take k) W[i] with
      | some q => rfl
      | none => dsimp only; rw [if_neg hne]
/-- The cluster behind a move's beginning. -/
def bmC (C : CC) (nodes : List Nodes.D) : CC := ⟨C.now, C.nx, C.lim, C.lost, C.ns, nodes, (insAll (C.ns.map (·.name) ++ nodes.map (·.name))).map (look C.ps C.lim)⟩
/-- What BeginMove tells. -/
def bmR (C : CC) (nodes : List Nodes.D) : CC × Bool := if (gcB C && decide (C.cs.length = 0) && NodesM.gnB nodes && !Same.sameB C.ns nodes) = true then (bmC C nodes, true) else (noCC, false)
theorem bm_bad {C : CC} {nodes : List Nodes.D} (h : gcB C = false) : bmR C nodes = (noCC, false) := by unfold bmR; simp [h]
theorem bm_moving {C : CC} {nodes : List Nodes.D} (h : C.cs.length ≠ 0) : bmR C nodes = (noCC, false) := by unfold bmR; simp [h]
theorem bm_nodes {C : CC} {nodes : List Nodes.D} (h : NodesM.gnB nodes = false) : bmR C nodes = (noCC, false) := by unfold bmR; simp [h]
theorem bm_same {C : CC} {nodes : List Nodes.D} (h : Same.sameB C.ns nodes = true) : bmR C nodes = (noCC, false) := by unfold bmR; simp [h]
theorem bm_yes {C : CC} {nodes : List Nodes.D} (h1 : gcB C = true) (h2 : C.cs.length = 0) (h3 : NodesM.gnB nodes = true) (h4 : Same.sameB C.ns nodes = false) : bmR C nodes = (bmC C nodes, true) := by unfold bmR; simp [h1, h2, h3, h4]
end Beg
end Go.Proofs.YthgcfklfpllgnaaDoor
/-
  One place more, where it belongs by its name.
-/
namespace Go.Proofs.YthgcfklfpllgnaaDoor
namespace Fleet
open Go.RowKit Base Store Items OwnR Keep Clus Plc
set_option linter.unusedVariables false

/-- The row of places with one more at i. -/
def insP (i : Nat) (p : Pc) (l : List Pc) : List Pc := l.take i ++ p :: l.drop i
theorem insP_len (i : Nat) (p : Pc) (l : List Pc) : (insP i p l).length = l.length + 1 := by
  unfold insP
  rw [List.length_append, List.length_cons, ← Nat.add_assoc, ← List.length_append, List.take_append_drop]
theorem insP_mem {i : Nat} {p q : Pc} {l : List Pc} (h : q ∈ insP i p l) : q = p ∨ q ∈ l := by
  unfold insP at h
  rcases List.mem_append.1 h with h | h
  · exact .inr (List.mem_of_mem_take h)
  · rcases List.mem_cons.1 h with h | h
    · exact .inl h
    · exact .inr (List.mem_of_mem_drop h)
theorem insP_pair {R : Pc → Pc → Prop} {i : Nat} {p : Pc} {l : List Pc} (h : l.Pairwise R) (h1 : ∀ q ∈ l, R p q ∧ R q p) : (insP i p l).Pairwise R := by
  unfold insP
  rw [← List.take_append_drop i l] at h
  obtain ⟨a, b, c⟩ := List.pairwise_append.1 h
  refine List.pairwise_append.2 ⟨a, List.pairwise_cons.2 ⟨fun q hq => (h1 q (List.mem_of_mem_drop hq)).1, b⟩, fun x hx y hy => ?_⟩
  rcases List.mem_cons.1 hy with rfl | hy
  · exact (h1 x (List.mem_of_mem_take hx)).2
  · exact c x hx y hy
theorem insP_map {α : Type} (g : Pc → α) (i : Nat) (p : Pc) (l : List Pc) : (insP i p l).map g = (l.map g).take i ++ g p :: (l.map g).drop i := by
  unfold insP
  rw [List.map_append, List.map_cons, List.map_take, List.map_drop]

theorem FleetAt.insert {w w2 w3 : World} {M X : Nat} {f : Fl} {p : Pc} {i g' cap' : Nat} (hf : FleetAt w M X f)
    (hM : M ≤ w.heap.size) (hb1 : Below w.heap.size w w2) (hp : PcAt w2 p) (hlo : ∀ b ∈ bks p, w.heap.size ≤ b)
    (hown : w3.ownsRow M 67 1 (.slice (some ⟨g', 0, none⟩) (f.ps.length + 1) cap') (f.ps.length + 1) ((f.ps.map ptr).take i ++ ptr p :: (f.ps.map ptr).drop i))
    (hg : w2.grownBy w3 (rowV f).ownBlock) (hat : (rowV f).ownBlock = some g' ∨ w2.heap.size ≤ g') :
    FleetAt (w3.setCell ⟨X, 8, none⟩ (.slice (some ⟨g', 0, none⟩) (f.ps.length + 1) cap')) M X { f with a := some ⟨g', 0, none⟩, cap := cap', ps := insP i p f.ps } ∧ Kp M X w (w3.setCell ⟨X, 8, none⟩ (.slice (some ⟨g', 0, none⟩) (f.ps.length + 1) cap')) := by
  have hXw := hf.box.lt
  have hz1 := hb1.size
  have hob : ∀ g, (rowV f).ownBlock = some g → M ≤ g ∧ g < w.heap.size := fun g hg => hf.row.lt g hg
  have hkW : ∀ k, k < w2.heap.size → (rowV f).ownBlock ≠ some k → w3.heap[k]? = w2.heap[k]? := fun k hk hn => hg.block k hk (fun e => hn e.symm)
  have hXn : (rowV f).ownBlock ≠ some X := fun e => by have := (hob X e).1; have := hf.xm; omega
  have hk1 : Keeps (X :: (rowV f).ownBlock.toList) w2 (w3.setCell ⟨X, 8, none⟩ (.slice (some ⟨g', 0, none⟩) (f.ps.length + 1) cap')) := by
    refine ⟨hg.os, hg.tape, hg.output, by rw [World.size_setCell]; exact hg.size, ?_⟩
    intro k hk hn
    simp only [List.mem_cons, Option.mem_toList, not_or] at hn
    rw [Below.heap_setCell _ _ _ _ (show k ≠ (⟨X, 8, none⟩ : Addr).block from hn.1)]
    exact hkW k hk (fun e => hn.2 e)
  have hkw : Keeps (X :: (rowV f).ownBlock.toList) w (w3.setCell ⟨X, 8, none⟩ (.slice (some ⟨g', 0, none⟩) (f.ps.length + 1) cap')) := (Keeps.of_below hb1 (fun _ h _ => h)).trans hk1 (fun x hx => .inl hx)
  have hold : ∀ p ∈ f.ps, ∀ b ∈ bks p, b < w.heap.size := fun p hp => (hf.pl p hp).lt
  have hnew : ∀ b ∈ bks p, w.heap.size ≤ b ∧ b < w2.heap.size := fun b hb => ⟨hlo b hb, hp.lt b hb⟩
  have hbox : FB w3 X f := (hf.box.of_block (hb1.block X hXw)).of_block (hkW X (by omega) hXn)
  have hrv : rowV { f with a := some ⟨g', 0, none⟩, cap := cap', ps := insP i p f.ps } = .slice (some ⟨g', 0, none⟩) (f.ps.length + 1) cap' := by
    unfold rowV
    show Value.slice _ (insP i p f.ps).length _ = _
    rw [insP_len]
  refine ⟨⟨?_, ?_, ?_, ?_, ?_, ?_, hf.xm⟩, ?_⟩
  · have := hbox.set8 (some ⟨g', 0, none⟩) cap' (insP i p f.ps)
    rw [insP_len] at this
    exact this
  · rw [hrv]
    show World.ownsRow _ _ _ _ _ (insP i p f.ps).length ((insP i p f.ps).map ptr)
    rw [insP_len, insP_map]
    exact ownsRow_setCell_below hown (show X < M from hf.xm) _
  · intro q hq
    rcases insP_mem hq with rfl | hq
    · refine hp.keep hk1 (fun b hb hm => ?_)
      have h1 := hlo b hb
      rcases List.mem_cons.1 hm with rfl | hm
      · omega
      · have := (hob b (by simpa using hm)).2; omega
    · refine (hf.pl q hq).keep hkw (fun b hb hm => ?_)
      rcases List.mem_cons.1 hm with rfl | hm
      · have := hf.lo q hq _ hb; have := hf.xm; omega
      · exact hf.far q hq b hb (by simpa using hm)
  · intro q hq b hb
    rcases insP_mem hq with rfl | hq
    · have := hlo b hb; omega
    · exact hf.lo q hq b hb
  · refine insP_pair hf.apart (fun q hq => ⟨fun b hb hb2 => ?_, fun b hb hb2 => ?_⟩)
    · have h1 := hold q hq b hb2
      have h2 := hlo b hb
      omega
    · have h1 := hold q hq b hb
      have h2 := hlo b hb2
      omega
  · intro q hq b hb e
    rw [hrv] at e
    have e' : g' = b := by simpa [Value.ownBlock] using e
    subst e'
    rcases insP_mem hq with rfl | hq
    · have h1 := hnew _ hb
      rcases hat with e3 | e3
      · have := (hob _ e3).2; omega
      · omega
    · rcases hat with e3 | e3
      · exact hf.far q hq _ hb e3
      · have := hold q hq _ hb; omega
  · refine ⟨hkw.os, hkw.tape, hkw.output, hkw.size, fun k h1 h2 => hkw.block k (by omega) ?_⟩
    simp only [List.mem_cons, Option.mem_toList, not_or]
    exact ⟨h2, fun e => by have := (hob k e).1; omega⟩

/-- slices.Insert of one place, by any road. -/
theorem insert_any (M : Nat) (f : Fl) (i vb : Nat) (p : Pc) (w : World) (hown : w.ownsRow M 67 1 (rowV f) f.ps.length (f.ps.map ptr)) (hM : M ≤ w.heap.size) (hpos : 0 < f.ps.length) (hn : f.ps.length ≤ 1000) (hi : i ≤ f.ps.length) (hv : w.heap[vb]? = some (.cells #[ptr p] 67 (0, 0))) (hvg : (rowV f).ownBlock ≠ some vb) :
    Calls Tryd.prog 42 #[rowV f, .int .i64 (i : Int), .slice (some ⟨vb, 0, none⟩) 1 1] w (Ins.InsEnd M (rowV f) f.ps.length i (f.ps.map ptr) (ptr p) w) := by
  obtain ⟨g, gc, hgv, hgM, hgc, hgl⟩ := own_some hown hpos
  have h1 : ∀ u ∈ f.ps.map ptr, u.oneCell' = true := fun u hu => by obtain ⟨q, _, rfl⟩ := List.mem_map.1 hu; rfl
  rw [hgv] at hown hvg ⊢
  rcases Nat.lt_or_eq_of_le hi with hlt | rfl
  · by_cases hr : f.ps.length + 1 ≤ gc
    · exact Ins.insert_room M g _ gc i _ vb (ptr p) w hown hn rfl h1 hv (fun e => hvg (by rw [e]; rfl)) hlt hr
    · exact Ins.insert_grow M g _ gc i _ vb (ptr p) w hown hM hn rfl h1 hv hlt (by omega)
  · exact Ins.insert_end M _ _ gc _ vb (ptr p) w hown hM hn rfl (by rw [Lib.cell_of_heap hv]; rfl)
end Fleet
end Go.Proofs.YthgcfklfpllgnaaDoor
/-
  What (*fleet).openPlaces makes of the places, plainly, and what is said of it.
-/
namespace Go.Proofs.YthgcfklfpllgnaaDoor
namespace Fleet
open Go.RowKit Base Store Items OwnR Keep Clus Plc Beg
set_option linter.unusedVariables false

theorem fnd_no {nm : List ByteArray} {x : ByteArray} (hr : Rising (nm.map toL)) (h : fnd nm x = false) : x ∉ nm := by
  intro hm
  obtain ⟨j, hj, e⟩ := List.getElem_of_mem hm
  have hx : nm.getD j ByteArray.empty = x := by simp [List.getD_eq_getElem?_getD, List.getElem?_eq_getElem hj, e]
  have hk := kOf_is hr hj hx
  unfold fnd at h
  rw [hk] at h
  rw [decide_eq_true hj, decide_eq_true hx] at h
  simp at h
theorem fnd_ins {nm : List ByteArray} {x : ByteArray} : (fnd nm x = true → ins x nm = nm) ∧ (fnd nm x = false → ins x nm = nm.take (kOf x nm) ++ [x] ++ nm.drop (kOf x nm)) := by
  constructor
  · intro h
    unfold fnd at h
    simp only [Bool.and_eq_true, decide_eq_true_eq] at h
    exact ins_there h.1 h.2
  · intro h
    apply ins_new
    rintro ⟨h1, h2⟩
    unfold fnd at h
    rw [decide_eq_true h1, decide_eq_true h2] at h
    simp at h
theorem cell_set8 {u : World} {X b o : Nat} (v : Value) (h : b ≠ X ∨ o ≠ 8) : (u.setCell ⟨X, 8, none⟩ v).cell? ⟨b, o, none⟩ = u.cell? ⟨b, o, none⟩ :=
  World.cell?_setCell_other u ⟨X, 8, none⟩ ⟨b, o, none⟩ v (by intro e; simp only [Addr.mk.injEq, and_true] at e; omega)
/-- The places behind k nodes. -/
def OpnIs (base : List ByteArray) (ps0 : List Pls.Core) (lim : Int) (ps : List Pc) : Prop := ps.map pcore = (insAll base).map (Beg.look ps0 lim) ∧ ∀ p ∈ ps, p.lost = 0
theorem OpnIs.nms {base : List ByteArray} {ps0 : List Pls.Core} {lim : Int} {f : Fl} (h : OpnIs base ps0 lim f.ps) : nms f = insAll base := by
  have := congrArg (List.map Pls.Core.name) h.1
  rw [List.map_map, List.map_map] at this
  have e : (Pls.Core.name ∘ Beg.look ps0 lim) = id := by funext nm; exact Beg.look_name _ _ _ _
  rw [e, List.map_id] at this
  exact this
theorem OpnIs.same {base : List ByteArray} {ps0 : List Pls.Core} {lim : Int} {f : Fl} {x : ByteArray} (h : OpnIs base ps0 lim f.ps) (hx : fnd (Fleet.nms f) x = true) : OpnIs (base ++ [x]) ps0 lim f.ps := by
  refine ⟨?_, h.2⟩
  rw [insAll_snoc, ← h.nms, fnd_ins.1 hx, h.nms]
  exact h.1
theorem OpnIs.more {base : List ByteArray} {ps0 : List Pls.Core} {lim : Int} {f : Fl} {x : ByteArray} {p : Pc} (h : OpnIs base ps0 lim f.ps) (hx : fnd (Fleet.nms f) x = false) (hp : pcore p = Beg.look ps0 lim x) (hl : p.lost = 0) : OpnIs (base ++ [x]) ps0 lim (insP (kOf x (Fleet.nms f)) p f.ps) := by
  refine ⟨?_, fun q hq => (insP_mem hq).elim (fun e => by rw [e]; exact hl) (h.2 q)⟩
  rw [insP_map, h.1, insAll_snoc, ← h.nms, fnd_ins.2 hx, List.map_append, List.map_append, List.map_take, List.map_drop, hp, List.append_assoc]
  rfl

/-- What is said of openPlaces. -/
def OpenSaid : Prop := ∀ (M X : Nat) (f : Fl) (bn : Nat) (nd : List Nodes.D) (base : List ByteArray) (ps0 : List Pls.Core) (w : World) (hf : FleetAt w M X f) (hM : M ≤ w.heap.size) (hpos : 0 < f.ps.length) (hl : f.ps.length ≤ 100) (hN : w.rowIs bn 42 (nd.length * 2) (Nodes.icell nd)) (hbM : bn < M) (hbX : bn ≠ X) (ld : nd.length ≤ 8) (hop : OpnIs base ps0 f.lim f.ps) (hfr : ∀ x, x ∉ insAll base → Beg.look ps0 f.lim x = ⟨x, f.lim, 1, []⟩),
    Calls Tryd.prog 31 #[.pointer (some ⟨X, 0, none⟩), .slice (some ⟨bn, 0, none⟩) nd.length nd.length] w fun e w' => e = .returned (.tuple #[]) ∧ ∃ a cap ps, FleetAt w' M X { f with a := a, cap := cap, ps := ps } ∧ OpnIs (base ++ nd.map (·.name)) ps0 f.lim ps ∧ Kp M X w w'
end Fleet
end Go.Proofs.YthgcfklfpllgnaaDoor
