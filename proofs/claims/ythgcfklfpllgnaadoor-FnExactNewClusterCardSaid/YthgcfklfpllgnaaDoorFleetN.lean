/-
  The program's fleetOf: a cluster is set to work.
-/
import Derived.Test.YthgcfklfpllgnaaDoorZ29
import Derived.Test.YthgcfklfpllgnaaDoorClusA
import Derived.Test.YthgcfklfpllgnaaDoorZ24
import Derived.Deep.RegionLaw
import Derived.Deep.AppendLies
import Derived.Deep.Cut
import Derived.Outline
namespace Go.Proofs.YthgcfklfpllgnaaDoor
namespace Fleet
open Go.RowKit Base Store Items OwnR Keep Clus Marks
set_option linter.unusedVariables false

def pcore (p : Pc) : Pls.Core := ⟨p.name, p.lim, p.nx, p.its⟩
theorem info_p : ∃ i, Tryd.prog.info? 67 = some i ∧ i.zero = some (.pointer none) ∧ i.size = 1 ∧ i.bytes = 8 := by
  have h : (Tryd.prog.info? 67).map (fun i => (i.zero, i.size, i.bytes)) = some (some (.pointer none), 1, 8) := by kernel_rfl
  obtain ⟨i, hi, hz⟩ := Option.map_eq_some_iff.1 h
  simp only [Prod.mk.injEq] at hz
  exact ⟨i, hi, hz.1, hz.2.1, hz.2.2⟩
/-- The rings beside it. -/
def RingsAt (w : World) (M X : Nat) (f : Fl) (ns cs : List Nodes.D) : Prop :=
  ∃ g1 c1 g2 c2, f.v6 = .slice (some ⟨g1, 0, none⟩) (Ring.points ns).length c1 ∧ f.v7 = .slice (some ⟨g2, 0, none⟩) (Ring.points (goal ns cs)).length c2 ∧
    RowAt w g1 113 ((Ring.points ns).length * 2) (Points.icell (Ring.ring (Ring.points ns))) ∧ RowAt w g2 113 ((Ring.points (goal ns cs)).length * 2) (Points.icell (Ring.ring (Ring.points (goal ns cs)))) ∧ g1 < M ∧ g2 < M ∧ g1 ≠ X ∧ g2 ≠ X
theorem RingsAt.kp {w w' : World} {M X : Nat} {f f' : Fl} {ns cs : List Nodes.D} (h : RingsAt w M X f ns cs) (hk : Kp M X w w') (e6 : f'.v6 = f.v6) (e7 : f'.v7 = f.v7) : RingsAt w' M X f' ns cs := by
  obtain ⟨g1, c1, g2, c2, h1, h2, h3, h4, h5, h6, h7, h8⟩ := h
  exact ⟨g1, c1, g2, c2, e6.trans h1, e7.trans h2, h3.of_block (hk.block g1 h5 h7), h4.of_block (hk.block g2 h6 h8), h5, h6, h7, h8⟩
/-- What it holds of a cluster. -/
structure FlIs (f : Fl) (now nx lim lost : Int) (v4 v5 : Value) (ps : List Pls.Core) : Prop where
  now : f.now = now
  nx : f.nx = nx
  lim : f.lim = lim
  lost : f.lost = lost
  v4 : f.v4 = v4
  v5 : f.v5 = v5
  ps : f.ps.map pcore = ps
  no : ∀ p ∈ f.ps, p.lost = 0
theorem one_ptr (g : Nat) (u : Value) (hu : u ∈ [(Value.pointer (some ⟨g, 0, none⟩))]) : u.oneCell' = true := by
  rw [List.mem_singleton] at hu; subst hu; rfl
theorem ptr_new (w : World) (v : Value) (t : TypeId) (j : Nat) (u : Value) (hj : [v][j]? = some u) : (w.alloc (.cells #[v] t)).cell? ((⟨w.heap.size, 0, none⟩ : Addr).add j) = some u := by
  rw [Go.WideShapes.add_plain, Nat.zero_add, World.cell?_alloc_new]
  show ([v] : List Value).toArray[j]? = some u
  simpa using hj
theorem ptr_new2 (w : World) (P : Obj) (v : Value) (t : TypeId) (j : Nat) (u : Value) (hj : [v][j]? = some u) : ((w.alloc P).alloc (.cells #[v] t)).cell? ((⟨w.heap.size + 1, 0, none⟩ : Addr).add j) = some u := by
  have h := ptr_new (w.alloc P) v t j u hj
  rw [World.size_alloc] at h
  exact h
theorem four (w : World) (t : TypeId) (v0 v1 v2 v3 : Value) : (w.alloc (.cells #[v0, v1, v2, v3] t)).cell? ⟨w.heap.size, 0, none⟩ = some v0 ∧ (w.alloc (.cells #[v0, v1, v2, v3] t)).cell? ⟨w.heap.size, 1, none⟩ = some v1 ∧ (w.alloc (.cells #[v0, v1, v2, v3] t)).cell? ⟨w.heap.size, 2, none⟩ = some v2 ∧ (w.alloc (.cells #[v0, v1, v2, v3] t)).cell? ⟨w.heap.size, 3, none⟩ = some v3 := by
  refine ⟨?_, ?_, ?_, ?_⟩ <;> (rw [World.cell?_alloc_new]; rfl)
theorem seven (w : World) (t : TypeId) (v0 v1 v2 v3 v4 v5 v6 : Value) : (∀ o, (w.alloc (.cells #[v0, v1, v2, v3, v4, v5, v6] t)).cell? ⟨w.heap.size, o, none⟩ = (#[v0, v1, v2, v3, v4, v5, v6] : Array Value)[o]?) := by
  intro o; rw [World.cell?_alloc_new]
theorem goodSh {C : CC} {L : List Pls.Pl} (hL : C.ps = L.map Pls.core) (h : gcB C = true) (k : Nat) (hk : k < L.length) : (L.getD k Pls.zeroL).its.length ≤ 60 ∧ (∀ x ∈ (L.getD k Pls.zeroL).its, Store.Small x) ∧ ((L.getD k Pls.zeroL).its.map Itm.key).Nodup :=
  Flush.good_keys ((gc_stores hL h).2 k hk).1
theorem str_at {w : World} {x : Pls.Pl} (h : Pls.Str w x) : Pls.blk x < w.heap.size ∧ ∀ i, i < x.its.length → Items.At w (Pls.blk x) (0 + i * 5) (x.its.getD i Items.zero) := ⟨h.lt, fun i hi => Items.at_row h.2.1 i hi⟩
theorem FB.set6 {w : World} {X : Nat} {f : Fl} (h : FB w X f) (v : Value) : FB (w.setCell ⟨X, 6, none⟩ v) X { f with v6 := v } := by
  unfold FB rowV at *; simp [World.setCell, Array.getElem?_modify, h]
theorem FB.set7 {w : World} {X : Nat} {f : Fl} (h : FB w X f) (v : Value) : FB (w.setCell ⟨X, 7, none⟩ v) X { f with v7 := v } := by
  unfold FB rowV at *; simp [World.setCell, Array.getElem?_modify, h]
theorem row_fleet {w : World} {X g n : Nat} {f : Fl} {F : Nat → Value} (h : FB w X f) (hr : RowAt w g 113 n F) : g ≠ X := by
  rintro rfl
  obtain ⟨c, hc, _⟩ := hr
  have := hc.symm.trans h
  simp at this
theorem row_other {w : World} {g n : Nat} {t : TypeId} {F : Nat → Value} {p : Addr} (h : RowAt w g t n F) (hne : g ≠ p.block) (v : Value) : RowAt (w.setCell p v) g t n F := h.of_block (Below.heap_setCell _ _ _ _ hne)
theorem heap_two (w : World) (A B : Obj) : ((w.alloc A).alloc B).heap[w.heap.size + 1]? = some B := by
  show ((w.heap.push A).push B)[w.heap.size + 1]? = some B
  rw [show w.heap.size + 1 = (w.heap.push A).size by simp, Array.getElem?_push_size]
theorem bdrew {B : Nat} {a b : World} (h : Below B a.drew b) : Below B a b := ⟨h.os, h.tape, h.output, h.size, h.block⟩

/-- How fleetOf ends. -/
def FlEnd (now nx lim lost : Int) (b1 b2 : Nat) (ns cs : List Nodes.D) (L : List Pls.Pl) (w : World) (e : Ending) (w' : World) : Prop :=
  ∃ M X f, e = .returned (.pointer (some ⟨X, 0, none⟩)) ∧ FleetAt w' M X f ∧ w.heap.size ≤ X ∧ M ≤ w'.heap.size ∧ FlIs f now nx lim lost (.slice (some ⟨b1, 0, none⟩) ns.length ns.length) (.slice (some ⟨b2, 0, none⟩) cs.length cs.length) (L.map Pls.core) ∧ RingsAt w' M X f ns cs ∧ Below w.heap.size w w'

set_option maxRecDepth 10000 in
set_option maxHeartbeats 4000000 in
theorem fleetOf_any (now nx lim lost : Int) (b1 b2 b3 : Nat) (ns cs : List Nodes.D) (L : List Pls.Pl) (w : World) (hR : CR w b1 b2 b3 ns cs L) (hg : gcB ⟨now, nx, lim, lost, ns, cs, L.map Pls.core⟩ = true) (hv : Ring.Vars w) :
    Calls Tryd.prog 30 #[.agg #[.int .i64 now, .int .i64 nx, .int .i64 lim, .int .i64 lost, .slice (some ⟨b1, 0, none⟩) ns.length ns.length, .slice (some ⟨b2, 0, none⟩) cs.length cs.length, .slice (some ⟨b3, 0, none⟩) L.length L.length]] w (FlEnd now nx lim lost b1 b2 ns cs L w) := by
  obtain ⟨i0, hi, hz0, hz1, hz2⟩ := info_p
  have HI := hide hi
  have HZ0 := hide hz0
  have HZ1 := hide hz1
  have HZ2 := hide hz2
  have HR := hide hR
  have HGS := hide (fun k hk => goodSh (C := ⟨now, nx, lim, lost, ns, cs, L.map Pls.core⟩) (L := L) rfl hg k hk)
  have hL16 := (gc_stores (C := ⟨now, nx, lim, lost, ns, cs, L.map Pls.core⟩) (L := L) rfl hg).1
  have hhd : headB ⟨now, nx, lim, lost, ns, cs, L.map Pls.core⟩ = true := by
    rw [gc_eq, Bool.and_eq_true, Bool.and_eq_true] at hg; exact hg.1.1
  obtain ⟨-, -, -, -, g5, g6⟩ := (head_iff _).1 hhd
  have HRG := hide (fun w' (h : Below w.heap.size w w') => rings_any now nx lim lost b1 b2 b3 ns cs L w' (hR.below h (Nat.le_refl _)) g5 g6 (hv.below h))
  clear hR hg hv hhd g5 g6 hi hz0 hz1 hz2
  have C0 := seven w 27 (.int .i64 now) (.int .i64 nx) (.int .i64 lim) (.int .i64 lost) (.slice (some ⟨b1, 0, none⟩) ns.length ns.length) (.slice (some ⟨b2, 0, none⟩) cs.length cs.length) (.slice (some ⟨b3, 0, none⟩) L.length L.length)
  go_enter Tryd.func30, Tryd.ntmps30
  go_wp2_with fail
  have B0 := hide (bel2 w (.cells #[.int .i64 now, .int .i64 nx, .int .i64 lim, .int .i64 lost, .slice (some ⟨b1, 0, none⟩) ns.length ns.length, .slice (some ⟨b2, 0, none⟩) cs.length cs.length, .slice (some ⟨b3, 0, none⟩) L.length L.length] 27) (.cells #[.int .i64 now, .int .i64 nx, .int .i64 lim, .int .i64 lost, .slice (some ⟨b1, 0, none⟩) ns.length ns.length, .slice (some ⟨b2, 0, none⟩) cs.length cs.length, .slice none 0 0, .slice none 0 0, .slice none 0 0] 65))
  have F0 : Hid (FB ((w.alloc (.cells #[.int .i64 now, .int .i64 nx, .int .i64 lim, .int .i64 lost, .slice (some ⟨b1, 0, none⟩) ns.length ns.length, .slice (some ⟨b2, 0, none⟩) cs.length cs.length, .slice (some ⟨b3, 0, none⟩) L.length L.length] 27)).alloc (.cells #[.int .i64 now, .int .i64 nx, .int .i64 lim, .int .i64 lost, .slice (some ⟨b1, 0, none⟩) ns.length ns.length, .slice (some ⟨b2, 0, none⟩) cs.length cs.length, .slice none 0 0, .slice none 0 0, .slice none 0 0] 65)) (w.heap.size + 1)
      ⟨now, nx, lim, lost, .slice (some ⟨b1, 0, none⟩) ns.length ns.length, .slice (some ⟨b2, 0, none⟩) cs.length cs.length, .slice none 0 0, .slice none 0 0, none, 0, []⟩) := by
    exact heap_two w _ _
  have c6 := ((bel1 (w.alloc (.cells #[.int .i64 now, .int .i64 nx, .int .i64 lim, .int .i64 lost, .slice (some ⟨b1, 0, none⟩) ns.length ns.length, .slice (some ⟨b2, 0, none⟩) cs.length cs.length, .slice (some ⟨b3, 0, none⟩) L.length L.length] 27)) (.cells #[.int .i64 now, .int .i64 nx, .int .i64 lim, .int .i64 lost, .slice (some ⟨b1, 0, none⟩) ns.length ns.length, .slice (some ⟨b2, 0, none⟩) cs.length cs.length, .slice none 0 0, .slice none 0 0, .slice none 0 0] 65)).cell (p := ⟨w.heap.size, 6, none⟩) (by simp)).trans (C0 6)
  obtain ⟨v4, hv4⟩ : ∃ v, v = Value.slice (some ⟨b1, 0, none⟩) ns.length ns.length := ⟨_, rfl⟩
  obtain ⟨v5, hv5⟩ : ∃ v, v = Value.slice (some ⟨b2, 0, none⟩) cs.length cs.length := ⟨_, rfl⟩
  have hlt0 : w.heap.size + 1 < ((w.alloc (.cells #[.int .i64 now, .int .i64 nx, .int .i64 lim, .int .i64 lost, .slice (some ⟨b1, 0, none⟩) ns.length ns.length, .slice (some ⟨b2, 0, none⟩) cs.length cs.length, .slice (some ⟨b3, 0, none⟩) L.length L.length] 27)).alloc (.cells #[.int .i64 now, .int .i64 nx, .int .i64 lim, .int .i64 lost, .slice (some ⟨b1, 0, none⟩) ns.length ns.length, .slice (some ⟨b2, 0, none⟩) cs.length cs.length, .slice none 0 0, .slice none 0 0, .slice none 0 0] 65)).heap.size := by simp
  generalize (w.alloc (.cells #[.int .i64 now, .int .i64 nx, .int .i64 lim, .int .i64 lost, .slice (some ⟨b1, 0, none⟩) ns.length ns.length, .slice (some ⟨b2, 0, none⟩) cs.length cs.length, .slice (some ⟨b3, 0, none⟩) L.length L.length] 27)).alloc (.cells #[.int .i64 now, .int .i64 nx, .int .i64 lim, .int .i64 lost, .slice (some ⟨b1, 0, none⟩) ns.length ns.length, .slice (some ⟨b2, 0, none⟩) cs.length cs.length, .slice none 0 0, .slice none 0 0, .slice none 0 0] 65) = W0 at B0 F0 c6 hlt0 ⊢
  refine (unhide HRG _ (unhide B0)).mono ?_
  rintro e w1 ⟨g1, c1, g2, c2, rfl, hr1, hr2, hb1⟩
  have F1 := hide ((unhide F0).of_block (hb1.block _ hlt0))
  have d6 := (hb1.cell (p := ⟨w.heap.size, 6, none⟩) (by show w.heap.size < _; omega)).trans c6
  have B1 := hide ((unhide B0).trans (hb1.mono (unhide B0).size))
  have hlt1 : w.heap.size + 1 < w1.heap.size := (unhide F1).lt
  have R1 := hide hr1
  have R2 := hide hr2
  clear hb1 hr1 hr2 F0 B0 c6 hlt0 HRG C0
  generalize hXe : w.heap.size + 1 = X at F1 hlt1 ⊢
  have hXw : w.heap.size < X := by omega
  have hX1 : w.heap.size ≤ X := by omega
  have HXE := hide hXe
  clear hXe
  obtain ⟨x0, x1, x2, x3, x4, x5, x6, x7, x8⟩ := (unhide F1).cells
  have xf := (unhide F1).frozen
  go_upto_region 4 with fail
  have ne1 := row_fleet (unhide F1) (unhide R1)
  have ne2 := row_fleet (unhide F1) (unhide R2)
  have hg1 := (unhide R1).lt
  have hg2 := (unhide R2).lt
  have F2 := hide (((unhide F1).set6 (.slice (some ⟨g1, 0, none⟩) (Ring.points ns).length c1)).set7 (.slice (some ⟨g2, 0, none⟩) (Ring.points (goal ns cs)).length c2))
  have R1b := hide (row_other (row_other (unhide R1) (p := ⟨X, 6, none⟩) ne1 (.slice (some ⟨g1, 0, none⟩) (Ring.points ns).length c1)) (p := ⟨X, 7, none⟩) ne1 (.slice (some ⟨g2, 0, none⟩) (Ring.points (goal ns cs)).length c2))
  have R2b := hide (row_other (row_other (unhide R2) (p := ⟨X, 6, none⟩) ne2 (.slice (some ⟨g1, 0, none⟩) (Ring.points ns).length c1)) (p := ⟨X, 7, none⟩) ne2 (.slice (some ⟨g2, 0, none⟩) (Ring.points (goal ns cs)).length c2))
  have B2 := hide (((unhide B1).setCell (p := ⟨X, 6, none⟩) hX1 (.slice (some ⟨g1, 0, none⟩) (Ring.points ns).length c1)).setCell (p := ⟨X, 7, none⟩) hX1 (.slice (some ⟨g2, 0, none⟩) (Ring.points (goal ns cs)).length c2))
  have hz2 : ((w1.setCell ⟨X, 6, none⟩ (.slice (some ⟨g1, 0, none⟩) (Ring.points ns).length c1)).setCell ⟨X, 7, none⟩ (.slice (some ⟨g2, 0, none⟩) (Ring.points (goal ns cs)).length c2)).heap.size = w1.heap.size := by simp
  clear R1 R2 B1 x0 x1 x2 x3 x4 x5 x6 x7 x8 xf d6 F1
  generalize (w1.setCell ⟨X, 6, none⟩ (.slice (some ⟨g1, 0, none⟩) (Ring.points ns).length c1)).setCell ⟨X, 7, none⟩ (.slice (some ⟨g2, 0, none⟩) (Ring.points (goal ns cs)).length c2) = w2 at F2 R1b R2b B2 hz2 ⊢
  rw [← hz2] at hg1 hg2 hlt1
  clear hz2
  have FA0 := hide (show FleetAt w2 w2.heap.size X _ from ⟨unhide F2, World.ownsRow_nil _ _ _ _, by simp, by simp, by simp, by simp, hlt1⟩)
  have HVE := hide (And.intro hv4 hv5)
  rw [← hv4, ← hv5] at FA0 ⊢
  clear hv4 hv5 F2
  generalize hq6 : Value.slice (some ⟨g1, 0, none⟩) (Ring.points ns).length c1 = v6 at FA0 ⊢
  have HV6 := hide hq6
  clear hq6
  generalize hq7 : Value.slice (some ⟨g2, 0, none⟩) (Ring.points (goal ns cs)).length c2 = v7 at FA0 ⊢
  have HV7 := hide hq7
  clear hq7
  go_loopw [34] (fun iv wr => ∃ (k : Nat) (f : Fl), k ≤ L.length ∧ iv = .int .i64 (k : Int) ∧ Hid (FleetAt wr w2.heap.size X f) ∧ Hid (FlIs f now nx lim lost v4 v5 ((L.take k).map Pls.core)) ∧ Hid (f.v6 = v6 ∧ f.v7 = v7) ∧ Hid (Kp w2.heap.size X w2 wr)) (fun iv _ => L.length - (intOf iv).toNat)
  case atStart => exact ⟨0, _, Nat.zero_le _, rfl, FA0, hide ⟨rfl, rfl, rfl, rfl, rfl, rfl, by simp, by simp⟩, hide ⟨rfl, rfl⟩, hide (Kp.refl _ _ _)⟩
  case round =>
    obtain ⟨k, f, hk, rfl, hfa, hfl, hvv, hkp⟩ := hrel
    have BW := hide ((unhide B2).trans ((unhide hkp).below hX1 (unhide B2).size))
    by_cases hlt : k < L.length
    · have hcr := (unhide HR).below (unhide BW) (Nat.le_refl _)
      have hb3 := hcr.p.lt
      obtain ⟨p0, p1, p2, p3⟩ := Pls.lcell_at hcr.p.row k hlt
      rw [Nat.zero_add] at p0 p1 p2 p3
      obtain ⟨s1, s2, s3⟩ := unhide HGS k hlt
      have hstr := hcr.p.str k hlt
      have hxa := hstr.1
      obtain ⟨t1, t2⟩ := str_at hstr
      have HTK : Hid ((L.take (k + 1)).map Pls.core = (L.take k).map Pls.core ++ [Pls.core (L.getD k Pls.zeroL)]) := by
        show List.map _ _ = _
        rw [List.take_succ_eq_append_getElem hlt, List.map_append]
        simp [List.getD_eq_getElem?_getD, List.getElem?_eq_getElem hlt]
      have hnl : f.ps.length = k := by have := congrArg List.length (unhide hfl).ps; simp at this; omega
      generalize L.getD k Pls.zeroL = x at p0 p1 p2 p3 s1 s2 s3 hstr hxa t1 t2 HTK
      rw [hxa] at p3
      generalize Pls.blk x = xb at p3 t1 t2
      obtain ⟨q0, q1, q2, q3⟩ := four wr 59 (.string x.name) (.int .i64 x.lim) (.int .i64 x.nx) (.slice (some ⟨xb, 0, none⟩) x.its.length x.cap)
      have HSO : Hid (∀ w', Below wr.heap.size wr w' → Calls Tryd.prog 40 #[.agg #[.int .i64 x.lim, .int .i64 x.nx, .slice (some ⟨xb, 0, none⟩) x.its.length x.cap]] w' fun e w'' => ∃ h S, e = .returned (.pointer (some ⟨h, 0, none⟩)) ∧ _root_.Go.Proofs.YthgcfklfpllgnaaDoor.Shelf.Shelf w'' h S x.lim x.nx 0 x.its ∧ (∀ y ∈ S, w'.heap.size ≤ y) ∧ Below w'.heap.size w' w'') := fun w' hb => _root_.Go.Proofs.YthgcfklfpllgnaaDoor.Shelf.shelfOf_some x.lim x.nx xb 0 x.cap x.its w' (Nat.lt_of_lt_of_le t1 hb.size) (fun i hi => (t2 i hi).below hb t1) (by omega) s2 s3
      clear hcr hstr hxa t1 t2 s2 s3 HGS
      have hMr : w2.heap.size ≤ wr.heap.size := (unhide hkp).size
      have FA1 := hide ((unhide hfa).below (bel1 wr (.cells #[.string x.name, .int .i64 x.lim, .int .i64 x.nx, .slice (some ⟨xb, 0, none⟩) x.its.length x.cap] 59)))
      have KP1 := hide ((unhide hkp).trans (Kp.of_below (bel1 wr (.cells #[.string x.name, .int .i64 x.lim, .int .i64 x.nx, .slice (some ⟨xb, 0, none⟩) x.its.length x.cap] 59)) hMr))
      have BA := hide (bel1 wr (.cells #[.string x.name, .int .i64 x.lim, .int .i64 x.nx, .slice (some ⟨xb, 0, none⟩) x.its.length x.cap] 59))
      have hbx : wr.heap.size < (wr.alloc (.cells #[.string x.name, .int .i64 x.lim, .int .i64 x.nx, .slice (some ⟨xb, 0, none⟩) x.its.length x.cap] 59)).heap.size := by simp
      go_upto_region 6 with fail
      generalize wr.alloc (.cells #[.string x.name, .int .i64 x.lim, .int .i64 x.nx, .slice (some ⟨xb, 0, none⟩) x.its.length x.cap] 59) = wa at q0 q1 q2 q3 FA1 KP1 BA hbx ⊢
      generalize hbe : wr.heap.size = bx at q0 q1 q2 q3 hbx ⊢
      have hMa : w2.heap.size ≤ wa.heap.size := (unhide KP1).size
      obtain ⟨x0, x1, x2, x3, x4, x5, x6, x7, x8⟩ := (unhide FA1).box.cells
      have xf := (unhide FA1).box.frozen 8
      have hXa : X < wa.heap.size := (unhide FA1).box.lt
      have HSA := hide (fun w' (h : Below wa.heap.size wa w') => unhide HSO w' ((unhide BA).trans (h.mono (unhide BA).size)))
      clear x0 x1 x2 x3 x4 x5 x6 x7 HSO BA hbe p0 p1 p2 p3
      have HROW := hide (unhide FA1).row
      have hxm := (unhide FA1).xm
      have HXN : Hid ((rowV f).ownBlock ≠ some X) := fun e => by have := ((unhide FA1).row.lt X e).1; omega
      have HNL := hide hnl
      have hn16 : f.ps.length ≤ 16 := by omega
      clear hnl
      go_region_law (first
        | (refine step_append_lies _ (by rfl) _ _ _ (by rfl) w2.heap.size 67 i0 _ 1 8 Tryd.underlying63 (unhide HI) (unhide HZ0) (unhide HZ1) (unhide HZ2) rfl (by decide) _ _ _ (by rfl) (unhide HOW _ _) ⟨w3.heap.size + 1, 0, none⟩ 1 1 [.pointer (some ⟨w3.heap.size, 0, none⟩)] (by rfl) rfl (ptr_new2 w3 _ _ _) (one_ptr _) (by omega) (by unfold maxLen; omega) (by omega) (by rw [World.size_alloc, World.size_alloc]; omega) (w3.heap.size + 2) (by simp) ?_; intro g cap w4 hown4 hgrow hat hlt4; have e4 := (hgrow.block X (by rw [World.size_alloc, World.size_alloc]; omega) (fun e => unhide HXN e.symm)).trans ((bel2 w3 _ _).block X hX3); have y8 := (World.cell?_of_block (a := ⟨X, 8, none⟩) e4).trans z8; have yf := (World.frozen?_of_block (a := ⟨X, 8, none⟩) e4).trans zf; have PUSH := hide (FleetAt.push (unhide FA1) hMa (unhide HB3) (unhide HSH) (unhide HSS) rfl hown4 hgrow (by rcases hat with e | e; exact .inl e; exact .inr (by rw [e]; rfl))); clear hown4 hgrow hat e4)
        | (go_simp; go_at_call 40; (refine (unhide HSA _ ((Below.refl _ _).drew)).mono ?_; rintro e w3 ⟨h, S, rfl, hsh, hS, hb3⟩; have HB3 := hide (bdrew hb3); have HSH := hide hsh; have HSS := hide hS; have hX3 : X < w3.heap.size := Nat.lt_of_lt_of_le hXa hb3.size; have hz3 : wa.heap.size ≤ w3.heap.size := hb3.size; have z8 := (hb3.cell (p := ⟨X, 8, none⟩) hXa).trans x8; have zf := (hb3.frozen (p := ⟨X, 8, none⟩) hXa).trans xf; have z0 := (hb3.cell (p := ⟨bx, 0, none⟩) hbx).trans q0; have HOW : Hid (∀ P Q, ((w3.alloc P).alloc Q).ownsRow w2.heap.size 67 1 (rowV f) f.ps.length (f.ps.map ptr)) := fun P Q => own_below (own_below (unhide HROW) (unhide HB3) (Nat.le_refl _)) (bel2 w3 P Q) (Nat.le_refl _); clear hsh hS hb3)))
      all_goals
        obtain ⟨hfn, hkn⟩ := unhide PUSH
        have FN := hide hfn
        have KN := hide ((unhide KP1).trans hkn)
        clear hfn hkn PUSH
        have FI : Hid (FlIs { f with a := some ⟨g, 0, none⟩, cap := cap, ps := f.ps ++ [⟨x.name, w3.heap.size, h, S, x.lim, x.nx, 0, x.its⟩] } now nx lim lost v4 v5 ((L.take (k + 1)).map Pls.core)) := by
          obtain ⟨i1, i2, i3, i4, i5, i6, i7, i8⟩ := unhide hfl
          refine ⟨i1, i2, i3, i4, i5, i6, ?_, ?_⟩
          · rw [unhide HTK, ← i7]; simp [pcore, Pls.core]
          · intro p hp
            rcases List.mem_append.1 hp with hp | hp
            · exact i8 p hp
            · rw [List.mem_singleton] at hp; subst hp; rfl
        go_wp2
        go_roundw
        case rel => exact ⟨k + 1, _, by omega, by go_num, FN, FI, hvv, KN⟩
        case measure => simp [intOf]; omega
    · obtain rfl : k = L.length := by omega
      have hfl2 := unhide hfl
      rw [List.take_length] at hfl2
      have HFL := hide hfl2
      have hvv2 := unhide hvv
      have HR3 : Hid (RingsAt wr w2.heap.size X f ns cs) := by
        have h0 : RingsAt w2 w2.heap.size X f ns cs := ⟨g1, c1, g2, c2, hvv2.1.trans (unhide HV6).symm, hvv2.2.trans (unhide HV7).symm, unhide R1b, unhide R2b, hg1, hg2, ne1, ne2⟩
        exact h0.kp (unhide hkp) rfl rfl
      obtain ⟨e4, e5⟩ := unhide HVE
      clear hfl2 hvv2
      go_wp2
      go_ret
      exact ⟨w2.heap.size, X, f, rfl, unhide hfa, hX1, (unhide hkp).size, by rw [← e4, ← e5]; exact unhide HFL, unhide HR3, unhide BW⟩
end Fleet
end Go.Proofs.YthgcfklfpllgnaaDoor
