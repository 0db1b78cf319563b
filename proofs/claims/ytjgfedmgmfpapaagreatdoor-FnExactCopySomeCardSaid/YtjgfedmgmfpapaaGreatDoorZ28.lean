/-
  The program's (*fleet).copySome.
-/
import Derived.Test.YtjgfedmgmfpapaaGreatDoorZ27
import Derived.Test.YtjgfedmgmfpapaaGreatDoorZ9
import Derived.Test.YtjgfedmgmfpapaaGreatDoorRows
import Derived.Laws.AppendOwn
import Derived.Test.YtjgfedmgmfpapaaGreatDoorZ13
import Derived.Test.YtjgfedmgmfpapaaGreatDoorZ18
import Derived.Test.YtjgfedmgmfpapaaGreatDoorZ1
import Derived.Lib.AppendZerosOnto
import Derived.Lib.AppendZeros
namespace Go.Proofs.YtjgfedmgmfpapaaGreatDoor
namespace Fleet
open Go.RowKit Base Store Items OwnR Keep Clus Marks Plc Mv
open _root_.Go.Proofs.YtjgfedmgmfpapaaGreatDoor.Shelf (FullIs)
set_option linter.unusedVariables false

theorem drop_core {ps qs : List Pc} {now : Int} (h : DropTo ps now ps.length qs) : qs.map pcore = (ps.map pcore).map (dropC now) ∧ ((∀ p ∈ ps, p.lost = 0) → ∀ p ∈ qs, p.lost = 0) := by
  obtain ⟨h1, h2⟩ := h
  have he : ∀ i, i < ps.length → ∃ S, qs.getD i zeroP = upd (ps.getD i zeroP) S (ps.getD i zeroP).lim (ps.getD i zeroP).nx (ps.getD i zeroP).lost (Store.keepB (ps.getD i zeroP).its now) := fun i hi => (h2 i hi).1 hi
  refine ⟨?_, fun hz p hp => ?_⟩
  · apply List.ext_getElem
    · simp [h1]
    · intro i hi1 hi2
      have hi : i < ps.length := by simpa using hi2
      have hq : i < qs.length := by omega
      obtain ⟨S, e⟩ := he i hi
      simp only [List.getElem_map]
      rw [← getD_at hq, ← getD_at hi, e]
      rfl
  · obtain ⟨i, hi, rfl⟩ := List.getElem_of_mem hp
    obtain ⟨S, e⟩ := he i (by omega)
    rw [← getD_at hi, e]
    show (ps.getD i zeroP).lost = 0
    exact hz _ (getD_mem (by omega))
theorem lsum_zero : ∀ {ps : List Pc}, (∀ p ∈ ps, p.lost = 0) → lsum ps = 0
  | [], _ => rfl
  | p :: r, h => by
    have h1 := h p List.mem_cons_self
    have h2 := lsum_zero (ps := r) (fun q hq => h q (List.mem_cons_of_mem _ hq))
    show p.lost + lsum r = 0
    omega
/-- Ahead of the first move. -/
theorem sv_start {C : CC} {qs : List Pc} (hi : Inv C (C.ps.map (dropC C.now))) (hc : qs.map pcore = C.ps.map (dropC C.now)) (h0 : ∀ p ∈ qs, p.lost = 0) : Sv C (C.ps.map (dropC C.now)) 0 qs := by
  refine ⟨hc, by rw [lsum_zero h0]; rfl, fun p hp => ?_, fun j hj => by omega⟩
  have h1 := h0 p hp
  have h2 := (hi.pl (pcore p) (by rw [← hc]; exact List.mem_map_of_mem hp)).2.1
  have e : (pcore p).its = p.its := rfl
  rw [e] at h2
  omega
theorem mv_len (cs : List Nodes.D) : ∀ (m : Nat) (t : List Pls.Core × Nat), (mvN cs m t).1.length = t.1.length
  | 0, _ => rfl
  | m + 1, t => by
    show (mv1 cs (mvN cs m t)).1.length = _
    unfold mv1 mvAt
    simp [mv_len cs m t]
/-- What is left behind the moves can be told. -/
theorem copy_left {now nx lim lost : Int} {b1 b2 : Nat} {ns cs : List Nodes.D} {L : List Pls.Pl} {M X m : Nat} {f : Fl} {qs : List Pc} {w' : World} {C : CC} {R : CC × Int × Bool} (hC : C = ⟨now, nx, lim, lost, ns, cs, L.map Pls.core⟩) (hg : gcB C = true) (hcs : C.cs ≠ []) (hfi : FlIs f now nx lim lost (.slice (some ⟨b1, 0, none⟩) ns.length ns.length) (.slice (some ⟨b2, 0, none⟩) cs.length cs.length) (L.map Pls.core)) (hs : Sv C (C.ps.map (dropC C.now)) m qs) (hm : m ≤ 100) (hR : R = (csC C m, ((m : Nat) : Int), true))
    (hf : FleetAt w' M X { f with ps := qs }) (hn : w'.rowIs b1 98 (ns.length * 2) (Nodes.icell ns)) (hc : w'.rowIs b2 98 (cs.length * 2) (Nodes.icell cs)) : Left M X R ((m : Nat) : Int) w' := by
  have hCL : C.ps = L.map Pls.core := by rw [hC]
  have hCc : C.cs = cs := by rw [hC]
  have hCn : C.ns = ns := by rw [hC]
  obtain ⟨o1, o2, o3⟩ := gc_ok hCL hg
  obtain ⟨d1, d2, d3, d4⟩ := gc_head' hg
  have d5 : NodesM.gnB cs = true := by rw [← hCc]; exact d4.resolve_left hcs
  have d6 : NodesM.gnB ns = true := by rw [← hCn]; exact d3
  obtain ⟨k1, k2⟩ := node_small d5
  obtain ⟨k3, k4⟩ := node_small d6
  have hh := hg
  rw [gc_eq, Bool.and_eq_true, Bool.and_eq_true] at hh
  obtain ⟨-, -, hlim, -, -, -⟩ := (head_iff C).1 hh.1.1
  simp only [GoodKey.inB, Bool.and_eq_true, decide_eq_true_eq] at hlim
  have hinv := hs.inv (inv_start hg) hg hcs hlim.1
  have hlen : qs.length = C.ps.length := by have := hinv.len; simpa using this
  have hlo : f.lost = C.lost := by rw [hfi.lost, hC]
  have hnam : ∀ p ∈ qs, p.name.size ≤ 1048576 := fun p hp => by
    have h1 : p.name ∈ (qs.map pcore).map (·.name) := by rw [List.map_map]; exact List.mem_map.2 ⟨p, hp, rfl⟩
    rw [hinv.nm] at h1
    obtain ⟨c, hc1, hc2⟩ := List.mem_map.1 h1
    rw [← hc2]; exact (o3 c hc1).1
  refine ⟨⟨_, some ⟨b1, 0, none⟩, some ⟨b2, 0, none⟩, ns.length, cs.length, ns, cs, hf, hfi.v4, hfi.v5, Nodes.LAt.row hn, Nodes.LAt.row hc, k3, k1, k4, k2, ?_, ?_⟩⟩
  · refine fine_of (by show qs.length ≤ 16; omega) (by show 0 < qs.length; omega) (by show 0 ≤ f.lost ∧ f.lost ≤ 1000000; omega) (fun p hp => ?_) (fun p hp => ?_)
    · have := hs.bd p hp
      omega
    · have h2 := (hinv.pl (pcore p) (List.mem_map_of_mem hp)).2.1
      exact ⟨hnam p hp, by show p.its.length ≤ 100; have e : (pcore p).its = p.its := rfl; rw [e] at h2; omega⟩
  · rw [hR]
    unfold csC t0
    dsimp only
    rw [lostTo_sum qs f.lost (by omega) (fun p hp => (hs.bd p hp).1), hs.ls, hs.co, hlo, hfi.now, hfi.nx, hfi.lim]
    rw [show C.now = now by rw [hC], show C.nx = nx by rw [hC], show C.lim = lim by rw [hC], hCn, hCc]

set_option maxRecDepth 10000 in
set_option maxHeartbeats 4000000 in
theorem copySome_any (now nx lim lost : Int) (b1 b2 : Nat) (ns cs : List Nodes.D) (L : List Pls.Pl) (many : Int) (M X : Nat) (f : Fl) (p : Addr) (w : World) (hg : gcB ⟨now, nx, lim, lost, ns, cs, L.map Pls.core⟩ = true) (hf : FleetAt w M X f) (hM : M ≤ w.heap.size) (hfi : FlIs f now nx lim lost (.slice (some ⟨b1, 0, none⟩) ns.length ns.length) (.slice (some ⟨b2, 0, none⟩) cs.length cs.length) (L.map Pls.core)) (hrg : RingsAt w M X f ns cs) (hb1 : b1 < X) (hb2 : b2 < X) (hn : w.rowIs b1 98 (ns.length * 2) (Nodes.icell ns)) (hc : w.rowIs b2 98 (cs.length * 2) (Nodes.icell cs)) (hF : FullIs w p) (hFX : 0 < X) :
    Calls Tryz.prog 28 #[.pointer (some ⟨X, 0, none⟩), .int .i64 many] w (StepTo M X (csR ⟨now, nx, lim, lost, ns, cs, L.map Pls.core⟩ many) w) := by
  obtain ⟨C, hC⟩ : ∃ C : CC, C = ⟨now, nx, lim, lost, ns, cs, L.map Pls.core⟩ := ⟨_, rfl⟩
  rw [← hC] at hg ⊢
  have hCL : C.ps = L.map Pls.core := by rw [hC]
  have hCc : C.cs = cs := by rw [hC]
  have hCn : C.ns = ns := by rw [hC]
  have x5 := hf.box.cells.2.2.2.2.2.1
  rw [hfi.v5] at x5
  by_cases hcz : cs.length = 0
  · have H : Hid (csR C many = (noCC, 0, false)) := hide (cs_still (by rw [hCc]; exact hcz))
    generalize csR C many = R at H ⊢
    have hz1 : ((cs.length : Int) == 0) = true := by simp [hcz]
    have hz2 : decide ((cs.length : Int) = 0) = true := by simp [hcz]
    generalize cs.length = cl at *
    clear hf hfi hrg hc hg hC hCL hCc hcz hn hF
    go_enter Tryz.func28, Tryz.ntmps28
    go_wp2
    go_ret2
    exact ⟨0, false, rfl, Kp.refl _ _ _, .inl ⟨rfl, unhide H⟩⟩
  have hd1 : ((cs.length : Int) == 0) = false := by simpa using hcz
  have hd2 : decide ((cs.length : Int) = 0) = false := by simpa using hcz
  have hd3 : (cs.length == 0) = false := by simpa using hcz
  have hd4 : decide (cs.length = 0) = false := by simpa using hcz
  cases hin : GoodKey.inB many 0 100
  · have H : Hid (csR C many = (noCC, 0, false)) := hide (cs_out hin)
    generalize csR C many = R at H ⊢
    generalize cs.length = cl at *
    have hor : many < 0 ∨ (¬ many < 0 ∧ 100 < many) := by
      simp only [GoodKey.inB, Bool.and_eq_false_iff, decide_eq_false_iff_not] at hin
      omega
    clear hf hfi hrg hc hg hC hCL hCc hcz hn hF hin
    rcases hor with h1 | ⟨h1, h2⟩
    · have he1 : decide (many < 0) = true := decide_eq_true h1
      go_enter Tryz.func28, Tryz.ntmps28
      go_wp2
      go_ret2
      exact ⟨0, false, rfl, Kp.refl _ _ _, .inl ⟨rfl, unhide H⟩⟩
    · have he1 : decide (many < 0) = false := decide_eq_false h1
      have he2 : decide (100 < many) = true := decide_eq_true h2
      go_enter Tryz.func28, Tryz.ntmps28
      go_wp2
      go_ret2
      exact ⟨0, false, rfl, Kp.refl _ _ _, .inl ⟨rfl, unhide H⟩⟩
  obtain ⟨mn, hmn, hm100⟩ : ∃ mn : Nat, many = (mn : Int) ∧ mn ≤ 100 := by
    simp only [GoodKey.inB, Bool.and_eq_true, decide_eq_true_eq] at hin
    exact ⟨many.toNat, by omega, by omega⟩
  subst hmn
  have he1 : decide ((mn : Int) < 0) = false := decide_eq_false (by omega)
  have he2 : decide (100 < (mn : Int)) = false := decide_eq_false (by omega)
  have he3 : ¬ (mn : Int) < 0 := by omega
  have he4 : ¬ 100 < (mn : Int) := by omega
  have hcs : C.cs ≠ [] := by rw [hCc]; rintro rfl; simp at hcz
  have hps : f.ps.map pcore = C.ps := by rw [hCL]; exact hfi.ps
  have hfl : f.ps.length = C.ps.length := by rw [← hps]; simp
  obtain ⟨o1, o2, o3⟩ := gc_ok hCL hg
  have hh := hg
  rw [gc_eq, Bool.and_eq_true, Bool.and_eq_true] at hh
  obtain ⟨-, -, hlim, -, -, -⟩ := (head_iff C).1 hh.1.1
  simp only [GoodKey.inB, Bool.and_eq_true, decide_eq_true_eq] at hlim
  have hil : ∀ q ∈ f.ps, q.its.length ≤ 100 := fun q hq => (o3 _ (by rw [← hps]; exact List.mem_map_of_mem hq)).2
  have hfn : f.now = C.now := by rw [hfi.now, hC]
  have hxm := hf.xm
  have HDR := hide (dropOld_any M X f w hf (by omega) (by omega) hil hM)
  have HMS : Hid (∀ u qs, FleetAt u M X { f with ps := qs } → DropTo f.ps f.now f.ps.length qs → Kp M X w u → Calls Tryz.prog 60 #[.pointer (some ⟨X, 0, none⟩), .int .i64 (mn : Int)] u (MsEnd C M X { f with ps := qs } (C.ps.map (dropC C.now)) mn u)) := fun u qs hfu hdr hk => by
    obtain ⟨q1, q2⟩ := drop_core hdr
    rw [hps, hfn] at q1
    have hql : qs.length = f.ps.length := hdr.1
    refine moveSome_any C M X { f with ps := qs } p (C.ps.map (dropC C.now)) mn u ⟨hg, hcs, hfn, ?_, ?_, by omega, by omega, Nat.le_trans hM hk.size⟩ (inv_start hg) hlim.1 hfu (sv_start (inv_start hg) q1 (q2 hfi.no)) (by show qs.length ≤ 16; omega) (by show 0 < qs.length; omega) hm100
    · rw [hCn, hCc]; exact hrg.kp hk rfl rfl
    · exact ⟨(World.cell?_of_block (a := ⟨0, 0, none⟩) (hk.block 0 (by omega) (by omega))).trans hF.cell, Nat.lt_of_lt_of_le hF.lt hk.size⟩
  have HYES : Hid (∀ m, m ≤ mn → (∀ j, j < m → noneB C.cs (mvN C.cs j (t0 C)).1 = false) → (m = mn ∨ noneB C.cs (mvN C.cs m (t0 C)).1 = true) → csR C (mn : Int) = (csC C m, ((m : Nat) : Int), true)) := fun m h1 h2 h3 => cs_yes hg (by rw [hCc]; exact hcz) hm100 h1 h2 h3
  have HLF : Hid (∀ (R : CC × Int × Bool) m qs u, Sv C (C.ps.map (dropC C.now)) m qs → m ≤ mn → R = (csC C m, ((m : Nat) : Int), true) → FleetAt u M X { f with ps := qs } → Kp M X w u → Left M X R ((m : Nat) : Int) u) := fun R m qs u hs hm hR hfu hk =>
    copy_left hC hg hcs hfi hs (by omega) hR hfu (hn.of_block (hk.block b1 (by omega) (by omega))) (hc.of_block (hk.block b2 (by omega) (by omega)))
  obtain ⟨R, hRR⟩ : ∃ R, R = csR C (mn : Int) := ⟨_, rfl⟩
  rw [← hRR] at HYES ⊢
  clear hg hf hfi hrg hn hc hF hcz hin hC hCL hCc hCn hcs hps hfl o1 o2 o3 hh hlim hil hfn hRR
  generalize cs.length = cl at *
  go_enter Tryz.func28, Tryz.ntmps28
  go_wp2_with fail
  refine (unhide HDR).mono ?_
  rintro e w1 ⟨qs, rfl, hf1, hdr1, hk1⟩
  have HM1 := hide (unhide HMS w1 qs hf1 hdr1 hk1)
  have K1 := hide hk1
  clear hf1 hdr1 hk1 HDR HMS x5
  go_wp2_with fail
  refine (unhide HM1).mono ?_
  rintro e w2 ⟨m, qs2, rfl, hf2, hs2, hm2, hend2, hk2⟩
  have hRE := unhide HYES m hm2 hs2.nn (by
    rcases hend2 with h | h
    · exact .inl h
    · exact .inr (by show noneB C.cs (mvN C.cs m (C.ps.map (dropC C.now), 0)).1 = true; rw [← hs2.co]; exact h))
  have K2 := hide ((unhide K1).trans hk2)
  have HLE := hide (unhide HLF R m qs2 w2 hs2 hm2 hRE hf2 (unhide K2))
  clear hf2 hs2 hend2 hk2 hRE HM1 HYES HLF K1
  go_wp2
  go_ret2
  exact ⟨((m : Nat) : Int), true, rfl, unhide K2, .inr ⟨rfl, unhide HLE⟩⟩
end Fleet
end Go.Proofs.YtjgfedmgmfpapaaGreatDoor
/-
  Rows of numbers, in memory and by append. No Go function is spoken of here.
-/
namespace Go.Proofs.YtjgfedmgmfpapaaGreatDoor
namespace Ints
open Go.RowKit Base OwnR
set_option linter.unusedVariables false
def ncell (l : List Int) (i : Nat) : Value := .int .i64 (l.getD i 0)


/-- A slice of numbers that lies in memory. -/
def NAt (w : World) (a : Option Addr) (l : List Int) : Prop := l ≠ [] → ∃ b off, a = some ⟨b, off, none⟩ ∧ b < w.heap.size ∧ ∀ i, i < l.length → w.cell? ⟨b, off + i, none⟩ = some (.int .i64 (l.getD i 0))
theorem info_ex : ∃ i, Tryz.prog.info? 3 = some i ∧ i.zero = some (.int .i64 0) ∧ i.size = 1 ∧ i.bytes = 8 := by
  have h : (Tryz.prog.info? 3).map (fun i => (i.zero, i.size, i.bytes)) = some (some (.int .i64 0), 1, 8) := by kernel_rfl
  obtain ⟨i, hi, hz⟩ := Option.map_eq_some_iff.1 h
  simp only [Prod.mk.injEq] at hz
  exact ⟨i, hi, hz.1, hz.2.1, hz.2.2⟩
theorem info : (Tryz.prog.info? 3).map (fun i => (i.zero, i.size, i.bytes)) = some (some (.int .i64 0), 1, 8) := by kernel_rfl
def cells (l : List Int) : List Value := l.map (Value.int .i64)
theorem cells_len (l : List Int) : (cells l).length = l.length := by simp [cells]
theorem cells_get (l : List Int) (i : Nat) (hi : i < l.length) : (cells l)[i]? = some (ncell l i) := by
  simp [cells, ncell, List.getD_eq_getElem?_getD, List.getElem?_eq_getElem hi]
theorem own_snoc {w : World} {base : Nat} {v : Value} {kept kept' : List Int} {x : Int} (h : w.ownsRow base 3 1 v (kept.length + 1) (cells kept ++ [.int .i64 x])) (e : kept' = kept ++ [x]) : w.ownsRow base 3 1 v kept'.length (cells kept') := by
  rw [e, List.length_append]
  have : cells (kept ++ [x]) = cells kept ++ [.int .i64 x] := by simp [cells]
  rw [this]
  exact h
theorem news_one (x : Int) (u : Value) (hu : u ∈ [Value.int .i64 x]) : u.oneCell' = true := by
  simp at hu; rw [hu]; rfl
theorem news_cells (w : World) (x : Int) (t : TypeId) (j : Nat) (u : Value) (hj : [Value.int .i64 x][j]? = some u) :
    (w.alloc (.cells #[.int .i64 x] t)).cell? ((⟨w.heap.size, 0, none⟩ : Addr).add j) = some u := by
  rw [Go.WideShapes.add_plain, Nat.zero_add, World.cell?_alloc_new]
  show [Value.int .i64 x].toArray[j]? = some u
  simpa using hj
end Ints
end Go.Proofs.YtjgfedmgmfpapaaGreatDoor
/-
  Rows of texts by append; rows of numbers and texts that a call has made, as slices that lie. No Go function is spoken of here.
-/
namespace Go.Proofs.YtjgfedmgmfpapaaGreatDoor
namespace StrN
open Go.RowKit Base OwnR Marks
set_option linter.unusedVariables false

theorem info_ex : ∃ i, Tryz.prog.info? 9 = some i ∧ i.zero = some (.string ByteArray.empty) ∧ i.size = 1 ∧ i.bytes = 16 := by
  have h : (Tryz.prog.info? 9).map (fun i => (i.zero, i.size, i.bytes)) = some (some (.string ByteArray.empty), 1, 16) := by kernel_rfl
  obtain ⟨i, hi, hz⟩ := Option.map_eq_some_iff.1 h
  simp only [Prod.mk.injEq] at hz
  exact ⟨i, hi, hz.1, hz.2.1, hz.2.2⟩
def cells (l : List ByteArray) : List Value := l.map Value.string
theorem cells_get (l : List ByteArray) (i : Nat) (hi : i < l.length) : (cells l)[i]? = some (.string (l.getD i ByteArray.empty)) := by
  simp [cells, List.getD_eq_getElem?_getD, List.getElem?_eq_getElem hi]
def OwnT (w : World) (B : Nat) (v : Value) (l : List ByteArray) : Prop := w.ownsRow B 9 1 v l.length (cells l)
theorem own_snoc {w : World} {base : Nat} {v : Value} {kept : List ByteArray} {x : ByteArray} (h : w.ownsRow base 9 1 v (kept.length + 1) (cells kept ++ [.string x])) : OwnT w base v (kept ++ [x]) := by
  unfold OwnT
  rw [List.length_append]
  have : cells (kept ++ [x]) = cells kept ++ [.string x] := by simp [cells]
  rw [this]
  exact h
theorem news_one (x : ByteArray) (u : Value) (hu : u ∈ [Value.string x]) : u.oneCell' = true := by
  simp at hu; rw [hu]; rfl
theorem news_cells (w : World) (x : ByteArray) (t : TypeId) (j : Nat) (u : Value) (hj : [Value.string x][j]? = some u) :
    (w.alloc (.cells #[.string x] t)).cell? ((⟨w.heap.size, 0, none⟩ : Addr).add j) = some u := by
  rw [Go.WideShapes.add_plain, Nat.zero_add, World.cell?_alloc_new]
  show [Value.string x].toArray[j]? = some u
  simpa using hj
/-- It stands while only an elder block turns. -/
theorem own_gb {w w' : World} {base : Nat} {e : TypeId} {size : Nat} {v : Value} {n : Nat} {xs : List Value} {c : Nat} (h : w.ownsRow base e size v n xs) (hg : w.grownBy w' (some c)) (hc : c < base) : w'.ownsRow base e size v n xs := by
  refine ⟨h.1, h.2.elim Or.inl ?_⟩
  rintro ⟨g, cap, cur, hv, hgB, hh, rest⟩
  exact Or.inr ⟨g, cap, cur, hv, hgB, by rw [hg.block g (Array.getElem?_eq_some_iff.1 hh).1 (fun e => by simp at e; omega)]; exact hh, rest⟩
theorem gb_own {w0 w w' : World} {c : Nat} {r : Option Nat} (h : w0.grownBy w (some c)) (hg : w.grownBy w' r) (hr : ∀ k, r = some k → w0.heap.size ≤ k) : w0.grownBy w' (some c) :=
  ⟨hg.os.trans h.os, hg.tape.trans h.tape, hg.output.trans h.output, Nat.le_trans h.size hg.size, fun i hi hne => (hg.block i (Nat.lt_of_lt_of_le hi h.size) (fun e => by have := hr i e.symm; omega)).trans (h.block i hi hne)⟩
theorem own_strs {w : World} {B : Nat} {a : Option Addr} {c : Nat} {l : List ByteArray} (h : OwnT w B (.slice a l.length c) l) : StrsAt w a l ∧ ∀ b off, a = some ⟨b, off, none⟩ → b < w.heap.size := by
  rcases h.2 with ⟨hv, h0⟩ | ⟨g, cap', cur, hv, hg, hh, hn, _, hsz, ht⟩
  · simp only [Value.slice.injEq] at hv
    exact ⟨fun hne => absurd (List.length_eq_zero_iff.1 h0) hne, fun b off e => by rw [hv.1] at e; simp at e⟩
  · simp only [Value.slice.injEq] at hv
    have hlt : g < w.heap.size := (Array.getElem?_eq_some_iff.1 hh).1
    refine ⟨fun _ => ⟨g, 0, hv.1, hlt, fun i hi => ?_⟩, fun b off e => by rw [hv.1] at e; simp at e; omega⟩
    rw [Nat.zero_add]
    have e : cur[i]? = (cells l)[i]? := by rw [← ht, List.getElem?_take_of_lt (by omega)]; simp
    simp only [World.cell?, hh, e, cells_get l i hi]
    simp
theorem own_nums {w : World} {B : Nat} {a : Option Addr} {c : Nat} {l : List Int} (h : w.ownsRow B 3 1 (.slice a l.length c) l.length (Ints.cells l)) : Ints.NAt w a l ∧ ∀ b off, a = some ⟨b, off, none⟩ → b < w.heap.size := by
  rcases h.2 with ⟨hv, h0⟩ | ⟨g, cap', cur, hv, hg, hh, hn, _, hsz, ht⟩
  · simp only [Value.slice.injEq] at hv
    exact ⟨fun hne => absurd (List.length_eq_zero_iff.1 h0) hne, fun b off e => by rw [hv.1] at e; simp at e⟩
  · simp only [Value.slice.injEq] at hv
    have hlt : g < w.heap.size := (Array.getElem?_eq_some_iff.1 hh).1
    refine ⟨fun _ => ⟨g, 0, hv.1, hlt, fun i hi => ?_⟩, fun b off e => by rw [hv.1] at e; simp at e; omega⟩
    rw [Nat.zero_add]
    have e : cur[i]? = (Ints.cells l)[i]? := by rw [← ht, List.getElem?_take_of_lt (by omega)]; simp
    simp only [World.cell?, hh, e, Ints.cells_get l i hi]
    simp [Ints.ncell]
end StrN
end Go.Proofs.YtjgfedmgmfpapaaGreatDoor
/-
  slices.Grow and slices.Concat of nodes: two slices put together.
-/
namespace Go.Proofs.YtjgfedmgmfpapaaGreatDoor
namespace Clus
open Go.RowKit Base Marks Plc
set_option linter.unusedVariables false

theorem info_node : ∃ i, Tryz.prog.info? 98 = some i ∧ i.zero = some (.agg #[.string ByteArray.empty, .int .i64 0]) ∧ i.size = 2 ∧ i.bytes = 24 := by
  have h : (Tryz.prog.info? 98).map (fun i => (i.zero, i.size, i.bytes)) = some (some (.agg #[.string ByteArray.empty, .int .i64 0]), 2, 24) := by kernel_rfl
  obtain ⟨i, hi, hz⟩ := Option.map_eq_some_iff.1 h
  simp only [Prod.mk.injEq] at hz
  exact ⟨i, hi, hz.1, hz.2.1, hz.2.2⟩

set_option maxRecDepth 10000 in
set_option maxHeartbeats 1000000 in
theorem ngrow_any (n : Nat) (h0 : 0 < n) (hn : n ≤ 60) (w : World) :
    Calls Tryz.prog 160 #[.slice none 0 0, .int .i64 (n : Int)] w fun e w' => ∃ v, e = .returned v ∧ w'.ownsRow w.heap.size 98 2 v 0 [] ∧ Below w.heap.size w w' := by
  obtain ⟨i0, hi, hz0, hz1, hz2⟩ := info_node
  have hrz : ∀ ty, (Builtin.append_ #[27, 3] ty #[.slice none 0 0, .int .i64 (n : Int)]).run Tryz.prog w =
      .ok (.slice (some ⟨w.heap.size, 0, none⟩) n (grownCap w n 0 98)) (w.drew.alloc (.cells (Builtin.zeroCells #[.string ByteArray.empty, .int .i64 0] n ++ Builtin.zeroCells #[.string ByteArray.empty, .int .i64 0] (grownCap w n 0 98 - n)) 98)) := fun ty => by
    have h := Lib.run_append_grow_zeros w 27 3 ty 98 i0 _ .i64 .i64 Tryz.underlying27 Tryz.underlying3 hi hz0 none 0 0 [] (run_firstCells_none w.drew i0.size 0 0 0) n (by omega) (by rw [hz1]; decide) (by omega) (by omega) (by rw [hz2]; omega) (by rw [hz2]; exact growslice_fits (by omega) (by omega))
    simpa [Value.cells] using h
  have hGn : n ≤ grownCap w n 0 98 := grownCap_ge w _ _ _
  have hGm : grownCap w n 0 98 ≤ maxLen := grownCap_le_maxLen w n 0 98 (by unfold maxLen; omega)
  have HOWN : Hid (((w.drew.alloc (.cells (Builtin.zeroCells #[.string ByteArray.empty, .int .i64 0] n ++ Builtin.zeroCells #[.string ByteArray.empty, .int .i64 0] (grownCap w n 0 98 - n)) 98))).ownsRow w.heap.size 98 2 (.slice (some ⟨w.heap.size, 0, none⟩) 0 (grownCap w n 0 98)) 0 []) := by
    refine ⟨rfl, .inr ⟨w.heap.size, _, _, rfl, Nat.le_refl _, heap_alloc_new w.drew _, Nat.zero_le _, hGm, ?_, rfl⟩⟩
    rw [Array.size_append, size_zeroCells, size_zeroCells]
    show n * 2 + (_ - n) * 2 = _
    omega
  have HB : Hid (Below w.heap.size w (w.drew.alloc (.cells (Builtin.zeroCells #[.string ByteArray.empty, .int .i64 0] n ++ Builtin.zeroCells #[.string ByteArray.empty, .int .i64 0] (grownCap w n 0 98 - n)) 98))) := (Below.refl _ w).drew.alloc (by simp) _
  have hG63 : grownCap w n 0 98 ≤ 9223372036854775807 := by unfold maxLen at hGm; omega
  generalize grownCap w n 0 98 = G at hrz hGn hGm HOWN HB hG63
  generalize (w.drew.alloc (.cells (Builtin.zeroCells #[.string ByteArray.empty, .int .i64 0] n ++ Builtin.zeroCells #[.string ByteArray.empty, .int .i64 0] (G - n)) 98)) = W at hrz HOWN HB
  have h1 : ¬ ((n : Int) < 0) := by omega
  have h2 : IntKind.i64.wrap (0 : Int) = 0 := rfl
  have h3 : IntKind.i64.wrap (n : Int) = (n : Int) := by rw [IntKind.wrap_i64]; omega
  have h4 : (0 : Int) < (n : Int) := by omega
  clear hi hz0 hz1 hz2
  go_enter Tryz.func160, Tryz.ntmps160
  go_wp2_with (at_builtin; refine Lib.wpList_append_run _ rfl _ _ _ _ rfl _ _ rfl rfl _ _ (hrz _) ?_)
  go_ret
  exact ⟨_, rfl, unhide HOWN, unhide HB⟩

def catN (N : Nat → List Nodes.D) (k : Nat) : List Nodes.D := (List.range k).flatMap N
theorem catN_succ (N : Nat → List Nodes.D) (k : Nat) : catN N (k + 1) = catN N k ++ N k := by
  unfold catN; rw [List.range_succ, List.flatMap_append]; simp
theorem nflat_append (a b : List Nodes.D) : nflat (a ++ b) = nflat a ++ nflat b := by simp [nflat]

set_option maxRecDepth 10000 in
set_option maxHeartbeats 2000000 in
theorem concat2 (tb : Nat) (A : Nat → Nat) (N : Nat → List Nodes.D) (w : World) (ht : ∀ i, i < 2 → w.cell? ⟨tb, i, none⟩ = some (.slice (some ⟨A i, 0, none⟩) (N i).length (N i).length)) (hr : ∀ i, i < 2 → w.rowIs (A i) 98 ((N i).length * 2) (Nodes.icell (N i))) (hl : ∀ i, i < 2 → (N i).length ≤ 8) (h0 : 0 < (N 0).length) :
    Calls Tryz.prog 134 #[.slice (some ⟨tb, 0, none⟩) 2 2] w fun e w' => ∃ v, e = .returned v ∧ w'.ownsRow w.heap.size 98 2 v (catN N 2).length (nflat (catN N 2)) ∧ Below w.heap.size w w' := by
  have htl : tb < w.heap.size := block_lt_of_cell (ht 0 (by omega))
  have HT := hide ht
  have HR := hide hr
  have HL := hide hl
  have HGR := hide ngrow_any
  obtain ⟨i0, hi, hz0, hz1, hz2⟩ := info_node
  have HI := hide hi
  have HZ0 := hide hz0
  have HZ1 := hide hz1
  have HZ2 := hide hz2
  have HPOS : Hid (0 < (catN N 2).length) := by rw [catN_succ, catN_succ]; show 0 < _; simp [catN]; omega
  clear ht hr hl hi hz0 hz1 hz2 h0
  go_enter Tryz.func134, Tryz.ntmps134
  go_wp2_with fail
  go_loopw [3, 11] (fun zv iv wr => ∃ (k z : Nat), k ≤ 2 ∧ iv = .int .i64 (k : Int) ∧ zv = .int .i64 (z : Int) ∧ z ≤ k * 8 ∧ Hid (z = (catN N k).length) ∧ Hid (Below w.heap.size w wr)) (fun _ iv _ => 2 - (intOf iv).toNat)
  case atStart => exact ⟨0, 0, Nat.zero_le _, rfl, rfl, Nat.le_refl _, hide rfl, hide (Below.refl _ _)⟩
  case round =>
    obtain ⟨k, z, hk, rfl, rfl, hzk, hz, hbw⟩ := hrel
    by_cases hlt : k < 2
    · have c0 := ((unhide hbw).cell (p := ⟨tb, k, none⟩) htl).trans (unhide HT k hlt)
      have hlk := unhide HL k hlt
      have HZ : Hid (z + (N k).length = (catN N (k + 1)).length) := hide (by rw [catN_succ, List.length_append, ← unhide hz])
      generalize (N k).length = m at c0 hlk HZ
      have hw0 : IntKind.i64.wrap ((z : Int) + (m : Int)) = ((z + m : Nat) : Int) := by rw [IntKind.wrap_i64]; omega
      have hnn : ¬ ((z + m : Nat) : Int) < 0 := by omega
      have hnn2 : ¬ (z : Int) + (m : Int) < 0 := by omega
      clear hz
      go_wp2
      go_roundw
      case rel => exact ⟨k + 1, z + m, by omega, by go_num, by first | rfl | (congr 1; omega) | go_num, by omega, HZ, hbw⟩
      case measure => simp [intOf]; omega
    · obtain rfl : k = 2 := by omega
      clear hlt
      have hzp : 0 < z := by have h1 := unhide hz; have h2 := unhide HPOS; omega
      go_wp2_with fail
      refine (unhide HGR z hzp (by omega) wr).mono ?_
      rintro e w1 ⟨v1, rfl, ho1, hb1⟩
      obtain ⟨a1, c1, rfl⟩ := OwnR.own_form ho1
      have B1 := hide ((unhide hbw).trans (hb1.mono (unhide hbw).size))
      have O1 := hide (OwnR.own_le ho1 (unhide hbw).size)
      have hzz := (unhide B1).size
      clear ho1 hb1 hbw hz hzp
      go_wp2_with fail
      go_loopw [6, 27] (fun rv iv wr => ∃ (q n : Nat) (ra : Option Addr) (rc : Nat), q ≤ 2 ∧ iv = .int .i64 (q : Int) ∧ rv = .slice ra n rc ∧ Hid (n = (catN N q).length) ∧ n ≤ q * 8 ∧ Hid (wr.ownsRow w.heap.size 98 2 (.slice ra n rc) n (nflat (catN N q))) ∧ Hid (Below w.heap.size w wr)) (fun _ iv _ => 2 - (intOf iv).toNat)
      case atStart => exact ⟨0, 0, a1, c1, Nat.zero_le _, rfl, rfl, hide rfl, Nat.le_refl _, O1, B1⟩
      case round =>
        obtain ⟨q, n, ra, rc, hq, rfl, rfl, hn, hnq, how, hbw⟩ := hrel
        by_cases hlt : q < 2
        · have c0 := ((unhide hbw).cell (p := ⟨tb, q, none⟩) htl).trans (unhide HT q hlt)
          have hlk := unhide HL q hlt
          have HROW := hide (((unhide HR q hlt).of_block ((unhide hbw).block _ (unhide HR q hlt).lt)))
          have HST := hide (catN_succ N q)
          have HCE := hide (fun j u hj => nflat_cells (off := 0) (Nodes.at_row (unhide HROW)) j u hj)
          have HLN := hide (nflat_len (N q))
          have HON := hide (fun u hu => nflat_one (l := N q) (u := u) hu)
          have hzr := (unhide hbw).size
          have HNL : Hid (∀ m, n + m = n + (N q).length → n + m = (catN N (q + 1)).length) := fun m e => by rw [unhide HST, List.length_append, ← unhide hn]; exact e
          have HNL := hide (unhide HNL (N q).length rfl)
          generalize N q = l at c0 hlk HST HCE HLN HON HNL
          generalize A q = aq at c0 HCE
          go_wp2_with (at_builtin; go_loud (refine wpList_append_own _ rfl _ _ 27 rfl w.heap.size 98 i0 _ 2 24 Tryz.underlying27 (unhide HI) (unhide HZ0) (unhide HZ1) (unhide HZ2) rfl (by decide) _ _ _ rfl (unhide how) ⟨aq, 0, none⟩ l.length l.length (nflat l) rfl (unhide HLN) (unhide HCE) (unhide HON) (by unfold maxLen; omega) (by omega) (by omega) ?_))
          intro v5 w5 h5 hg5 _
          obtain ⟨a5, c5, rfl⟩ := OwnR.own_form h5
          have HO : Hid (w5.ownsRow w.heap.size 98 2 (.slice a5 (n + l.length) c5) (n + l.length) (nflat (catN N (q + 1)))) := by rw [unhide HST, nflat_append]; exact h5
          have HB5 := hide ((unhide hbw).grown hg5 hzr (fun b e => OwnR.own_block (unhide how) b e))
          clear h5 hg5 how hn
          go_wp2
          go_roundw
          case rel => exact ⟨q + 1, n + l.length, a5, c5, by omega, by go_num, rfl, HNL, by omega, HO, HB5⟩
          case measure => simp [intOf]; omega
        · obtain rfl : q = 2 := by omega
          go_wp2
          go_ret
          exact ⟨_, rfl, by rw [← unhide hn]; exact unhide how, unhide hbw⟩
end Clus
end Go.Proofs.YtjgfedmgmfpapaaGreatDoor
