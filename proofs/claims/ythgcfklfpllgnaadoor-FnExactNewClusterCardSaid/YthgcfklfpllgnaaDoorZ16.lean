/-
  Contracts of the law files' markPlaceS and markCluster over a cluster that a call has laid itself: what the marks leave, and that nothing else turns.
-/
import Derived.Test.YthgcfklfpllgnaaDoorZ9
import Derived.Test.YthgcfklfpllgnaaDoorZ11
import Derived.Test.YthgcfklfpllgnaaDoorZ15
import Derived.Test.YthgcfklfpllgnaaDoorZ13
import Derived.Test.YthgcfklfpllgnaaDoorZ2
import Derived.Test.YthgcfklfpllgnaaDoorRows
namespace Go.Proofs.YthgcfklfpllgnaaDoor
namespace Clus
open Go.RowKit Base Marks Keep
set_option linter.unusedVariables false

/-- How many items the first i places have. -/
def cnt (L : List Pls.Pl) (i : Nat) : Nat := ((L.take i).map (·.its.length)).sum
theorem cnt_succ {L : List Pls.Pl} {i : Nat} (hi : i < L.length) : cnt L (i + 1) = cnt L i + (L.getD i Pls.zeroL).its.length := by
  unfold cnt
  rw [List.take_succ_eq_append_getElem hi, List.map_append, List.sum_append]
  simp [List.getD_eq_getElem?_getD, List.getElem?_eq_getElem hi]
theorem cnt_le {L : List Pls.Pl} : ∀ {i : Nat}, i ≤ L.length → cnt L i ≤ cnt L L.length := by
  intro i hi
  have key : ∀ d, i + d ≤ L.length → cnt L i ≤ cnt L (i + d) := by
    intro d
    induction d with
    | zero => intro _; exact Nat.le_refl _
    | succ d ih =>
      intro h
      have h1 := ih (by omega)
      have h2 := cnt_succ (L := L) (i := i + d) (by omega)
      rw [← Nat.add_assoc]
      omega
  have := key (L.length - i) (by omega)
  rwa [show i + (L.length - i) = L.length by omega] at this
/-- The first mark of place i. -/
def mk (L : List Pls.Pl) (k : Int) (i : Nat) : Int := k + 3 * i + 5 * cnt L i
theorem mk_succ {L : List Pls.Pl} {k : Int} {i : Nat} (hi : i < L.length) : mk L k (i + 1) = mk L k i + 3 + (L.getD i Pls.zeroL).its.length * 5 := by
  unfold mk
  rw [cnt_succ hi]
  omega
def pcell (L : List Pls.Pl) (k : Int) (j : Nat) : Value := if j % 4 = 0 then .string (mtxt (mk L k (j / 4)).toNat) else if j % 4 = 1 then .int .i64 (mk L k (j / 4) + 1) else if j % 4 = 2 then .int .i64 (mk L k (j / 4) + 2) else Pls.lcell L j
def phalf (L : List Pls.Pl) (k : Int) (i j : Nat) : Value := if j < i * 4 then pcell L k j else Pls.lcell L j
theorem phalf_step (L : List Pls.Pl) (k : Int) (i j : Nat) : (if j = i * 4 + 2 then (.int .i64 (mk L k i + 1 + 1) : Value) else if j = i * 4 + 1 then (.int .i64 (mk L k i + 1) : Value) else if j = i * 4 then (.string (mtxt (mk L k i).toNat) : Value) else phalf L k i j) = phalf L k (i + 1) j := by
  unfold phalf
  by_cases h2 : j = i * 4 + 2
  · subst h2
    rw [if_pos rfl, if_pos (by omega), pcell, if_neg (by omega), if_neg (by omega), if_pos (by omega), show (i * 4 + 2) / 4 = i by omega]
    congr 1; omega
  rw [if_neg h2]
  by_cases h1 : j = i * 4 + 1
  · subst h1
    rw [if_pos rfl, if_pos (by omega), pcell, if_neg (by omega), if_pos (by omega), show (i * 4 + 1) / 4 = i by omega]
  rw [if_neg h1]
  by_cases h0 : j = i * 4
  · subst h0
    rw [if_pos rfl, if_pos (by omega), pcell, if_pos (by omega), show i * 4 / 4 = i by omega]
  rw [if_neg h0]
  by_cases h : j < i * 4
  · rw [if_pos h, if_pos (by omega)]
  · rw [if_neg h]
    by_cases h3 : j = i * 4 + 3
    · subst h3
      rw [if_pos (by omega), pcell, if_neg (by omega), if_neg (by omega), if_neg (by omega)]
    · rw [if_neg (by omega)]
def itm (L : List Pls.Pl) (k : Int) (i j : Nat) : Nat → Value := if j < i then mcell (mk L k j + 3) else Items.icell (L.getD j Pls.zeroL).its
/-- Places that bear the marks from k on. -/
structure PM (w : World) (b : Nat) (L : List Pls.Pl) (k : Int) : Prop where
  row : RowAt w b 59 (L.length * 4) (pcell L k)
  its : ∀ j, j < L.length → RowAt w (Pls.blk (L.getD j Pls.zeroL)) 92 ((L.getD j Pls.zeroL).its.length * 5) (mcell (mk L k j + 3))
theorem blk_mem {L : List Pls.Pl} {i : Nat} (hi : i < L.length) (b : Nat) : Pls.blk (L.getD i Pls.zeroL) ∈ b :: L.map Pls.blk := List.mem_cons_of_mem _ (List.mem_map.2 ⟨_, Pls.getD_mem hi, rfl⟩)

set_option maxRecDepth 10000 in
set_option maxHeartbeats 2000000 in
theorem places_mark (b cap : Nat) (L : List Pls.Pl) (k : Int) (w : World) (h : Pls.RAt w b L) (hk0 : 0 < k) (hk1 : k ≤ 1000000000) (hn : L.length ≤ 1048576) (ht : cnt L L.length ≤ 1048576) :
    Calls Tryd.prog 23 #[.slice (some ⟨b, 0, none⟩) L.length cap, .int .i64 k] w fun e w' => e = .returned (.int .i64 (mk L k L.length)) ∧ PM w' b L k ∧ Keeps (b :: L.map Pls.blk) w w' := by
  have HR := hide h
  have hlb := h.lt
  clear h
  go_enter Tryd.func23, Tryd.ntmps23
  go_wp2_with fail
  go_loopw [1, 5] (fun kv iv wr => ∃ (i : Nat) (z : Int), i ≤ L.length ∧ iv = .int .i64 (i : Int) ∧ kv = .int .i64 z ∧ 0 < z ∧ z ≤ 1100000000 ∧ Hid (z = mk L k i) ∧ Hid (RowAt wr b 59 (L.length * 4) (phalf L k i)) ∧ Hid (∀ j, j < L.length → RowAt wr (Pls.blk (L.getD j Pls.zeroL)) 92 ((L.getD j Pls.zeroL).its.length * 5) (itm L k i j)) ∧ Hid (Keeps (b :: L.map Pls.blk) w wr)) (fun _ iv _ => L.length - (intOf iv).toNat)
  case atStart => exact ⟨0, k, Nat.zero_le _, rfl, rfl, hk0, by omega, hide (by simp [mk, cnt]), hide ((RowAt.of_row (unhide HR).row).congr (fun j _ => by simp [phalf])), hide (fun j hj => by unfold itm; rw [if_neg (by omega)]; exact RowAt.of_row ((unhide HR).str j hj).2.1), hide (Keeps.refl _ _)⟩
  case round =>
    obtain ⟨i, z, hi, rfl, rfl, hz0, hz1, hz, hrow, hits, hkp⟩ := hrel
    by_cases hlt : i < L.length
    · have hstr := (unhide HR).str i hlt
      have hfar := (unhide HR).far i hlt
      have hne : ∀ j, j < L.length → Pls.blk (L.getD j Pls.zeroL) ≠ b := fun j hj => by have := (unhide HR).far j hj; omega
      have hdis : ∀ j, j < L.length → j ≠ i → Pls.blk (L.getD j Pls.zeroL) ≠ Pls.blk (L.getD i Pls.zeroL) := fun j hj hji => by
        rcases Nat.lt_or_gt_of_ne hji with h | h
        · exact Nat.ne_of_lt ((unhide HR).up j i h hlt)
        · exact Nat.ne_of_gt ((unhide HR).up i j h hj)
      have HNE := hide hne
      have HDIS := hide hdis
      have HMEM := hide (blk_mem hlt b)
      have HMS := hide (mk_succ (k := k) hlt)
      have hc1 := cnt_succ hlt
      have hc2 := cnt_le (L := L) (i := i + 1) (by omega)
      have HST := hide (fun j => phalf_step L k i j)
      have hzz : Hid (z + 3 + ((L.getD i Pls.zeroL).its.length : Int) * 5 ≤ 1100000000) := hide (by
        have e1 := unhide hz
        unfold mk at e1
        have e2 : (L.getD i Pls.zeroL).its.length ≤ 1048576 := by omega
        omega)
      rw [← unhide hz] at HST HMS
      have e3 : phalf L k i (i * 4 + 3) = .slice (some ⟨Pls.blk (L.getD i Pls.zeroL), 0, none⟩) (L.getD i Pls.zeroL).its.length (L.getD i Pls.zeroL).its.length := by
        rw [phalf, if_neg (by omega), Pls.lcell, if_neg (by omega), if_neg (by omega), if_neg (by omega), show (i * 4 + 3) / 4 = i by omega]
        obtain ⟨ha, _, hc⟩ := hstr
        rw [hc]
        congr 1
      have HIX := hide (unhide HNE i hlt)
      clear hne hdis hfar hc1 hc2 hstr
      generalize hx : L.getD i Pls.zeroL = x at e3 HMEM HMS hzz HIX HDIS
      have HX := hide hx
      clear hx
      have HE3 := hide e3
      clear e3
      generalize hgx : Pls.blk x = gx at HE3 HMEM HIX HDIS
      have HGX := hide hgx
      clear hgx
      have hlr : b < wr.heap.size := (unhide hrow).lt
      go_wp2_with fail
      refine (Marks.text_any z _ (by omega) (by omega)).mono ?_
      rintro e w1 ⟨rfl, hb1⟩
      have row1 := (unhide hrow).below hb1 hlr
      have d0 := row1.cell (i := i * 4) (by omega)
      have d1 := row1.cell (i := i * 4 + 1) (by omega)
      have d2 := row1.cell (i := i * 4 + 2) (by omega)
      have d3 := row1.cell (i := i * 4 + 3) (by omega)
      rw [unhide HE3] at d3
      have f0 := row1.frozen (i * 4)
      have f1 := row1.frozen (i * 4 + 1)
      have f2 := row1.frozen (i * 4 + 2)
      have ROW2 := hide ((((row1.set (i * 4) (.string (mtxt z.toNat))).set (i * 4 + 1) (.int .i64 (z + 1))).set (i * 4 + 2) (.int .i64 (z + 1 + 1))).congr (g := phalf L k (i + 1)) (fun j _ => unhide HST j))
      have ITS1 := hide (fun j hj => (unhide hits j hj).below hb1 (unhide hits j hj).lt)
      have KP1 := hide ((unhide hkp).trans (S' := []) (Keeps.of_below hb1 (fun q hq _ => hq)) (by simp))
      clear hrow hits hkp hb1 row1 HST
      generalize phalf L k i (i * 4) = o0 at d0
      generalize phalf L k i (i * 4 + 1) = o1 at d1
      generalize phalf L k i (i * 4 + 2) = o2 at d2
      go_wp2_with fail
      have KP2 : Hid (Keeps (b :: L.map Pls.blk) w (((w1.setCell ⟨b, i * 4, none⟩ (.string (mtxt z.toNat))).setCell ⟨b, i * 4 + 1, none⟩ (.int .i64 (z + 1))).setCell ⟨b, i * 4 + 2, none⟩ (.int .i64 (z + 1 + 1)))) := (((unhide KP1).setCell (by simp) _).setCell (by simp) _).setCell (by simp) _
      have ITS2 : Hid (∀ j, j < L.length → RowAt (((w1.setCell ⟨b, i * 4, none⟩ (.string (mtxt z.toNat))).setCell ⟨b, i * 4 + 1, none⟩ (.int .i64 (z + 1))).setCell ⟨b, i * 4 + 2, none⟩ (.int .i64 (z + 1 + 1))) (Pls.blk (L.getD j Pls.zeroL)) 92 ((L.getD j Pls.zeroL).its.length * 5) (itm L k i j)) := fun j hj =>
        (((unhide ITS1 j hj).of_block (Below.heap_setCell _ _ _ _ (unhide HNE j hj))).of_block (Below.heap_setCell _ _ _ _ (unhide HNE j hj))).of_block (Below.heap_setCell _ _ _ _ (unhide HNE j hj))
      generalize (((w1.setCell ⟨b, i * 4, none⟩ (.string (mtxt z.toNat))).setCell ⟨b, i * 4 + 1, none⟩ (.int .i64 (z + 1))).setCell ⟨b, i * 4 + 2, none⟩ (.int .i64 (z + 1 + 1))) = v at KP2 ITS2 ROW2 ⊢
      clear ITS1 KP1 d0 d1 d2 d3 f0 f1 f2
      have ITI : Hid (RowAt v gx 92 (x.its.length * 5) (itm L k i i)) := by have h := unhide ITS2 i hlt; rw [unhide HX, unhide HGX] at h; exact h
      refine (items_mark gx x.its.length x.its.length _ (z + 1 + 1 + 1) v (unhide ITI) (by omega) (by omega) (by have := unhide hzz; omega)).mono ?_
      rintro e w2 ⟨rfl, hm2, hg2⟩
      have ROW3 := hide ((unhide ROW2).of_block (hg2.block b (unhide ROW2).lt (by intro e; simp at e; exact unhide HIX e.symm)))
      have ITS3 : Hid (∀ j, j < L.length → RowAt w2 (Pls.blk (L.getD j Pls.zeroL)) 92 ((L.getD j Pls.zeroL).its.length * 5) (itm L k (i + 1) j)) := fun j hj => by
        by_cases ej : j = i
        · subst ej
          unfold itm
          rw [if_pos (by omega), ← unhide hz]
          have e3 : z + 3 = z + 1 + 1 + 1 := by omega
          rw [e3, unhide HX, unhide HGX]
          exact hm2
        · have hb := (unhide ITS2 j hj).of_block (hg2.block _ (unhide ITS2 j hj).lt (by intro e; simp at e; exact unhide HDIS j hj ej e))
          unfold itm at hb ⊢
          by_cases hji : j < i
          · rw [if_pos hji] at hb; rw [if_pos (by omega)]; exact hb
          · rw [if_neg hji] at hb; rw [if_neg (by omega)]; exact hb
      have KP3 := hide ((unhide KP2).grown hg2 (fun q e => by simp at e; rw [← e]; exact .inl (unhide HMEM)))
      have hz3 : Hid (z + 1 + 1 + 1 + (x.its.length : Int) * 5 = mk L k (i + 1)) := hide (by rw [unhide HMS]; omega)
      clear hm2 hg2 ROW2 ITS2 KP2 HNE HDIS HMEM HMS hz ITI HIX HX HGX HE3
      have hm0 : (0 : Int) ≤ (x.its.length : Int) := by omega
      generalize (x.its.length : Int) = m at hzz hz3 hm0 ⊢
      have hb3 := unhide hzz
      go_wp2
      go_roundw
      case rel => exact ⟨i + 1, z + 1 + 1 + 1 + m * 5, by omega, by go_num, rfl, by omega, by omega, hz3, ROW3, ITS3, KP3⟩
      case measure => simp [intOf]; omega
    · obtain rfl : i = L.length := by omega
      have PMF : Hid (PM wr b L k) := ⟨(unhide hrow).congr (fun j hj => by unfold phalf; rw [if_pos hj]), fun j hj => by have := unhide hits j hj; unfold itm at this; rw [if_pos hj] at this; exact this⟩
      clear hrow hits
      go_wp2
      go_ret
      exact ⟨ret_int (unhide hz), unhide PMF, unhide hkp⟩
theorem cnt_all (L : List Pls.Pl) : cnt L L.length = ((L.map Pls.core).map (·.its.length)).sum := by
  unfold cnt
  rw [List.take_length, List.map_map]
  rfl
theorem szGo_cnt : ∀ (L : List Pls.Pl) (left : Int), 0 ≤ left → ¬ Pls.szGo L left < 0 → ((((L.map Pls.core).map (·.its.length)).sum : Nat) : Int) ≤ left
  | [], left, h0, _ => by simpa using h0
  | x :: r, left, h0, h => by
    have hbd := Pls.szPl_bd x left h0
    unfold Pls.szGo at h
    split at h
    · omega
    · rename_i hn
      have h1 := szGo_cnt r _ (by omega) h
      have h2 : Pls.szPl x left ≤ left - x.its.length := by
        unfold Pls.szPl at hn ⊢
        split at hn
        · omega
        · rename_i h3
          rw [if_neg h3]
          unfold Items.szIs at hn ⊢
          split at hn
          · omega
          · rename_i h4
            rw [if_neg h4]
            have := (Items.szGo_bd x.its (left - x.name.size - x.its.length) (by omega)).2
            omega
      simp only [List.map_cons, List.sum_cons]
      have e : (Pls.core x).its.length = x.its.length := rfl
      rw [e]
      omega
theorem szC_cnt {c : Cl} (h : ¬ szC c 1048576 < 0) : cnt c.ps c.ps.length ≤ 1048576 := by
  rw [cnt_all]
  unfold szC at h
  have b0 := Nodes.szL_bd c.ns 1048576 (by omega)
  split at h
  · omega
  · have b1 := Nodes.szL_bd c.cs (Nodes.szL c.ns 1048576) (by omega)
    split at h
    · omega
    · unfold Pls.szLs at h
      split at h
      · omega
      · have := szGo_cnt c.ps _ (by omega) h
        omega
/-- A cluster that bears the marks from 1 on. -/
structure CM (w : World) (b1 b2 b3 : Nat) (ns cs : List Nodes.D) (L : List Pls.Pl) : Prop where
  n : NodesM.Ours w (some ⟨b1, 0, none⟩) ns.length (NodesM.mcell 1) (some b1)
  c : NodesM.Ours w (some ⟨b2, 0, none⟩) cs.length (NodesM.mcell (1 + ns.length * 2)) (some b2)
  p : PM w b3 L (1 + ns.length * 2 + cs.length * 2)

set_option maxRecDepth 10000 in
set_option maxHeartbeats 2000000 in
theorem mark_any (now nx lim lost : Int) (b1 b2 b3 : Nat) (ns cs : List Nodes.D) (L : List Pls.Pl) (w : World) (hR : CR w b1 b2 b3 ns cs L) (ln : ns.length ≤ 1048576) (lc : cs.length ≤ 1048576) (lp : L.length ≤ 1048576) (lt : cnt L L.length ≤ 1048576) :
    Calls Tryd.prog 11 #[.agg #[.int .i64 now, .int .i64 nx, .int .i64 lim, .int .i64 lost, .slice (some ⟨b1, 0, none⟩) ns.length ns.length, .slice (some ⟨b2, 0, none⟩) cs.length cs.length, .slice (some ⟨b3, 0, none⟩) L.length L.length], .int .i64 1] w fun e w' => e = .returned (.int .i64 (mk L (1 + ns.length * 2 + cs.length * 2) L.length)) ∧ CM w' b1 b2 b3 ns cs L ∧ Keeps (b1 :: b2 :: b3 :: L.map Pls.blk) w w' := by
  have HR := hide hR
  have hl1 := hR.n.lt
  have hl2 := hR.c.lt
  have hl3 := hR.p.lt
  have hb12 := hR.b12
  have hb23 := hR.b23
  have HFAR := hide hR.p.far
  clear hR
  go_enter Tryd.func11, Tryd.ntmps11
  go_wp2_with fail
  have R0 := hide ((unhide HR).below (bel1 w (.cells #[.int .i64 now, .int .i64 nx, .int .i64 lim, .int .i64 lost, .slice (some ⟨b1, 0, none⟩) ns.length ns.length, .slice (some ⟨b2, 0, none⟩) cs.length cs.length, .slice (some ⟨b3, 0, none⟩) L.length L.length] 27)) (Nat.le_refl _))
  refine (NodesM.mark_any _ _ ns.length _ _ 1 _ (NodesM.Ours.row (unhide R0).n) (by omega) (by omega) (by omega)).mono ?_
  rintro e w1 ⟨rfl, hm1, hg1⟩
  have K1 := hide ((Keeps.alloc (Keeps.refl (b1 :: b2 :: b3 :: L.map Pls.blk) w) _).grown hg1 (fun q e => by simp at e; simp [e]))
  have M1 := hide hm1
  have C1 := hide ((unhide R0).c.of_block (hg1.block b2 (by simp; omega) (by simp; omega)))
  have P1 : Hid (Pls.RAt w1 b3 L) := ⟨(unhide R0).p.row.of_block (hg1.block b3 (by simp; omega) (by simp; omega)), fun i hi => ((unhide R0).p.str i hi).block (hg1.block _ ((unhide R0).p.str i hi).lt (by have := unhide HFAR i hi; intro e; simp only [Option.some.injEq] at e; omega)), (unhide R0).p.far, (unhide R0).p.up⟩
  have x1 := fun o => World.cell?_of_block (a := ⟨w.heap.size, o, none⟩) (hg1.block w.heap.size (by simp) (by simp; omega))
  have z1 : w.heap.size + 1 ≤ w1.heap.size := by have := hg1.size; simp at this; omega
  clear hm1 hg1 R0
  go_wp2_with fail
  refine (NodesM.mark_any _ _ cs.length _ _ (1 + (ns.length : Int) * 2) _ (NodesM.Ours.row (unhide C1)) (by omega) (by omega) (by omega)).mono ?_
  rintro e w2 ⟨rfl, hm2, hg2⟩
  have K2 := hide ((unhide K1).grown hg2 (fun q e => by simp at e; simp [e]))
  have M12 := hide ((unhide M1).gb hg2 (fun g h => by simp at h; simp; omega))
  have M2 := hide hm2
  have P2 : Hid (Pls.RAt w2 b3 L) := ⟨(unhide P1).row.of_block (hg2.block b3 (unhide P1).lt (by simp; omega)), fun i hi => ((unhide P1).str i hi).block (hg2.block _ ((unhide P1).str i hi).lt (by have := unhide HFAR i hi; intro e; simp only [Option.some.injEq] at e; omega)), (unhide P1).far, (unhide P1).up⟩
  have x2 := fun o => (World.cell?_of_block (a := ⟨w.heap.size, o, none⟩) (hg2.block w.heap.size (by omega) (by simp; omega))).trans (x1 o)
  clear hm2 hg2 x1 M1 C1 P1
  go_wp2_with fail
  refine (places_mark b3 _ L (1 + (ns.length : Int) * 2 + (cs.length : Int) * 2) _ (unhide P2) (by omega) (by omega) lp lt).mono ?_
  rintro e w3 ⟨rfl, hm3, hk3⟩
  have K3 := hide ((unhide K2).trans hk3 (fun q hq => .inl (by
    rcases List.mem_cons.1 hq with rfl | hq
    · simp
    · exact List.mem_cons_of_mem _ (List.mem_cons_of_mem _ (List.mem_cons_of_mem _ hq)))))
  have n1 : b1 ∉ b3 :: L.map Pls.blk := by
    intro hm
    rcases List.mem_cons.1 hm with e | hm
    · omega
    · obtain ⟨y, hy, e⟩ := List.mem_map.1 hm
      obtain ⟨i, hi, rfl⟩ := List.getElem_of_mem hy
      have := unhide HFAR i hi
      rw [List.getD_eq_getElem?_getD, List.getElem?_eq_getElem hi] at this
      simp at this
      omega
  have n2 : b2 ∉ b3 :: L.map Pls.blk := by
    intro hm
    rcases List.mem_cons.1 hm with e | hm
    · omega
    · obtain ⟨y, hy, e⟩ := List.mem_map.1 hm
      obtain ⟨i, hi, rfl⟩ := List.getElem_of_mem hy
      have := unhide HFAR i hi
      rw [List.getD_eq_getElem?_getD, List.getElem?_eq_getElem hi] at this
      simp at this
      omega
  have ours_keep : ∀ {a : Option Addr} {n : Nat} {f : Nat → Value} {g : Nat}, NodesM.Ours w2 a n f (some g) → g ∉ b3 :: L.map Pls.blk → NodesM.Ours w3 a n f (some g) := by
    intro a n f g h hn
    rcases h with ⟨_, h⟩ | ⟨g', ha, hr, h⟩
    · cases h
    · obtain rfl := Option.some.inj hr
      exact .inr ⟨g, ha, rfl, h.of_block (hk3.block _ h.lt hn)⟩
  have CMF : Hid (CM w3 b1 b2 b3 ns cs L) := ⟨ours_keep (unhide M12) n1, ours_keep (unhide M2) n2, hm3⟩
  clear hm3 hk3 n1 n2 ours_keep M12 M2 P2 x2
  go_wp2
  go_ret
  exact ⟨rfl, unhide CMF, unhide K3⟩
end Clus
end Go.Proofs.YthgcfklfpllgnaaDoor
/-
  Rows of texts that may be written, and the marks. No Go function is spoken of here.
-/
namespace Go.Proofs.YthgcfklfpllgnaaDoor
namespace StringsM
open Go.RowKit Base NumText Marks
set_option linter.unusedVariables false

/-- Cell j of a row that bears the marks from k on. -/
def mcell (k : Int) (j : Nat) : Value := .string (mtxt (k + j).toNat)
theorem mc0 (k : Int) (j : Nat) (h : j % 1 = 0) : mcell k j = .string (mtxt (k + j).toNat) := rfl
def mhalf (f : Nat → Value) (k : Int) (i j : Nat) : Value := if j < i then mcell k j else f j
theorem mhalf_step (f : Nat → Value) (k : Int) (i j : Nat) : (if j = i then (.string (mtxt (k + i).toNat) : Value) else mhalf f k i j) = mhalf f k (i + 1) j := by
  unfold mhalf
  by_cases h0 : j = i
  · rw [if_pos h0, if_pos (by omega), mc0 _ _ (by omega), show k + (j : Int) = k + i by omega]
  rw [if_neg h0]
  by_cases h : j < i
  · rw [if_pos h, if_pos (by omega)]
  · rw [if_neg h, if_neg (by omega)]

/-- A slice of n elements that may be written: empty, or the head of a row of its own; r names the row. -/
def Ours (w : World) (a : Option Addr) (n : Nat) (f : Nat → Value) (r : Option Nat) : Prop :=
  (n = 0 ∧ r = none) ∨ ∃ g, a = some ⟨g, 0, none⟩ ∧ r = some g ∧ RowAt w g 9 (n) f
theorem Ours.below {w w' : World} {a : Option Addr} {n : Nat} {f : Nat → Value} {r : Option Nat} {B : Nat} (h : Ours w a n f r) (hb : Below B w w') (hB : w.heap.size ≤ B) : Ours w' a n f r := by
  rcases h with h | ⟨g, ha, hr, h⟩
  · exact .inl h
  · exact .inr ⟨g, ha, hr, h.below hb (Nat.lt_of_lt_of_le h.lt hB)⟩
theorem Ours.gb {w w' : World} {a : Option Addr} {n : Nat} {f : Nat → Value} {r q : Option Nat} (h : Ours w a n f r) (hg : w.grownBy w' q) (hne : ∀ g, r = some g → some g ≠ q) : Ours w' a n f r := by
  rcases h with h | ⟨g, ha, hr, h⟩
  · exact .inl h
  · exact .inr ⟨g, ha, hr, h.of_block (hg.block g h.lt (hne g hr))⟩
theorem Ours.lt {w : World} {a : Option Addr} {n : Nat} {f : Nat → Value} {r : Option Nat} (h : Ours w a n f r) : ∀ g, r = some g → g < w.heap.size := by
  intro g e
  rcases h with ⟨_, hr⟩ | ⟨g', _, hr, h⟩
  · rw [hr] at e; simp at e
  · rw [hr] at e; simp at e; rw [← e]; exact h.lt
theorem Ours.congr {w : World} {a : Option Addr} {n : Nat} {f f' : Nat → Value} {r : Option Nat} (h : Ours w a n f r) (e : ∀ i, i < n → f i = f' i) : Ours w a n f' r := by
  rcases h with h | ⟨g, ha, hr, h⟩
  · exact .inl h
  · exact .inr ⟨g, ha, hr, h.congr e⟩
theorem Ours.row {w : World} {b n : Nat} {f : Nat → Value} (h : w.rowIs b 9 (n) f) : Ours w (some ⟨b, 0, none⟩) n f (some b) :=
  .inr ⟨b, rfl, rfl, RowAt.of_row h⟩
end StringsM
end Go.Proofs.YthgcfklfpllgnaaDoor
/-
  What the laws over clusters share: a fresh cluster held against another, and marked. No condition but their sizes.
-/
namespace Go.Proofs.YthgcfklfpllgnaaDoor
namespace Clus
open Go.RowKit Base Marks Keep
set_option linter.unusedVariables false

theorem core_fits {L M : List Pls.Pl} (h : M.map Pls.core = L.map Pls.core) (hc : ∀ x ∈ M, x.cap = x.its.length) (hf : ∀ x ∈ L, Pls.Fits x) : ∀ x ∈ M, Pls.Fits x := by
  intro x hx
  have h2 : Pls.core x ∈ L.map Pls.core := by rw [← h]; exact List.mem_map.2 ⟨x, hx, rfl⟩
  obtain ⟨y, hy, e⟩ := List.mem_map.1 h2
  obtain ⟨f1, f2, f3, f4⟩ := hf y hy
  have e1 : y.name = x.name := congrArg Pls.Core.name e
  have e2 : y.its = x.its := congrArg Pls.Core.its e
  rw [e1] at f1
  rw [e2] at f3 f4
  exact ⟨f1, by rw [hc x hx]; exact Nat.le_refl _, f3, f4⟩
theorem cr_caps {w : World} {b1 b2 b3 : Nat} {ns cs : List Nodes.D} {L : List Pls.Pl} (h : CR w b1 b2 b3 ns cs L) : ∀ x ∈ L, x.cap = x.its.length := by
  intro x hx
  obtain ⟨i, hi, rfl⟩ := List.getElem_of_mem hx
  have := (h.p.str i hi).2.2
  rw [List.getD_eq_getElem?_getD, List.getElem?_eq_getElem hi] at this
  exact this
theorem cr_at {w : World} {b1 b2 b3 : Nat} {ns cs : List Nodes.D} {L : List Pls.Pl} (h : CR w b1 b2 b3 ns cs L) (now nx lim lost : Int) : ClAt w ⟨now, nx, lim, lost, some ⟨b1, 0, none⟩, ns.length, ns, some ⟨b2, 0, none⟩, cs.length, cs, some ⟨b3, 0, none⟩, L.length, L⟩ :=
  ⟨Nodes.LAt.row h.n, Nodes.LAt.row h.c, h.p.ls⟩
theorem cr_range {w : World} {b1 b2 b3 B : Nat} {ns cs : List Nodes.D} {L : List Pls.Pl} (h : CR w b1 b2 b3 ns cs L) (hB : B ≤ b1) : ∀ q ∈ b1 :: b2 :: b3 :: L.map Pls.blk, B ≤ q ∧ q < w.heap.size := by
  have h12 := h.b12
  have h23 := h.b23
  intro q hq
  rcases List.mem_cons.1 hq with rfl | hq
  · exact ⟨hB, h.n.lt⟩
  rcases List.mem_cons.1 hq with rfl | hq
  · exact ⟨by omega, h.c.lt⟩
  rcases List.mem_cons.1 hq with rfl | hq
  · exact ⟨by omega, h.p.lt⟩
  obtain ⟨y, hy, rfl⟩ := List.mem_map.1 hq
  obtain ⟨i, hi, rfl⟩ := List.getElem_of_mem hy
  have h1 := h.p.far i hi
  have h2 := (h.p.str i hi).lt
  rw [List.getD_eq_getElem?_getD, List.getElem?_eq_getElem hi, Option.getD_some] at h1 h2
  exact ⟨by omega, h2⟩
theorem ours_keeps {w w' : World} {S : List Nat} {a : Option Addr} {n : Nat} {f : Nat → Value} {r : Option Nat} (h : StringsM.Ours w a n f r) (hk : Keeps S w w') (hn : ∀ q, r = some q → q ∉ S) : StringsM.Ours w' a n f r := by
  rcases h with h | ⟨g, ha, hr, h⟩
  · exact .inl h
  · exact .inr ⟨g, ha, hr, h.of_block (hk.block g h.lt (hn g hr))⟩
theorem core_small {L M : List Pls.Pl} (h : L.map Pls.core = M.map Pls.core) (hs : ∀ x ∈ M, x.its.length ≤ 1048576) : ∀ x ∈ L, x.its.length ≤ 1048576 := by
  intro x hx
  have h2 : Pls.core x ∈ M.map Pls.core := by rw [← h]; exact List.mem_map.2 ⟨x, hx, rfl⟩
  obtain ⟨y, hy, e⟩ := List.mem_map.1 h2
  have e2 : y.its = x.its := congrArg Pls.Core.its e
  rw [← e2]; exact hs y hy
theorem eq_fresh (c : Cl) (hs : Small c) (b1 b2 b3 : Nat) (L : List Pls.Pl) (b1' b2' b3' : Nat) (L' : List Pls.Pl) (w' : World) (hR : CR w' b1 b2 b3 c.ns c.cs L) (hL : L.map Pls.core = c.ps.map Pls.core) (hR' : CR w' b1' b2' b3' c.ns c.cs L') (hL' : L'.map Pls.core = c.ps.map Pls.core) :
    Calls Tryd.prog 8 #[.agg #[.int .i64 c.now, .int .i64 c.nx, .int .i64 c.lim, .int .i64 c.lost, .slice (some ⟨b1, 0, none⟩) c.ns.length c.ns.length, .slice (some ⟨b2, 0, none⟩) c.cs.length c.cs.length, .slice (some ⟨b3, 0, none⟩) c.ps.length c.ps.length], .agg #[.int .i64 c.now, .int .i64 c.nx, .int .i64 c.lim, .int .i64 c.lost, .slice (some ⟨b1', 0, none⟩) c.ns.length c.ns.length, .slice (some ⟨b2', 0, none⟩) c.cs.length c.cs.length, .slice (some ⟨b3', 0, none⟩) c.ps.length c.ps.length]] w' fun e w'' => e = .returned (.bool true) ∧ Below w'.heap.size w' w'' := by
  have h := eq_same ⟨c.now, c.nx, c.lim, c.lost, some ⟨b1, 0, none⟩, c.ns.length, c.ns, some ⟨b2, 0, none⟩, c.cs.length, c.cs, some ⟨b3, 0, none⟩, L.length, L⟩ ⟨c.now, c.nx, c.lim, c.lost, some ⟨b1', 0, none⟩, c.ns.length, c.ns, some ⟨b2', 0, none⟩, c.cs.length, c.cs, some ⟨b3', 0, none⟩, L'.length, L'⟩ w' (cr_at hR _ _ _ _) (cr_at hR' _ _ _ _) (by simp only [plain, hL, hL']) ⟨hs.sn, hs.sc, by show L.length ≤ _; rw [Pls.map_len hL]; exact hs.sp, core_small hL hs.si⟩
  dsimp only at h
  rw [Pls.map_len hL, Pls.map_len hL'] at h
  exact h
theorem mark_fresh (c : Cl) (hs : Small c) (ht : cnt c.ps c.ps.length ≤ 1048576) (b1 b2 b3 : Nat) (L : List Pls.Pl) (w' : World) (hR : CR w' b1 b2 b3 c.ns c.cs L) (hL : L.map Pls.core = c.ps.map Pls.core) :
    Calls Tryd.prog 11 #[.agg #[.int .i64 c.now, .int .i64 c.nx, .int .i64 c.lim, .int .i64 c.lost, .slice (some ⟨b1, 0, none⟩) c.ns.length c.ns.length, .slice (some ⟨b2, 0, none⟩) c.cs.length c.cs.length, .slice (some ⟨b3, 0, none⟩) c.ps.length c.ps.length], .int .i64 1] w' fun e w'' => ∃ k : Int, e = .returned (.int .i64 k) ∧ 0 ≤ k ∧ Keeps (b1 :: b2 :: b3 :: L.map Pls.blk) w' w'' := by
  have h := mark_any c.now c.nx c.lim c.lost b1 b2 b3 c.ns c.cs L w' hR hs.sn hs.sc (by rw [Pls.map_len hL]; exact hs.sp) (by rw [cnt_all, hL, ← cnt_all]; exact ht)
  rw [Pls.map_len hL] at h
  refine h.mono ?_
  rintro e w'' ⟨rfl, _, hk⟩
  exact ⟨_, rfl, by unfold mk; omega, hk⟩
end Clus
end Go.Proofs.YthgcfklfpllgnaaDoor
