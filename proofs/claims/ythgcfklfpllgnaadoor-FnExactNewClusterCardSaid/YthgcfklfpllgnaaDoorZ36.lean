/-
  A slice of the struct Node that the call itself has made by append: its cells one behind the other (written by a program of mine). No Go function is spoken of here.
-/
import Derived.Test.YthgcfklfpllgnaaDoorZ3
import Derived.Test.YthgcfklfpllgnaaDoorZ2
import Derived.Test.YthgcfklfpllgnaaDoorZ15
import Derived.Test.YthgcfklfpllgnaaDoorZ16
import Derived.Test.YthgcfklfpllgnaaDoorZ35
import Derived.Test.YthgcfklfpllgnaaDoorZ30
import Derived.Test.YthgcfklfpllgnaaDoorFleetC
import Derived.Test.YthgcfklfpllgnaaDoorZ11
namespace Go.Proofs.YthgcfklfpllgnaaDoor
namespace NodesW
open Go.RowKit Base Marks OwnR Nodes
set_option linter.unusedVariables false

def cellsOf (x : D) : List Value := [.string x.name, .int .i64 x.weight]
def flat (l : List D) : List Value := l.flatMap cellsOf
theorem flat_append (a b : List D) : flat (a ++ b) = flat a ++ flat b := by simp [flat]
theorem flat_one (x : D) : flat [x] = cellsOf x := by simp [flat]
theorem flat_length (l : List D) : (flat l).length = l.length * 2 := by
  induction l with
  | nil => rfl
  | cons x r ih =>
    have e : flat (x :: r) = cellsOf x ++ flat r := by simp [flat]
    rw [e, List.length_append, ih]
    simp [cellsOf]; omega
theorem icell_cons (x : D) (r : List D) (j : Nat) : icell (x :: r) (j + 2) = icell r j := by
  unfold icell
  rw [show (j + 2) % 2 = j % 2 by omega, show (j + 2) / 2 = j / 2 + 1 by omega]
  simp
theorem flat_get (l : List D) (j : Nat) (hj : j < l.length * 2) : (flat l)[j]? = some (icell l j) := by
  induction l generalizing j with
  | nil => simp at hj
  | cons x r ih =>
    have e : flat (x :: r) = cellsOf x ++ flat r := by simp [flat]
    rw [e]
    by_cases h : j < 2
    · rw [List.getElem?_append_left (by simp [cellsOf]; omega)]
      obtain rfl | rfl : j = 0 ∨ j = 1 := by omega
      all_goals simp [cellsOf, icell]
    · obtain ⟨i, rfl⟩ : ∃ i, j = i + 2 := ⟨j - 2, by omega⟩
      rw [List.getElem?_append_right (by simp [cellsOf]), icell_cons]
      have el : (cellsOf x).length = 2 := rfl
      rw [el, Nat.add_sub_cancel]
      exact ih i (by simp at hj; omega)
theorem flat_oneCell (l : List D) (u : Value) (hu : u ∈ flat l) : u.oneCell' = true := by
  obtain ⟨x, _, hx⟩ := List.mem_flatMap.1 hu
  simp only [cellsOf, List.mem_cons, List.not_mem_nil, or_false] at hx
  rcases hx with rfl | rfl <;> rfl
theorem news_one (x : D) (u : Value) (hu : u ∈ cellsOf x) : u.oneCell' = true := flat_oneCell [x] u (by rw [flat_one]; exact hu)
theorem news_cells (w : World) (x : D) (t : TypeId) (j : Nat) (u : Value) (hj : (cellsOf x)[j]? = some u) :
    (w.alloc (.cells #[.string x.name, .int .i64 x.weight] t)).cell? ((⟨w.heap.size, 0, none⟩ : Addr).add j) = some u := by
  rw [Go.WideShapes.add_plain, Nat.zero_add, World.cell?_alloc_new]
  show (cellsOf x).toArray[j]? = some u
  simpa using hj
/-- The cells of a row, as what an append takes. -/
theorem news_row {w : World} {b : Nat} {t : TypeId} {l : List D} (h : w.rowIs b t (l.length * 2) (icell l)) (j : Nat) (u : Value) (hj : (flat l)[j]? = some u) : w.cell? ((⟨b, 0, none⟩ : Addr).add j) = some u := by
  have hlt : j < l.length * 2 := by rw [← flat_length]; exact (List.getElem?_eq_some_iff.1 hj).1
  rw [flat_get l j hlt] at hj
  rw [Go.WideShapes.add_plain, Nat.zero_add, h.cell hlt]
  exact hj
theorem news_at {w : World} {b : Nat} {t : TypeId} {l : List D} {m : Nat} (h : RowAt w b t m (icell l)) (hm : l.length * 2 ≤ m) (j : Nat) (u : Value) (hj : (flat l)[j]? = some u) : w.cell? ((⟨b, 0, none⟩ : Addr).add j) = some u := by
  have hlt : j < l.length * 2 := by rw [← flat_length]; exact (List.getElem?_eq_some_iff.1 hj).1
  rw [flat_get l j hlt] at hj
  rw [Go.WideShapes.add_plain, Nat.zero_add, h.cell (by omega)]
  exact hj
theorem own_snoc {w : World} {base : Nat} {t : TypeId} {v : Value} {kept kept' : List D} {x : D} (h : w.ownsRow base t 2 v (kept.length + 1) (flat kept ++ cellsOf x)) (e : kept' = kept ++ [x]) : w.ownsRow base t 2 v kept'.length (flat kept') := by
  rw [e, flat_append, flat_one, List.length_append]
  exact h
theorem own_ours {w : World} {base : Nat} {a : Option Addr} {cap : Nat} {l : List D} (h : w.ownsRow base 42 2 (.slice a l.length cap) l.length (flat l)) :
    ∃ r, NodesM.Ours w a l.length (icell l) r ∧ ∀ g, r = some g → base ≤ g := by
  rcases h.2 with ⟨_, h0⟩ | ⟨g, cap', cur, hv, hg, hh, hn, _, hsz, ht⟩
  · exact ⟨none, .inl ⟨h0, rfl⟩, fun g e => by simp at e⟩
  · simp only [Value.slice.injEq] at hv
    refine ⟨some g, .inr ⟨g, hv.1, rfl, cur, hh, by rw [hsz]; omega, fun i hi => ?_⟩, fun g' e => by simp at e; omega⟩
    rw [← flat_get l i hi, ← ht, List.getElem?_take_of_lt hi]
    simp
theorem ours_at {w : World} {a : Option Addr} {l : List D} {r : Option Nat} (h : NodesM.Ours w a l.length (icell l) r) : LAt w a l := by
  intro hne
  rcases h with ⟨h0, _⟩ | ⟨g, ha, _, hrow⟩
  · exact absurd (List.length_eq_zero_iff.1 h0) hne
  · refine ⟨g, 0, ha, hrow.lt, fun i hi => ?_⟩
    rw [Nat.zero_add]
    refine ⟨?_, ?_⟩
    · rw [hrow.cell (by omega), icell, show (i * 2) % 2 = 0 by omega, show (i * 2) / 2 = i by omega]; simp
    · rw [hrow.cell (by omega), icell, show (i * 2 + 1) % 2 = 1 by omega, show (i * 2 + 1) / 2 = i by omega]; simp
end NodesW
end Go.Proofs.YthgcfklfpllgnaaDoor
/-
  Contracts of the law files' markPlaceS, heldPlaceS, markCluster and heldCluster over a cluster in rows of a call's own, with room to spare or none at all.
-/
namespace Go.Proofs.YthgcfklfpllgnaaDoor
namespace Clus
open Go.RowKit Base Marks Keep OwnR Plc
set_option linter.unusedVariables false

def rr (x : Pls.Pl) : Option Nat := (Value.slice x.a x.its.length x.cap).ownBlock
/-- Places in a row, the items of each in another, no two of them one. -/
structure PG (w : World) (b : Nat) (L : List Pls.Pl) : Prop where
  row : RowAt w b 59 (L.length * 4) (Pls.lcell L)
  its : ∀ j, j < L.length → Marks.Ours w (L.getD j Pls.zeroL).a (L.getD j Pls.zeroL).its.length (Items.icell (L.getD j Pls.zeroL).its) (rr (L.getD j Pls.zeroL))
  far : ∀ j, j < L.length → rr (L.getD j Pls.zeroL) ≠ some b
  dis : ∀ i j, i < L.length → j < L.length → i ≠ j → ∀ q, rr (L.getD i Pls.zeroL) = some q → rr (L.getD j Pls.zeroL) ≠ some q
/-- They bear the marks from k on. -/
structure MG (w : World) (b : Nat) (L : List Pls.Pl) (k : Int) : Prop where
  row : RowAt w b 59 (L.length * 4) (pcell L k)
  its : ∀ j, j < L.length → Marks.Ours w (L.getD j Pls.zeroL).a (L.getD j Pls.zeroL).its.length (mcell (mk L k j + 3)) (rr (L.getD j Pls.zeroL))
theorem MG.below {w w' : World} {b : Nat} {L : List Pls.Pl} {k : Int} (h : MG w b L k) (hb : Below w.heap.size w w') : MG w' b L k :=
  ⟨h.row.below hb h.row.lt, fun j hj => (h.its j hj).below hb (Nat.le_refl _)⟩
def rows (b : Nat) (L : List Pls.Pl) : List Nat := b :: L.filterMap rr
theorem own_mem {L : List Pls.Pl} {i q : Nat} (hi : i < L.length) (b : Nat) (h : rr (L.getD i Pls.zeroL) = some q) : q ∈ rows b L := by
  refine List.mem_cons_of_mem _ (List.mem_filterMap.2 ⟨_, Pls.getD_mem hi, h⟩)
theorem ours_set {w : World} {a : Option Addr} {n : Nat} {f : Nat → Value} {r : Option Nat} (h : Marks.Ours w a n f r) {p : Addr} (hr : r ≠ some p.block) (v : Value) : Marks.Ours (w.setCell p v) a n f r := by
  rcases h with h | ⟨g, ha, hg, h⟩
  · exact .inl h
  · exact .inr ⟨g, ha, hg, h.of_block (Below.heap_setCell _ _ _ _ (fun e => hr (by rw [hg, e])))⟩
theorem lcell3 (L : List Pls.Pl) (i : Nat) : Pls.lcell L (i * 4 + 3) = .slice (L.getD i Pls.zeroL).a (L.getD i Pls.zeroL).its.length (L.getD i Pls.zeroL).cap := by
  unfold Pls.lcell
  rw [if_neg (by omega), if_neg (by omega), if_neg (by omega), show (i * 4 + 3) / 4 = i by omega]

set_option maxRecDepth 10000 in
set_option maxHeartbeats 2000000 in
theorem places_mark_any (b cap : Nat) (L : List Pls.Pl) (k : Int) (w : World) (h : PG w b L) (hk0 : 0 < k) (hk1 : k ≤ 1000000000) (hn : L.length ≤ 1048576) (ht : cnt L L.length ≤ 1048576) :
    Calls Tryd.prog 23 #[.slice (some ⟨b, 0, none⟩) L.length cap, .int .i64 k] w fun e w' => e = .returned (.int .i64 (mk L k L.length)) ∧ MG w' b L k ∧ Keeps (rows b L) w w' := by
  have HR := hide h
  have hlb := h.row.lt
  clear h
  go_enter Tryd.func23, Tryd.ntmps23
  go_wp2_with fail
  go_loopw [1, 5] (fun kv iv wr => ∃ (i : Nat) (z : Int), i ≤ L.length ∧ iv = .int .i64 (i : Int) ∧ kv = .int .i64 z ∧ 0 < z ∧ z ≤ 1100000000 ∧ Hid (z = mk L k i) ∧ Hid (RowAt wr b 59 (L.length * 4) (phalf L k i)) ∧ Hid (∀ j, j < L.length → Marks.Ours wr (L.getD j Pls.zeroL).a (L.getD j Pls.zeroL).its.length (itm L k i j) (rr (L.getD j Pls.zeroL))) ∧ Hid (Keeps (rows b L) w wr)) (fun _ iv _ => L.length - (intOf iv).toNat)
  case atStart => exact ⟨0, k, Nat.zero_le _, rfl, rfl, hk0, by omega, hide (by simp [mk, cnt]), hide ((unhide HR).row.congr (fun j _ => by simp [phalf])), hide (fun j hj => by unfold itm; rw [if_neg (by omega)]; exact (unhide HR).its j hj), hide (Keeps.refl _ _)⟩
  case round =>
    obtain ⟨i, z, hi, rfl, rfl, hz0, hz1, hz, hrow, hits, hkp⟩ := hrel
    by_cases hlt : i < L.length
    · have HNE := hide (unhide HR).far
      have HDIS := hide (fun j hj hji => (unhide HR).dis i j hlt hj hji)
      have HMEM := hide (fun q => own_mem (q := q) hlt b)
      have HMS := hide (mk_succ (k := k) hlt)
      have hc1 := cnt_succ hlt
      have hc2 := cnt_le (L := L) (i := i + 1) (by omega)
      have HST := hide (fun j => phalf_step L k i j)
      have hzz : Hid (z + 3 + ((L.getD i Pls.zeroL).its.length : Int) * 5 ≤ 1100000000) := hide (by
        have e1 := unhide hz
        unfold mk at e1
        have e2 : (L.getD i Pls.zeroL).its.length ≤ 1048576 := by omega
        omega)
      rw [← unhide hz] at HST HMS
      have e3 : phalf L k i (i * 4 + 3) = .slice (L.getD i Pls.zeroL).a (L.getD i Pls.zeroL).its.length (L.getD i Pls.zeroL).cap := by
        rw [phalf, if_neg (by omega), lcell3]
      have HIX := hide (unhide HNE i hlt)
      clear hc1 hc2
      generalize hx : L.getD i Pls.zeroL = x at e3 HMEM HMS hzz HIX HDIS
      have HX := hide hx
      clear hx
      have HE3 := hide e3
      clear e3
      have hlr : b < wr.heap.size := (unhide hrow).lt
      go_wp2_with fail
      refine (Marks.text_any z _ (by omega) (by omega)).mono ?_
      rintro e w1 ⟨rfl, hb1⟩
      have row1 := (unhide hrow).below hb1 hlr
      have d0 := row1.cell (i := i * 4) (by omega)
      have d1 := row1.cell (i := i * 4 + 1) (by omega)
      have d2 := row1.cell (i := i * 4 + 2) (by omega)
      have d3 := row1.cell (i := i * 4 + 3) (by omega)
      rw [unhide HE3] at d3
      have f0 := row1.frozen (i * 4)
      have f1 := row1.frozen (i * 4 + 1)
      have f2 := row1.frozen (i * 4 + 2)
      have ROW2 := hide ((((row1.set (i * 4) (.string (mtxt z.toNat))).set (i * 4 + 1) (.int .i64 (z + 1))).set (i * 4 + 2) (.int .i64 (z + 1 + 1))).congr (g := phalf L k (i + 1)) (fun j _ => unhide HST j))
      have ITS1 := hide (fun j hj => (unhide hits j hj).below hb1 (Nat.le_refl _))
      have KP1 := hide ((unhide hkp).trans (S' := []) (Keeps.of_below hb1 (fun q hq _ => hq)) (by simp))
      clear hrow hits hkp hb1 row1 HST
      generalize phalf L k i (i * 4) = o0 at d0
      generalize phalf L k i (i * 4 + 1) = o1 at d1
      generalize phalf L k i (i * 4 + 2) = o2 at d2
      go_wp2_with fail
      have hbm : b ∈ rows b L := List.mem_cons_self
      have KP2 : Hid (Keeps (rows b L) w (((w1.setCell ⟨b, i * 4, none⟩ (.string (mtxt z.toNat))).setCell ⟨b, i * 4 + 1, none⟩ (.int .i64 (z + 1))).setCell ⟨b, i * 4 + 2, none⟩ (.int .i64 (z + 1 + 1)))) := (((unhide KP1).setCell (.inl hbm) _).setCell (.inl hbm) _).setCell (.inl hbm) _
      have ITS2 : Hid (∀ j, j < L.length → Marks.Ours (((w1.setCell ⟨b, i * 4, none⟩ (.string (mtxt z.toNat))).setCell ⟨b, i * 4 + 1, none⟩ (.int .i64 (z + 1))).setCell ⟨b, i * 4 + 2, none⟩ (.int .i64 (z + 1 + 1))) (L.getD j Pls.zeroL).a (L.getD j Pls.zeroL).its.length (itm L k i j) (rr (L.getD j Pls.zeroL))) := fun j hj =>
        ours_set (ours_set (ours_set (unhide ITS1 j hj) (p := ⟨b, i * 4, none⟩) (unhide HNE j hj) _) (p := ⟨b, i * 4 + 1, none⟩) (unhide HNE j hj) _) (p := ⟨b, i * 4 + 2, none⟩) (unhide HNE j hj) _
      generalize (((w1.setCell ⟨b, i * 4, none⟩ (.string (mtxt z.toNat))).setCell ⟨b, i * 4 + 1, none⟩ (.int .i64 (z + 1))).setCell ⟨b, i * 4 + 2, none⟩ (.int .i64 (z + 1 + 1))) = v at KP2 ITS2 ROW2 ⊢
      clear ITS1 KP1 d0 d1 d2 d3 f0 f1 f2
      have ITI : Hid (Marks.Ours v x.a x.its.length (itm L k i i) (rr x)) := by have h := unhide ITS2 i hlt; rw [unhide HX] at h; exact h
      refine (items_mark_any x.a x.cap x.its.length _ (rr x) (z + 1 + 1 + 1) v (unhide ITI) (by omega) (by omega) (by have := unhide hzz; omega)).mono ?_
      rintro e w2 ⟨rfl, hm2, hg2⟩
      have ROW3 := hide ((unhide ROW2).of_block (hg2.block b (unhide ROW2).lt (fun e => unhide HIX e.symm)))
      have ITS3 : Hid (∀ j, j < L.length → Marks.Ours w2 (L.getD j Pls.zeroL).a (L.getD j Pls.zeroL).its.length (itm L k (i + 1) j) (rr (L.getD j Pls.zeroL))) := fun j hj => by
        by_cases ej : j = i
        · subst ej
          unfold itm
          rw [if_pos (by omega), ← unhide hz]
          have e3 : z + 3 = z + 1 + 1 + 1 := by omega
          rw [e3, unhide HX]
          exact hm2
        · have hb := (unhide ITS2 j hj).gb hg2 (fun g h e => unhide HDIS j hj (fun e' => ej e'.symm) g e.symm h)
          unfold itm at hb ⊢
          by_cases hji : j < i
          · rw [if_pos hji] at hb; rw [if_pos (by omega)]; exact hb
          · rw [if_neg hji] at hb; rw [if_neg (by omega)]; exact hb
      have KP3 := hide ((unhide KP2).grown hg2 (fun q e => .inl (unhide HMEM q e)))
      have hz3 : Hid (z + 1 + 1 + 1 + (x.its.length : Int) * 5 = mk L k (i + 1)) := hide (by rw [unhide HMS]; omega)
      clear hm2 hg2 ROW2 ITS2 KP2 HNE HDIS HMEM HMS hz ITI HIX HX HE3
      have hm0 : (0 : Int) ≤ (x.its.length : Int) := by omega
      generalize (x.its.length : Int) = m at hzz hz3 hm0 ⊢
      have hb3 := unhide hzz
      go_wp2
      go_roundw
      case rel => exact ⟨i + 1, z + 1 + 1 + 1 + m * 5, by omega, by go_num, rfl, by omega, by omega, hz3, ROW3, ITS3, KP3⟩
      case measure => simp [intOf]; omega
    · obtain rfl : i = L.length := by omega
      have PMF : Hid (MG wr b L k) := ⟨(unhide hrow).congr (fun j hj => by unfold phalf; rw [if_pos hj]), fun j hj => by have := unhide hits j hj; unfold itm at this; rw [if_pos hj] at this; exact this⟩
      clear hrow hits
      go_wp2
      go_ret
      exact ⟨ret_int (unhide hz), unhide PMF, unhide hkp⟩

theorem pc0 (L : List Pls.Pl) (k : Int) (i : Nat) : pcell L k (i * 4) = .string (mtxt (mk L k i).toNat) := by
  unfold pcell; rw [if_pos (by omega), show i * 4 / 4 = i by omega]
theorem pc1 (L : List Pls.Pl) (k : Int) (i : Nat) : pcell L k (i * 4 + 1) = .int .i64 (mk L k i + 1) := by
  unfold pcell; rw [if_neg (by omega), if_pos (by omega), show (i * 4 + 1) / 4 = i by omega]
theorem pc2 (L : List Pls.Pl) (k : Int) (i : Nat) : pcell L k (i * 4 + 2) = .int .i64 (mk L k i + 2) := by
  unfold pcell; rw [if_neg (by omega), if_neg (by omega), if_pos (by omega), show (i * 4 + 2) / 4 = i by omega]
theorem pc3 (L : List Pls.Pl) (k : Int) (i : Nat) : pcell L k (i * 4 + 3) = .slice (L.getD i Pls.zeroL).a (L.getD i Pls.zeroL).its.length (L.getD i Pls.zeroL).cap := by
  unfold pcell; rw [if_neg (by omega), if_neg (by omega), if_neg (by omega), lcell3]

set_option maxRecDepth 10000 in
set_option maxHeartbeats 2000000 in
theorem places_held_any (b cap : Nat) (L : List Pls.Pl) (k : Int) (w : World) (h : MG w b L k) (hk0 : 0 < k) (hk1 : k ≤ 1000000000) (hn : L.length ≤ 1048576) (ht : cnt L L.length ≤ 1048576) :
    Calls Tryd.prog 25 #[.slice (some ⟨b, 0, none⟩) L.length cap, .int .i64 k] w fun e w' => e = .returned (.int .i64 (mk L k L.length)) ∧ Below w.heap.size w w' := by
  have HR := hide h
  have hlb := h.row.lt
  clear h
  go_enter Tryd.func25, Tryd.ntmps25
  go_wp2_with fail
  go_loopw [1, 5] (fun kv iv wr => ∃ (i : Nat) (z : Int), i ≤ L.length ∧ iv = .int .i64 (i : Int) ∧ kv = .int .i64 z ∧ 0 < z ∧ z ≤ 1100000000 ∧ Hid (z = mk L k i) ∧ Hid (Below w.heap.size w wr)) (fun _ iv _ => L.length - (intOf iv).toNat)
  case atStart => exact ⟨0, k, Nat.zero_le _, rfl, rfl, hk0, by omega, hide (by simp [mk, cnt]), hide (Below.refl _ _)⟩
  case round =>
    obtain ⟨i, z, hi, rfl, rfl, hz0, hz1, hz, hbel⟩ := hrel
    by_cases hlt : i < L.length
    · have HMG := (unhide HR).below (unhide hbel)
      have c0 := HMG.row.cell (i := i * 4) (by omega)
      have c1 := HMG.row.cell (i := i * 4 + 1) (by omega)
      have c2 := HMG.row.cell (i := i * 4 + 2) (by omega)
      have c3 := HMG.row.cell (i := i * 4 + 3) (by omega)
      have hit := HMG.its i hlt
      rw [pc0, ← unhide hz] at c0
      rw [pc1, ← unhide hz] at c1
      rw [pc2, ← unhide hz, show z + 2 = z + 1 + 1 by omega] at c2
      rw [pc3] at c3
      rw [← unhide hz, show z + 3 = z + 1 + 1 + 1 by omega] at hit
      have HMS := hide (mk_succ (k := k) hlt)
      have hc1 := cnt_succ hlt
      have hc2 := cnt_le (L := L) (i := i + 1) (by omega)
      have hzz : Hid (z + 3 + ((L.getD i Pls.zeroL).its.length : Int) * 5 ≤ 1100000000) := hide (by
        have e1 := unhide hz
        unfold mk at e1
        have e2 : (L.getD i Pls.zeroL).its.length ≤ 1048576 := by omega
        omega)
      rw [← unhide hz] at HMS
      have HIT := hide hit
      clear HMG hc1 hc2 hit
      generalize L.getD i Pls.zeroL = x at c3 HIT HMS hzz
      have HT := hide (fun u => Marks.text_any z u (by omega) (by omega))
      have hbw : b < wr.heap.size := Nat.lt_of_lt_of_le hlb (unhide hbel).size
      have hzr := (unhide hbel).size
      have HIH := hide (fun u (hu : Below wr.heap.size wr u) => items_held_any x.a x.cap x.its.length (rr x) (z + 1 + 1 + 1) u ((unhide HIT).below hu (Nat.le_refl _)) (by omega) (by omega) (by have := unhide hzz; omega))
      have hm0 : (0 : Int) ≤ (x.its.length : Int) := by omega
      have hz3 : Hid (z + 1 + 1 + 1 + (x.its.length : Int) * 5 = mk L k (i + 1)) := hide (by rw [unhide HMS]; omega)
      have hb3 := unhide hzz
      clear HIT HMS hz
      generalize hil : (x.its.length : Int) = m at hz3 hm0 hb3 HIH
      clear hil hzz
      go_wp2_with fail
      go_region_with (go_at_call 22; refine (unhide HT _).mono ?_; rintro e w1 ⟨rfl, hb1⟩; have hc := fun o => hb1.cell (p := ⟨b, o, none⟩) hbw; have HB1 : Hid (Below wr.heap.size wr w1) := ⟨hb1.os, hb1.tape, hb1.output, hb1.size, hb1.block⟩; have hz1' : wr.heap.size ≤ w1.heap.size := hb1.size; clear hb1)
      all_goals
        go_wp2_with fail
        refine (unhide HIH _ (unhide HB1)).mono ?_
        rintro e w2 ⟨rfl, hb2⟩
        have B2 := hide (((unhide hbel).trans ((unhide HB1).mono hzr)).trans (hb2.mono (Nat.le_trans hzr hz1')))
        clear hb2 hc
        go_wp2
        go_roundw
        case rel => exact ⟨i + 1, z + 1 + 1 + 1 + m * 5, by omega, by go_num, rfl, by omega, by omega, hz3, B2⟩
        case measure => simp [intOf]; omega
    · obtain rfl : i = L.length := by omega
      go_wp2
      go_ret
      exact ⟨ret_int (unhide hz), unhide hbel⟩
end Clus
end Go.Proofs.YthgcfklfpllgnaaDoor
/-
  Contracts of the law files' markCluster and heldCluster over a cluster in rows of a call's own.
-/
namespace Go.Proofs.YthgcfklfpllgnaaDoor
namespace Clus
open Go.RowKit Base Marks Keep OwnR Plc Fleet
set_option linter.unusedVariables false

theorem own_row {w : World} {B : Nat} {e : TypeId} {sz : Nat} {a : Option Addr} {n cap : Nat} {xs : List Value} {F : Nat → Value} (h : w.ownsRow B e sz (.slice a n cap) n xs) (hF : ∀ i, i < n * sz → xs[i]? = some (F i)) :
    (a = none ∧ n = 0) ∨ ∃ g, a = some ⟨g, 0, none⟩ ∧ B ≤ g ∧ RowAt w g e (n * sz) F := by
  rcases h.2 with ⟨hv, h0⟩ | ⟨g, cap', cur, hv, hg, hh, hn, _, hsz, ht⟩
  · simp only [Value.slice.injEq] at hv
    exact .inl ⟨hv.1, h0⟩
  · simp only [Value.slice.injEq] at hv
    refine .inr ⟨g, hv.1, hg, cur, hh, ?_, fun i hi => ?_⟩
    · rw [hsz]; exact Nat.mul_le_mul_right _ (by omega)
    · rw [← hF i hi, ← ht, List.getElem?_take_of_lt hi]
      simp
theorem node_flat (l : List Nodes.D) (i : Nat) (hi : i < l.length * 2) : (nflat l)[i]? = some (Nodes.icell l i) := NodesW.flat_get l i hi
theorem node_ours {w : World} {B : Nat} {a : Option Addr} {cap : Nat} {l : List Nodes.D} (h : w.ownsRow B 42 2 (.slice a l.length cap) l.length (nflat l)) : NodesM.Ours w a l.length (Nodes.icell l) (Value.slice a l.length cap).ownBlock := by
  rcases own_row h (node_flat l) with ⟨ha, h0⟩ | ⟨g, ha, hg, hr⟩
  · exact .inl ⟨h0, by rw [ha]; rfl⟩
  · exact .inr ⟨g, ha, by rw [ha]; rfl, hr⟩
theorem item_ours {w : World} {B : Nat} {a : Option Addr} {cap : Nat} {its : List Items.Itm} (h : w.ownsRow B 92 5 (.slice a its.length cap) its.length (Own.flat its)) : Marks.Ours w a its.length (Items.icell its) (Value.slice a its.length cap).ownBlock := by
  rcases own_row h (fun i hi => Own.flat_get its i hi) with ⟨ha, h0⟩ | ⟨g, ha, hg, hr⟩
  · exact .inl ⟨h0, by rw [ha]; rfl⟩
  · exact .inr ⟨g, ha, by rw [ha]; rfl, hr⟩
theorem place_flat (L : List Pls.Pl) (i : Nat) (hi : i < L.length * 4) : (pflat L)[i]? = some (Pls.lcell L i) := by
  have h := pflat_at L (i / 4) (i % 4) (by omega) (by omega)
  rw [show i / 4 * 4 + i % 4 = i by omega] at h
  rw [h]
  unfold Pls.lcell pcells
  have hm : i % 4 < 4 := Nat.mod_lt _ (by omega)
  generalize i % 4 = m at hm
  obtain rfl | rfl | rfl | rfl : m = 0 ∨ m = 1 ∨ m = 2 ∨ m = 3 := by omega
  all_goals rfl
/-- Two rows of different kinds are not one. -/
theorem kinds {w : World} {B B' : Nat} {e e' : TypeId} {sz sz' : Nat} {v v' : Value} {n n' : Nat} {xs xs' : List Value} (h : w.ownsRow B e sz v n xs) (h' : w.ownsRow B' e' sz' v' n' xs') (he : e ≠ e') (q : Nat) (hq : v.ownBlock = some q) : v'.ownBlock ≠ some q := by
  intro hq'
  rcases h.2 with ⟨rfl, _⟩ | ⟨g, cap, cur, rfl, _, hh, _⟩
  · simp [Value.ownBlock] at hq
  · rcases h'.2 with ⟨rfl, _⟩ | ⟨g', cap', cur', rfl, _, hh', _⟩
    · simp [Value.ownBlock] at hq'
    · have e1 : g = q := by simpa [Value.ownBlock] using hq
      have e2 : g' = q := by simpa [Value.ownBlock] using hq'
      rw [e1] at hh
      rw [e2, hh] at hh'
      simp only [Option.some.injEq, Obj.cells.injEq] at hh'
      exact he hh'.2.1
def r1 (c : Cl) : Option Nat := (Value.slice c.na c.ns.length c.nc).ownBlock
def r2 (c : Cl) : Option Nat := (Value.slice c.ca c.cs.length c.cc).ownBlock
/-- Its places where it has any. -/
theorem CO.pg {w : World} {B : Nat} {c : Cl} (h : CO w B c) (ha : AP c) (hne : 0 < c.ps.length) : ∃ b, c.pa = some ⟨b, 0, none⟩ ∧ B ≤ b ∧ PG w b c.ps ∧ (∀ q ∈ rows b c.ps, B ≤ q) ∧ (∀ q, r1 c = some q → q ∉ rows b c.ps) ∧ (∀ q, r2 c = some q → q ∉ rows b c.ps) := by
  rcases own_row h.p.row (place_flat c.ps) with ⟨_, h0⟩ | ⟨b, hpa, hb, hr⟩
  · omega
  have hat : ∀ j, j < c.ps.length → c.ps.getD j Pls.zeroL ∈ c.ps := fun j hj => Pls.getD_mem hj
  have hrows : ∀ q ∈ rows b c.ps, q = b ∨ ∃ x ∈ c.ps, rr x = some q := by
    intro q hq
    rcases List.mem_cons.1 hq with e | hq
    · exact .inl e
    · exact .inr (by obtain ⟨x, hx, e⟩ := List.mem_filterMap.1 hq; exact ⟨x, hx, e⟩)
  have hpb : (Value.slice c.pa c.ps.length c.pc).ownBlock = some b := by rw [hpa]; rfl
  refine ⟨b, hpa, hb, ⟨hr, fun j hj => item_ours (h.p.its _ (hat j hj)), fun j hj e => h.p.far _ (hat j hj) b e hpb, ?_⟩, ?_, ?_, ?_⟩
  · intro i j hi hj hij q hq hq'
    have hp := List.pairwise_iff_getElem.1 ha.it
    have ei : c.ps.getD i Pls.zeroL = c.ps[i] := by simp [hi]
    have ej : c.ps.getD j Pls.zeroL = c.ps[j] := by simp [hj]
    rw [ei] at hq
    rw [ej] at hq'
    rcases Nat.lt_or_gt_of_ne hij with hlt | hgt
    · exact hp i j hi hj hlt q hq hq'
    · exact hp j i hj hi hgt q hq' hq
  · intro q hq
    rcases hrows q hq with rfl | ⟨x, hx, e⟩
    · exact hb
    · exact ((h.p.its x hx).lt q e).1
  · intro q hq hm
    rcases hrows q hm with rfl | ⟨x, hx, e⟩
    · exact h.fn _ hq hpb
    · exact kinds h.n (h.p.its x hx) (by decide) q hq e
  · intro q hq hm
    rcases hrows q hm with rfl | ⟨x, hx, e⟩
    · exact h.fm _ hq hpb
    · exact kinds h.m (h.p.its x hx) (by decide) q hq e
/-- A cluster that bears the marks from 1 on. -/
structure MC (w : World) (c : Cl) : Prop where
  n : NodesM.Ours w c.na c.ns.length (NodesM.mcell 1) (r1 c)
  m : NodesM.Ours w c.ca c.cs.length (NodesM.mcell (1 + c.ns.length * 2)) (r2 c)
  p : 0 < c.ps.length → ∃ b, c.pa = some ⟨b, 0, none⟩ ∧ MG w b c.ps (1 + c.ns.length * 2 + c.cs.length * 2)
theorem MC.below {w w' : World} {c : Cl} (h : MC w c) (hb : Below w.heap.size w w') : MC w' c :=
  ⟨h.n.below hb (Nat.le_refl _), h.m.below hb (Nat.le_refl _), fun h0 => by obtain ⟨b, h1, h2⟩ := h.p h0; exact ⟨b, h1, h2.below hb⟩⟩
theorem nours_keep {w w' : World} {a : Option Addr} {n : Nat} {f : Nat → Value} {r : Option Nat} {S : List Nat} (h : NodesM.Ours w a n f r) (hk : Keeps S w w') (hr : ∀ q, r = some q → q ∉ S) : NodesM.Ours w' a n f r := by
  rcases h with h | ⟨g, ha, hg, h⟩
  · exact .inl h
  · exact .inr ⟨g, ha, hg, h.of_block (hk.block _ h.lt (hr g hg))⟩

set_option maxRecDepth 10000 in
set_option maxHeartbeats 1000000 in
theorem places_mark_nil (a : Option Addr) (cap : Nat) (k : Int) (w : World) : Calls Tryd.prog 23 #[.slice a 0 cap, .int .i64 k] w fun e w' => e = .returned (.int .i64 k) ∧ Below w.heap.size w w' := by
  go_enter Tryd.func23, Tryd.ntmps23
  go_wp2_with fail
  go_loop [1, 5] (fun kv i => i = .int .i64 0 ∧ kv = .int .i64 k) (fun _ _ => 0)
  case atStart => exact ⟨rfl, rfl⟩
  case round =>
    obtain ⟨rfl, rfl⟩ := hrel
    go_wp2
    go_ret
    exact ⟨rfl, Below.refl _ _⟩
set_option maxRecDepth 10000 in
set_option maxHeartbeats 1000000 in
theorem places_held_nil (a : Option Addr) (cap : Nat) (k : Int) (w : World) : Calls Tryd.prog 25 #[.slice a 0 cap, .int .i64 k] w fun e w' => e = .returned (.int .i64 k) ∧ Below w.heap.size w w' := by
  go_enter Tryd.func25, Tryd.ntmps25
  go_wp2_with fail
  go_loop [1, 5] (fun kv i => i = .int .i64 0 ∧ kv = .int .i64 k) (fun _ _ => 0)
  case atStart => exact ⟨rfl, rfl⟩
  case round =>
    obtain ⟨rfl, rfl⟩ := hrel
    go_wp2
    go_ret
    exact ⟨rfl, Below.refl _ _⟩
/-- Both at once: what markPlaceS leaves, whether there are places or none. -/
theorem places_mark_co (c : Cl) (k : Int) (B : Nat) (w : World) (h : CO w B c) (ha : AP c) (hk0 : 0 < k) (hk1 : k ≤ 1000000000) (hn : c.ps.length ≤ 1048576) (ht : cnt c.ps c.ps.length ≤ 1048576) :
    Calls Tryd.prog 23 #[.slice c.pa c.ps.length c.pc, .int .i64 k] w fun e w' => e = .returned (.int .i64 (mk c.ps k c.ps.length)) ∧ (0 < c.ps.length → ∃ b, c.pa = some ⟨b, 0, none⟩ ∧ MG w' b c.ps k) ∧ ∃ S, Keeps S w w' ∧ (∀ q ∈ S, B ≤ q) ∧ (∀ q, r1 c = some q → q ∉ S) ∧ (∀ q, r2 c = some q → q ∉ S) := by
  by_cases h0 : c.ps.length = 0
  · have e : c.ps = [] := List.length_eq_zero_iff.1 h0
    rw [h0]
    refine (places_mark_nil c.pa c.pc k w).mono ?_
    rintro e' w' ⟨rfl, hb⟩
    refine ⟨by simp [mk, cnt], fun h => absurd h (by omega), [], Keeps.of_below hb (fun _ h _ => h), by simp, by simp, by simp⟩
  · obtain ⟨b, hpa, hb, hpg, h1, h2, h3⟩ := h.pg ha (by omega)
    rw [hpa]
    refine (places_mark_any b c.pc c.ps k w hpg hk0 hk1 hn ht).mono ?_
    rintro e' w' ⟨rfl, hm, hk⟩
    exact ⟨rfl, fun _ => ⟨b, rfl, hm⟩, rows b c.ps, hk, h1, h2, h3⟩
theorem places_held_co (c : Cl) (k : Int) (w : World) (h : 0 < c.ps.length → ∃ b, c.pa = some ⟨b, 0, none⟩ ∧ MG w b c.ps k) (hk0 : 0 < k) (hk1 : k ≤ 1000000000) (hn : c.ps.length ≤ 1048576) (ht : cnt c.ps c.ps.length ≤ 1048576) :
    Calls Tryd.prog 25 #[.slice c.pa c.ps.length c.pc, .int .i64 k] w fun e w' => e = .returned (.int .i64 (mk c.ps k c.ps.length)) ∧ Below w.heap.size w w' := by
  by_cases h0 : c.ps.length = 0
  · have e : c.ps = [] := List.length_eq_zero_iff.1 h0
    rw [h0]
    refine (places_held_nil c.pa c.pc k w).mono ?_
    rintro e' w' ⟨rfl, hb⟩
    exact ⟨by simp [mk, cnt], hb⟩
  · obtain ⟨b, hpa, hm⟩ := h (by omega)
    rw [hpa]
    exact places_held_any b c.pc c.ps k w hm hk0 hk1 hn ht
end Clus
end Go.Proofs.YthgcfklfpllgnaaDoor
