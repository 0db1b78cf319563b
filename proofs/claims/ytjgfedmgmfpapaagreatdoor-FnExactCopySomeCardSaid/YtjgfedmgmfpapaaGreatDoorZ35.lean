/-
  What the variables hold for CopySome; how large its answer can be. No Go function is spoken of here.
-/
import Derived.Test.YtjgfedmgmfpapaaGreatDoorZ34
import Derived.Test.YtjgfedmgmfpapaaGreatDoorZ27
import Derived.Test.YtjgfedmgmfpapaaGreatDoorRingI
import Derived.Test.YtjgfedmgmfpapaaGreatDoorZ24
import Derived.Test.YtjgfedmgmfpapaaGreatDoorZ9
import Derived.Test.YtjgfedmgmfpapaaGreatDoorZ33
import Derived.Test.YtjgfedmgmfpapaaGreatDoorZ21
import Derived.Test.YtjgfedmgmfpapaaGreatDoorFleetC
namespace Go.Proofs.YtjgfedmgmfpapaaGreatDoor
namespace CopyV
open Go.RowKit Base Clus Mv
open _root_.Go.Proofs.YtjgfedmgmfpapaaGreatDoor.Shelf (FullIs)
set_option linter.unusedVariables false

def VarsR (w : World) : Prop := Ring.Vars w ∧ ∃ p, FullIs w p
theorem VarsR.below {w w' : World} (h : VarsR w) (hb : Below w.heap.size w w') : VarsR w' := ⟨h.1.below hb, h.2.imp fun _ hp => hp.below hb⟩
theorem its_le : ∀ {ps : List Pls.Core}, (∀ p ∈ ps, p.its.length ≤ 60) → its ps ≤ 60 * ps.length
  | [], _ => by simp [its]
  | p :: r, h => by
    have h1 := h p List.mem_cons_self
    have h2 := its_le (ps := r) (fun q hq => h q (List.mem_cons_of_mem _ hq))
    have e : its (p :: r) = p.its.length + its r := by simp [its]
    rw [e, List.length_cons]
    omega
theorem sm_copy {C : CC} {L : List Pls.Pl} (hL : C.ps = L.map Pls.core) (h : SmC C) (many : Int) : SmC (csR C many).1 := by
  unfold csR
  split
  · next hc =>
    simp only [Bool.and_eq_true, decide_eq_true_eq] at hc
    obtain ⟨⟨hg, hcs⟩, hin⟩ := hc
    have hcne : C.cs ≠ [] := fun e => hcs (by rw [e]; rfl)
    have hh := hg
    rw [gc_eq, Bool.and_eq_true, Bool.and_eq_true] at hh
    obtain ⟨-, -, hlim, -, -, -⟩ := (head_iff C).1 hh.1.1
    simp only [GoodKey.inB, Bool.and_eq_true, decide_eq_true_eq] at hlim
    have hnn : ∀ (many : Nat) (t : List Pls.Core × Nat), ∀ j, j < Mv.cnt C.cs many t → noneB C.cs (mvN C.cs j t).1 = false := by
      intro many
      induction many with
      | zero => intro t j hj; simp [Mv.cnt] at hj
      | succ n ih =>
        intro t j hj
        rw [Mv.cnt] at hj
        split at hj
        · omega
        · next hno =>
          cases j with
          | zero => show noneB C.cs t.1 = false; simpa using hno
          | succ j => rw [← mvN_shift]; exact ih (mv1 C.cs t) j (by omega)
    have hinv := inv_n (t := t0 C) (inv_start hg) hg hlim.1 hcne _ (hnn many.toNat (t0 C))
    have hl := hinv.len
    have h16 := (Fleet.gc_ok hL hg).1
    have hi := its_le (fun p hp => (hinv.pl p hp).2.1)
    refine ⟨h.n, h.c, ?_, ?_⟩
    · show (mvN C.cs _ (t0 C)).1.length ≤ _; omega
    · show its (mvN C.cs _ (t0 C)).1 ≤ _; omega
  · exact sm_no
end CopyV
end Go.Proofs.YtjgfedmgmfpapaaGreatDoor
/-
  The contract of the law files' heldNodeS: the marks of a row are read again (written by a program of mine).
-/
namespace Go.Proofs.YtjgfedmgmfpapaaGreatDoor
namespace NodesM
open Go.RowKit Base NumText Marks
set_option linter.unusedVariables false

set_option maxRecDepth 10000 in
set_option maxHeartbeats 2000000 in
theorem row_held (g cap n : Nat) (k : Int) (w : World) (hr : RowAt w g 98 (n * 2) (mcell k)) (hk0 : 0 < k) (hk1 : k ≤ 1000000000000) (hn : n ≤ 1000000000) :
    Calls Tryz.prog 33 #[.slice (some ⟨g, 0, none⟩) n cap, .int .i64 k] w fun e w' => e = .returned (.int .i64 (k + n * 2)) ∧ Below w.heap.size w w' := by
  have HR := hide hr
  clear hr
  go_enter Tryz.func33, Tryz.ntmps33
  go_wp2
  go_loopw [1, 5] (fun kv iv wr => ∃ (i : Nat) (z : Int), i ≤ n ∧ 0 < z ∧ z ≤ 1000000000000 + n * 2 ∧ iv = .int .i64 i ∧ kv = .int .i64 z ∧ Hid (z = k + i * 2) ∧ Hid (Below w.heap.size w wr)) (fun _ iv _ => n - (intOf iv).toNat)
  case atStart => exact ⟨0, k, Nat.zero_le _, hk0, by omega, rfl, rfl, hide (by simp), hide (Below.refl _ _)⟩
  case round =>
    obtain ⟨i, z, hi, hz0, hz1, rfl, rfl, hz, hbel⟩ := hrel
    by_cases hlt : i < n
    · have hzn : z + 2 ≤ 1000000000000 + n * 2 := by have := unhide hz; omega
      have T0 := hide (fun w => text_any (z) w (by omega) (by omega))
      have hzz := unhide hz
      have row := (unhide HR).below (unhide hbel) (unhide HR).lt
      have c0 : wr.cell? ⟨g, i * 2, none⟩ = some (.string (mtxt (z).toNat)) := by rw [row.cell (by omega), mc0 k (i * 2) (by omega), show k + ((i * 2 : Nat) : Int) = z by omega]
      have c1 : wr.cell? ⟨g, i * 2 + 1, none⟩ = some (.int .i64 (z + 1)) := by rw [row.cell (by omega), mc1 k (i * 2 + 1) (by omega), show k + ((i * 2 + 1 : Nat) : Int) = z + 1 by omega]
      have hglt : g < wr.heap.size := row.lt
      clear row hzz
      go_wp2
      go_region_with (go_at_call 63; refine (unhide T0 _).mono ?_; rintro e w1 ⟨rfl, hb1⟩; have hc1 := fun o => hb1.cell (p := ⟨g, o, none⟩) hglt; have hb1 := hide hb1)
      all_goals
        go_wp2
        go_roundw
        case rel => exact ⟨i + 1, z + 1 + 1, by omega, by omega, by omega, by go_num, rfl, hide (by have := unhide hz; omega), hide ((unhide hbel).drew.trans ((unhide hb1).mono (unhide hbel).size))⟩
        case measure => simp [intOf]; omega
    · obtain rfl : i = n := by omega
      have HZ := hide (unhide hz)
      go_wp2
      go_ret
      exact ⟨ret_int (unhide HZ), unhide hbel⟩

set_option maxHeartbeats 400000 in
theorem held_any (a : Option Addr) (cap n : Nat) (r : Option Nat) (k : Int) (w : World) (hr : Ours w a n (mcell k) r) (hk0 : 0 < k) (hk1 : k ≤ 1000000000000) (hn : n ≤ 1000000000) :
    Calls Tryz.prog 33 #[.slice a n cap, .int .i64 k] w fun e w' => e = .returned (.int .i64 (k + n * 2)) ∧ Below w.heap.size w w' := by
  rcases hr with ⟨h0, hr0⟩ | ⟨g, rfl, rfl, h⟩
  · subst h0 hr0
    go_enter Tryz.func33, Tryz.ntmps33
    go_wp2
    go_loop [1, 5] (fun kv i => i = .int .i64 0 ∧ kv = .int .i64 k) (fun _ _ => 0)
    case atStart => exact ⟨rfl, rfl⟩
    case round =>
      obtain ⟨rfl, rfl⟩ := hrel
      go_wp2
      go_ret
      exact ⟨ret_int (by simp), Below.refl _ _⟩
  · exact row_held g cap n k w h hk0 hk1 hn
end NodesM
end Go.Proofs.YtjgfedmgmfpapaaGreatDoor
/-
  A slice of the struct Node that the call itself has made by append: its cells one behind the other (written by a program of mine). No Go function is spoken of here.
-/
namespace Go.Proofs.YtjgfedmgmfpapaaGreatDoor
namespace NodesW
open Go.RowKit Base Marks OwnR Nodes
set_option linter.unusedVariables false

def cellsOf (x : D) : List Value := [.string x.name, .int .i64 x.weight]
def flat (l : List D) : List Value := l.flatMap cellsOf
theorem flat_append (a b : List D) : flat (a ++ b) = flat a ++ flat b := by simp [flat]
theorem flat_one (x : D) : flat [x] = cellsOf x := by simp [flat]
theorem flat_length (l : List D) : (flat l).length = l.length * 2 := by
  induction l with
  | nil => rfl
  | cons x r ih =>
    have e : flat (x :: r) = cellsOf x ++ flat r := by simp [flat]
    rw [e, List.length_append, ih]
    simp [cellsOf]; omega
theorem icell_cons (x : D) (r : List D) (j : Nat) : icell (x :: r) (j + 2) = icell r j := by
  unfold icell
  rw [show (j + 2) % 2 = j % 2 by omega, show (j + 2) / 2 = j / 2 + 1 by omega]
  simp
theorem flat_get (l : List D) (j : Nat) (hj : j < l.length * 2) : (flat l)[j]? = some (icell l j) := by
  induction l generalizing j with
  | nil => simp at hj
  | cons x r ih =>
    have e : flat (x :: r) = cellsOf x ++ flat r := by simp [flat]
    rw [e]
    by_cases h : j < 2
    · rw [List.getElem?_append_left (by simp [cellsOf]; omega)]
      obtain rfl | rfl : j = 0 ∨ j = 1 := by omega
      all_goals simp [cellsOf, icell]
    · obtain ⟨i, rfl⟩ : ∃ i, j = i + 2 := ⟨j - 2, by omega⟩
      rw [List.getElem?_append_right (by simp [cellsOf]), icell_cons]
      have el : (cellsOf x).length = 2 := rfl
      rw [el, Nat.add_sub_cancel]
      exact ih i (by simp at hj; omega)
theorem flat_oneCell (l : List D) (u : Value) (hu : u ∈ flat l) : u.oneCell' = true := by
  obtain ⟨x, _, hx⟩ := List.mem_flatMap.1 hu
  simp only [cellsOf, List.mem_cons, List.not_mem_nil, or_false] at hx
  rcases hx with rfl | rfl <;> rfl
theorem news_one (x : D) (u : Value) (hu : u ∈ cellsOf x) : u.oneCell' = true := flat_oneCell [x] u (by rw [flat_one]; exact hu)
theorem news_cells (w : World) (x : D) (t : TypeId) (j : Nat) (u : Value) (hj : (cellsOf x)[j]? = some u) :
    (w.alloc (.cells #[.string x.name, .int .i64 x.weight] t)).cell? ((⟨w.heap.size, 0, none⟩ : Addr).add j) = some u := by
  rw [Go.WideShapes.add_plain, Nat.zero_add, World.cell?_alloc_new]
  show (cellsOf x).toArray[j]? = some u
  simpa using hj
/-- The cells of a row, as what an append takes. -/
theorem news_row {w : World} {b : Nat} {t : TypeId} {l : List D} (h : w.rowIs b t (l.length * 2) (icell l)) (j : Nat) (u : Value) (hj : (flat l)[j]? = some u) : w.cell? ((⟨b, 0, none⟩ : Addr).add j) = some u := by
  have hlt : j < l.length * 2 := by rw [← flat_length]; exact (List.getElem?_eq_some_iff.1 hj).1
  rw [flat_get l j hlt] at hj
  rw [Go.WideShapes.add_plain, Nat.zero_add, h.cell hlt]
  exact hj
theorem news_at {w : World} {b : Nat} {t : TypeId} {l : List D} {m : Nat} (h : RowAt w b t m (icell l)) (hm : l.length * 2 ≤ m) (j : Nat) (u : Value) (hj : (flat l)[j]? = some u) : w.cell? ((⟨b, 0, none⟩ : Addr).add j) = some u := by
  have hlt : j < l.length * 2 := by rw [← flat_length]; exact (List.getElem?_eq_some_iff.1 hj).1
  rw [flat_get l j hlt] at hj
  rw [Go.WideShapes.add_plain, Nat.zero_add, h.cell (by omega)]
  exact hj
theorem own_snoc {w : World} {base : Nat} {t : TypeId} {v : Value} {kept kept' : List D} {x : D} (h : w.ownsRow base t 2 v (kept.length + 1) (flat kept ++ cellsOf x)) (e : kept' = kept ++ [x]) : w.ownsRow base t 2 v kept'.length (flat kept') := by
  rw [e, flat_append, flat_one, List.length_append]
  exact h
theorem own_ours {w : World} {base : Nat} {a : Option Addr} {cap : Nat} {l : List D} (h : w.ownsRow base 98 2 (.slice a l.length cap) l.length (flat l)) :
    ∃ r, NodesM.Ours w a l.length (icell l) r ∧ ∀ g, r = some g → base ≤ g := by
  rcases h.2 with ⟨_, h0⟩ | ⟨g, cap', cur, hv, hg, hh, hn, _, hsz, ht⟩
  · exact ⟨none, .inl ⟨h0, rfl⟩, fun g e => by simp at e⟩
  · simp only [Value.slice.injEq] at hv
    refine ⟨some g, .inr ⟨g, hv.1, rfl, cur, hh, by rw [hsz]; omega, fun i hi => ?_⟩, fun g' e => by simp at e; omega⟩
    rw [← flat_get l i hi, ← ht, List.getElem?_take_of_lt hi]
    simp
theorem ours_at {w : World} {a : Option Addr} {l : List D} {r : Option Nat} (h : NodesM.Ours w a l.length (icell l) r) : LAt w a l := by
  intro hne
  rcases h with ⟨h0, _⟩ | ⟨g, ha, _, hrow⟩
  · exact absurd (List.length_eq_zero_iff.1 h0) hne
  · refine ⟨g, 0, ha, hrow.lt, fun i hi => ?_⟩
    rw [Nat.zero_add]
    refine ⟨?_, ?_⟩
    · rw [hrow.cell (by omega), icell, show (i * 2) % 2 = 0 by omega, show (i * 2) / 2 = i by omega]; simp
    · rw [hrow.cell (by omega), icell, show (i * 2 + 1) % 2 = 1 by omega, show (i * 2 + 1) / 2 = i by omega]; simp
end NodesW
end Go.Proofs.YtjgfedmgmfpapaaGreatDoor
/-
  Contracts of the law files' markPlaceS, heldPlaceS, markCluster and heldCluster over a cluster in rows of a call's own, with room to spare or none at all.
-/
namespace Go.Proofs.YtjgfedmgmfpapaaGreatDoor
namespace Clus
open Go.RowKit Base Marks Keep OwnR Plc
set_option linter.unusedVariables false

def rr (x : Pls.Pl) : Option Nat := (Value.slice x.a x.its.length x.cap).ownBlock
/-- Places in a row, the items of each in another, no two of them one. -/
structure PG (w : World) (b : Nat) (L : List Pls.Pl) : Prop where
  row : RowAt w b 91 (L.length * 4) (Pls.lcell L)
  its : ∀ j, j < L.length → Marks.Ours w (L.getD j Pls.zeroL).a (L.getD j Pls.zeroL).its.length (Items.icell (L.getD j Pls.zeroL).its) (rr (L.getD j Pls.zeroL))
  far : ∀ j, j < L.length → rr (L.getD j Pls.zeroL) ≠ some b
  dis : ∀ i j, i < L.length → j < L.length → i ≠ j → ∀ q, rr (L.getD i Pls.zeroL) = some q → rr (L.getD j Pls.zeroL) ≠ some q
/-- They bear the marks from k on. -/
structure MG (w : World) (b : Nat) (L : List Pls.Pl) (k : Int) : Prop where
  row : RowAt w b 91 (L.length * 4) (pcell L k)
  its : ∀ j, j < L.length → Marks.Ours w (L.getD j Pls.zeroL).a (L.getD j Pls.zeroL).its.length (mcell (mk L k j + 3)) (rr (L.getD j Pls.zeroL))
theorem MG.below {w w' : World} {b : Nat} {L : List Pls.Pl} {k : Int} (h : MG w b L k) (hb : Below w.heap.size w w') : MG w' b L k :=
  ⟨h.row.below hb h.row.lt, fun j hj => (h.its j hj).below hb (Nat.le_refl _)⟩
def rows (b : Nat) (L : List Pls.Pl) : List Nat := b :: L.filterMap rr
theorem own_mem {L : List Pls.Pl} {i q : Nat} (hi : i < L.length) (b : Nat) (h : rr (L.getD i Pls.zeroL) = some q) : q ∈ rows b L := by
  refine List.mem_cons_of_mem _ (List.mem_filterMap.2 ⟨_, Pls.getD_mem hi, h⟩)
theorem ours_set {w : World} {a : Option Addr} {n : Nat} {f : Nat → Value} {r : Option Nat} (h : Marks.Ours w a n f r) {p : Addr} (hr : r ≠ some p.block) (v : Value) : Marks.Ours (w.setCell p v) a n f r := by
  rcases h with h | ⟨g, ha, hg, h⟩
  · exact .inl h
  · exact .inr ⟨g, ha, hg, h.of_block (Below.heap_setCell _ _ _ _ (fun e => hr (by rw [hg, e])))⟩
theorem lcell3 (L : List Pls.Pl) (i : Nat) : Pls.lcell L (i * 4 + 3) = .slice (L.getD i Pls.zeroL).a (L.getD i Pls.zeroL).its.length (L.getD i Pls.zeroL).cap := by
  unfold Pls.lcell
  rw [if_neg (by omega), if_neg (by omega), if_neg (by omega), show (i * 4 + 3) / 4 = i by omega]

set_option maxRecDepth 10000 in
set_option maxHeartbeats 2000000 in
theorem places_mark_any (b cap : Nat) (L : List Pls.Pl) (k : Int) (w : World) (h : PG w b L) (hk0 : 0 < k) (hk1 : k ≤ 1000000000) (hn : L.length ≤ 1048576) (ht : cnt L L.length ≤ 1048576) :
    Calls Tryz.prog 32 #[.slice (some ⟨b, 0, none⟩) L.length cap, .int .i64 k] w fun e w' => e = .returned (.int .i64 (mk L k L.length)) ∧ MG w' b L k ∧ Keeps (rows b L) w w' := by
  have HR := hide h
  have hlb := h.row.lt
  clear h
  go_enter Tryz.func32, Tryz.ntmps32
  go_wp2_with fail
  go_loopw [1, 5] (fun kv iv wr => ∃ (i : Nat) (z : Int), i ≤ L.length ∧ iv = .int .i64 (i : Int) ∧ kv = .int .i64 z ∧ 0 < z ∧ z ≤ 1100000000 ∧ Hid (z = mk L k i) ∧ Hid (RowAt wr b 91 (L.length * 4) (phalf L k i)) ∧ Hid (∀ j, j < L.length → Marks.Ours wr (L.getD j Pls.zeroL).a (L.getD j Pls.zeroL).its.length (itm L k i j) (rr (L.getD j Pls.zeroL))) ∧ Hid (Keeps (rows b L) w wr)) (fun _ iv _ => L.length - (intOf iv).toNat)
  case atStart => exact ⟨0, k, Nat.zero_le _, rfl, rfl, hk0, by omega, hide (by simp [mk, cnt]), hide ((unhide HR).row.congr (fun j _ => by simp [phalf])), hide (fun j hj => by unfold itm; rw [if_neg (by omega)]; exact (unhide HR).its j hj), hide (Keeps.refl _ _)⟩
  case round =>
    obtain ⟨i, z, hi, rfl, rfl, hz0, hz1, hz, hrow, hits, hkp⟩ := hrel
    by_cases hlt : i < L.length
    · have HNE := hide (unhide HR).far
      have HDIS := hide (fun j hj hji => (unhide HR).dis i j hlt hj hji)
      have HMEM := hide (fun q => own_mem (q := q) hlt b)
      have HMS := hide (mk_succ (k := k) hlt)
      have hc1 := cnt_succ hlt
      have hc2 := cnt_le (L := L) (i := i + 1) (by omega)
      have HST := hide (fun j => phalf_step L k i j)
      have hzz : Hid (z + 3 + ((L.getD i Pls.zeroL).its.length : Int) * 5 ≤ 1100000000) := hide (by
        have e1 := unhide hz
        unfold mk at e1
        have e2 : (L.getD i Pls.zeroL).its.length ≤ 1048576 := by omega
        omega)
      rw [← unhide hz] at HST HMS
      have e3 : phalf L k i (i * 4 + 3) = .slice (L.getD i Pls.zeroL).a (L.getD i Pls.zeroL).its.length (L.getD i Pls.zeroL).cap := by
        rw [phalf, if_neg (by omega), lcell3]
      have HIX := hide (unhide HNE i hlt)
      clear hc1 hc2
      generalize hx : L.getD i Pls.zeroL = x at e3 HMEM HMS hzz HIX HDIS
      have HX := hide hx
      clear hx
      have HE3 := hide e3
      clear e3
      have hlr : b < wr.heap.size := (unhide hrow).lt
      go_wp2_with fail
      refine (Marks.text_any z _ (by omega) (by omega)).mono ?_
      rintro e w1 ⟨rfl, hb1⟩
      have row1 := (unhide hrow).below hb1 hlr
      have d0 := row1.cell (i := i * 4) (by omega)
      have d1 := row1.cell (i := i * 4 + 1) (by omega)
      have d2 := row1.cell (i := i * 4 + 2) (by omega)
      have d3 := row1.cell (i := i * 4 + 3) (by omega)
      rw [unhide HE3] at d3
      have f0 := row1.frozen (i * 4)
      have f1 := row1.frozen (i * 4 + 1)
      have f2 := row1.frozen (i * 4 + 2)
      have ROW2 := hide ((((row1.set (i * 4) (.string (mtxt z.toNat))).set (i * 4 + 1) (.int .i64 (z + 1))).set (i * 4 + 2) (.int .i64 (z + 1 + 1))).congr (g := phalf L k (i + 1)) (fun j _ => unhide HST j))
      have ITS1 := hide (fun j hj => (unhide hits j hj).below hb1 (Nat.le_refl _))
      have KP1 := hide ((unhide hkp).trans (S' := []) (Keeps.of_below hb1 (fun q hq _ => hq)) (by simp))
      clear hrow hits hkp hb1 row1 HST
      generalize phalf L k i (i * 4) = o0 at d0
      generalize phalf L k i (i * 4 + 1) = o1 at d1
      generalize phalf L k i (i * 4 + 2) = o2 at d2
      go_wp2_with fail
      have hbm : b ∈ rows b L := List.mem_cons_self
      have KP2 : Hid (Keeps (rows b L) w (((w1.setCell ⟨b, i * 4, none⟩ (.string (mtxt z.toNat))).setCell ⟨b, i * 4 + 1, none⟩ (.int .i64 (z + 1))).setCell ⟨b, i * 4 + 2, none⟩ (.int .i64 (z + 1 + 1)))) := (((unhide KP1).setCell (.inl hbm) _).setCell (.inl hbm) _).setCell (.inl hbm) _
      have ITS2 : Hid (∀ j, j < L.length → Marks.Ours (((w1.setCell ⟨b, i * 4, none⟩ (.string (mtxt z.toNat))).setCell ⟨b, i * 4 + 1, none⟩ (.int .i64 (z + 1))).setCell ⟨b, i * 4 + 2, none⟩ (.int .i64 (z + 1 + 1))) (L.getD j Pls.zeroL).a (L.getD j Pls.zeroL).its.length (itm L k i j) (rr (L.getD j Pls.zeroL))) := fun j hj =>
        ours_set (ours_set (ours_set (unhide ITS1 j hj) (p := ⟨b, i * 4, none⟩) (unhide HNE j hj) _) (p := ⟨b, i * 4 + 1, none⟩) (unhide HNE j hj) _) (p := ⟨b, i * 4 + 2, none⟩) (unhide HNE j hj) _
      generalize (((w1.setCell ⟨b, i * 4, none⟩ (.string (mtxt z.toNat))).setCell ⟨b, i * 4 + 1, none⟩ (.int .i64 (z + 1))).setCell ⟨b, i * 4 + 2, none⟩ (.int .i64 (z + 1 + 1))) = v at KP2 ITS2 ROW2 ⊢
      clear ITS1 KP1 d0 d1 d2 d3 f0 f1 f2
      have ITI : Hid (Marks.Ours v x.a x.its.length (itm L k i i) (rr x)) := by have h := unhide ITS2 i hlt; rw [unhide HX] at h; exact h
      refine (items_mark_any x.a x.cap x.its.length _ (rr x) (z + 1 + 1 + 1) v (unhide ITI) (by omega) (by omega) (by have := unhide hzz; omega)).mono ?_
      rintro e w2 ⟨rfl, hm2, hg2⟩
      have ROW3 := hide ((unhide ROW2).of_block (hg2.block b (unhide ROW2).lt (fun e => unhide HIX e.symm)))
      have ITS3 : Hid (∀ j, j < L.length → Marks.Ours w2 (L.getD j Pls.zeroL).a (L.getD j Pls.zeroL).its.length (itm L k (i + 1) j) (rr (L.getD j Pls.zeroL))) := fun j hj => by
        by_cases ej : j = i
        · subst ej
          unfold itm
          rw [if_pos (by omega), ← unhide hz]
          have e3 : z + 3 = z + 1 + 1 + 1 := by omega
          rw [e3, unhide HX]
          exact hm2
        · have hb := (unhide ITS2 j hj).gb hg2 (fun g h e => unhide HDIS j hj (fun e' => ej e'.symm) g e.symm h)
          unfold itm at hb ⊢
          by_cases hji : j < i
          · rw [if_pos hji] at hb; rw [if_pos (by omega)]; exact hb
          · rw [if_neg hji] at hb; rw [if_neg (by omega)]; exact hb
      have KP3 := hide ((unhide KP2).grown hg2 (fun q e => .inl (unhide HMEM q e)))
      have hz3 : Hid (z + 1 + 1 + 1 + (x.its.length : Int) * 5 = mk L k (i + 1)) := hide (by rw [unhide HMS]; omega)
      clear hm2 hg2 ROW2 ITS2 KP2 HNE HDIS HMEM HMS hz ITI HIX HX HE3
      have hm0 : (0 : Int) ≤ (x.its.length : Int) := by omega
      generalize (x.its.length : Int) = m at hzz hz3 hm0 ⊢
      have hb3 := unhide hzz
      go_wp2
      go_roundw
      case rel => exact ⟨i + 1, z + 1 + 1 + 1 + m * 5, by omega, by go_num, rfl, by omega, by omega, hz3, ROW3, ITS3, KP3⟩
      case measure => simp [intOf]; omega
    · obtain rfl : i = L.length := by omega
      have PMF : Hid (MG wr b L k) := ⟨(unhide hrow).congr (fun j hj => by unfold phalf; rw [if_pos hj]), fun j hj => by have := unhide hits j hj; unfold itm at this; rw [if_pos hj] at this; exact this⟩
      clear hrow hits
      go_wp2
      go_ret
      exact ⟨ret_int (unhide hz), unhide PMF, unhide hkp⟩

theorem pc0 (L : List Pls.Pl) (k : Int) (i : Nat) : pcell L k (i * 4) = .string (mtxt (mk L k i).toNat) := by
  unfold pcell; rw [if_pos (by omega), show i * 4 / 4 = i by omega]
theorem pc1 (L : List Pls.Pl) (k : Int) (i : Nat) : pcell L k (i * 4 + 1) = .int .i64 (mk L k i + 1) := by
  unfold pcell; rw [if_neg (by omega), if_pos (by omega), show (i * 4 + 1) / 4 = i by omega]
theorem pc2 (L : List Pls.Pl) (k : Int) (i : Nat) : pcell L k (i * 4 + 2) = .int .i64 (mk L k i + 2) := by
  unfold pcell; rw [if_neg (by omega), if_neg (by omega), if_pos (by omega), show (i * 4 + 2) / 4 = i by omega]
theorem pc3 (L : List Pls.Pl) (k : Int) (i : Nat) : pcell L k (i * 4 + 3) = .slice (L.getD i Pls.zeroL).a (L.getD i Pls.zeroL).its.length (L.getD i Pls.zeroL).cap := by
  unfold pcell; rw [if_neg (by omega), if_neg (by omega), if_neg (by omega), lcell3]

set_option maxRecDepth 10000 in
set_option maxHeartbeats 2000000 in
theorem places_held_any (b cap : Nat) (L : List Pls.Pl) (k : Int) (w : World) (h : MG w b L k) (hk0 : 0 < k) (hk1 : k ≤ 1000000000) (hn : L.length ≤ 1048576) (ht : cnt L L.length ≤ 1048576) :
    Calls Tryz.prog 34 #[.slice (some ⟨b, 0, none⟩) L.length cap, .int .i64 k] w fun e w' => e = .returned (.int .i64 (mk L k L.length)) ∧ Below w.heap.size w w' := by
  have HR := hide h
  have hlb := h.row.lt
  clear h
  go_enter Tryz.func34, Tryz.ntmps34
  go_wp2_with fail
  go_loopw [1, 5] (fun kv iv wr => ∃ (i : Nat) (z : Int), i ≤ L.length ∧ iv = .int .i64 (i : Int) ∧ kv = .int .i64 z ∧ 0 < z ∧ z ≤ 1100000000 ∧ Hid (z = mk L k i) ∧ Hid (Below w.heap.size w wr)) (fun _ iv _ => L.length - (intOf iv).toNat)
  case atStart => exact ⟨0, k, Nat.zero_le _, rfl, rfl, hk0, by omega, hide (by simp [mk, cnt]), hide (Below.refl _ _)⟩
  case round =>
    obtain ⟨i, z, hi, rfl, rfl, hz0, hz1, hz, hbel⟩ := hrel
    by_cases hlt : i < L.length
    · have HMG := (unhide HR).below (unhide hbel)
      have c0 := HMG.row.cell (i := i * 4) (by omega)
      have c1 := HMG.row.cell (i := i * 4 + 1) (by omega)
      have c2 := HMG.row.cell (i := i * 4 + 2) (by omega)
      have c3 := HMG.row.cell (i := i * 4 + 3) (by omega)
      have hit := HMG.its i hlt
      rw [pc0, ← unhide hz] at c0
      rw [pc1, ← unhide hz] at c1
      rw [pc2, ← unhide hz, show z + 2 = z + 1 + 1 by omega] at c2
      rw [pc3] at c3
      rw [← unhide hz, show z + 3 = z + 1 + 1 + 1 by omega] at hit
      have HMS := hide (mk_succ (k := k) hlt)
      have hc1 := cnt_succ hlt
      have hc2 := cnt_le (L := L) (i := i + 1) (by omega)
      have hzz : Hid (z + 3 + ((L.getD i Pls.zeroL).its.length : Int) * 5 ≤ 1100000000) := hide (by
        have e1 := unhide hz
        unfold mk at e1
        have e2 : (L.getD i Pls.zeroL).its.length ≤ 1048576 := by omega
        omega)
      rw [← unhide hz] at HMS
      have HIT := hide hit
      clear HMG hc1 hc2 hit
      generalize L.getD i Pls.zeroL = x at c3 HIT HMS hzz
      have HT := hide (fun u => Marks.text_any z u (by omega) (by omega))
      have hbw : b < wr.heap.size := Nat.lt_of_lt_of_le hlb (unhide hbel).size
      have hzr := (unhide hbel).size
      have HIH := hide (fun u (hu : Below wr.heap.size wr u) => items_held_any x.a x.cap x.its.length (rr x) (z + 1 + 1 + 1) u ((unhide HIT).below hu (Nat.le_refl _)) (by omega) (by omega) (by have := unhide hzz; omega))
      have hm0 : (0 : Int) ≤ (x.its.length : Int) := by omega
      have hz3 : Hid (z + 1 + 1 + 1 + (x.its.length : Int) * 5 = mk L k (i + 1)) := hide (by rw [unhide HMS]; omega)
      have hb3 := unhide hzz
      clear HIT HMS hz
      generalize hil : (x.its.length : Int) = m at hz3 hm0 hb3 HIH
      clear hil hzz
      go_wp2_with fail
      go_region_with (go_at_call 63; refine (unhide HT _).mono ?_; rintro e w1 ⟨rfl, hb1⟩; have hc := fun o => hb1.cell (p := ⟨b, o, none⟩) hbw; have HB1 : Hid (Below wr.heap.size wr w1) := ⟨hb1.os, hb1.tape, hb1.output, hb1.size, hb1.block⟩; have hz1' : wr.heap.size ≤ w1.heap.size := hb1.size; clear hb1)
      all_goals
        go_wp2_with fail
        refine (unhide HIH _ (unhide HB1)).mono ?_
        rintro e w2 ⟨rfl, hb2⟩
        have B2 := hide (((unhide hbel).trans ((unhide HB1).mono hzr)).trans (hb2.mono (Nat.le_trans hzr hz1')))
        clear hb2 hc
        go_wp2
        go_roundw
        case rel => exact ⟨i + 1, z + 1 + 1 + 1 + m * 5, by omega, by go_num, rfl, by omega, by omega, hz3, B2⟩
        case measure => simp [intOf]; omega
    · obtain rfl : i = L.length := by omega
      go_wp2
      go_ret
      exact ⟨ret_int (unhide hz), unhide hbel⟩
end Clus
end Go.Proofs.YtjgfedmgmfpapaaGreatDoor
