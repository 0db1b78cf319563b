/-
  The program's BeginMove, whole.
-/
import Derived.Test.YtkodgbalhnbhcaaGreatDoorZ28
import Derived.Test.YtkodgbalhnbhcaaGreatDoorZ3
import Derived.Test.YtkodgbalhnbhcaaGreatDoorRows
import Derived.Deep.RegionWith
import Derived.Test.YtkodgbalhnbhcaaGreatDoorZ13
import Derived.Test.YtkodgbalhnbhcaaGreatDoorZ1
namespace Go.Proofs.YtkodgbalhnbhcaaGreatDoor
namespace Fleet
open Go.RowKit Base Store Items OwnR Keep Clus Marks Plc
set_option linter.unusedVariables false

set_option maxRecDepth 10000 in
set_option maxHeartbeats 1000000 in
theorem begin1_any (M X db : Nat) (v : Value) (R : CC × Bool) (w : World) (hdb : w.cell? ⟨db, 0, none⟩ = some v) (h : Calls Tryz.prog 51 #[.pointer (some ⟨X, 0, none⟩), v] w (EnEnd M X R w)) :
    Calls Tryz.prog 50 #[.pointer (some ⟨X, 0, none⟩), .pointer (some ⟨db, 0, none⟩)] w (EnEnd M X R w) := by
  have H := hide h
  clear h
  go_enter Tryz.func50, Tryz.ntmps50
  go_wp2_with fail
  refine (unhide H).mono ?_
  rintro e w1 ⟨ok, rfl, hk, hend⟩
  have HK := hide hk
  have HE := hide hend
  clear hk hend H
  go_wp2
  go_ret
  exact ⟨ok, rfl, unhide HK, unhide HE⟩
set_option maxRecDepth 10000 in
set_option maxHeartbeats 1000000 in
theorem changed1_begin (M X nb db : Nat) (R : CC × Bool) (w : World) (hnb : w.cell? ⟨nb, 0, none⟩ = some (.func (.func 50) #[] #[.pointer (some ⟨db, 0, none⟩)])) (h : Calls Tryz.prog 50 #[.pointer (some ⟨X, 0, none⟩), .pointer (some ⟨db, 0, none⟩)] w (EnEnd M X R w)) :
    Calls Tryz.prog 87 #[.pointer (some ⟨X, 0, none⟩), .pointer (some ⟨nb, 0, none⟩)] w (StepTo M X (R.1, 0, R.2) w) := by
  have H := hide h
  clear h
  go_enter Tryz.func87, Tryz.ntmps87
  go_wp2_with fail
  refine (unhide H).mono ?_
  rintro e w1 ⟨ok, rfl, hk, hend⟩
  have HK := hide hk
  have HE := hide hend
  clear hk hend H
  go_wp2
  go_ret2
  refine ⟨0, ok, rfl, unhide HK, ?_⟩
  rcases unhide HE with ⟨e1, e2⟩ | ⟨e1, e2⟩
  · exact .inl ⟨e1, by rw [e2]⟩
  · exact .inr ⟨e1, e2⟩

theorem begin_changedBy (now nx lim lost : Int) (b1 b2 b3 : Nat) (ns cs : List Nodes.D) (L : List Pls.Pl) (bn : Nat) (nd : List Nodes.D) (nb db : Nat) (w : World) (hR : CR w b1 b2 b3 ns cs L) (hN : w.rowIs bn 76 (nd.length * 2) (Nodes.icell nd)) (ln : ns.length ≤ 1048576) (fn : ∀ x ∈ ns, Nodes.Fits x) (lc : cs.length ≤ 1048576) (fc : ∀ x ∈ cs, Nodes.Fits x) (lp : L.length ≤ 1048576) (fp : ∀ x ∈ L, Pls.Fits x) (ld : nd.length ≤ 1048576) (fd : ∀ x ∈ nd, Nodes.Fits x) (hv : Ring.Vars w) (hnb : w.cell? ⟨nb, 0, none⟩ = some (.func (.func 50) #[] #[.pointer (some ⟨db, 0, none⟩)])) (hdb : w.cell? ⟨db, 0, none⟩ = some (.slice (some ⟨bn, 0, none⟩) nd.length nd.length)) :
    Calls Tryz.prog 34 #[.agg #[.int .i64 now, .int .i64 nx, .int .i64 lim, .int .i64 lost, .slice (some ⟨b1, 0, none⟩) ns.length ns.length, .slice (some ⟨b2, 0, none⟩) cs.length cs.length, .slice (some ⟨b3, 0, none⟩) L.length L.length], .func (.func 87) #[] #[.pointer (some ⟨nb, 0, none⟩)]] w (Tells3 ((Beg.bmR ⟨now, nx, lim, lost, ns, cs, L.map Pls.core⟩ nd).1, 0, (Beg.bmR ⟨now, nx, lim, lost, ns, cs, L.map Pls.core⟩ nd).2) w) := by
  refine changed_by _ now nx lim lost b1 b2 b3 ns cs L nb w hR ln fn lc fc lp fp hv (fun h => by rw [Beg.bm_bad h]) (fun hg M X f u hf hX hM hfi hrg hu => ?_)
  have hRu := hR.below hu (Nat.le_refl _)
  exact changed1_begin M X nb db _ u ((hu.cell (p := ⟨nb, 0, none⟩) (block_lt_of_cell hnb)).trans hnb) (begin1_any M X db _ _ u ((hu.cell (p := ⟨db, 0, none⟩) (block_lt_of_cell hdb)).trans hdb) (beginMove_any now nx lim lost b1 b2 ns cs L bn nd M X f u hg hf hM hfi (Nat.lt_of_lt_of_le hR.n.lt hX) hRu.n (Nat.lt_of_lt_of_le hN.lt hX) (hN.of_block (hu.block _ hN.lt)) ld fd (hv.below hu)))

set_option maxRecDepth 10000 in
set_option maxHeartbeats 2000000 in
theorem begin_impl (now nx lim lost : Int) (b1 b2 b3 : Nat) (ns cs : List Nodes.D) (L : List Pls.Pl) (bn : Nat) (nd : List Nodes.D) (w : World) (hR : CR w b1 b2 b3 ns cs L) (hN : w.rowIs bn 76 (nd.length * 2) (Nodes.icell nd)) (ln : ns.length ≤ 1048576) (fn : ∀ x ∈ ns, Nodes.Fits x) (lc : cs.length ≤ 1048576) (fc : ∀ x ∈ cs, Nodes.Fits x) (lp : L.length ≤ 1048576) (fp : ∀ x ∈ L, Pls.Fits x) (ld : nd.length ≤ 1048576) (fd : ∀ x ∈ nd, Nodes.Fits x) (hv : Ring.Vars w) :
    Calls Tryz.prog 20 #[.agg #[.int .i64 now, .int .i64 nx, .int .i64 lim, .int .i64 lost, .slice (some ⟨b1, 0, none⟩) ns.length ns.length, .slice (some ⟨b2, 0, none⟩) cs.length cs.length, .slice (some ⟨b3, 0, none⟩) L.length L.length], .slice (some ⟨bn, 0, none⟩) nd.length nd.length] w (Tells2 (Beg.bmR ⟨now, nx, lim, lost, ns, cs, L.map Pls.core⟩ nd) w) := by
  have HCH : Hid (∀ u db, Below w.heap.size w u → u.cell? ⟨db, 0, none⟩ = some (.slice (some ⟨bn, 0, none⟩) nd.length nd.length) → Calls Tryz.prog 42 #[.agg #[.int .i64 now, .int .i64 nx, .int .i64 lim, .int .i64 lost, .slice (some ⟨b1, 0, none⟩) ns.length ns.length, .slice (some ⟨b2, 0, none⟩) cs.length cs.length, .slice (some ⟨b3, 0, none⟩) L.length L.length], (.func (.func 50) #[] #[.pointer (some ⟨db, 0, none⟩)])] u (Tells2 (Beg.bmR ⟨now, nx, lim, lost, ns, cs, L.map Pls.core⟩ nd) u)) := fun u db hu hd =>
    changed_any _ _ now nx lim lost _ _ _ _ _ _ _ _ _ u rfl (fun nb v hv' hn hlo => begin_changedBy now nx lim lost b1 b2 b3 ns cs L bn nd nb db v ((hR.below hu (Nat.le_refl _)).below hv' (Nat.le_refl _)) ((hN.of_block (hu.block _ hN.lt)).of_block (hv'.block _ (Nat.lt_of_lt_of_le hN.lt hu.size))) ln fn lc fc lp fp ld fd ((hv.below hu).below hv') hn ((hv'.cell (p := ⟨db, 0, none⟩) (block_lt_of_cell hd)).trans hd))
  obtain ⟨R, hRR⟩ : ∃ R, R = Beg.bmR ⟨now, nx, lim, lost, ns, cs, L.map Pls.core⟩ nd := ⟨_, rfl⟩
  rw [← hRR] at HCH ⊢
  have B0 := hide (bel3 w (.cells #[.int .i64 now, .int .i64 nx, .int .i64 lim, .int .i64 lost, .slice (some ⟨b1, 0, none⟩) ns.length ns.length, .slice (some ⟨b2, 0, none⟩) cs.length cs.length, .slice (some ⟨b3, 0, none⟩) L.length L.length] 30) (.cells #[.slice (some ⟨bn, 0, none⟩) nd.length nd.length] 27) zeroB)
  have n0 : (((w.alloc (.cells #[.int .i64 now, .int .i64 nx, .int .i64 lim, .int .i64 lost, .slice (some ⟨b1, 0, none⟩) ns.length ns.length, .slice (some ⟨b2, 0, none⟩) cs.length cs.length, .slice (some ⟨b3, 0, none⟩) L.length L.length] 30)).alloc (.cells #[.slice (some ⟨bn, 0, none⟩) nd.length nd.length] 27)).alloc zeroB).cell? ⟨w.heap.size + 1, 0, none⟩ = some (.slice (some ⟨bn, 0, none⟩) nd.length nd.length) := by
    rw [(bel1 _ zeroB).cell (p := ⟨w.heap.size + 1, 0, none⟩) (by simp)]
    have := (World.cell?_alloc_new (w.alloc (.cells #[.int .i64 now, .int .i64 nx, .int .i64 lim, .int .i64 lost, .slice (some ⟨b1, 0, none⟩) ns.length ns.length, .slice (some ⟨b2, 0, none⟩) cs.length cs.length, .slice (some ⟨b3, 0, none⟩) L.length L.length] 30)) #[.slice (some ⟨bn, 0, none⟩) nd.length nd.length] 27 0)
    rw [World.size_alloc] at this
    rw [this]; rfl
  have CY0 : Hid (CB (((w.alloc (.cells #[.int .i64 now, .int .i64 nx, .int .i64 lim, .int .i64 lost, .slice (some ⟨b1, 0, none⟩) ns.length ns.length, .slice (some ⟨b2, 0, none⟩) cs.length cs.length, .slice (some ⟨b3, 0, none⟩) L.length L.length] 30)).alloc (.cells #[.slice (some ⟨bn, 0, none⟩) nd.length nd.length] 27)).alloc zeroB) (w.heap.size + 2) 0 0 0 0 (.slice none 0 0) (.slice none 0 0) (.slice none 0 0)) := by
    have := CB.new ((w.alloc (.cells #[.int .i64 now, .int .i64 nx, .int .i64 lim, .int .i64 lost, .slice (some ⟨b1, 0, none⟩) ns.length ns.length, .slice (some ⟨b2, 0, none⟩) cs.length cs.length, .slice (some ⟨b3, 0, none⟩) L.length L.length] 30)).alloc (.cells #[.slice (some ⟨bn, 0, none⟩) nd.length nd.length] 27)) 0 0 0 0 (.slice none 0 0) (.slice none 0 0) (.slice none 0 0)
    rw [World.size_alloc, World.size_alloc] at this
    exact this
  have hz0 : w.heap.size + 3 ≤ (((w.alloc (.cells #[.int .i64 now, .int .i64 nx, .int .i64 lim, .int .i64 lost, .slice (some ⟨b1, 0, none⟩) ns.length ns.length, .slice (some ⟨b2, 0, none⟩) cs.length cs.length, .slice (some ⟨b3, 0, none⟩) L.length L.length] 30)).alloc (.cells #[.slice (some ⟨bn, 0, none⟩) nd.length nd.length] 27)).alloc zeroB).heap.size := by simp
  clear hR hN fn fc fp fd hv hRR
  go_enter Tryz.func20, Tryz.ntmps20
  go_wp2_with fail
  generalize ((w.alloc (.cells #[.int .i64 now, .int .i64 nx, .int .i64 lim, .int .i64 lost, .slice (some ⟨b1, 0, none⟩) ns.length ns.length, .slice (some ⟨b2, 0, none⟩) cs.length cs.length, .slice (some ⟨b3, 0, none⟩) L.length L.length] 30)).alloc (.cells #[.slice (some ⟨bn, 0, none⟩) nd.length nd.length] 27)).alloc (.cells #[.int .i64 0, .int .i64 0, .int .i64 0, .int .i64 0, .slice none 0 0, .slice none 0 0, .slice none 0 0] 30) = W at B0 n0 CY0 hz0 ⊢
  refine (unhide HCH _ _ (unhide B0) n0).mono ?_
  rintro e w1 ⟨c, rfl, hpl, hco, hap, hb1⟩
  have B1 := hide ((unhide B0).trans (hb1.mono (unhide B0).size))
  have CY1 := hide ((unhide CY0).below hb1 (by omega))
  have HPL := hide hpl
  have HCO := hide hco
  have HAP := hide hap
  clear hpl hco hap hb1 HCH
  obtain ⟨y0, y1, y2, y3, y4, y5, y6, yf, yl⟩ := (unhide CY1).cells
  unfold clV
  go_wp2
  refine bodyPost_ret (v := .tuple #[clV c, .bool R.2]) (by simp [results, Tryz.results20, go_sem, clV, y0, y1, y2, y3, y4, y5, y6]) rfl ⟨c, rfl, unhide HPL, CO.le (B := W.heap.size) ?_ (by omega), unhide HAP, ?_⟩
  · repeat (refine CO.set ?_ (by first | (simp; done) | (simp; omega)) _)
    exact unhide HCO
  · repeat (refine Below.setCell ?_ (by first | (simp; done) | (simp; omega)) _)
    exact unhide B1
end Fleet
end Go.Proofs.YtkodgbalhnbhcaaGreatDoor
/-
  Rows of nodes that may be written, and the marks. No Go function is spoken of here.
-/
namespace Go.Proofs.YtkodgbalhnbhcaaGreatDoor
namespace NodesM
open Go.RowKit Base NumText Marks
set_option linter.unusedVariables false

/-- Cell j of a row that bears the marks from k on. -/
def mcell (k : Int) (j : Nat) : Value := if j % 2 = 0 then .string (mtxt (k + j).toNat) else .int .i64 (k + j)
theorem mc0 (k : Int) (j : Nat) (h : j % 2 = 0) : mcell k j = .string (mtxt (k + j).toNat) := by unfold mcell; rw [if_pos h]
theorem mc1 (k : Int) (j : Nat) (h : j % 2 = 1) : mcell k j = .int .i64 (k + j) := by unfold mcell; rw [if_neg (by omega)]
def mhalf (f : Nat → Value) (k : Int) (i j : Nat) : Value := if j < i * 2 then mcell k j else f j
theorem mhalf_step (f : Nat → Value) (k : Int) (i j : Nat) : (if j = i * 2 + 1 then (.int .i64 (k + i * 2 + 1) : Value) else if j = i * 2 then (.string (mtxt (k + i * 2).toNat) : Value) else mhalf f k i j) = mhalf f k (i + 1) j := by
  unfold mhalf
  by_cases h1 : j = i * 2 + 1
  · subst h1
    rw [if_pos rfl, if_pos (by omega), mc1 _ _ (by omega), show k + ((i * 2 + 1 : Nat) : Int) = k + i * 2 + 1 by omega]
  rw [if_neg h1]
  by_cases h0 : j = i * 2
  · subst h0
    rw [if_pos rfl, if_pos (by omega), mc0 _ _ (by omega), show k + ((i * 2 : Nat) : Int) = k + i * 2 by omega]
  rw [if_neg h0]
  by_cases h : j < i * 2
  · rw [if_pos h, if_pos (by omega)]
  · rw [if_neg h, if_neg (by omega)]

/-- A slice of n elements that may be written: empty, or the head of a row of its own; r names the row. -/
def Ours (w : World) (a : Option Addr) (n : Nat) (f : Nat → Value) (r : Option Nat) : Prop :=
  (n = 0 ∧ r = none) ∨ ∃ g, a = some ⟨g, 0, none⟩ ∧ r = some g ∧ RowAt w g 76 (n * 2) f
theorem Ours.below {w w' : World} {a : Option Addr} {n : Nat} {f : Nat → Value} {r : Option Nat} {B : Nat} (h : Ours w a n f r) (hb : Below B w w') (hB : w.heap.size ≤ B) : Ours w' a n f r := by
  rcases h with h | ⟨g, ha, hr, h⟩
  · exact .inl h
  · exact .inr ⟨g, ha, hr, h.below hb (Nat.lt_of_lt_of_le h.lt hB)⟩
theorem Ours.gb {w w' : World} {a : Option Addr} {n : Nat} {f : Nat → Value} {r q : Option Nat} (h : Ours w a n f r) (hg : w.grownBy w' q) (hne : ∀ g, r = some g → some g ≠ q) : Ours w' a n f r := by
  rcases h with h | ⟨g, ha, hr, h⟩
  · exact .inl h
  · exact .inr ⟨g, ha, hr, h.of_block (hg.block g h.lt (hne g hr))⟩
theorem Ours.lt {w : World} {a : Option Addr} {n : Nat} {f : Nat → Value} {r : Option Nat} (h : Ours w a n f r) : ∀ g, r = some g → g < w.heap.size := by
  intro g e
  rcases h with ⟨_, hr⟩ | ⟨g', _, hr, h⟩
  · rw [hr] at e; simp at e
  · rw [hr] at e; simp at e; rw [← e]; exact h.lt
theorem Ours.congr {w : World} {a : Option Addr} {n : Nat} {f f' : Nat → Value} {r : Option Nat} (h : Ours w a n f r) (e : ∀ i, i < n * 2 → f i = f' i) : Ours w a n f' r := by
  rcases h with h | ⟨g, ha, hr, h⟩
  · exact .inl h
  · exact .inr ⟨g, ha, hr, h.congr e⟩
theorem Ours.row {w : World} {b n : Nat} {f : Nat → Value} (h : w.rowIs b 76 (n * 2) f) : Ours w (some ⟨b, 0, none⟩) n f (some b) :=
  .inr ⟨b, rfl, rfl, RowAt.of_row h⟩
end NodesM
end Go.Proofs.YtkodgbalhnbhcaaGreatDoor
/-
  Contracts of the law files' markNodeS: the marks are written into a row (written by a program of mine).
-/
namespace Go.Proofs.YtkodgbalhnbhcaaGreatDoor
namespace NodesM
open Go.RowKit Base NumText Marks
set_option linter.unusedVariables false

set_option maxRecDepth 10000 in
set_option maxHeartbeats 2000000 in
theorem row_mark (g cap n : Nat) (f : Nat → Value) (k : Int) (w : World) (hr : RowAt w g 76 (n * 2) f) (hk0 : 0 < k) (hk1 : k ≤ 1000000000000) (hn : n ≤ 1000000000) :
    Calls Tryz.prog 22 #[.slice (some ⟨g, 0, none⟩) n cap, .int .i64 k] w fun e w' =>
      e = .returned (.int .i64 (k + n * 2)) ∧ RowAt w' g 76 (n * 2) (mcell k) ∧ w.grownBy w' (some g) := by
  have HR := hide hr
  clear hr
  go_enter Tryz.func22, Tryz.ntmps22
  go_wp2
  go_loopw [1, 5] (fun kv iv wr => ∃ (i : Nat) (z : Int), i ≤ n ∧ 0 < z ∧ z ≤ 1000000000000 + n * 2 ∧ iv = .int .i64 i ∧ kv = .int .i64 z ∧ Hid (z = k + i * 2) ∧ Hid (RowAt wr g 76 (n * 2) (mhalf f k i)) ∧ Hid (w.grownBy wr (some g))) (fun _ iv _ => n - (intOf iv).toNat)
  case atStart => exact ⟨0, k, Nat.zero_le _, hk0, by omega, rfl, rfl, hide (by simp), hide ((unhide HR).congr (fun j _ => by simp [mhalf])), hide (gb_refl _ _)⟩
  case round =>
    obtain ⟨i, z, hi, hz0, hz1, rfl, rfl, hz, hrow, hgb⟩ := hrel
    by_cases hlt : i < n
    · have hzn : z + 2 ≤ 1000000000000 + n * 2 := by have := unhide hz; omega
      have T0 := hide (fun w => text_any (z) w (by omega) (by omega))
      have hst := hide (fun j => mhalf_step f k i j)
      rw [← unhide hz] at hst
      go_wp2_with fail
      refine (unhide T0 _).mono ?_
      rintro e w1 ⟨rfl, hb1⟩
      have r1 := (unhide hrow).below hb1 (unhide hrow).lt
      have G1 := hide (gb_trans (unhide hgb) (gb_below (r := some g) hb1 (Nat.le_refl _)))
      have d0 := r1.cell (i := i * 2) (by omega)
      have f0 := r1.frozen (i * 2)
      have d1 := r1.cell (i := i * 2 + 1) (by omega)
      have f1 := r1.frozen (i * 2 + 1)
      generalize (mhalf f k i (i * 2)) = o0 at d0
      generalize (mhalf f k i (i * 2 + 1)) = o1 at d1
      have R1 := hide r1
      clear r1 hb1
      have RE := hide (((unhide R1).set (i * 2) (.string (mtxt (z).toNat))).set (i * 2 + 1) (.int .i64 (z + 1)))
      have GE := hide (gb_set (gb_set (unhide G1) (i * 2) (.string (mtxt (z).toNat))) (i * 2 + 1) (.int .i64 (z + 1)))
      go_wp2
      go_roundw
      case rel => exact ⟨i + 1, z + 1 + 1, by omega, by omega, by omega, by go_num, rfl, hide (by have := unhide hz; omega), hide ((unhide RE).congr (fun j _ => unhide hst j)), GE⟩
      case measure => simp [intOf]; omega
    · obtain rfl : i = n := by omega
      have HZ := hide (unhide hz)
      go_wp2
      go_ret
      exact ⟨ret_int (unhide HZ), (unhide hrow).congr (fun j hj => by unfold mhalf; rw [if_pos hj]), unhide hgb⟩

set_option maxHeartbeats 400000 in
theorem mark_any (a : Option Addr) (cap n : Nat) (f : Nat → Value) (r : Option Nat) (k : Int) (w : World) (hr : Ours w a n f r) (hk0 : 0 < k) (hk1 : k ≤ 1000000000000) (hn : n ≤ 1000000000) :
    Calls Tryz.prog 22 #[.slice a n cap, .int .i64 k] w fun e w' => e = .returned (.int .i64 (k + n * 2)) ∧ Ours w' a n (mcell k) r ∧ w.grownBy w' r := by
  rcases hr with ⟨h0, hr0⟩ | ⟨g, rfl, rfl, h⟩
  · subst h0 hr0
    go_enter Tryz.func22, Tryz.ntmps22
    go_wp2
    go_loop [1, 5] (fun kv i => i = .int .i64 0 ∧ kv = .int .i64 k) (fun _ _ => 0)
    case atStart => exact ⟨rfl, rfl⟩
    case round =>
      obtain ⟨rfl, rfl⟩ := hrel
      go_wp2
      go_ret
      exact ⟨ret_int (by simp), .inl ⟨rfl, rfl⟩, gb_refl _ _⟩
  · exact (row_mark g cap n f k w h hk0 hk1 hn).mono fun e w' ⟨he, h1, h2⟩ => ⟨he, .inr ⟨g, rfl, rfl, h1⟩, h2⟩
end NodesM
end Go.Proofs.YtkodgbalhnbhcaaGreatDoor
/-
  Contracts of the law files' markPlaceS and markCluster over a cluster that a call has laid itself: what the marks leave, and that nothing else turns.
-/
namespace Go.Proofs.YtkodgbalhnbhcaaGreatDoor
namespace Clus
open Go.RowKit Base Marks Keep
set_option linter.unusedVariables false

/-- How many items the first i places have. -/
def cnt (L : List Pls.Pl) (i : Nat) : Nat := ((L.take i).map (·.its.length)).sum
theorem cnt_succ {L : List Pls.Pl} {i : Nat} (hi : i < L.length) : cnt L (i + 1) = cnt L i + (L.getD i Pls.zeroL).its.length := by
  unfold cnt
  rw [List.take_succ_eq_append_getElem hi, List.map_append, List.sum_append]
  simp [List.getD_eq_getElem?_getD, List.getElem?_eq_getElem hi]
theorem cnt_le {L : List Pls.Pl} : ∀ {i : Nat}, i ≤ L.length → cnt L i ≤ cnt L L.length := by
  intro i hi
  have key : ∀ d, i + d ≤ L.length → cnt L i ≤ cnt L (i + d) := by
    intro d
    induction d with
    | zero => intro _; exact Nat.le_refl _
    | succ d ih =>
      intro h
      have h1 := ih (by omega)
      have h2 := cnt_succ (L := L) (i := i + d) (by omega)
      rw [← Nat.add_assoc]
      omega
  have := key (L.length - i) (by omega)
  rwa [show i + (L.length - i) = L.length by omega] at this
/-- The first mark of place i. -/
def mk (L : List Pls.Pl) (k : Int) (i : Nat) : Int := k + 3 * i + 5 * cnt L i
theorem mk_succ {L : List Pls.Pl} {k : Int} {i : Nat} (hi : i < L.length) : mk L k (i + 1) = mk L k i + 3 + (L.getD i Pls.zeroL).its.length * 5 := by
  unfold mk
  rw [cnt_succ hi]
  omega
def pcell (L : List Pls.Pl) (k : Int) (j : Nat) : Value := if j % 4 = 0 then .string (mtxt (mk L k (j / 4)).toNat) else if j % 4 = 1 then .int .i64 (mk L k (j / 4) + 1) else if j % 4 = 2 then .int .i64 (mk L k (j / 4) + 2) else Pls.lcell L j
def phalf (L : List Pls.Pl) (k : Int) (i j : Nat) : Value := if j < i * 4 then pcell L k j else Pls.lcell L j
theorem phalf_step (L : List Pls.Pl) (k : Int) (i j : Nat) : (if j = i * 4 + 2 then (.int .i64 (mk L k i + 1 + 1) : Value) else if j = i * 4 + 1 then (.int .i64 (mk L k i + 1) : Value) else if j = i * 4 then (.string (mtxt (mk L k i).toNat) : Value) else phalf L k i j) = phalf L k (i + 1) j := by
  unfold phalf
  by_cases h2 : j = i * 4 + 2
  · subst h2
    rw [if_pos rfl, if_pos (by omega), pcell, if_neg (by omega), if_neg (by omega), if_pos (by omega), show (i * 4 + 2) / 4 = i by omega]
    congr 1; omega
  rw [if_neg h2]
  by_cases h1 : j = i * 4 + 1
  · subst h1
    rw [if_pos rfl, if_pos (by omega), pcell, if_neg (by omega), if_pos (by omega), show (i * 4 + 1) / 4 = i by omega]
  rw [if_neg h1]
  by_cases h0 : j = i * 4
  · subst h0
    rw [if_pos rfl, if_pos (by omega), pcell, if_pos (by omega), show i * 4 / 4 = i by omega]
  rw [if_neg h0]
  by_cases h : j < i * 4
  · rw [if_pos h, if_pos (by omega)]
  · rw [if_neg h]
    by_cases h3 : j = i * 4 + 3
    · subst h3
      rw [if_pos (by omega), pcell, if_neg (by omega), if_neg (by omega), if_neg (by omega)]
    · rw [if_neg (by omega)]
def itm (L : List Pls.Pl) (k : Int) (i j : Nat) : Nat → Value := if j < i then mcell (mk L k j + 3) else Items.icell (L.getD j Pls.zeroL).its
/-- Places that bear the marks from k on. -/
structure PM (w : World) (b : Nat) (L : List Pls.Pl) (k : Int) : Prop where
  row : RowAt w b 59 (L.length * 4) (pcell L k)
  its : ∀ j, j < L.length → RowAt w (Pls.blk (L.getD j Pls.zeroL)) 85 ((L.getD j Pls.zeroL).its.length * 5) (mcell (mk L k j + 3))
theorem blk_mem {L : List Pls.Pl} {i : Nat} (hi : i < L.length) (b : Nat) : Pls.blk (L.getD i Pls.zeroL) ∈ b :: L.map Pls.blk := List.mem_cons_of_mem _ (List.mem_map.2 ⟨_, Pls.getD_mem hi, rfl⟩)

set_option maxRecDepth 10000 in
set_option maxHeartbeats 2000000 in
theorem places_mark (b cap : Nat) (L : List Pls.Pl) (k : Int) (w : World) (h : Pls.RAt w b L) (hk0 : 0 < k) (hk1 : k ≤ 1000000000) (hn : L.length ≤ 1048576) (ht : cnt L L.length ≤ 1048576) :
    Calls Tryz.prog 38 #[.slice (some ⟨b, 0, none⟩) L.length cap, .int .i64 k] w fun e w' => e = .returned (.int .i64 (mk L k L.length)) ∧ PM w' b L k ∧ Keeps (b :: L.map Pls.blk) w w' := by
  have HR := hide h
  have hlb := h.lt
  clear h
  go_enter Tryz.func38, Tryz.ntmps38
  go_wp2_with fail
  go_loopw [1, 5] (fun kv iv wr => ∃ (i : Nat) (z : Int), i ≤ L.length ∧ iv = .int .i64 (i : Int) ∧ kv = .int .i64 z ∧ 0 < z ∧ z ≤ 1100000000 ∧ Hid (z = mk L k i) ∧ Hid (RowAt wr b 59 (L.length * 4) (phalf L k i)) ∧ Hid (∀ j, j < L.length → RowAt wr (Pls.blk (L.getD j Pls.zeroL)) 85 ((L.getD j Pls.zeroL).its.length * 5) (itm L k i j)) ∧ Hid (Keeps (b :: L.map Pls.blk) w wr)) (fun _ iv _ => L.length - (intOf iv).toNat)
  case atStart => exact ⟨0, k, Nat.zero_le _, rfl, rfl, hk0, by omega, hide (by simp [mk, cnt]), hide ((RowAt.of_row (unhide HR).row).congr (fun j _ => by simp [phalf])), hide (fun j hj => by unfold itm; rw [if_neg (by omega)]; exact RowAt.of_row ((unhide HR).str j hj).2.1), hide (Keeps.refl _ _)⟩
  case round =>
    obtain ⟨i, z, hi, rfl, rfl, hz0, hz1, hz, hrow, hits, hkp⟩ := hrel
    by_cases hlt : i < L.length
    · have hstr := (unhide HR).str i hlt
      have hfar := (unhide HR).far i hlt
      have hne : ∀ j, j < L.length → Pls.blk (L.getD j Pls.zeroL) ≠ b := fun j hj => by have := (unhide HR).far j hj; omega
      have hdis : ∀ j, j < L.length → j ≠ i → Pls.blk (L.getD j Pls.zeroL) ≠ Pls.blk (L.getD i Pls.zeroL) := fun j hj hji => by
        rcases Nat.lt_or_gt_of_ne hji with h | h
        · exact Nat.ne_of_lt ((unhide HR).up j i h hlt)
        · exact Nat.ne_of_gt ((unhide HR).up i j h hj)
      have HNE := hide hne
      have HDIS := hide hdis
      have HMEM := hide (blk_mem hlt b)
      have HMS := hide (mk_succ (k := k) hlt)
      have hc1 := cnt_succ hlt
      have hc2 := cnt_le (L := L) (i := i + 1) (by omega)
      have HST := hide (fun j => phalf_step L k i j)
      have hzz : Hid (z + 3 + ((L.getD i Pls.zeroL).its.length : Int) * 5 ≤ 1100000000) := hide (by
        have e1 := unhide hz
        unfold mk at e1
        have e2 : (L.getD i Pls.zeroL).its.length ≤ 1048576 := by omega
        omega)
      rw [← unhide hz] at HST HMS
      have e3 : phalf L k i (i * 4 + 3) = .slice (some ⟨Pls.blk (L.getD i Pls.zeroL), 0, none⟩) (L.getD i Pls.zeroL).its.length (L.getD i Pls.zeroL).its.length := by
        rw [phalf, if_neg (by omega), Pls.lcell, if_neg (by omega), if_neg (by omega), if_neg (by omega), show (i * 4 + 3) / 4 = i by omega]
        obtain ⟨ha, _, hc⟩ := hstr
        rw [hc]
        congr 1
      have HIX := hide (unhide HNE i hlt)
      clear hne hdis hfar hc1 hc2 hstr
      generalize hx : L.getD i Pls.zeroL = x at e3 HMEM HMS hzz HIX HDIS
      have HX := hide hx
      clear hx
      have HE3 := hide e3
      clear e3
      generalize hgx : Pls.blk x = gx at HE3 HMEM HIX HDIS
      have HGX := hide hgx
      clear hgx
      have hlr : b < wr.heap.size := (unhide hrow).lt
      go_wp2_with fail
      refine (Marks.text_any z _ (by omega) (by omega)).mono ?_
      rintro e w1 ⟨rfl, hb1⟩
      have row1 := (unhide hrow).below hb1 hlr
      have d0 := row1.cell (i := i * 4) (by omega)
      have d1 := row1.cell (i := i * 4 + 1) (by omega)
      have d2 := row1.cell (i := i * 4 + 2) (by omega)
      have d3 := row1.cell (i := i * 4 + 3) (by omega)
      rw [unhide HE3] at d3
      have f0 := row1.frozen (i * 4)
      have f1 := row1.frozen (i * 4 + 1)
      have f2 := row1.frozen (i * 4 + 2)
      have ROW2 := hide ((((row1.set (i * 4) (.string (mtxt z.toNat))).set (i * 4 + 1) (.int .i64 (z + 1))).set (i * 4 + 2) (.int .i64 (z + 1 + 1))).congr (g := phalf L k (i + 1)) (fun j _ => unhide HST j))
      have ITS1 := hide (fun j hj => (unhide hits j hj).below hb1 (unhide hits j hj).lt)
      have KP1 := hide ((unhide hkp).trans (S' := []) (Keeps.of_below hb1 (fun q hq _ => hq)) (by simp))
      clear hrow hits hkp hb1 row1 HST
      generalize phalf L k i (i * 4) = o0 at d0
      generalize phalf L k i (i * 4 + 1) = o1 at d1
      generalize phalf L k i (i * 4 + 2) = o2 at d2
      go_wp2_with fail
      have KP2 : Hid (Keeps (b :: L.map Pls.blk) w (((w1.setCell ⟨b, i * 4, none⟩ (.string (mtxt z.toNat))).setCell ⟨b, i * 4 + 1, none⟩ (.int .i64 (z + 1))).setCell ⟨b, i * 4 + 2, none⟩ (.int .i64 (z + 1 + 1)))) := (((unhide KP1).setCell (by simp) _).setCell (by simp) _).setCell (by simp) _
      have ITS2 : Hid (∀ j, j < L.length → RowAt (((w1.setCell ⟨b, i * 4, none⟩ (.string (mtxt z.toNat))).setCell ⟨b, i * 4 + 1, none⟩ (.int .i64 (z + 1))).setCell ⟨b, i * 4 + 2, none⟩ (.int .i64 (z + 1 + 1))) (Pls.blk (L.getD j Pls.zeroL)) 85 ((L.getD j Pls.zeroL).its.length * 5) (itm L k i j)) := fun j hj =>
        (((unhide ITS1 j hj).of_block (Below.heap_setCell _ _ _ _ (unhide HNE j hj))).of_block (Below.heap_setCell _ _ _ _ (unhide HNE j hj))).of_block (Below.heap_setCell _ _ _ _ (unhide HNE j hj))
      generalize (((w1.setCell ⟨b, i * 4, none⟩ (.string (mtxt z.toNat))).setCell ⟨b, i * 4 + 1, none⟩ (.int .i64 (z + 1))).setCell ⟨b, i * 4 + 2, none⟩ (.int .i64 (z + 1 + 1))) = v at KP2 ITS2 ROW2 ⊢
      clear ITS1 KP1 d0 d1 d2 d3 f0 f1 f2
      have ITI : Hid (RowAt v gx 85 (x.its.length * 5) (itm L k i i)) := by have h := unhide ITS2 i hlt; rw [unhide HX, unhide HGX] at h; exact h
      refine (items_mark gx x.its.length x.its.length _ (z + 1 + 1 + 1) v (unhide ITI) (by omega) (by omega) (by have := unhide hzz; omega)).mono ?_
      rintro e w2 ⟨rfl, hm2, hg2⟩
      have ROW3 := hide ((unhide ROW2).of_block (hg2.block b (unhide ROW2).lt (by intro e; simp at e; exact unhide HIX e.symm)))
      have ITS3 : Hid (∀ j, j < L.length → RowAt w2 (Pls.blk (L.getD j Pls.zeroL)) 85 ((L.getD j Pls.zeroL).its.length * 5) (itm L k (i + 1) j)) := fun j hj => by
        by_cases ej : j = i
        · subst ej
          unfold itm
          rw [if_pos (by omega), ← unhide hz]
          have e3 : z + 3 = z + 1 + 1 + 1 := by omega
          rw [e3, unhide HX, unhide HGX]
          exact hm2
        · have hb := (unhide ITS2 j hj).of_block (hg2.block _ (unhide ITS2 j hj).lt (by intro e; simp at e; exact unhide HDIS j hj ej e))
          unfold itm at hb ⊢
          by_cases hji : j < i
          · rw [if_pos hji] at hb; rw [if_pos (by omega)]; exact hb
          · rw [if_neg hji] at hb; rw [if_neg (by omega)]; exact hb
      have KP3 := hide ((unhide KP2).grown hg2 (fun q e => by simp at e; rw [← e]; exact .inl (unhide HMEM)))
      have hz3 : Hid (z + 1 + 1 + 1 + (x.its.length : Int) * 5 = mk L k (i + 1)) := hide (by rw [unhide HMS]; omega)
      clear hm2 hg2 ROW2 ITS2 KP2 HNE HDIS HMEM HMS hz ITI HIX HX HGX HE3
      have hm0 : (0 : Int) ≤ (x.its.length : Int) := by omega
      generalize (x.its.length : Int) = m at hzz hz3 hm0 ⊢
      have hb3 := unhide hzz
      go_wp2
      go_roundw
      case rel => exact ⟨i + 1, z + 1 + 1 + 1 + m * 5, by omega, by go_num, rfl, by omega, by omega, hz3, ROW3, ITS3, KP3⟩
      case measure => simp [intOf]; omega
    · obtain rfl : i = L.length := by omega
      have PMF : Hid (PM wr b L k) := ⟨(unhide hrow).congr (fun j hj => by unfold phalf; rw [if_pos hj]), fun j hj => by have := unhide hits j hj; unfold itm at this; rw [if_pos hj] at this; exact this⟩
      clear hrow hits
      go_wp2
      go_ret
      exact ⟨ret_int (unhide hz), unhide PMF, unhide hkp⟩
theorem cnt_all (L : List Pls.Pl) : cnt L L.length = ((L.map Pls.core).map (·.its.length)).sum := by
  unfold cnt
  rw [List.take_length, List.map_map]
  rfl
theorem szGo_cnt : ∀ (L : List Pls.Pl) (left : Int), 0 ≤ left → ¬ Pls.szGo L left < 0 → ((((L.map Pls.core).map (·.its.length)).sum : Nat) : Int) ≤ left
  | [], left, h0, _ => by simpa using h0
  | x :: r, left, h0, h => by
    have hbd := Pls.szPl_bd x left h0
    unfold Pls.szGo at h
    split at h
    · omega
    · rename_i hn
      have h1 := szGo_cnt r _ (by omega) h
      have h2 : Pls.szPl x left ≤ left - x.its.length := by
        unfold Pls.szPl at hn ⊢
        split at hn
        · omega
        · rename_i h3
          rw [if_neg h3]
          unfold Items.szIs at hn ⊢
          split at hn
          · omega
          · rename_i h4
            rw [if_neg h4]
            have := (Items.szGo_bd x.its (left - x.name.size - x.its.length) (by omega)).2
            omega
      simp only [List.map_cons, List.sum_cons]
      have e : (Pls.core x).its.length = x.its.length := rfl
      rw [e]
      omega
theorem szC_cnt {c : Cl} (h : ¬ szC c 1048576 < 0) : cnt c.ps c.ps.length ≤ 1048576 := by
  rw [cnt_all]
  unfold szC at h
  have b0 := Nodes.szL_bd c.ns 1048576 (by omega)
  split at h
  · omega
  · have b1 := Nodes.szL_bd c.cs (Nodes.szL c.ns 1048576) (by omega)
    split at h
    · omega
    · unfold Pls.szLs at h
      split at h
      · omega
      · have := szGo_cnt c.ps _ (by omega) h
        omega
/-- A cluster that bears the marks from 1 on. -/
structure CM (w : World) (b1 b2 b3 : Nat) (ns cs : List Nodes.D) (L : List Pls.Pl) : Prop where
  n : NodesM.Ours w (some ⟨b1, 0, none⟩) ns.length (NodesM.mcell 1) (some b1)
  c : NodesM.Ours w (some ⟨b2, 0, none⟩) cs.length (NodesM.mcell (1 + ns.length * 2)) (some b2)
  p : PM w b3 L (1 + ns.length * 2 + cs.length * 2)

set_option maxRecDepth 10000 in
set_option maxHeartbeats 2000000 in
theorem mark_any (now nx lim lost : Int) (b1 b2 b3 : Nat) (ns cs : List Nodes.D) (L : List Pls.Pl) (w : World) (hR : CR w b1 b2 b3 ns cs L) (ln : ns.length ≤ 1048576) (lc : cs.length ≤ 1048576) (lp : L.length ≤ 1048576) (lt : cnt L L.length ≤ 1048576) :
    Calls Tryz.prog 13 #[.agg #[.int .i64 now, .int .i64 nx, .int .i64 lim, .int .i64 lost, .slice (some ⟨b1, 0, none⟩) ns.length ns.length, .slice (some ⟨b2, 0, none⟩) cs.length cs.length, .slice (some ⟨b3, 0, none⟩) L.length L.length], .int .i64 1] w fun e w' => e = .returned (.int .i64 (mk L (1 + ns.length * 2 + cs.length * 2) L.length)) ∧ CM w' b1 b2 b3 ns cs L ∧ Keeps (b1 :: b2 :: b3 :: L.map Pls.blk) w w' := by
  have HR := hide hR
  have hl1 := hR.n.lt
  have hl2 := hR.c.lt
  have hl3 := hR.p.lt
  have hb12 := hR.b12
  have hb23 := hR.b23
  have HFAR := hide hR.p.far
  clear hR
  go_enter Tryz.func13, Tryz.ntmps13
  go_wp2_with fail
  have R0 := hide ((unhide HR).below (bel1 w (.cells #[.int .i64 now, .int .i64 nx, .int .i64 lim, .int .i64 lost, .slice (some ⟨b1, 0, none⟩) ns.length ns.length, .slice (some ⟨b2, 0, none⟩) cs.length cs.length, .slice (some ⟨b3, 0, none⟩) L.length L.length] 30)) (Nat.le_refl _))
  refine (NodesM.mark_any _ _ ns.length _ _ 1 _ (NodesM.Ours.row (unhide R0).n) (by omega) (by omega) (by omega)).mono ?_
  rintro e w1 ⟨rfl, hm1, hg1⟩
  have K1 := hide ((Keeps.alloc (Keeps.refl (b1 :: b2 :: b3 :: L.map Pls.blk) w) _).grown hg1 (fun q e => by simp at e; simp [e]))
  have M1 := hide hm1
  have C1 := hide ((unhide R0).c.of_block (hg1.block b2 (by simp; omega) (by simp; omega)))
  have P1 : Hid (Pls.RAt w1 b3 L) := ⟨(unhide R0).p.row.of_block (hg1.block b3 (by simp; omega) (by simp; omega)), fun i hi => ((unhide R0).p.str i hi).block (hg1.block _ ((unhide R0).p.str i hi).lt (by have := unhide HFAR i hi; intro e; simp only [Option.some.injEq] at e; omega)), (unhide R0).p.far, (unhide R0).p.up⟩
  have x1 := fun o => World.cell?_of_block (a := ⟨w.heap.size, o, none⟩) (hg1.block w.heap.size (by simp) (by simp; omega))
  have z1 : w.heap.size + 1 ≤ w1.heap.size := by have := hg1.size; simp at this; omega
  clear hm1 hg1 R0
  go_wp2_with fail
  refine (NodesM.mark_any _ _ cs.length _ _ (1 + (ns.length : Int) * 2) _ (NodesM.Ours.row (unhide C1)) (by omega) (by omega) (by omega)).mono ?_
  rintro e w2 ⟨rfl, hm2, hg2⟩
  have K2 := hide ((unhide K1).grown hg2 (fun q e => by simp at e; simp [e]))
  have M12 := hide ((unhide M1).gb hg2 (fun g h => by simp at h; simp; omega))
  have M2 := hide hm2
  have P2 : Hid (Pls.RAt w2 b3 L) := ⟨(unhide P1).row.of_block (hg2.block b3 (unhide P1).lt (by simp; omega)), fun i hi => ((unhide P1).str i hi).block (hg2.block _ ((unhide P1).str i hi).lt (by have := unhide HFAR i hi; intro e; simp only [Option.some.injEq] at e; omega)), (unhide P1).far, (unhide P1).up⟩
  have x2 := fun o => (World.cell?_of_block (a := ⟨w.heap.size, o, none⟩) (hg2.block w.heap.size (by omega) (by simp; omega))).trans (x1 o)
  clear hm2 hg2 x1 M1 C1 P1
  go_wp2_with fail
  refine (places_mark b3 _ L (1 + (ns.length : Int) * 2 + (cs.length : Int) * 2) _ (unhide P2) (by omega) (by omega) lp lt).mono ?_
  rintro e w3 ⟨rfl, hm3, hk3⟩
  have K3 := hide ((unhide K2).trans hk3 (fun q hq => .inl (by
    rcases List.mem_cons.1 hq with rfl | hq
    · simp
    · exact List.mem_cons_of_mem _ (List.mem_cons_of_mem _ (List.mem_cons_of_mem _ hq)))))
  have n1 : b1 ∉ b3 :: L.map Pls.blk := by
    intro hm
    rcases List.mem_cons.1 hm with e | hm
    · omega
    · obtain ⟨y, hy, e⟩ := List.mem_map.1 hm
      obtain ⟨i, hi, rfl⟩ := List.getElem_of_mem hy
      have := unhide HFAR i hi
      rw [List.getD_eq_getElem?_getD, List.getElem?_eq_getElem hi] at this
      simp at this
      omega
  have n2 : b2 ∉ b3 :: L.map Pls.blk := by
    intro hm
    rcases List.mem_cons.1 hm with e | hm
    · omega
    · obtain ⟨y, hy, e⟩ := List.mem_map.1 hm
      obtain ⟨i, hi, rfl⟩ := List.getElem_of_mem hy
      have := unhide HFAR i hi
      rw [List.getD_eq_getElem?_getD, List.getElem?_eq_getElem hi] at this
      simp at this
      omega
  have ours_keep : ∀ {a : Option Addr} {n : Nat} {f : Nat → Value} {g : Nat}, NodesM.Ours w2 a n f (some g) → g ∉ b3 :: L.map Pls.blk → NodesM.Ours w3 a n f (some g) := by
    intro a n f g h hn
    rcases h with ⟨_, h⟩ | ⟨g', ha, hr, h⟩
    · cases h
    · obtain rfl := Option.some.inj hr
      exact .inr ⟨g, ha, rfl, h.of_block (hk3.block _ h.lt hn)⟩
  have CMF : Hid (CM w3 b1 b2 b3 ns cs L) := ⟨ours_keep (unhide M12) n1, ours_keep (unhide M2) n2, hm3⟩
  clear hm3 hk3 n1 n2 ours_keep M12 M2 P2 x2
  go_wp2
  go_ret
  exact ⟨rfl, unhide CMF, unhide K3⟩
end Clus
end Go.Proofs.YtkodgbalhnbhcaaGreatDoor
