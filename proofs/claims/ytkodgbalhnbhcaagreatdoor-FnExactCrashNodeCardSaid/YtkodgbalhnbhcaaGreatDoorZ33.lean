/-
  The program's CrashNode, whole.
-/
import Derived.Test.YtkodgbalhnbhcaaGreatDoorZ32
import Derived.Test.YtkodgbalhnbhcaaGreatDoorZ3
import Derived.Test.YtkodgbalhnbhcaaGreatDoorRows
import Derived.Test.YtkodgbalhnbhcaaGreatDoorZ4
import Derived.Deep.RegionWith
namespace Go.Proofs.YtkodgbalhnbhcaaGreatDoor
namespace Fleet
open Go.RowKit Base Store Items OwnR Keep Clus Marks Plc
set_option linter.unusedVariables false

set_option maxRecDepth 10000 in
set_option maxHeartbeats 2000000 in
theorem crash_impl (now nx lim lost : Int) (b1 b2 b3 : Nat) (ns cs : List Nodes.D) (L : List Pls.Pl) (nm : ByteArray) (w : World) (hR : CR w b1 b2 b3 ns cs L) (ln : ns.length ≤ 1048576) (fn : ∀ x ∈ ns, Nodes.Fits x) (lc : cs.length ≤ 1048576) (fc : ∀ x ∈ cs, Nodes.Fits x) (lp : L.length ≤ 1048576) (fp : ∀ x ∈ L, Pls.Fits x) (hv : Ring.Vars w) :
    Calls Tryz.prog 11 #[.agg #[.int .i64 now, .int .i64 nx, .int .i64 lim, .int .i64 lost, .slice (some ⟨b1, 0, none⟩) ns.length ns.length, .slice (some ⟨b2, 0, none⟩) cs.length cs.length, .slice (some ⟨b3, 0, none⟩) L.length L.length], .string nm] w (End3 (crR ⟨now, nx, lim, lost, ns, cs, L.map Pls.core⟩ nm) w) := by
  have HCH := hide (fun u (hu : Below w.heap.size w u) (hn : u.cell? ⟨w.heap.size + 1, 0, none⟩ = some (.string nm)) => changed_crash now nx lim lost b1 b2 b3 ns cs L nm (w.heap.size + 1) u (hR.below hu (Nat.le_refl _)) ln fn lc fc lp fp (hv.below hu) hn)
  obtain ⟨R, hRR⟩ : ∃ R, R = crR ⟨now, nx, lim, lost, ns, cs, L.map Pls.core⟩ nm := ⟨_, rfl⟩
  rw [← hRR] at HCH ⊢
  have B0 := hide (bel3 w (.cells #[.int .i64 now, .int .i64 nx, .int .i64 lim, .int .i64 lost, .slice (some ⟨b1, 0, none⟩) ns.length ns.length, .slice (some ⟨b2, 0, none⟩) cs.length cs.length, .slice (some ⟨b3, 0, none⟩) L.length L.length] 30) (.cells #[.string nm] 9) zeroB)
  have n0 : (((w.alloc (.cells #[.int .i64 now, .int .i64 nx, .int .i64 lim, .int .i64 lost, .slice (some ⟨b1, 0, none⟩) ns.length ns.length, .slice (some ⟨b2, 0, none⟩) cs.length cs.length, .slice (some ⟨b3, 0, none⟩) L.length L.length] 30)).alloc (.cells #[.string nm] 9)).alloc zeroB).cell? ⟨w.heap.size + 1, 0, none⟩ = some (.string nm) := by
    rw [(bel1 _ zeroB).cell (p := ⟨w.heap.size + 1, 0, none⟩) (by simp)]
    have := (World.cell?_alloc_new (w.alloc (.cells #[.int .i64 now, .int .i64 nx, .int .i64 lim, .int .i64 lost, .slice (some ⟨b1, 0, none⟩) ns.length ns.length, .slice (some ⟨b2, 0, none⟩) cs.length cs.length, .slice (some ⟨b3, 0, none⟩) L.length L.length] 30)) #[.string nm] 9 0)
    rw [World.size_alloc] at this
    rw [this]; rfl
  have CY0 : Hid (CB (((w.alloc (.cells #[.int .i64 now, .int .i64 nx, .int .i64 lim, .int .i64 lost, .slice (some ⟨b1, 0, none⟩) ns.length ns.length, .slice (some ⟨b2, 0, none⟩) cs.length cs.length, .slice (some ⟨b3, 0, none⟩) L.length L.length] 30)).alloc (.cells #[.string nm] 9)).alloc zeroB) (w.heap.size + 2) 0 0 0 0 (.slice none 0 0) (.slice none 0 0) (.slice none 0 0)) := by
    have := CB.new ((w.alloc (.cells #[.int .i64 now, .int .i64 nx, .int .i64 lim, .int .i64 lost, .slice (some ⟨b1, 0, none⟩) ns.length ns.length, .slice (some ⟨b2, 0, none⟩) cs.length cs.length, .slice (some ⟨b3, 0, none⟩) L.length L.length] 30)).alloc (.cells #[.string nm] 9)) 0 0 0 0 (.slice none 0 0) (.slice none 0 0) (.slice none 0 0)
    rw [World.size_alloc, World.size_alloc] at this
    exact this
  have hz0 : w.heap.size + 3 ≤ (((w.alloc (.cells #[.int .i64 now, .int .i64 nx, .int .i64 lim, .int .i64 lost, .slice (some ⟨b1, 0, none⟩) ns.length ns.length, .slice (some ⟨b2, 0, none⟩) cs.length cs.length, .slice (some ⟨b3, 0, none⟩) L.length L.length] 30)).alloc (.cells #[.string nm] 9)).alloc zeroB).heap.size := by simp
  clear hR fn fc fp hv hRR
  go_enter Tryz.func11, Tryz.ntmps11
  go_wp2_with fail
  generalize ((w.alloc (.cells #[.int .i64 now, .int .i64 nx, .int .i64 lim, .int .i64 lost, .slice (some ⟨b1, 0, none⟩) ns.length ns.length, .slice (some ⟨b2, 0, none⟩) cs.length cs.length, .slice (some ⟨b3, 0, none⟩) L.length L.length] 30)).alloc (.cells #[.string nm] 9)).alloc (.cells #[.int .i64 0, .int .i64 0, .int .i64 0, .int .i64 0, .slice none 0 0, .slice none 0 0, .slice none 0 0] 30) = W at B0 n0 CY0 hz0 ⊢
  refine (unhide HCH _ (unhide B0) n0).mono ?_
  rintro e w1 ⟨c, rfl, hpl, hco, hap, hb1⟩
  have B1 := hide ((unhide B0).trans (hb1.mono (unhide B0).size))
  have CY1 := hide ((unhide CY0).below hb1 (by omega))
  have HPL := hide hpl
  have HCO := hide hco
  have HAP := hide hap
  clear hpl hco hap hb1 n0 HCH
  obtain ⟨y0, y1, y2, y3, y4, y5, y6, yf, yl⟩ := (unhide CY1).cells
  unfold clV
  go_wp2
  refine bodyPost_ret (v := .tuple #[clV c, .int .i64 R.2.1, .bool R.2.2]) (by simp [results, Tryz.results11, go_sem, clV, y0, y1, y2, y3, y4, y5, y6]) rfl ⟨c, rfl, unhide HPL, CO.le (B := W.heap.size) ?_ (by omega), unhide HAP, ?_⟩
  · repeat (refine CO.set ?_ (by first | (simp; done) | (simp; omega)) _)
    exact unhide HCO
  · repeat (refine Below.setCell ?_ (by first | (simp; done) | (simp; omega)) _)
    exact unhide B1
end Fleet
end Go.Proofs.YtkodgbalhnbhcaaGreatDoor
/-
  Rows of nodes that may be written, and the marks. No Go function is spoken of here.
-/
namespace Go.Proofs.YtkodgbalhnbhcaaGreatDoor
namespace NodesM
open Go.RowKit Base NumText Marks
set_option linter.unusedVariables false

/-- Cell j of a row that bears the marks from k on. -/
def mcell (k : Int) (j : Nat) : Value := if j % 2 = 0 then .string (mtxt (k + j).toNat) else .int .i64 (k + j)
theorem mc0 (k : Int) (j : Nat) (h : j % 2 = 0) : mcell k j = .string (mtxt (k + j).toNat) := by unfold mcell; rw [if_pos h]
theorem mc1 (k : Int) (j : Nat) (h : j % 2 = 1) : mcell k j = .int .i64 (k + j) := by unfold mcell; rw [if_neg (by omega)]
def mhalf (f : Nat → Value) (k : Int) (i j : Nat) : Value := if j < i * 2 then mcell k j else f j
theorem mhalf_step (f : Nat → Value) (k : Int) (i j : Nat) : (if j = i * 2 + 1 then (.int .i64 (k + i * 2 + 1) : Value) else if j = i * 2 then (.string (mtxt (k + i * 2).toNat) : Value) else mhalf f k i j) = mhalf f k (i + 1) j := by
  unfold mhalf
  by_cases h1 : j = i * 2 + 1
  · subst h1
    rw [if_pos rfl, if_pos (by omega), mc1 _ _ (by omega), show k + ((i * 2 + 1 : Nat) : Int) = k + i * 2 + 1 by omega]
  rw [if_neg h1]
  by_cases h0 : j = i * 2
  · subst h0
    rw [if_pos rfl, if_pos (by omega), mc0 _ _ (by omega), show k + ((i * 2 : Nat) : Int) = k + i * 2 by omega]
  rw [if_neg h0]
  by_cases h : j < i * 2
  · rw [if_pos h, if_pos (by omega)]
  · rw [if_neg h, if_neg (by omega)]

/-- A slice of n elements that may be written: empty, or the head of a row of its own; r names the row. -/
def Ours (w : World) (a : Option Addr) (n : Nat) (f : Nat → Value) (r : Option Nat) : Prop :=
  (n = 0 ∧ r = none) ∨ ∃ g, a = some ⟨g, 0, none⟩ ∧ r = some g ∧ RowAt w g 76 (n * 2) f
theorem Ours.below {w w' : World} {a : Option Addr} {n : Nat} {f : Nat → Value} {r : Option Nat} {B : Nat} (h : Ours w a n f r) (hb : Below B w w') (hB : w.heap.size ≤ B) : Ours w' a n f r := by
  rcases h with h | ⟨g, ha, hr, h⟩
  · exact .inl h
  · exact .inr ⟨g, ha, hr, h.below hb (Nat.lt_of_lt_of_le h.lt hB)⟩
theorem Ours.gb {w w' : World} {a : Option Addr} {n : Nat} {f : Nat → Value} {r q : Option Nat} (h : Ours w a n f r) (hg : w.grownBy w' q) (hne : ∀ g, r = some g → some g ≠ q) : Ours w' a n f r := by
  rcases h with h | ⟨g, ha, hr, h⟩
  · exact .inl h
  · exact .inr ⟨g, ha, hr, h.of_block (hg.block g h.lt (hne g hr))⟩
theorem Ours.lt {w : World} {a : Option Addr} {n : Nat} {f : Nat → Value} {r : Option Nat} (h : Ours w a n f r) : ∀ g, r = some g → g < w.heap.size := by
  intro g e
  rcases h with ⟨_, hr⟩ | ⟨g', _, hr, h⟩
  · rw [hr] at e; simp at e
  · rw [hr] at e; simp at e; rw [← e]; exact h.lt
theorem Ours.congr {w : World} {a : Option Addr} {n : Nat} {f f' : Nat → Value} {r : Option Nat} (h : Ours w a n f r) (e : ∀ i, i < n * 2 → f i = f' i) : Ours w a n f' r := by
  rcases h with h | ⟨g, ha, hr, h⟩
  · exact .inl h
  · exact .inr ⟨g, ha, hr, h.congr e⟩
theorem Ours.row {w : World} {b n : Nat} {f : Nat → Value} (h : w.rowIs b 76 (n * 2) f) : Ours w (some ⟨b, 0, none⟩) n f (some b) :=
  .inr ⟨b, rfl, rfl, RowAt.of_row h⟩
end NodesM
end Go.Proofs.YtkodgbalhnbhcaaGreatDoor
/-
  Contracts of the law files' markNodeS: the marks are written into a row (written by a program of mine).
-/
namespace Go.Proofs.YtkodgbalhnbhcaaGreatDoor
namespace NodesM
open Go.RowKit Base NumText Marks
set_option linter.unusedVariables false

set_option maxRecDepth 10000 in
set_option maxHeartbeats 2000000 in
theorem row_mark (g cap n : Nat) (f : Nat → Value) (k : Int) (w : World) (hr : RowAt w g 76 (n * 2) f) (hk0 : 0 < k) (hk1 : k ≤ 1000000000000) (hn : n ≤ 1000000000) :
    Calls Tryz.prog 22 #[.slice (some ⟨g, 0, none⟩) n cap, .int .i64 k] w fun e w' =>
      e = .returned (.int .i64 (k + n * 2)) ∧ RowAt w' g 76 (n * 2) (mcell k) ∧ w.grownBy w' (some g) := by
  have HR := hide hr
  clear hr
  go_enter Tryz.func22, Tryz.ntmps22
  go_wp2
  go_loopw [1, 5] (fun kv iv wr => ∃ (i : Nat) (z : Int), i ≤ n ∧ 0 < z ∧ z ≤ 1000000000000 + n * 2 ∧ iv = .int .i64 i ∧ kv = .int .i64 z ∧ Hid (z = k + i * 2) ∧ Hid (RowAt wr g 76 (n * 2) (mhalf f k i)) ∧ Hid (w.grownBy wr (some g))) (fun _ iv _ => n - (intOf iv).toNat)
  case atStart => exact ⟨0, k, Nat.zero_le _, hk0, by omega, rfl, rfl, hide (by simp), hide ((unhide HR).congr (fun j _ => by simp [mhalf])), hide (gb_refl _ _)⟩
  case round =>
    obtain ⟨i, z, hi, hz0, hz1, rfl, rfl, hz, hrow, hgb⟩ := hrel
    by_cases hlt : i < n
    · have hzn : z + 2 ≤ 1000000000000 + n * 2 := by have := unhide hz; omega
      have T0 := hide (fun w => text_any (z) w (by omega) (by omega))
      have hst := hide (fun j => mhalf_step f k i j)
      rw [← unhide hz] at hst
      go_wp2_with fail
      refine (unhide T0 _).mono ?_
      rintro e w1 ⟨rfl, hb1⟩
      have r1 := (unhide hrow).below hb1 (unhide hrow).lt
      have G1 := hide (gb_trans (unhide hgb) (gb_below (r := some g) hb1 (Nat.le_refl _)))
      have d0 := r1.cell (i := i * 2) (by omega)
      have f0 := r1.frozen (i * 2)
      have d1 := r1.cell (i := i * 2 + 1) (by omega)
      have f1 := r1.frozen (i * 2 + 1)
      generalize (mhalf f k i (i * 2)) = o0 at d0
      generalize (mhalf f k i (i * 2 + 1)) = o1 at d1
      have R1 := hide r1
      clear r1 hb1
      have RE := hide (((unhide R1).set (i * 2) (.string (mtxt (z).toNat))).set (i * 2 + 1) (.int .i64 (z + 1)))
      have GE := hide (gb_set (gb_set (unhide G1) (i * 2) (.string (mtxt (z).toNat))) (i * 2 + 1) (.int .i64 (z + 1)))
      go_wp2
      go_roundw
      case rel => exact ⟨i + 1, z + 1 + 1, by omega, by omega, by omega, by go_num, rfl, hide (by have := unhide hz; omega), hide ((unhide RE).congr (fun j _ => unhide hst j)), GE⟩
      case measure => simp [intOf]; omega
    · obtain rfl : i = n := by omega
      have HZ := hide (unhide hz)
      go_wp2
      go_ret
      exact ⟨ret_int (unhide HZ), (unhide hrow).congr (fun j hj => by unfold mhalf; rw [if_pos hj]), unhide hgb⟩

set_option maxHeartbeats 400000 in
theorem mark_any (a : Option Addr) (cap n : Nat) (f : Nat → Value) (r : Option Nat) (k : Int) (w : World) (hr : Ours w a n f r) (hk0 : 0 < k) (hk1 : k ≤ 1000000000000) (hn : n ≤ 1000000000) :
    Calls Tryz.prog 22 #[.slice a n cap, .int .i64 k] w fun e w' => e = .returned (.int .i64 (k + n * 2)) ∧ Ours w' a n (mcell k) r ∧ w.grownBy w' r := by
  rcases hr with ⟨h0, hr0⟩ | ⟨g, rfl, rfl, h⟩
  · subst h0 hr0
    go_enter Tryz.func22, Tryz.ntmps22
    go_wp2
    go_loop [1, 5] (fun kv i => i = .int .i64 0 ∧ kv = .int .i64 k) (fun _ _ => 0)
    case atStart => exact ⟨rfl, rfl⟩
    case round =>
      obtain ⟨rfl, rfl⟩ := hrel
      go_wp2
      go_ret
      exact ⟨ret_int (by simp), .inl ⟨rfl, rfl⟩, gb_refl _ _⟩
  · exact (row_mark g cap n f k w h hk0 hk1 hn).mono fun e w' ⟨he, h1, h2⟩ => ⟨he, .inr ⟨g, rfl, rfl, h1⟩, h2⟩
end NodesM
end Go.Proofs.YtkodgbalhnbhcaaGreatDoor
