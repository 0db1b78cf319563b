/-
  The model's cursor l1Cur, by which arguments are drawn from bytes: next, pick, one. Only bounds of what is drawn are told.
-/
import Derived.Test.YtghckjmpcokhcaaGreatDoorBase
import Derived.Test.YtghckjmpcokhcaaGreatDoorRows
import Derived.Test.YtghckjmpcokhcaaGreatDoorMarkZ
import Derived.BigQuiet
import Derived.Laws.Bits64b
import Derived.Deep.RegionWith
import Derived.Deep.DeepCutAuto
import Derived.Test.YtghckjmpcokhcaaGreatDoorStrY
import Derived.Test.YtghckjmpcokhcaaGreatDoorNumText
import Derived.Laws.AppendOwn
import Derived.WalkSpells
import Derived.Lib.SliceRun
namespace Go.Proofs.YtghckjmpcokhcaaGreatDoor
namespace Cur
open Go.RowKit Base Marks
set_option linter.unusedVariables false

/-- A slice of bytes. -/
def BAt (w : World) (a : Option Addr) (n : Nat) (z : Nat → Int) : Prop := 0 < n → ∃ b off, a = some ⟨b, off, none⟩ ∧ b < w.heap.size ∧ ∀ i, i < n → w.cell? ⟨b, off + i, none⟩ = some (.int .u8 (z i)) ∧ 0 ≤ z i ∧ z i ≤ 255
/-- A cursor at block c, over a base world w0: at most k steps were taken. -/
structure Cu (w0 w : World) (c : Nat) (a : Option Addr) (n cap k : Nat) : Prop where
  cells : ∃ (q : Nat) (sd : Int), w.cell? ⟨c, 0, none⟩ = some (.slice a n cap) ∧ w.cell? ⟨c, 1, none⟩ = some (.int .i64 (q : Int)) ∧ w.cell? ⟨c, 2, none⟩ = some (.int .u64 sd) ∧ q ≤ k
  fz : ∀ o, w.frozen? ⟨c, o, none⟩ = false
  lt : c < w.heap.size
  lo : w0.heap.size ≤ c
  bel : Below w0.heap.size w0 w
theorem gb_refl (w : World) (r : Option Nat) : w.grownBy w r := gb_below (Below.refl w.heap.size w) (Nat.le_refl _)
theorem gb_drew {w w' : World} {r : Option Nat} (h : w.grownBy w' r) : w.grownBy w'.drew r := gb_trans h (gb_below (Below.refl w'.heap.size w').drew (Nat.le_refl _))

theorem low8 (S : Int) (h0 : 0 ≤ S) (h1 : S < 18446744073709551616) : ∃ r : Nat, wrap64 (bits BinOp.and IntKind.u64 (S / 1099511627776) 255) = (r : Int) ∧ r ≤ 255 := by
  obtain ⟨m, hm⟩ := Int.eq_ofNat_of_zero_le (show 0 ≤ S / 1099511627776 by omega)
  have hb : bits BinOp.and IntKind.u64 ((m : Int)) ((255 : Nat) : Int) = ((m &&& 255 : Nat) : Int) := bits_and_u64_nat m 255 (by omega) (by omega)
  have hl : m &&& 255 ≤ 255 := Nat.and_le_right
  refine ⟨m &&& 255, ?_, hl⟩
  rw [hm]
  have e : bits BinOp.and IntKind.u64 (m : Int) 255 = ((m &&& 255 : Nat) : Int) := hb
  rw [e]
  unfold wrap64
  omega
theorem gb_draws {w w' : World} {r : Option Nat} (h : w.grownBy w' r) (j : Nat) : w.grownBy (w'.drewN j) r := gb_trans h (gb_below (bel_draws (Below.refl w'.heap.size w') j) (Nat.le_refl _))
theorem Cu.draws {w0 w : World} {c : Nat} {a : Option Addr} {n cap k : Nat} (h : Cu w0 w c a n cap k) (j : Nat) : Cu w0 (w.drewN j) c a n cap k :=
  ⟨h.cells, h.fz, h.lt, h.lo, bel_draws h.bel j⟩
theorem Cu.step2 {w0 w : World} {c : Nat} {a : Option Addr} {n cap k q : Nat} {sd : Int} (j : Nat) (S : Int) (c0 : w.cell? ⟨c, 0, none⟩ = some (.slice a n cap)) (c1 : w.cell? ⟨c, 1, none⟩ = some (.int .i64 (q : Int))) (c2 : w.cell? ⟨c, 2, none⟩ = some (.int .u64 sd)) (hq : q ≤ k) (fz : ∀ o, w.frozen? ⟨c, o, none⟩ = false) (hlt : c < w.heap.size) (hlo : w0.heap.size ≤ c) (hbel : Below w0.heap.size w0 w) (W : World)
    (hW : ((w.drewN j).setCell ⟨c, 1, none⟩ (.int .i64 ((q : Int) + 1))).setCell ⟨c, 2, none⟩ (.int .u64 S) = W) :
    W.cell? ⟨c, 0, none⟩ = some (.slice a n cap) ∧ W.cell? ⟨c, 1, none⟩ = some (.int .i64 ((q : Int) + 1)) ∧ W.cell? ⟨c, 2, none⟩ = some (.int .u64 S) ∧ Cu w0 W c a n cap (k + 1) ∧ w.grownBy W (some c) := by
  subst hW
  have e0 : (((w.drewN j).setCell ⟨c, 1, none⟩ (.int .i64 ((q : Int) + 1))).setCell ⟨c, 2, none⟩ (.int .u64 S)).cell? ⟨c, 0, none⟩ = some (.slice a n cap) := by go_simp
  have e1 : (((w.drewN j).setCell ⟨c, 1, none⟩ (.int .i64 ((q : Int) + 1))).setCell ⟨c, 2, none⟩ (.int .u64 S)).cell? ⟨c, 1, none⟩ = some (.int .i64 ((q : Int) + 1)) := by go_simp
  have e2 : (((w.drewN j).setCell ⟨c, 1, none⟩ (.int .i64 ((q : Int) + 1))).setCell ⟨c, 2, none⟩ (.int .u64 S)).cell? ⟨c, 2, none⟩ = some (.int .u64 S) := by go_simp
  refine ⟨e0, e1, e2, ⟨⟨q + 1, S, e0, e1, e2, by omega⟩, fun o => ?_, by simpa [World.setCell] using hlt, hlo, ?_⟩, ?_⟩
  · have := fz o
    go_simp
  · exact ((bel_draws hbel j).setCell (p := ⟨c, 1, none⟩) hlo _).setCell (p := ⟨c, 2, none⟩) hlo _
  · exact gb_set (gb_set (gb_draws (gb_refl w (some c)) j) 1 _) 2 _

set_option maxRecDepth 10000 in
set_option maxHeartbeats 2000000 in
theorem next_any (w0 w : World) (c : Nat) (a : Option Addr) (n cap k : Nat) (z : Nat → Int) (hz : BAt w0 a n z) (hn : n ≤ 1048576) (hk : k ≤ 1000000000) (h : Cu w0 w c a n cap k) :
    Calls Tryz.prog 72 #[.pointer (some ⟨c, 0, none⟩)] w fun e w' => ∃ r : Nat, e = .returned (.int .i64 (r : Int)) ∧ r ≤ 255 ∧ Cu w0 w' c a n cap (k + 1) ∧ w.grownBy w' (some c) := by
  obtain ⟨⟨q, sd, c0, c1, c2, hq⟩, fz, hlt, hlo, hbel⟩ := h
  have HB := hide hbel
  have hw1 : IntKind.i64.wrap ((q : Int) + 1) = ((q + 1 : Nat) : Int) := by rw [IntKind.wrap_i64]; omega
  by_cases hqn : q < n
  · obtain ⟨b, off, rfl, hb, hcc⟩ := hz (by omega)
    obtain ⟨d0, hd0, hd1⟩ := hcc q hqn
    have d1 := (hbel.cell (p := ⟨b, off + q, none⟩) hb).trans d0
    obtain ⟨x, hx⟩ := Int.eq_ofNat_of_zero_le hd0
    rw [hx] at d1 hd1
    have hbc : b ≠ c := by omega
    have hbw : b < w.heap.size := Nat.lt_of_lt_of_le hb hbel.size
    clear hcc hz d0 hbel hd0 hx
    go_enter Tryz.func72, Tryz.ntmps72
    go_wp2_with fail
    go_quiet (fail)
    go_wp2_with fail
    go_quiet (fail)
    go_upto_region 6 with fail
    generalize IntKind.u64.wrap (_ + 1442695040888963407) = S
    have hst := fun j W hW => Cu.step2 (k := k) j S c0 c1 c2 hq fz hlt hlo (unhide HB) W hW
    generalize hW : ((w.drewN _).setCell ⟨c, 1, none⟩ (.int .i64 ((q : Int) + 1))).setCell ⟨c, 2, none⟩ (.int .u64 S) = W1
    obtain ⟨e0, e1, e2, hcu, hgb⟩ := hst _ _ hW
    have HCU := hide hcu
    have HGB := hide hgb
    clear hst hW hcu hgb c0 c1 c2 d1 fz
    have hq1 : (q : Int) + 1 ≤ (n : Int) := by omega
    go_quiet (fail)
    go_wp2
    go_ret
    exact ⟨x, rfl, by omega, (unhide HCU).draws _, gb_draws (unhide HGB) _⟩
  · have hqn' : ¬ (q : Int) < (n : Int) := by omega
    clear hz hbel
    go_enter Tryz.func72, Tryz.ntmps72
    go_wp2_with fail
    go_quiet (fail)
    go_upto_region 6 with fail
    generalize hS : IntKind.u64.wrap (_ + 1442695040888963407) = S
    have hSb : 0 ≤ S ∧ S < 18446744073709551616 := by rw [← hS, IntKind.wrap_u64]; omega
    obtain ⟨r, hr, hr2⟩ := low8 S hSb.1 hSb.2
    clear hS
    have hst := fun j W hW => Cu.step2 (k := k) j S c0 c1 c2 hq fz hlt hlo (unhide HB) W hW
    generalize hW : ((w.drewN _).setCell ⟨c, 1, none⟩ (.int .i64 ((q : Int) + 1))).setCell ⟨c, 2, none⟩ (.int .u64 S) = W1
    obtain ⟨e0, e1, e2, hcu, hgb⟩ := hst _ _ hW
    have HCU := hide hcu
    have HGB := hide hgb
    clear hst hW hcu hgb c0 c1 c2 fz
    have hq1 : ¬ (q : Int) + 1 ≤ (n : Int) := by omega
    go_quiet (fail)
    go_wp2
    go_ret
    exact ⟨r, rfl, hr2, (unhide HCU).draws _, gb_draws (unhide HGB) _⟩

section
variable {w0 w w' : World} {c : Nat} {a : Option Addr} {n cap k : Nat}
theorem Cu.le (h : Cu w0 w c a n cap k) {k' : Nat} (hk : k ≤ k') : Cu w0 w c a n cap k' := by
  obtain ⟨⟨q, sd, c0, c1, c2, hq⟩, fz, hlt, hlo, hbel⟩ := h
  exact ⟨⟨q, sd, c0, c1, c2, by omega⟩, fz, hlt, hlo, hbel⟩
theorem Cu.alloc (h : Cu w0 w c a n cap k) (o : Obj) : Cu w0 (w.alloc o) c a n cap k := by
  obtain ⟨⟨q, sd, c0, c1, c2, hq⟩, fz, hlt, hlo, hbel⟩ := h
  have e := fun o' => (bel1 w o).cell (p := ⟨c, o', none⟩) hlt
  have f := fun o' => (bel1 w o).frozen (p := ⟨c, o', none⟩) hlt
  exact ⟨⟨q, sd, (e _).trans c0, (e _).trans c1, (e _).trans c2, hq⟩, fun o' => (f o').trans (fz o'), by simp; omega, hlo, hbel.alloc (Nat.le_trans hlo (Nat.le_of_lt hlt)) o⟩
theorem gb_cell {b : Nat} (h : w.grownBy w' (some c)) (hb : b < w.heap.size) (hne : b ≠ c) (o : Nat) : w'.cell? ⟨b, o, none⟩ = w.cell? ⟨b, o, none⟩ :=
  World.cell?_of_block (w := w) (a := ⟨b, o, none⟩) (h.block b hb (fun e => hne (by simpa using e)))
end

set_option maxHeartbeats 400000 in
theorem pick_any (w0 w : World) (c : Nat) (a : Option Addr) (n cap k m : Nat) (z : Nat → Int) (hz : BAt w0 a n z) (hn : n ≤ 1048576) (hk : k ≤ 1000000000) (h : Cu w0 w c a n cap k) (hm : 1 ≤ m ∧ m ≤ 200) :
    Calls Tryz.prog 44 #[.pointer (some ⟨c, 0, none⟩), .int .i64 (m : Int)] w fun e w' => ∃ r : Nat, e = .returned (.int .i64 (r : Int)) ∧ r < m ∧ Cu w0 w' c a n cap (k + 1) ∧ w.grownBy w' (some c) := by
  have HN := hide (next_any w0 w c a n cap k z hz hn hk h)
  have H0 := hide (h.le (Nat.le_succ k))
  clear hz h
  by_cases h1 : m = 1
  · subst h1
    go_enter Tryz.func44, Tryz.ntmps44
    go_wp2
    go_ret
    exact ⟨0, rfl, by omega, unhide H0, gb_refl _ _⟩
  have hm1 : ¬ (m : Int) ≤ 1 := by omega
  have hm2 : ¬ 200 < (m : Int) := by omega
  have hm0 : ¬ (m : Int) = 0 := by omega
  go_enter Tryz.func44, Tryz.ntmps44
  go_wp2_with fail
  refine (unhide HN).mono ?_
  rintro e w1 ⟨x, rfl, hx, hcu, hgb⟩
  have HCU := hide hcu
  have HGB := hide hgb
  clear hcu hgb
  go_wp2
  go_ret
  refine ⟨x % m, ?_, Nat.mod_lt _ (by omega), unhide HCU, unhide HGB⟩
  rw [Int.natCast_emod]
  rfl

set_option maxHeartbeats 400000 in
theorem one_any (w0 w : World) (c : Nat) (a : Option Addr) (n cap k m : Nat) (z : Nat → Int) (hz : BAt w0 a n z) (hn : n ≤ 1048576) (hk : k ≤ 1000000000) (h : Cu w0 w c a n cap k) (hm : 1 ≤ m ∧ m ≤ 200) :
    Calls Tryz.prog 43 #[.pointer (some ⟨c, 0, none⟩), .int .i64 (m : Int)] w fun e w' => ∃ b : Bool, e = .returned (.bool b) ∧ Cu w0 w' c a n cap (k + 1) ∧ w.grownBy w' (some c) := by
  have HN := hide (pick_any w0 w c a n cap k m z hz hn hk h hm)
  clear hz h
  go_enter Tryz.func43, Tryz.ntmps43
  go_wp2_with fail
  refine (unhide HN).mono ?_
  rintro e w1 ⟨x, rfl, hx, hcu, hgb⟩
  have HCU := hide hcu
  have HGB := hide hgb
  clear hcu hgb
  go_wp2
  go_ret
  exact ⟨_, rfl, unhide HCU, unhide HGB⟩

end Cur
end Go.Proofs.YtghckjmpcokhcaaGreatDoor
/-
  The model's cursor l1Cur: of. Only bounds of what is drawn are told.
-/
namespace Go.Proofs.YtghckjmpcokhcaaGreatDoor
namespace Cur
open Go.RowKit Base Marks
set_option linter.unusedVariables false

set_option maxHeartbeats 400000 in
theorem of_any (w0 w : World) (c : Nat) (a : Option Addr) (n cap k lb lc : Nat) (l : List ByteArray) (z : Nat → Int) (hz : BAt w0 a n z) (hn : n ≤ 1048576) (hk : k ≤ 1000000000) (h : Cu w0 w c a n cap k) (hl : 1 ≤ l.length ∧ l.length ≤ 200) (hlb : lb < w.heap.size) (hne : lb ≠ c)
    (hc : ∀ i, i < l.length → w.cell? ⟨lb, i, none⟩ = some (.string (l.getD i ByteArray.empty))) :
    Calls Tryz.prog 45 #[.pointer (some ⟨c, 0, none⟩), .slice (some ⟨lb, 0, none⟩) l.length lc] w fun e w' => ∃ i : Nat, e = .returned (.string (l.getD i ByteArray.empty)) ∧ i < l.length ∧ Cu w0 w' c a n cap (k + 1) ∧ w.grownBy w' (some c) := by
  have HN := hide (pick_any w0 w c a n cap k l.length z hz hn hk h hl)
  have HC := hide hc
  clear hz h hc
  generalize hll : l.length = m at *
  go_enter Tryz.func45, Tryz.ntmps45
  go_wp2_with fail
  refine (unhide HN).mono ?_
  rintro e w1 ⟨x, rfl, hx, hcu, hgb⟩
  have hcx := (gb_cell hgb hlb hne x).trans (unhide HC x hx)
  have hlb1 : lb < w1.heap.size := Nat.lt_of_lt_of_le hlb hgb.size
  have HCU := hide hcu
  have HGB := hide hgb
  clear hcu hgb
  have hx0 : (x : Int) < (m : Int) := by omega
  generalize hs : l.getD x ByteArray.empty = s at hcx
  have HSS := hide hs
  clear hs
  go_wp2
  go_ret
  exact ⟨x, by rw [unhide HSS]; rfl, hx, unhide HCU, unhide HGB⟩

end Cur
end Go.Proofs.YtghckjmpcokhcaaGreatDoor
/-
  The model's cursor l1Cur: key. Only its length is told.
-/
namespace Go.Proofs.YtghckjmpcokhcaaGreatDoor
namespace Cur
open Go.RowKit Base Marks
set_option linter.unusedVariables false

def five : List ByteArray := [⟨#[]⟩, ⟨#[97, 32, 98]⟩, ⟨#[195, 169]⟩, ⟨#[49, 50, 51, 52, 53, 54, 55, 56, 57, 48, 49, 50, 51, 52, 53, 54, 55, 56, 57, 48, 49, 50, 51, 52, 53, 54, 55, 56, 57, 48, 49]⟩, ⟨#[49, 50, 51, 52, 53, 54, 55, 56, 57, 48, 49, 50, 51, 52, 53, 54, 55, 56, 57, 48, 49, 50, 51, 52, 53, 54, 55, 56, 57, 48]⟩]
def six : List ByteArray := [⟨#[97]⟩, ⟨#[98]⟩, ⟨#[107, 101, 121, 49]⟩, ⟨#[107, 101, 121, 50]⟩, ⟨#[120, 58, 57]⟩, ⟨#[108, 111, 110, 103, 101, 114, 45, 107, 101, 121, 45, 110, 97, 109, 101]⟩]
theorem five_size (i : Nat) (h : i < 5) : (five.getD i ByteArray.empty).size ≤ 31 := by
  obtain rfl | rfl | rfl | rfl | rfl : i = 0 ∨ i = 1 ∨ i = 2 ∨ i = 3 ∨ i = 4 := by omega
  all_goals decide
theorem six_size (i : Nat) (h : i < 6) : (six.getD i ByteArray.empty).size ≤ 31 := by
  obtain rfl | rfl | rfl | rfl | rfl | rfl : i = 0 ∨ i = 1 ∨ i = 2 ∨ i = 3 ∨ i = 4 ∨ i = 5 := by omega
  all_goals decide
theorem cells5 (w : World) (t : TypeId) (i : Nat) (h : i < 5) : (w.alloc (.cells (five.map (fun s => Value.string s)).toArray t)).cell? ⟨w.heap.size, i, none⟩ = some (.string (five.getD i ByteArray.empty)) := by
  rw [World.cell?_alloc_new]
  obtain rfl | rfl | rfl | rfl | rfl : i = 0 ∨ i = 1 ∨ i = 2 ∨ i = 3 ∨ i = 4 := by omega
  all_goals rfl
theorem cells6 (w : World) (t : TypeId) (i : Nat) (h : i < 6) : (w.alloc (.cells (six.map (fun s => Value.string s)).toArray t)).cell? ⟨w.heap.size, i, none⟩ = some (.string (six.getD i ByteArray.empty)) := by
  rw [World.cell?_alloc_new]
  obtain rfl | rfl | rfl | rfl | rfl | rfl : i = 0 ∨ i = 1 ∨ i = 2 ∨ i = 3 ∨ i = 4 ∨ i = 5 := by omega
  all_goals rfl

set_option maxRecDepth 10000 in
set_option maxHeartbeats 1000000 in
theorem key_any (w0 w : World) (c : Nat) (a : Option Addr) (n cap k : Nat) (z : Nat → Int) (hz : BAt w0 a n z) (hn : n ≤ 1048576) (hk : k ≤ 1000000) (h : Cu w0 w c a n cap k) :
    Calls Tryz.prog 47 #[.pointer (some ⟨c, 0, none⟩)] w fun e w' => ∃ s : ByteArray, e = .returned (.string s) ∧ s.size ≤ 31 ∧ Cu w0 w' c a n cap (k + 2) ∧ w.grownBy w' (some c) := by
  have HO := hide (one_any w0 w c a n cap k 40 z hz hn (by omega) h (by omega))
  have H5 := hide (fun w' lb h h1 h2 hc => of_any w0 w' c a n cap (k + 1) lb 5 five z hz hn (by omega) h (by decide) h1 h2 hc)
  have H6 := hide (fun w' lb h h1 h2 hc => of_any w0 w' c a n cap (k + 1) lb 6 six z hz hn (by omega) h (by decide) h1 h2 hc)
  clear hz h
  go_enter Tryz.func47, Tryz.ntmps47
  go_wp2_with fail
  refine (unhide HO).mono ?_
  rintro e w1 ⟨b, rfl, hcu, hg⟩
  have C1 := hide hcu
  have G1 := hide hg
  have hlt := hcu.lt
  clear hcu hg
  cases b
  · go_wp2_with fail
    refine (unhide H6 _ w1.heap.size ((unhide C1).alloc _) (by simp) (by omega) (fun i hi => cells6 w1 _ i hi)).mono ?_
    rintro e w2 ⟨i, rfl, hi, hcu, hg⟩
    have hs := six_size i hi
    have C2 := hide hcu
    have G2 := hide (gb_trans (gb_trans (unhide G1) (gb_below (r := some c) (bel1 w1 _) (Nat.le_refl _))) hg)
    clear hcu hg hi
    generalize six.getD i ByteArray.empty = s at hs ⊢
    go_wp2
    go_ret
    exact ⟨s, rfl, hs, unhide C2, unhide G2⟩
  · go_wp2_with fail
    refine (unhide H5 _ w1.heap.size ((unhide C1).alloc _) (by simp) (by omega) (fun i hi => cells5 w1 _ i hi)).mono ?_
    rintro e w2 ⟨i, rfl, hi, hcu, hg⟩
    have hs := five_size i hi
    have C2 := hide hcu
    have G2 := hide (gb_trans (gb_trans (unhide G1) (gb_below (r := some c) (bel1 w1 _) (Nat.le_refl _))) hg)
    clear hcu hg hi
    generalize five.getD i ByteArray.empty = s at hs ⊢
    go_wp2
    go_ret
    exact ⟨s, rfl, hs, unhide C2, unhide G2⟩
end Cur
end Go.Proofs.YtghckjmpcokhcaaGreatDoor
/-
  The model's cursor l1Cur: keys. Only bounds of what is drawn are told.
-/
namespace Go.Proofs.YtghckjmpcokhcaaGreatDoor
namespace Cur
open Go.RowKit Base Marks OwnR NumText
set_option linter.unusedVariables false

theorem Cu.gbN {w0 w w' : World} {c : Nat} {a : Option Addr} {n cap k : Nat} {r : Option Nat} (h : Cu w0 w c a n cap k) (hg : w.grownBy w' r) (hr : ∀ g, r = some g → c < g) : Cu w0 w' c a n cap k := by
  obtain ⟨⟨q, sd, c0, c1, c2, hq⟩, fz, hlt, hlo, hbel⟩ := h
  have hne : some c ≠ r := fun e => by have := hr c e.symm; omega
  have e := hg.block c hlt hne
  have ec : ∀ o, w'.cell? ⟨c, o, none⟩ = w.cell? ⟨c, o, none⟩ := fun o => World.cell?_of_block (a := ⟨c, o, none⟩) e
  refine ⟨⟨q, sd, (ec _).trans c0, (ec _).trans c1, (ec _).trans c2, hq⟩, fun o => (World.frozen?_of_block (w := w) (a := ⟨c, o, none⟩) e).trans (fz o), Nat.lt_of_lt_of_le hlt hg.size, hlo, hbel.grown hg (Nat.le_trans hlo (Nat.le_of_lt hlt)) (fun g e => by have := hr g e; omega)⟩
def lenV : Value → Nat
  | .slice _ n _ => n
  | _ => 0
def digs : List ByteArray := [⟨#[]⟩, ⟨#[49]⟩, ⟨#[50]⟩, ⟨#[51]⟩, ⟨#[52]⟩]
theorem digs_size (i : Nat) (h : i < 5) : (digs.getD i ByteArray.empty).size ≤ 1 := by
  obtain rfl | rfl | rfl | rfl | rfl : i = 0 ∨ i = 1 ∨ i = 2 ∨ i = 3 ∨ i = 4 := by omega
  all_goals decide
theorem cellsD (w : World) (t : TypeId) (i : Nat) (h : i < 5) : (w.alloc (.cells (digs.map (fun s => Value.string s)).toArray t)).cell? ⟨w.heap.size, i, none⟩ = some (.string (digs.getD i ByteArray.empty)) := by
  rw [World.cell?_alloc_new]
  obtain rfl | rfl | rfl | rfl | rfl : i = 0 ∨ i = 1 ∨ i = 2 ∨ i = 3 ∨ i = 4 := by omega
  all_goals rfl
theorem txt_small (n : Nat) (h : n < 18446744073709551616) : (txt n).size ≤ 20 := by
  have h1 := Lib.nDigits_le20 n h
  have e : (txt n).size = Lib.nDigits n := by
    show (Lib.decDigits n).toArray.size = _
    rw [Lib.decDigits_eq]; simp
  omega
theorem snocS {l : List ByteArray} {s : ByteArray} (h : ∀ x ∈ l, x.size ≤ 100) (hs : s.size ≤ 100) : ∀ x ∈ l ++ [s], x.size ≤ 100 := fun x hx => by
  rcases List.mem_append.1 hx with hx | hx
  · exact h x hx
  · rw [List.mem_singleton.1 hx]; exact hs
/-- What is drawn. -/
def KeysDrawn (w0 w : World) (c : Nat) (a : Option Addr) (n cap k : Nat) (e : Ending) (w' : World) : Prop :=
  ∃ (ts : List ByteArray) (b : Option Addr) (cb : Nat), e = .returned (.slice b ts.length cb) ∧ ts.length ≤ 61 ∧ (∀ x ∈ ts, x.size ≤ 100) ∧ StrN.OwnT w' w.heap.size (.slice b ts.length cb) ts ∧ Cu w0 w' c a n cap (k + 200) ∧ w.grownBy w' (some c)

set_option maxRecDepth 10000 in
set_option maxHeartbeats 4000000 in
theorem keys_any (w0 w : World) (c : Nat) (a : Option Addr) (n cap k : Nat) (z : Nat → Int) (hz : BAt w0 a n z) (hn : n ≤ 1048576) (hk : k ≤ 1000) (h : Cu w0 w c a n cap k) :
    Calls Tryz.prog 20 #[.pointer (some ⟨c, 0, none⟩)] w (KeysDrawn w0 w c a n cap k) := by
  have HP := hide (fun (m : Nat) (hm : 1 ≤ m ∧ m ≤ 200) k (hk : k ≤ 10000) w' h => pick_any w0 w' c a n cap k m z hz hn (by omega) h hm)
  have HO := hide (fun (m : Nat) (hm : 1 ≤ m ∧ m ≤ 200) k (hk : k ≤ 10000) w' h => one_any w0 w' c a n cap k m z hz hn (by omega) h hm)
  have HK := hide (fun k (hk : k ≤ 10000) w' h => key_any w0 w' c a n cap k z hz hn (by omega) h)
  have HF := hide (fun k (hk : k ≤ 10000) w' lb h h1 h2 hc => of_any w0 w' c a n cap k lb 5 digs z hz hn (by omega) h (by decide) h1 h2 hc)
  have HNM := hide (fun (i : Nat) (hi : i ≤ 100) w' => num_any (i : Int) w' (by omega) (by omega))
  have HTS := hide (fun (i : Nat) (hi : i ≤ 100) => txt_small i (by omega))
  obtain ⟨i0, hi, hz0, hz1, hz2⟩ := StrN.info_ex
  have HI := hide hi
  have HZ0 := hide hz0
  have HZ1 := hide hz1
  have HZ2 := hide hz2
  have hcw := h.lt
  have C0 := hide h
  clear hz hi hz0 hz1 hz2 h
  go_enter Tryz.func20, Tryz.ntmps20
  go_wp2_with fail
  refine (unhide HP 12 (by omega) k (by omega) _ (unhide C0)).mono ?_
  rintro e w1 ⟨r1, rfl, hr1, hcu, hg⟩
  have C1 := hide hcu
  have G1 := hide hg
  clear hcu hg
  go_wp2
  go_loopw [3, 4] (fun lv jv wr => ∃ (j : Nat) (ts : List ByteArray) (v : Value), j + ts.length ≤ 11 ∧ v = lv ∧ jv = .int .i64 j ∧ Hid (∀ x ∈ ts, x.size ≤ 100) ∧ Hid (StrN.OwnT wr w.heap.size v ts) ∧ Hid (Cu w0 wr c a n cap (k + 1 + 3 * ts.length)) ∧ Hid (w.grownBy wr (some c))) (fun _ jv _ => (intOf jv).toNat)
  case atStart => exact ⟨r1, [], _, by simp; omega, rfl, rfl, hide (fun x hx => absurd hx (by simp)), hide (World.ownsRow_nil _ _ _ _), C1, G1⟩
  case round =>
    obtain ⟨j, ts, v, hj, hv, rfl, hsz, O2, C2, G2⟩ := hrel
    subst hv
    clear C1 G1 C0
    have hzw := (unhide G2).size
    by_cases hjp : 0 < j
    · obtain ⟨j', rfl⟩ : ∃ j', j = j' + 1 := ⟨j - 1, by omega⟩
      have hjp' : (0 : Int) < ((j' + 1 : Nat) : Int) := by omega
      go_wp2_with fail
      refine (unhide HK (k + 1 + 3 * ts.length) (by omega) _ (unhide C2)).mono ?_
      rintro e w3 ⟨s0, rfl, hs0, hcu, hg⟩
      have O3 := hide (StrN.own_gb (unhide O2) hg hcw)
      have C3 := hide hcu
      have G3 := hide (gb_trans (unhide G2) hg)
      have z3 := hcu.lt
      clear hcu hg O2 C2 G2
      go_wp2_with fail
      refine (unhide HF (k + 1 + 3 * ts.length + 2) (by omega) _ w3.heap.size ((unhide C3).alloc _) (by simp) (by omega) (fun i hi => cellsD w3 _ i hi)).mono ?_
      rintro e w4 ⟨x, rfl, hx, hcu, hg⟩
      have hs1 := digs_size x hx
      have O4 := hide (StrN.own_gb ((unhide O3).alloc _) hg hcw)
      have C4 := hide hcu
      have G4 := hide (gb_trans (gb_trans (unhide G3) (gb_below (r := some c) (bel1 w3 _) (Nat.le_refl _))) hg)
      have z4 := hcu.lt
      have zw4 := (unhide G4).size
      clear hcu hg O3 C3 G3 hx
      generalize digs.getD x ByteArray.empty = s1 at hs1 ⊢
      have hsum : (s0 ++ s1).size ≤ 100 := by rw [ByteArray.size_append]; omega
      go_wp2_with (at_builtin; go_loud (refine wpList_append_own _ rfl _ _ 24 rfl w.heap.size 9 i0 _ 1 16 Tryz.underlying24 (unhide HI) (unhide HZ0) (unhide HZ1) (unhide HZ2) rfl (by decide) _ _ _ rfl ((unhide O4).alloc _) ⟨w4.heap.size, 0, none⟩ 1 1 [.string (s0 ++ s1)] rfl rfl ?c1 ?c2 ?c3 ?c4 ?c5 ?_))
      case c1 => exact StrN.news_cells w4 (s0 ++ s1) _
      case c2 => exact StrN.news_one (s0 ++ s1)
      case c3 => unfold maxLen; omega
      case c4 => omega
      case c5 => simp; omega
      intro v' w5 hown' hgrow _
      have O5 := hide (StrN.own_snoc hown')
      have C5 := hide ((((unhide C4).alloc _).gbN hgrow (fun g e => by have := own_block (unhide O4) g e; omega)).le (show k + 1 + 3 * ts.length + 2 + 1 ≤ k + 1 + 3 * (ts ++ [s0 ++ s1]).length by rw [List.length_append, List.length_singleton]; omega))
      have G5 := hide (StrN.gb_own (gb_trans (unhide G4) (gb_below (r := some c) (bel1 w4 _) (Nat.le_refl _))) hgrow (fun g e => own_block (unhide O4) g e))
      have S5 := hide (snocS (unhide hsz) hsum)
      clear hown' hgrow
      go_wp2
      go_roundw
      case rel => exact ⟨j', ts ++ [s0 ++ s1], _, by rw [List.length_append, List.length_singleton]; omega, rfl, by first | rfl | go_num, S5, O5, C5, G5⟩
      case measure => simp [intOf]
    · obtain rfl : j = 0 := by omega
      obtain ⟨b2, cb2, hvs⟩ := own_form (unhide O2)
      subst hvs
      go_wp2_with fail
      refine (unhide HO 40 (by omega) (k + 1 + 3 * ts.length) (by omega) _ (unhide C2)).mono ?_
      rintro e w3 ⟨b3, rfl, hcu, hg⟩
      have O3 := hide (StrN.own_gb (unhide O2) hg hcw)
      have C3 := hide (hcu.le (show k + 1 + 3 * ts.length + 1 ≤ k + 40 + ts.length by omega))
      have G3 := hide (gb_trans (unhide G2) hg)
      clear hcu hg O2 C2 G2
      cases b3
      · have HD : Hid (KeysDrawn w0 w c a n cap k (.returned (.slice b2 ts.length cb2)) w3) := ⟨ts, b2, cb2, rfl, by omega, unhide hsz, unhide O3, (unhide C3).le (by omega), unhide G3⟩
        go_wp2
        go_ret
        exact unhide HD
      · have hts : ts.length ≤ 61 := by omega
        have hsz3 := hsz
        clear hj hzw
        go_wp2_with fail
        go_loopw [3] (fun lv wr => ∃ (ts : List ByteArray) (b : Option Addr) (cb : Nat), ts.length ≤ 61 ∧ lv = .slice b ts.length cb ∧ Hid (∀ x ∈ ts, x.size ≤ 100) ∧ Hid (StrN.OwnT wr w.heap.size (.slice b ts.length cb) ts) ∧ Hid (Cu w0 wr c a n cap (k + 40 + ts.length)) ∧ Hid (w.grownBy wr (some c))) (fun lv _ => 61 - lenV lv)
        case atStart => exact ⟨ts, b2, cb2, hts, rfl, hsz3, O3, C3, G3⟩
        case round =>
          obtain ⟨us, b, cb, hus, rfl, hsu, O4, C4, G4⟩ := hrel
          clear O3 C3 G3 hsz hsz3
          go_wp2_with fail
          refine (unhide HP 2 (by omega) (k + 40 + us.length) (by omega) _ (unhide C4)).mono ?_
          rintro e w5 ⟨r5, rfl, hr5, hcu, hg⟩
          have O5 := hide (StrN.own_gb (unhide O4) hg hcw)
          have C5 := hide hcu
          have G5 := hide (gb_trans (unhide G4) hg)
          clear hcu hg O4 C4 G4
          by_cases hlt : us.length < 60 + r5
          · have hlt' : (us.length : Int) < 60 + (r5 : Int) := by omega
            go_wp2_with fail
            refine (unhide HNM us.length (by omega) _).mono ?_
            rintro e w6 ⟨rfl, hb6⟩
            have hs1 := unhide HTS us.length (by omega)
            rw [Int.toNat_natCast]
            generalize txt us.length = s1 at hs1 ⊢
            have O6 := hide (own_below (unhide O5) hb6 (Nat.le_refl _))
            have C6 := hide ((unhide C5).gbN (gb_below (r := none) hb6 (Nat.le_refl _)) (by simp))
            have G6 := hide (gb_trans (unhide G5) (gb_below (r := some c) hb6 (Nat.le_refl _)))
            have z6 := (unhide C6).lt
            have zw6 := (unhide G6).size
            have hsum : (⟨#[107]⟩ ++ s1 : ByteArray).size ≤ 100 := by rw [ByteArray.size_append]; have : (⟨#[107]⟩ : ByteArray).size = 1 := rfl; omega
            clear hb6 O5 C5 G5
            go_wp2_with (at_builtin; go_loud (refine wpList_append_own _ rfl _ _ 24 rfl w.heap.size 9 i0 _ 1 16 Tryz.underlying24 (unhide HI) (unhide HZ0) (unhide HZ1) (unhide HZ2) rfl (by decide) _ _ _ rfl ((unhide O6).alloc _) ⟨w6.heap.size, 0, none⟩ 1 1 [.string (⟨#[107]⟩ ++ s1)] rfl rfl ?c1 ?c2 ?c3 ?c4 ?c5 ?_))
            case c1 => exact StrN.news_cells w6 (⟨#[107]⟩ ++ s1) _
            case c2 => exact StrN.news_one (⟨#[107]⟩ ++ s1)
            case c3 => unfold maxLen; omega
            case c4 => omega
            case c5 => simp; omega
            intro v' w7 hown' hgrow _
            have O7 := hide (StrN.own_snoc hown')
            obtain ⟨b7, cb7, hv7⟩ := own_form (unhide O7)
            subst hv7
            have C7 := hide ((((unhide C6).alloc _).gbN hgrow (fun g e => by have := own_block (unhide O6) g e; omega)).le (show k + 40 + us.length + 1 ≤ k + 40 + (us ++ [⟨#[107]⟩ ++ s1]).length by rw [List.length_append, List.length_singleton]; omega))
            have G7 := hide (StrN.gb_own (gb_trans (unhide G6) (gb_below (r := some c) (bel1 w6 _) (Nat.le_refl _))) hgrow (fun g e => own_block (unhide O6) g e))
            have S7 := hide (snocS (unhide hsu) hsum)
            have hl7 : (us ++ [⟨#[107]⟩ ++ s1]).length = us.length + 1 := by rw [List.length_append]; rfl
            clear hown' hgrow
            go_wp2
            go_roundw
            case rel => exact ⟨us ++ [⟨#[107]⟩ ++ s1], b7, cb7, by omega, rfl, S7, O7, C7, G7⟩
            case measure => simp [lenV]; omega
          · have hlt' : ¬ (us.length : Int) < 60 + (r5 : Int) := by omega
            have HD : Hid (KeysDrawn w0 w c a n cap k (.returned (.slice b us.length cb)) w5) := ⟨us, b, cb, rfl, hus, unhide hsu, unhide O5, (unhide C5).le (by omega), unhide G5⟩
            go_wp2
            go_ret
            exact unhide HD
end Cur
end Go.Proofs.YtghckjmpcokhcaaGreatDoor
/-
  The model's cursor l1Cur: among. Only bounds of what is drawn are told.
-/
namespace Go.Proofs.YtghckjmpcokhcaaGreatDoor
namespace Cur
open Go.RowKit Base Marks
set_option linter.unusedVariables false

set_option maxHeartbeats 400000 in
theorem among_any (w0 w : World) (c : Nat) (a : Option Addr) (n cap k lb lc : Nat) (l : List Int) (z : Nat → Int) (hz : BAt w0 a n z) (hn : n ≤ 1048576) (hk : k ≤ 1000000000) (h : Cu w0 w c a n cap k) (hl : 1 ≤ l.length ∧ l.length ≤ 200) (hlb : lb < w.heap.size) (hne : lb ≠ c)
    (hc : ∀ i, i < l.length → w.cell? ⟨lb, i, none⟩ = some (.int .i64 (l.getD i 0))) :
    Calls Tryz.prog 46 #[.pointer (some ⟨c, 0, none⟩), .slice (some ⟨lb, 0, none⟩) l.length lc] w fun e w' => ∃ i : Nat, e = .returned (.int .i64 (l.getD i 0)) ∧ i < l.length ∧ Cu w0 w' c a n cap (k + 1) ∧ w.grownBy w' (some c) := by
  have HN := hide (pick_any w0 w c a n cap k l.length z hz hn hk h hl)
  have HC := hide hc
  clear hz h hc
  generalize hll : l.length = m at *
  go_enter Tryz.func46, Tryz.ntmps46
  go_wp2_with fail
  refine (unhide HN).mono ?_
  rintro e w1 ⟨x, rfl, hx, hcu, hgb⟩
  have hcx := (gb_cell hgb hlb hne x).trans (unhide HC x hx)
  have hlb1 : lb < w1.heap.size := Nat.lt_of_lt_of_le hlb hgb.size
  have HCU := hide hcu
  have HGB := hide hgb
  clear hcu hgb
  have hx0 : (x : Int) < (m : Int) := by omega
  generalize hs : l.getD x 0 = s at hcx
  have HSS := hide hs
  clear hs
  go_wp2
  go_ret
  exact ⟨x, by rw [unhide HSS]; rfl, hx, unhide HCU, unhide HGB⟩

end Cur
end Go.Proofs.YtghckjmpcokhcaaGreatDoor
