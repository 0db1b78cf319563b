/-
  The model's cursor l1Cur, by which arguments are drawn from bytes: next, pick, one. Only bounds of what is drawn are told.
-/
import Derived.Test.YtoinbldoioffdaaDoorBase
import Derived.Test.YtoinbldoioffdaaDoorRows
import Derived.Test.YtoinbldoioffdaaDoorMarkZ
import Derived.BigQuiet
import Derived.Laws.Bits64b
import Derived.Deep.RegionWith
import Derived.Deep.DeepCutAuto
namespace Go.Proofs.YtoinbldoioffdaaDoor
namespace Cur
open Go.RowKit Base Marks
set_option linter.unusedVariables false

/-- A slice of bytes. -/
def BAt (w : World) (a : Option Addr) (n : Nat) (z : Nat → Int) : Prop := 0 < n → ∃ b off, a = some ⟨b, off, none⟩ ∧ b < w.heap.size ∧ ∀ i, i < n → w.cell? ⟨b, off + i, none⟩ = some (.int .u8 (z i)) ∧ 0 ≤ z i ∧ z i ≤ 255
/-- A cursor at block c, over a base world w0: at most k steps were taken. -/
structure Cu (w0 w : World) (c : Nat) (a : Option Addr) (n cap k : Nat) : Prop where
  cells : ∃ (q : Nat) (sd : Int), w.cell? ⟨c, 0, none⟩ = some (.slice a n cap) ∧ w.cell? ⟨c, 1, none⟩ = some (.int .i64 (q : Int)) ∧ w.cell? ⟨c, 2, none⟩ = some (.int .u64 sd) ∧ q ≤ k
  fz : ∀ o, w.frozen? ⟨c, o, none⟩ = false
  lt : c < w.heap.size
  lo : w0.heap.size ≤ c
  bel : Below w0.heap.size w0 w
theorem gb_refl (w : World) (r : Option Nat) : w.grownBy w r := gb_below (Below.refl w.heap.size w) (Nat.le_refl _)
theorem gb_drew {w w' : World} {r : Option Nat} (h : w.grownBy w' r) : w.grownBy w'.drew r := gb_trans h (gb_below (Below.refl w'.heap.size w').drew (Nat.le_refl _))

theorem low8 (S : Int) (h0 : 0 ≤ S) (h1 : S < 18446744073709551616) : ∃ r : Nat, wrap64 (bits BinOp.and IntKind.u64 (S / 1099511627776) 255) = (r : Int) ∧ r ≤ 255 := by
  obtain ⟨m, hm⟩ := Int.eq_ofNat_of_zero_le (show 0 ≤ S / 1099511627776 by omega)
  have hb : bits BinOp.and IntKind.u64 ((m : Int)) ((255 : Nat) : Int) = ((m &&& 255 : Nat) : Int) := bits_and_u64_nat m 255 (by omega) (by omega)
  have hl : m &&& 255 ≤ 255 := Nat.and_le_right
  refine ⟨m &&& 255, ?_, hl⟩
  rw [hm]
  have e : bits BinOp.and IntKind.u64 (m : Int) 255 = ((m &&& 255 : Nat) : Int) := hb
  rw [e]
  unfold wrap64
  omega
theorem gb_draws {w w' : World} {r : Option Nat} (h : w.grownBy w' r) (j : Nat) : w.grownBy (w'.drewN j) r := gb_trans h (gb_below (bel_draws (Below.refl w'.heap.size w') j) (Nat.le_refl _))
theorem Cu.draws {w0 w : World} {c : Nat} {a : Option Addr} {n cap k : Nat} (h : Cu w0 w c a n cap k) (j : Nat) : Cu w0 (w.drewN j) c a n cap k :=
  ⟨h.cells, h.fz, h.lt, h.lo, bel_draws h.bel j⟩
theorem Cu.step2 {w0 w : World} {c : Nat} {a : Option Addr} {n cap k q : Nat} {sd : Int} (j : Nat) (S : Int) (c0 : w.cell? ⟨c, 0, none⟩ = some (.slice a n cap)) (c1 : w.cell? ⟨c, 1, none⟩ = some (.int .i64 (q : Int))) (c2 : w.cell? ⟨c, 2, none⟩ = some (.int .u64 sd)) (hq : q ≤ k) (fz : ∀ o, w.frozen? ⟨c, o, none⟩ = false) (hlt : c < w.heap.size) (hlo : w0.heap.size ≤ c) (hbel : Below w0.heap.size w0 w) (W : World)
    (hW : ((w.drewN j).setCell ⟨c, 1, none⟩ (.int .i64 ((q : Int) + 1))).setCell ⟨c, 2, none⟩ (.int .u64 S) = W) :
    W.cell? ⟨c, 0, none⟩ = some (.slice a n cap) ∧ W.cell? ⟨c, 1, none⟩ = some (.int .i64 ((q : Int) + 1)) ∧ W.cell? ⟨c, 2, none⟩ = some (.int .u64 S) ∧ Cu w0 W c a n cap (k + 1) ∧ w.grownBy W (some c) := by
  subst hW
  have e0 : (((w.drewN j).setCell ⟨c, 1, none⟩ (.int .i64 ((q : Int) + 1))).setCell ⟨c, 2, none⟩ (.int .u64 S)).cell? ⟨c, 0, none⟩ = some (.slice a n cap) := by go_simp
  have e1 : (((w.drewN j).setCell ⟨c, 1, none⟩ (.int .i64 ((q : Int) + 1))).setCell ⟨c, 2, none⟩ (.int .u64 S)).cell? ⟨c, 1, none⟩ = some (.int .i64 ((q : Int) + 1)) := by go_simp
  have e2 : (((w.drewN j).setCell ⟨c, 1, none⟩ (.int .i64 ((q : Int) + 1))).setCell ⟨c, 2, none⟩ (.int .u64 S)).cell? ⟨c, 2, none⟩ = some (.int .u64 S) := by go_simp
  refine ⟨e0, e1, e2, ⟨⟨q + 1, S, e0, e1, e2, by omega⟩, fun o => ?_, by simpa [World.setCell] using hlt, hlo, ?_⟩, ?_⟩
  · have := fz o
    go_simp
  · exact ((bel_draws hbel j).setCell (p := ⟨c, 1, none⟩) hlo _).setCell (p := ⟨c, 2, none⟩) hlo _
  · exact gb_set (gb_set (gb_draws (gb_refl w (some c)) j) 1 _) 2 _

set_option maxRecDepth 10000 in
set_option maxHeartbeats 2000000 in
theorem next_any (w0 w : World) (c : Nat) (a : Option Addr) (n cap k : Nat) (z : Nat → Int) (hz : BAt w0 a n z) (hn : n ≤ 1048576) (hk : k ≤ 1000000000) (h : Cu w0 w c a n cap k) :
    Calls Tryd.prog 42 #[.pointer (some ⟨c, 0, none⟩)] w fun e w' => ∃ r : Nat, e = .returned (.int .i64 (r : Int)) ∧ r ≤ 255 ∧ Cu w0 w' c a n cap (k + 1) ∧ w.grownBy w' (some c) := by
  obtain ⟨⟨q, sd, c0, c1, c2, hq⟩, fz, hlt, hlo, hbel⟩ := h
  have HB := hide hbel
  have hw1 : IntKind.i64.wrap ((q : Int) + 1) = ((q + 1 : Nat) : Int) := by rw [IntKind.wrap_i64]; omega
  by_cases hqn : q < n
  · obtain ⟨b, off, rfl, hb, hcc⟩ := hz (by omega)
    obtain ⟨d0, hd0, hd1⟩ := hcc q hqn
    have d1 := (hbel.cell (p := ⟨b, off + q, none⟩) hb).trans d0
    obtain ⟨x, hx⟩ := Int.eq_ofNat_of_zero_le hd0
    rw [hx] at d1 hd1
    have hbc : b ≠ c := by omega
    have hbw : b < w.heap.size := Nat.lt_of_lt_of_le hb hbel.size
    clear hcc hz d0 hbel hd0 hx
    go_enter Tryd.func42, Tryd.ntmps42
    go_wp2_with fail
    go_quiet (fail)
    go_wp2_with fail
    go_quiet (fail)
    go_upto_region 6 with fail
    generalize IntKind.u64.wrap (_ + 1442695040888963407) = S
    have hst := fun j W hW => Cu.step2 (k := k) j S c0 c1 c2 hq fz hlt hlo (unhide HB) W hW
    generalize hW : ((w.drewN _).setCell ⟨c, 1, none⟩ (.int .i64 ((q : Int) + 1))).setCell ⟨c, 2, none⟩ (.int .u64 S) = W1
    obtain ⟨e0, e1, e2, hcu, hgb⟩ := hst _ _ hW
    have HCU := hide hcu
    have HGB := hide hgb
    clear hst hW hcu hgb c0 c1 c2 d1 fz
    have hq1 : (q : Int) + 1 ≤ (n : Int) := by omega
    go_quiet (fail)
    go_wp2
    go_ret
    exact ⟨x, rfl, by omega, (unhide HCU).draws _, gb_draws (unhide HGB) _⟩
  · have hqn' : ¬ (q : Int) < (n : Int) := by omega
    clear hz hbel
    go_enter Tryd.func42, Tryd.ntmps42
    go_wp2_with fail
    go_quiet (fail)
    go_upto_region 6 with fail
    generalize hS : IntKind.u64.wrap (_ + 1442695040888963407) = S
    have hSb : 0 ≤ S ∧ S < 18446744073709551616 := by rw [← hS, IntKind.wrap_u64]; omega
    obtain ⟨r, hr, hr2⟩ := low8 S hSb.1 hSb.2
    clear hS
    have hst := fun j W hW => Cu.step2 (k := k) j S c0 c1 c2 hq fz hlt hlo (unhide HB) W hW
    generalize hW : ((w.drewN _).setCell ⟨c, 1, none⟩ (.int .i64 ((q : Int) + 1))).setCell ⟨c, 2, none⟩ (.int .u64 S) = W1
    obtain ⟨e0, e1, e2, hcu, hgb⟩ := hst _ _ hW
    have HCU := hide hcu
    have HGB := hide hgb
    clear hst hW hcu hgb c0 c1 c2 fz
    have hq1 : ¬ (q : Int) + 1 ≤ (n : Int) := by omega
    go_quiet (fail)
    go_wp2
    go_ret
    exact ⟨r, rfl, hr2, (unhide HCU).draws _, gb_draws (unhide HGB) _⟩

section
variable {w0 w w' : World} {c : Nat} {a : Option Addr} {n cap k : Nat}
theorem Cu.le (h : Cu w0 w c a n cap k) {k' : Nat} (hk : k ≤ k') : Cu w0 w c a n cap k' := by
  obtain ⟨⟨q, sd, c0, c1, c2, hq⟩, fz, hlt, hlo, hbel⟩ := h
  exact ⟨⟨q, sd, c0, c1, c2, by omega⟩, fz, hlt, hlo, hbel⟩
theorem Cu.alloc (h : Cu w0 w c a n cap k) (o : Obj) : Cu w0 (w.alloc o) c a n cap k := by
  obtain ⟨⟨q, sd, c0, c1, c2, hq⟩, fz, hlt, hlo, hbel⟩ := h
  have e := fun o' => (bel1 w o).cell (p := ⟨c, o', none⟩) hlt
  have f := fun o' => (bel1 w o).frozen (p := ⟨c, o', none⟩) hlt
  exact ⟨⟨q, sd, (e _).trans c0, (e _).trans c1, (e _).trans c2, hq⟩, fun o' => (f o').trans (fz o'), by simp; omega, hlo, hbel.alloc (Nat.le_trans hlo (Nat.le_of_lt hlt)) o⟩
theorem gb_cell {b : Nat} (h : w.grownBy w' (some c)) (hb : b < w.heap.size) (hne : b ≠ c) (o : Nat) : w'.cell? ⟨b, o, none⟩ = w.cell? ⟨b, o, none⟩ :=
  World.cell?_of_block (w := w) (a := ⟨b, o, none⟩) (h.block b hb (fun e => hne (by simpa using e)))
end

set_option maxHeartbeats 400000 in
theorem pick_any (w0 w : World) (c : Nat) (a : Option Addr) (n cap k m : Nat) (z : Nat → Int) (hz : BAt w0 a n z) (hn : n ≤ 1048576) (hk : k ≤ 1000000000) (h : Cu w0 w c a n cap k) (hm : 1 ≤ m ∧ m ≤ 200) :
    Calls Tryd.prog 22 #[.pointer (some ⟨c, 0, none⟩), .int .i64 (m : Int)] w fun e w' => ∃ r : Nat, e = .returned (.int .i64 (r : Int)) ∧ r < m ∧ Cu w0 w' c a n cap (k + 1) ∧ w.grownBy w' (some c) := by
  have HN := hide (next_any w0 w c a n cap k z hz hn hk h)
  have H0 := hide (h.le (Nat.le_succ k))
  clear hz h
  by_cases h1 : m = 1
  · subst h1
    go_enter Tryd.func22, Tryd.ntmps22
    go_wp2
    go_ret
    exact ⟨0, rfl, by omega, unhide H0, gb_refl _ _⟩
  have hm1 : ¬ (m : Int) ≤ 1 := by omega
  have hm2 : ¬ 200 < (m : Int) := by omega
  have hm0 : ¬ (m : Int) = 0 := by omega
  go_enter Tryd.func22, Tryd.ntmps22
  go_wp2_with fail
  refine (unhide HN).mono ?_
  rintro e w1 ⟨x, rfl, hx, hcu, hgb⟩
  have HCU := hide hcu
  have HGB := hide hgb
  clear hcu hgb
  go_wp2
  go_ret
  refine ⟨x % m, ?_, Nat.mod_lt _ (by omega), unhide HCU, unhide HGB⟩
  rw [Int.natCast_emod]
  rfl

set_option maxHeartbeats 400000 in
theorem one_any (w0 w : World) (c : Nat) (a : Option Addr) (n cap k m : Nat) (z : Nat → Int) (hz : BAt w0 a n z) (hn : n ≤ 1048576) (hk : k ≤ 1000000000) (h : Cu w0 w c a n cap k) (hm : 1 ≤ m ∧ m ≤ 200) :
    Calls Tryd.prog 21 #[.pointer (some ⟨c, 0, none⟩), .int .i64 (m : Int)] w fun e w' => ∃ b : Bool, e = .returned (.bool b) ∧ Cu w0 w' c a n cap (k + 1) ∧ w.grownBy w' (some c) := by
  have HN := hide (pick_any w0 w c a n cap k m z hz hn hk h hm)
  clear hz h
  go_enter Tryd.func21, Tryd.ntmps21
  go_wp2_with fail
  refine (unhide HN).mono ?_
  rintro e w1 ⟨x, rfl, hx, hcu, hgb⟩
  have HCU := hide hcu
  have HGB := hide hgb
  clear hcu hgb
  go_wp2
  go_ret
  exact ⟨_, rfl, unhide HCU, unhide HGB⟩

end Cur
end Go.Proofs.YtoinbldoioffdaaDoor
/-
  The model's cursor l1Cur: of. Only bounds of what is drawn are told.
-/
namespace Go.Proofs.YtoinbldoioffdaaDoor
namespace Cur
open Go.RowKit Base Marks
set_option linter.unusedVariables false

set_option maxHeartbeats 400000 in
theorem of_any (w0 w : World) (c : Nat) (a : Option Addr) (n cap k lb lc : Nat) (l : List ByteArray) (z : Nat → Int) (hz : BAt w0 a n z) (hn : n ≤ 1048576) (hk : k ≤ 1000000000) (h : Cu w0 w c a n cap k) (hl : 1 ≤ l.length ∧ l.length ≤ 200) (hlb : lb < w.heap.size) (hne : lb ≠ c)
    (hc : ∀ i, i < l.length → w.cell? ⟨lb, i, none⟩ = some (.string (l.getD i ByteArray.empty))) :
    Calls Tryd.prog 23 #[.pointer (some ⟨c, 0, none⟩), .slice (some ⟨lb, 0, none⟩) l.length lc] w fun e w' => ∃ i : Nat, e = .returned (.string (l.getD i ByteArray.empty)) ∧ i < l.length ∧ Cu w0 w' c a n cap (k + 1) ∧ w.grownBy w' (some c) := by
  have HN := hide (pick_any w0 w c a n cap k l.length z hz hn hk h hl)
  have HC := hide hc
  clear hz h hc
  generalize hll : l.length = m at *
  go_enter Tryd.func23, Tryd.ntmps23
  go_wp2_with fail
  refine (unhide HN).mono ?_
  rintro e w1 ⟨x, rfl, hx, hcu, hgb⟩
  have hcx := (gb_cell hgb hlb hne x).trans (unhide HC x hx)
  have hlb1 : lb < w1.heap.size := Nat.lt_of_lt_of_le hlb hgb.size
  have HCU := hide hcu
  have HGB := hide hgb
  clear hcu hgb
  have hx0 : (x : Int) < (m : Int) := by omega
  generalize hs : l.getD x ByteArray.empty = s at hcx
  have HSS := hide hs
  clear hs
  go_wp2
  go_ret
  exact ⟨x, by rw [unhide HSS]; rfl, hx, unhide HCU, unhide HGB⟩

end Cur
end Go.Proofs.YtoinbldoioffdaaDoor
/-
  The model's cursor l1Cur: key. Only its length is told.
-/
namespace Go.Proofs.YtoinbldoioffdaaDoor
namespace Cur
open Go.RowKit Base Marks
set_option linter.unusedVariables false

def five : List ByteArray := [⟨#[]⟩, ⟨#[97, 32, 98]⟩, ⟨#[195, 169]⟩, ⟨#[49, 50, 51, 52, 53, 54, 55, 56, 57, 48, 49, 50, 51, 52, 53, 54, 55, 56, 57, 48, 49, 50, 51, 52, 53, 54, 55, 56, 57, 48, 49]⟩, ⟨#[49, 50, 51, 52, 53, 54, 55, 56, 57, 48, 49, 50, 51, 52, 53, 54, 55, 56, 57, 48, 49, 50, 51, 52, 53, 54, 55, 56, 57, 48]⟩]
def six : List ByteArray := [⟨#[97]⟩, ⟨#[98]⟩, ⟨#[107, 101, 121, 49]⟩, ⟨#[107, 101, 121, 50]⟩, ⟨#[120, 58, 57]⟩, ⟨#[108, 111, 110, 103, 101, 114, 45, 107, 101, 121, 45, 110, 97, 109, 101]⟩]
theorem five_size (i : Nat) (h : i < 5) : (five.getD i ByteArray.empty).size ≤ 31 := by
  obtain rfl | rfl | rfl | rfl | rfl : i = 0 ∨ i = 1 ∨ i = 2 ∨ i = 3 ∨ i = 4 := by omega
  all_goals decide
theorem six_size (i : Nat) (h : i < 6) : (six.getD i ByteArray.empty).size ≤ 31 := by
  obtain rfl | rfl | rfl | rfl | rfl | rfl : i = 0 ∨ i = 1 ∨ i = 2 ∨ i = 3 ∨ i = 4 ∨ i = 5 := by omega
  all_goals decide
theorem cells5 (w : World) (t : TypeId) (i : Nat) (h : i < 5) : (w.alloc (.cells (five.map (fun s => Value.string s)).toArray t)).cell? ⟨w.heap.size, i, none⟩ = some (.string (five.getD i ByteArray.empty)) := by
  rw [World.cell?_alloc_new]
  obtain rfl | rfl | rfl | rfl | rfl : i = 0 ∨ i = 1 ∨ i = 2 ∨ i = 3 ∨ i = 4 := by omega
  all_goals rfl
theorem cells6 (w : World) (t : TypeId) (i : Nat) (h : i < 6) : (w.alloc (.cells (six.map (fun s => Value.string s)).toArray t)).cell? ⟨w.heap.size, i, none⟩ = some (.string (six.getD i ByteArray.empty)) := by
  rw [World.cell?_alloc_new]
  obtain rfl | rfl | rfl | rfl | rfl | rfl : i = 0 ∨ i = 1 ∨ i = 2 ∨ i = 3 ∨ i = 4 ∨ i = 5 := by omega
  all_goals rfl

set_option maxRecDepth 10000 in
set_option maxHeartbeats 1000000 in
theorem key_any (w0 w : World) (c : Nat) (a : Option Addr) (n cap k : Nat) (z : Nat → Int) (hz : BAt w0 a n z) (hn : n ≤ 1048576) (hk : k ≤ 1000000) (h : Cu w0 w c a n cap k) :
    Calls Tryd.prog 25 #[.pointer (some ⟨c, 0, none⟩)] w fun e w' => ∃ s : ByteArray, e = .returned (.string s) ∧ s.size ≤ 31 ∧ Cu w0 w' c a n cap (k + 2) ∧ w.grownBy w' (some c) := by
  have HO := hide (one_any w0 w c a n cap k 40 z hz hn (by omega) h (by omega))
  have H5 := hide (fun w' lb h h1 h2 hc => of_any w0 w' c a n cap (k + 1) lb 5 five z hz hn (by omega) h (by decide) h1 h2 hc)
  have H6 := hide (fun w' lb h h1 h2 hc => of_any w0 w' c a n cap (k + 1) lb 6 six z hz hn (by omega) h (by decide) h1 h2 hc)
  clear hz h
  go_enter Tryd.func25, Tryd.ntmps25
  go_wp2_with fail
  refine (unhide HO).mono ?_
  rintro e w1 ⟨b, rfl, hcu, hg⟩
  have C1 := hide hcu
  have G1 := hide hg
  have hlt := hcu.lt
  clear hcu hg
  cases b
  · go_wp2_with fail
    refine (unhide H6 _ w1.heap.size ((unhide C1).alloc _) (by simp) (by omega) (fun i hi => cells6 w1 _ i hi)).mono ?_
    rintro e w2 ⟨i, rfl, hi, hcu, hg⟩
    have hs := six_size i hi
    have C2 := hide hcu
    have G2 := hide (gb_trans (gb_trans (unhide G1) (gb_below (r := some c) (bel1 w1 _) (Nat.le_refl _))) hg)
    clear hcu hg hi
    generalize six.getD i ByteArray.empty = s at hs ⊢
    go_wp2
    go_ret
    exact ⟨s, rfl, hs, unhide C2, unhide G2⟩
  · go_wp2_with fail
    refine (unhide H5 _ w1.heap.size ((unhide C1).alloc _) (by simp) (by omega) (fun i hi => cells5 w1 _ i hi)).mono ?_
    rintro e w2 ⟨i, rfl, hi, hcu, hg⟩
    have hs := five_size i hi
    have C2 := hide hcu
    have G2 := hide (gb_trans (gb_trans (unhide G1) (gb_below (r := some c) (bel1 w1 _) (Nat.le_refl _))) hg)
    clear hcu hg hi
    generalize five.getD i ByteArray.empty = s at hs ⊢
    go_wp2
    go_ret
    exact ⟨s, rfl, hs, unhide C2, unhide G2⟩
end Cur
end Go.Proofs.YtoinbldoioffdaaDoor
