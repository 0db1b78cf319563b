/-
  The model's cursor l1Cur, by which arguments are drawn from bytes: next, pick, one. Only bounds of what is drawn are told.
-/
import Derived.Test.YtkdcofmpbmiloaaGreatDoorY1
import Derived.Test.YtkdcofmpbmiloaaGreatDoorRows
import Derived.Test.YtkdcofmpbmiloaaGreatDoorY4
import Derived.BigQuiet
import Derived.Laws.Bits64b
import Derived.Deep.RegionWith
import Derived.Deep.DeepCutAuto
import Derived.Laws.AppendOwn
import Derived.Test.YtkdcofmpbmiloaaGreatDoorY7
import Derived.WalkSpells
import Derived.Lib.SliceRun
import Derived.Laws.BytesArg
import Derived.Deep.AppendLies
import Derived.Deep.RegionLaw
import Derived.Test.YtkdcofmpbmiloaaGreatDoorStoreS
import Derived.Defers
import Derived.Recover
import Derived.WalkKit
import Derived.LaidEql
import Derived.Test.YtkdcofmpbmiloaaGreatDoorChecked
import Derived.Deep.QuietTactic
import Derived.SliceStrings
import Derived.Deep.Fields
import Derived.Deep.Slices
import Derived.ProofKit
import Derived.OpenShut
import Derived.ChangeOld
import Derived.Test.YtkdcofmpbmiloaaGreatDoorY2
import Derived.ShutString
import Derived.ChangeSlices
namespace Go.Proofs.YtkdcofmpbmiloaaGreatDoor
namespace Cur
open Go.RowKit Base Marks
set_option linter.unusedVariables false

/-- A slice of bytes. -/
def BAt (w : World) (a : Option Addr) (n : Nat) (z : Nat → Int) : Prop := 0 < n → ∃ b off, a = some ⟨b, off, none⟩ ∧ b < w.heap.size ∧ ∀ i, i < n → w.cell? ⟨b, off + i, none⟩ = some (.int .u8 (z i)) ∧ 0 ≤ z i ∧ z i ≤ 255
/-- A cursor at block c, over a base world w0: at most k steps were taken. -/
structure Cu (w0 w : World) (c : Nat) (a : Option Addr) (n cap k : Nat) : Prop where
  cells : ∃ (q : Nat) (sd : Int), w.cell? ⟨c, 0, none⟩ = some (.slice a n cap) ∧ w.cell? ⟨c, 1, none⟩ = some (.int .i64 (q : Int)) ∧ w.cell? ⟨c, 2, none⟩ = some (.int .u64 sd) ∧ q ≤ k
  fz : ∀ o, w.frozen? ⟨c, o, none⟩ = false
  lt : c < w.heap.size
  lo : w0.heap.size ≤ c
  bel : Below w0.heap.size w0 w
theorem gb_refl (w : World) (r : Option Nat) : w.grownBy w r := gb_below (Below.refl w.heap.size w) (Nat.le_refl _)
theorem gb_drew {w w' : World} {r : Option Nat} (h : w.grownBy w' r) : w.grownBy w'.drew r := gb_trans h (gb_below (Below.refl w'.heap.size w').drew (Nat.le_refl _))

theorem low8 (S : Int) (h0 : 0 ≤ S) (h1 : S < 18446744073709551616) : ∃ r : Nat, wrap64 (bits BinOp.and IntKind.u64 (S / 1099511627776) 255) = (r : Int) ∧ r ≤ 255 := by
  obtain ⟨m, hm⟩ := Int.eq_ofNat_of_zero_le (show 0 ≤ S / 1099511627776 by omega)
  have hb : bits BinOp.and IntKind.u64 ((m : Int)) ((255 : Nat) : Int) = ((m &&& 255 : Nat) : Int) := bits_and_u64_nat m 255 (by omega) (by omega)
  have hl : m &&& 255 ≤ 255 := Nat.and_le_right
  refine ⟨m &&& 255, ?_, hl⟩
  rw [hm]
  have e : bits BinOp.and IntKind.u64 (m : Int) 255 = ((m &&& 255 : Nat) : Int) := hb
  rw [e]
  unfold wrap64
  omega
theorem gb_draws {w w' : World} {r : Option Nat} (h : w.grownBy w' r) (j : Nat) : w.grownBy (w'.drewN j) r := gb_trans h (gb_below (bel_draws (Below.refl w'.heap.size w') j) (Nat.le_refl _))
theorem Cu.draws {w0 w : World} {c : Nat} {a : Option Addr} {n cap k : Nat} (h : Cu w0 w c a n cap k) (j : Nat) : Cu w0 (w.drewN j) c a n cap k :=
  ⟨h.cells, h.fz, h.lt, h.lo, bel_draws h.bel j⟩
theorem Cu.step2 {w0 w : World} {c : Nat} {a : Option Addr} {n cap k q : Nat} {sd : Int} (j : Nat) (S : Int) (c0 : w.cell? ⟨c, 0, none⟩ = some (.slice a n cap)) (c1 : w.cell? ⟨c, 1, none⟩ = some (.int .i64 (q : Int))) (c2 : w.cell? ⟨c, 2, none⟩ = some (.int .u64 sd)) (hq : q ≤ k) (fz : ∀ o, w.frozen? ⟨c, o, none⟩ = false) (hlt : c < w.heap.size) (hlo : w0.heap.size ≤ c) (hbel : Below w0.heap.size w0 w) (W : World)
    (hW : ((w.drewN j).setCell ⟨c, 1, none⟩ (.int .i64 ((q : Int) + 1))).setCell ⟨c, 2, none⟩ (.int .u64 S) = W) :
    W.cell? ⟨c, 0, none⟩ = some (.slice a n cap) ∧ W.cell? ⟨c, 1, none⟩ = some (.int .i64 ((q : Int) + 1)) ∧ W.cell? ⟨c, 2, none⟩ = some (.int .u64 S) ∧ Cu w0 W c a n cap (k + 1) ∧ w.grownBy W (some c) := by
  subst hW
  have e0 : (((w.drewN j).setCell ⟨c, 1, none⟩ (.int .i64 ((q : Int) + 1))).setCell ⟨c, 2, none⟩ (.int .u64 S)).cell? ⟨c, 0, none⟩ = some (.slice a n cap) := by go_simp
  have e1 : (((w.drewN j).setCell ⟨c, 1, none⟩ (.int .i64 ((q : Int) + 1))).setCell ⟨c, 2, none⟩ (.int .u64 S)).cell? ⟨c, 1, none⟩ = some (.int .i64 ((q : Int) + 1)) := by go_simp
  have e2 : (((w.drewN j).setCell ⟨c, 1, none⟩ (.int .i64 ((q : Int) + 1))).setCell ⟨c, 2, none⟩ (.int .u64 S)).cell? ⟨c, 2, none⟩ = some (.int .u64 S) := by go_simp
  refine ⟨e0, e1, e2, ⟨⟨q + 1, S, e0, e1, e2, by omega⟩, fun o => ?_, by simpa [World.setCell] using hlt, hlo, ?_⟩, ?_⟩
  · have := fz o
    go_simp
  · exact ((bel_draws hbel j).setCell (p := ⟨c, 1, none⟩) hlo _).setCell (p := ⟨c, 2, none⟩) hlo _
  · exact gb_set (gb_set (gb_draws (gb_refl w (some c)) j) 1 _) 2 _

set_option maxRecDepth 10000 in
set_option maxHeartbeats 2000000 in
theorem next_any (w0 w : World) (c : Nat) (a : Option Addr) (n cap k : Nat) (z : Nat → Int) (hz : BAt w0 a n z) (hn : n ≤ 1048576) (hk : k ≤ 1000000000) (h : Cu w0 w c a n cap k) :
    Calls Tryz.prog 36 #[.pointer (some ⟨c, 0, none⟩)] w fun e w' => ∃ r : Nat, e = .returned (.int .i64 (r : Int)) ∧ r ≤ 255 ∧ Cu w0 w' c a n cap (k + 1) ∧ w.grownBy w' (some c) := by
  obtain ⟨⟨q, sd, c0, c1, c2, hq⟩, fz, hlt, hlo, hbel⟩ := h
  have HB := hide hbel
  have hw1 : IntKind.i64.wrap ((q : Int) + 1) = ((q + 1 : Nat) : Int) := by rw [IntKind.wrap_i64]; omega
  by_cases hqn : q < n
  · obtain ⟨b, off, rfl, hb, hcc⟩ := hz (by omega)
    obtain ⟨d0, hd0, hd1⟩ := hcc q hqn
    have d1 := (hbel.cell (p := ⟨b, off + q, none⟩) hb).trans d0
    obtain ⟨x, hx⟩ := Int.eq_ofNat_of_zero_le hd0
    rw [hx] at d1 hd1
    have hbc : b ≠ c := by omega
    have hbw : b < w.heap.size := Nat.lt_of_lt_of_le hb hbel.size
    clear hcc hz d0 hbel hd0 hx
    go_enter Tryz.func36, Tryz.ntmps36
    go_wp2_with fail
    go_quiet (fail)
    go_wp2_with fail
    go_quiet (fail)
    go_upto_region 6 with fail
    generalize IntKind.u64.wrap (_ + 1442695040888963407) = S
    have hst := fun j W hW => Cu.step2 (k := k) j S c0 c1 c2 hq fz hlt hlo (unhide HB) W hW
    generalize hW : ((w.drewN _).setCell ⟨c, 1, none⟩ (.int .i64 ((q : Int) + 1))).setCell ⟨c, 2, none⟩ (.int .u64 S) = W1
    obtain ⟨e0, e1, e2, hcu, hgb⟩ := hst _ _ hW
    have HCU := hide hcu
    have HGB := hide hgb
    clear hst hW hcu hgb c0 c1 c2 d1 fz
    have hq1 : (q : Int) + 1 ≤ (n : Int) := by omega
    go_quiet (fail)
    go_wp2
    go_ret
    exact ⟨x, rfl, by omega, (unhide HCU).draws _, gb_draws (unhide HGB) _⟩
  · have hqn' : ¬ (q : Int) < (n : Int) := by omega
    clear hz hbel
    go_enter Tryz.func36, Tryz.ntmps36
    go_wp2_with fail
    go_quiet (fail)
    go_upto_region 6 with fail
    generalize hS : IntKind.u64.wrap (_ + 1442695040888963407) = S
    have hSb : 0 ≤ S ∧ S < 18446744073709551616 := by rw [← hS, IntKind.wrap_u64]; omega
    obtain ⟨r, hr, hr2⟩ := low8 S hSb.1 hSb.2
    clear hS
    have hst := fun j W hW => Cu.step2 (k := k) j S c0 c1 c2 hq fz hlt hlo (unhide HB) W hW
    generalize hW : ((w.drewN _).setCell ⟨c, 1, none⟩ (.int .i64 ((q : Int) + 1))).setCell ⟨c, 2, none⟩ (.int .u64 S) = W1
    obtain ⟨e0, e1, e2, hcu, hgb⟩ := hst _ _ hW
    have HCU := hide hcu
    have HGB := hide hgb
    clear hst hW hcu hgb c0 c1 c2 fz
    have hq1 : ¬ (q : Int) + 1 ≤ (n : Int) := by omega
    go_quiet (fail)
    go_wp2
    go_ret
    exact ⟨r, rfl, hr2, (unhide HCU).draws _, gb_draws (unhide HGB) _⟩

section
variable {w0 w w' : World} {c : Nat} {a : Option Addr} {n cap k : Nat}
theorem Cu.le (h : Cu w0 w c a n cap k) {k' : Nat} (hk : k ≤ k') : Cu w0 w c a n cap k' := by
  obtain ⟨⟨q, sd, c0, c1, c2, hq⟩, fz, hlt, hlo, hbel⟩ := h
  exact ⟨⟨q, sd, c0, c1, c2, by omega⟩, fz, hlt, hlo, hbel⟩
theorem Cu.alloc (h : Cu w0 w c a n cap k) (o : Obj) : Cu w0 (w.alloc o) c a n cap k := by
  obtain ⟨⟨q, sd, c0, c1, c2, hq⟩, fz, hlt, hlo, hbel⟩ := h
  have e := fun o' => (bel1 w o).cell (p := ⟨c, o', none⟩) hlt
  have f := fun o' => (bel1 w o).frozen (p := ⟨c, o', none⟩) hlt
  exact ⟨⟨q, sd, (e _).trans c0, (e _).trans c1, (e _).trans c2, hq⟩, fun o' => (f o').trans (fz o'), by simp; omega, hlo, hbel.alloc (Nat.le_trans hlo (Nat.le_of_lt hlt)) o⟩
theorem gb_cell {b : Nat} (h : w.grownBy w' (some c)) (hb : b < w.heap.size) (hne : b ≠ c) (o : Nat) : w'.cell? ⟨b, o, none⟩ = w.cell? ⟨b, o, none⟩ :=
  World.cell?_of_block (w := w) (a := ⟨b, o, none⟩) (h.block b hb (fun e => hne (by simpa using e)))
end

set_option maxHeartbeats 400000 in
theorem pick_any (w0 w : World) (c : Nat) (a : Option Addr) (n cap k m : Nat) (z : Nat → Int) (hz : BAt w0 a n z) (hn : n ≤ 1048576) (hk : k ≤ 1000000000) (h : Cu w0 w c a n cap k) (hm : 1 ≤ m ∧ m ≤ 200) :
    Calls Tryz.prog 13 #[.pointer (some ⟨c, 0, none⟩), .int .i64 (m : Int)] w fun e w' => ∃ r : Nat, e = .returned (.int .i64 (r : Int)) ∧ r < m ∧ Cu w0 w' c a n cap (k + 1) ∧ w.grownBy w' (some c) := by
  have HN := hide (next_any w0 w c a n cap k z hz hn hk h)
  have H0 := hide (h.le (Nat.le_succ k))
  clear hz h
  by_cases h1 : m = 1
  · subst h1
    go_enter Tryz.func13, Tryz.ntmps13
    go_wp2
    go_ret
    exact ⟨0, rfl, by omega, unhide H0, gb_refl _ _⟩
  have hm1 : ¬ (m : Int) ≤ 1 := by omega
  have hm2 : ¬ 200 < (m : Int) := by omega
  have hm0 : ¬ (m : Int) = 0 := by omega
  go_enter Tryz.func13, Tryz.ntmps13
  go_wp2_with fail
  refine (unhide HN).mono ?_
  rintro e w1 ⟨x, rfl, hx, hcu, hgb⟩
  have HCU := hide hcu
  have HGB := hide hgb
  clear hcu hgb
  go_wp2
  go_ret
  refine ⟨x % m, ?_, Nat.mod_lt _ (by omega), unhide HCU, unhide HGB⟩
  rw [Int.natCast_emod]
  rfl

set_option maxHeartbeats 400000 in
theorem one_any (w0 w : World) (c : Nat) (a : Option Addr) (n cap k m : Nat) (z : Nat → Int) (hz : BAt w0 a n z) (hn : n ≤ 1048576) (hk : k ≤ 1000000000) (h : Cu w0 w c a n cap k) (hm : 1 ≤ m ∧ m ≤ 200) :
    Calls Tryz.prog 12 #[.pointer (some ⟨c, 0, none⟩), .int .i64 (m : Int)] w fun e w' => ∃ b : Bool, e = .returned (.bool b) ∧ Cu w0 w' c a n cap (k + 1) ∧ w.grownBy w' (some c) := by
  have HN := hide (pick_any w0 w c a n cap k m z hz hn hk h hm)
  clear hz h
  go_enter Tryz.func12, Tryz.ntmps12
  go_wp2_with fail
  refine (unhide HN).mono ?_
  rintro e w1 ⟨x, rfl, hx, hcu, hgb⟩
  have HCU := hide hcu
  have HGB := hide hgb
  clear hcu hgb
  go_wp2
  go_ret
  exact ⟨_, rfl, unhide HCU, unhide HGB⟩

end Cur
end Go.Proofs.YtkdcofmpbmiloaaGreatDoor
/-
  The model's cursor l1Cur: of. Only bounds of what is drawn are told.
-/
namespace Go.Proofs.YtkdcofmpbmiloaaGreatDoor
namespace Cur
open Go.RowKit Base Marks
set_option linter.unusedVariables false

set_option maxHeartbeats 400000 in
theorem of_any (w0 w : World) (c : Nat) (a : Option Addr) (n cap k lb lc : Nat) (l : List ByteArray) (z : Nat → Int) (hz : BAt w0 a n z) (hn : n ≤ 1048576) (hk : k ≤ 1000000000) (h : Cu w0 w c a n cap k) (hl : 1 ≤ l.length ∧ l.length ≤ 200) (hlb : lb < w.heap.size) (hne : lb ≠ c)
    (hc : ∀ i, i < l.length → w.cell? ⟨lb, i, none⟩ = some (.string (l.getD i ByteArray.empty))) :
    Calls Tryz.prog 32 #[.pointer (some ⟨c, 0, none⟩), .slice (some ⟨lb, 0, none⟩) l.length lc] w fun e w' => ∃ i : Nat, e = .returned (.string (l.getD i ByteArray.empty)) ∧ i < l.length ∧ Cu w0 w' c a n cap (k + 1) ∧ w.grownBy w' (some c) := by
  have HN := hide (pick_any w0 w c a n cap k l.length z hz hn hk h hl)
  have HC := hide hc
  clear hz h hc
  generalize hll : l.length = m at *
  go_enter Tryz.func32, Tryz.ntmps32
  go_wp2_with fail
  refine (unhide HN).mono ?_
  rintro e w1 ⟨x, rfl, hx, hcu, hgb⟩
  have hcx := (gb_cell hgb hlb hne x).trans (unhide HC x hx)
  have hlb1 : lb < w1.heap.size := Nat.lt_of_lt_of_le hlb hgb.size
  have HCU := hide hcu
  have HGB := hide hgb
  clear hcu hgb
  have hx0 : (x : Int) < (m : Int) := by omega
  generalize hs : l.getD x ByteArray.empty = s at hcx
  have HSS := hide hs
  clear hs
  go_wp2
  go_ret
  exact ⟨x, by rw [unhide HSS]; rfl, hx, unhide HCU, unhide HGB⟩

end Cur
end Go.Proofs.YtkdcofmpbmiloaaGreatDoor
/-
  Rows of cells that the call itself has made by append: laws of my own. No Go function is spoken of here.
-/
namespace Go.Proofs.YtkdcofmpbmiloaaGreatDoor
namespace OwnR
open Go.RowKit Base Marks

section
variable {w w' : World} {base : Nat} {e : TypeId} {size : Nat} {v : Value} {n : Nat} {xs : List Value}
theorem own_below {B : Nat} (h : w.ownsRow base e size v n xs) (hb : Below B w w') (hB : w.heap.size ≤ B) : w'.ownsRow base e size v n xs := by
  refine ⟨h.1, h.2.elim Or.inl ?_⟩
  rintro ⟨g, cap, cur, hv, hg, hh, r⟩
  have hlt : g < w.heap.size := (Array.getElem?_eq_some_iff.1 hh).1
  exact Or.inr ⟨g, cap, cur, hv, hg, by rw [hb.block g (by omega)]; exact hh, r⟩
theorem own_block (h : w.ownsRow base e size v n xs) : ∀ k, v.ownBlock = some k → base ≤ k := by
  intro k hk
  rcases h.2 with ⟨rfl, _⟩ | ⟨g, cap, cur, rfl, hg, _⟩
  · simp [Value.ownBlock] at hk
  · simp [Value.ownBlock] at hk; omega
theorem own_form (h : w.ownsRow base e size v n xs) : ∃ a cap, v = .slice a n cap := by
  rcases h.2 with ⟨rfl, rfl⟩ | ⟨g, cap, cur, rfl, _⟩
  · exact ⟨none, 0, rfl⟩
  · exact ⟨_, _, rfl⟩
theorem own_le {base' : Nat} (h : w.ownsRow base e size v n xs) (hb : base' ≤ base) : w.ownsRow base' e size v n xs :=
  ⟨h.1, h.2.elim Or.inl (fun ⟨g, cap, cur, hv, hg, r⟩ => Or.inr ⟨g, cap, cur, hv, Nat.le_trans hb hg, r⟩)⟩
/-- Where it has an element it is the head of a row of its own. -/
theorem own_some (h : w.ownsRow base e size v n xs) (hn : 0 < n) : ∃ g cap, v = .slice (some ⟨g, 0, none⟩) n cap ∧ base ≤ g ∧ n ≤ cap ∧ g < w.heap.size := by
  rcases h.2 with ⟨_, h0⟩ | ⟨g, cap, cur, hv, hg, hh, hc, _⟩
  · omega
  · exact ⟨g, cap, hv, hg, hc, (Array.getElem?_eq_some_iff.1 hh).1⟩
end
end OwnR
end Go.Proofs.YtkdcofmpbmiloaaGreatDoor
/-
  Rows of numbers, in memory and by append. No Go function is spoken of here.
-/
namespace Go.Proofs.YtkdcofmpbmiloaaGreatDoor
namespace Ints
open Go.RowKit Base OwnR
set_option linter.unusedVariables false
def ncell (l : List Int) (i : Nat) : Value := .int .i64 (l.getD i 0)


/-- A slice of numbers that lies in memory. -/
def NAt (w : World) (a : Option Addr) (l : List Int) : Prop := l ≠ [] → ∃ b off, a = some ⟨b, off, none⟩ ∧ b < w.heap.size ∧ ∀ i, i < l.length → w.cell? ⟨b, off + i, none⟩ = some (.int .i64 (l.getD i 0))
theorem info_ex : ∃ i, Tryz.prog.info? 3 = some i ∧ i.zero = some (.int .i64 0) ∧ i.size = 1 ∧ i.bytes = 8 := by
  have h : (Tryz.prog.info? 3).map (fun i => (i.zero, i.size, i.bytes)) = some (some (.int .i64 0), 1, 8) := by kernel_rfl
  obtain ⟨i, hi, hz⟩ := Option.map_eq_some_iff.1 h
  simp only [Prod.mk.injEq] at hz
  exact ⟨i, hi, hz.1, hz.2.1, hz.2.2⟩
theorem info : (Tryz.prog.info? 3).map (fun i => (i.zero, i.size, i.bytes)) = some (some (.int .i64 0), 1, 8) := by kernel_rfl
def cells (l : List Int) : List Value := l.map (Value.int .i64)
theorem cells_len (l : List Int) : (cells l).length = l.length := by simp [cells]
theorem cells_get (l : List Int) (i : Nat) (hi : i < l.length) : (cells l)[i]? = some (ncell l i) := by
  simp [cells, ncell, List.getD_eq_getElem?_getD, List.getElem?_eq_getElem hi]
theorem own_snoc {w : World} {base : Nat} {v : Value} {kept kept' : List Int} {x : Int} (h : w.ownsRow base 3 1 v (kept.length + 1) (cells kept ++ [.int .i64 x])) (e : kept' = kept ++ [x]) : w.ownsRow base 3 1 v kept'.length (cells kept') := by
  rw [e, List.length_append]
  have : cells (kept ++ [x]) = cells kept ++ [.int .i64 x] := by simp [cells]
  rw [this]
  exact h
theorem news_one (x : Int) (u : Value) (hu : u ∈ [Value.int .i64 x]) : u.oneCell' = true := by
  simp at hu; rw [hu]; rfl
theorem news_cells (w : World) (x : Int) (t : TypeId) (j : Nat) (u : Value) (hj : [Value.int .i64 x][j]? = some u) :
    (w.alloc (.cells #[.int .i64 x] t)).cell? ((⟨w.heap.size, 0, none⟩ : Addr).add j) = some u := by
  rw [Go.WideShapes.add_plain, Nat.zero_add, World.cell?_alloc_new]
  show [Value.int .i64 x].toArray[j]? = some u
  simpa using hj
end Ints
end Go.Proofs.YtkdcofmpbmiloaaGreatDoor
/-
  Rows of texts by append; rows of numbers and texts that a call has made, as slices that lie. No Go function is spoken of here.
-/
namespace Go.Proofs.YtkdcofmpbmiloaaGreatDoor
namespace StrN
open Go.RowKit Base OwnR Marks
set_option linter.unusedVariables false

theorem info_ex : ∃ i, Tryz.prog.info? 9 = some i ∧ i.zero = some (.string ByteArray.empty) ∧ i.size = 1 ∧ i.bytes = 16 := by
  have h : (Tryz.prog.info? 9).map (fun i => (i.zero, i.size, i.bytes)) = some (some (.string ByteArray.empty), 1, 16) := by kernel_rfl
  obtain ⟨i, hi, hz⟩ := Option.map_eq_some_iff.1 h
  simp only [Prod.mk.injEq] at hz
  exact ⟨i, hi, hz.1, hz.2.1, hz.2.2⟩
def cells (l : List ByteArray) : List Value := l.map Value.string
theorem cells_get (l : List ByteArray) (i : Nat) (hi : i < l.length) : (cells l)[i]? = some (.string (l.getD i ByteArray.empty)) := by
  simp [cells, List.getD_eq_getElem?_getD, List.getElem?_eq_getElem hi]
def OwnT (w : World) (B : Nat) (v : Value) (l : List ByteArray) : Prop := w.ownsRow B 9 1 v l.length (cells l)
theorem own_snoc {w : World} {base : Nat} {v : Value} {kept : List ByteArray} {x : ByteArray} (h : w.ownsRow base 9 1 v (kept.length + 1) (cells kept ++ [.string x])) : OwnT w base v (kept ++ [x]) := by
  unfold OwnT
  rw [List.length_append]
  have : cells (kept ++ [x]) = cells kept ++ [.string x] := by simp [cells]
  rw [this]
  exact h
theorem news_one (x : ByteArray) (u : Value) (hu : u ∈ [Value.string x]) : u.oneCell' = true := by
  simp at hu; rw [hu]; rfl
theorem news_cells (w : World) (x : ByteArray) (t : TypeId) (j : Nat) (u : Value) (hj : [Value.string x][j]? = some u) :
    (w.alloc (.cells #[.string x] t)).cell? ((⟨w.heap.size, 0, none⟩ : Addr).add j) = some u := by
  rw [Go.WideShapes.add_plain, Nat.zero_add, World.cell?_alloc_new]
  show [Value.string x].toArray[j]? = some u
  simpa using hj
/-- It stands while only an elder block turns. -/
theorem own_gb {w w' : World} {base : Nat} {e : TypeId} {size : Nat} {v : Value} {n : Nat} {xs : List Value} {c : Nat} (h : w.ownsRow base e size v n xs) (hg : w.grownBy w' (some c)) (hc : c < base) : w'.ownsRow base e size v n xs := by
  refine ⟨h.1, h.2.elim Or.inl ?_⟩
  rintro ⟨g, cap, cur, hv, hgB, hh, rest⟩
  exact Or.inr ⟨g, cap, cur, hv, hgB, by rw [hg.block g (Array.getElem?_eq_some_iff.1 hh).1 (fun e => by simp at e; omega)]; exact hh, rest⟩
theorem gb_own {w0 w w' : World} {c : Nat} {r : Option Nat} (h : w0.grownBy w (some c)) (hg : w.grownBy w' r) (hr : ∀ k, r = some k → w0.heap.size ≤ k) : w0.grownBy w' (some c) :=
  ⟨hg.os.trans h.os, hg.tape.trans h.tape, hg.output.trans h.output, Nat.le_trans h.size hg.size, fun i hi hne => (hg.block i (Nat.lt_of_lt_of_le hi h.size) (fun e => by have := hr i e.symm; omega)).trans (h.block i hi hne)⟩
theorem own_strs {w : World} {B : Nat} {a : Option Addr} {c : Nat} {l : List ByteArray} (h : OwnT w B (.slice a l.length c) l) : StrsAt w a l ∧ ∀ b off, a = some ⟨b, off, none⟩ → b < w.heap.size := by
  rcases h.2 with ⟨hv, h0⟩ | ⟨g, cap', cur, hv, hg, hh, hn, _, hsz, ht⟩
  · simp only [Value.slice.injEq] at hv
    exact ⟨fun hne => absurd (List.length_eq_zero_iff.1 h0) hne, fun b off e => by rw [hv.1] at e; simp at e⟩
  · simp only [Value.slice.injEq] at hv
    have hlt : g < w.heap.size := (Array.getElem?_eq_some_iff.1 hh).1
    refine ⟨fun _ => ⟨g, 0, hv.1, hlt, fun i hi => ?_⟩, fun b off e => by rw [hv.1] at e; simp at e; omega⟩
    rw [Nat.zero_add]
    have e : cur[i]? = (cells l)[i]? := by rw [← ht, List.getElem?_take_of_lt (by omega)]; simp
    simp only [World.cell?, hh, e, cells_get l i hi]
    simp
theorem own_nums {w : World} {B : Nat} {a : Option Addr} {c : Nat} {l : List Int} (h : w.ownsRow B 3 1 (.slice a l.length c) l.length (Ints.cells l)) : Ints.NAt w a l ∧ ∀ b off, a = some ⟨b, off, none⟩ → b < w.heap.size := by
  rcases h.2 with ⟨hv, h0⟩ | ⟨g, cap', cur, hv, hg, hh, hn, _, hsz, ht⟩
  · simp only [Value.slice.injEq] at hv
    exact ⟨fun hne => absurd (List.length_eq_zero_iff.1 h0) hne, fun b off e => by rw [hv.1] at e; simp at e⟩
  · simp only [Value.slice.injEq] at hv
    have hlt : g < w.heap.size := (Array.getElem?_eq_some_iff.1 hh).1
    refine ⟨fun _ => ⟨g, 0, hv.1, hlt, fun i hi => ?_⟩, fun b off e => by rw [hv.1] at e; simp at e; omega⟩
    rw [Nat.zero_add]
    have e : cur[i]? = (Ints.cells l)[i]? := by rw [← ht, List.getElem?_take_of_lt (by omega)]; simp
    simp only [World.cell?, hh, e, Ints.cells_get l i hi]
    simp [Ints.ncell]
end StrN
end Go.Proofs.YtkdcofmpbmiloaaGreatDoor
/-
  The model's cursor l1Cur: key. Only its length is told.
-/
namespace Go.Proofs.YtkdcofmpbmiloaaGreatDoor
namespace Cur
open Go.RowKit Base Marks
set_option linter.unusedVariables false

def five : List ByteArray := [⟨#[]⟩, ⟨#[97, 32, 98]⟩, ⟨#[195, 169]⟩, ⟨#[49, 50, 51, 52, 53, 54, 55, 56, 57, 48, 49, 50, 51, 52, 53, 54, 55, 56, 57, 48, 49, 50, 51, 52, 53, 54, 55, 56, 57, 48, 49]⟩, ⟨#[49, 50, 51, 52, 53, 54, 55, 56, 57, 48, 49, 50, 51, 52, 53, 54, 55, 56, 57, 48, 49, 50, 51, 52, 53, 54, 55, 56, 57, 48]⟩]
def six : List ByteArray := [⟨#[97]⟩, ⟨#[98]⟩, ⟨#[107, 101, 121, 49]⟩, ⟨#[107, 101, 121, 50]⟩, ⟨#[120, 58, 57]⟩, ⟨#[108, 111, 110, 103, 101, 114, 45, 107, 101, 121, 45, 110, 97, 109, 101]⟩]
theorem five_size (i : Nat) (h : i < 5) : (five.getD i ByteArray.empty).size ≤ 31 := by
  obtain rfl | rfl | rfl | rfl | rfl : i = 0 ∨ i = 1 ∨ i = 2 ∨ i = 3 ∨ i = 4 := by omega
  all_goals decide
theorem six_size (i : Nat) (h : i < 6) : (six.getD i ByteArray.empty).size ≤ 31 := by
  obtain rfl | rfl | rfl | rfl | rfl | rfl : i = 0 ∨ i = 1 ∨ i = 2 ∨ i = 3 ∨ i = 4 ∨ i = 5 := by omega
  all_goals decide
theorem cells5 (w : World) (t : TypeId) (i : Nat) (h : i < 5) : (w.alloc (.cells (five.map (fun s => Value.string s)).toArray t)).cell? ⟨w.heap.size, i, none⟩ = some (.string (five.getD i ByteArray.empty)) := by
  rw [World.cell?_alloc_new]
  obtain rfl | rfl | rfl | rfl | rfl : i = 0 ∨ i = 1 ∨ i = 2 ∨ i = 3 ∨ i = 4 := by omega
  all_goals rfl
theorem cells6 (w : World) (t : TypeId) (i : Nat) (h : i < 6) : (w.alloc (.cells (six.map (fun s => Value.string s)).toArray t)).cell? ⟨w.heap.size, i, none⟩ = some (.string (six.getD i ByteArray.empty)) := by
  rw [World.cell?_alloc_new]
  obtain rfl | rfl | rfl | rfl | rfl | rfl : i = 0 ∨ i = 1 ∨ i = 2 ∨ i = 3 ∨ i = 4 ∨ i = 5 := by omega
  all_goals rfl

set_option maxRecDepth 10000 in
set_option maxHeartbeats 1000000 in
theorem key_any (w0 w : World) (c : Nat) (a : Option Addr) (n cap k : Nat) (z : Nat → Int) (hz : BAt w0 a n z) (hn : n ≤ 1048576) (hk : k ≤ 1000000) (h : Cu w0 w c a n cap k) :
    Calls Tryz.prog 31 #[.pointer (some ⟨c, 0, none⟩)] w fun e w' => ∃ s : ByteArray, e = .returned (.string s) ∧ s.size ≤ 31 ∧ Cu w0 w' c a n cap (k + 2) ∧ w.grownBy w' (some c) := by
  have HO := hide (one_any w0 w c a n cap k 40 z hz hn (by omega) h (by omega))
  have H5 := hide (fun w' lb h h1 h2 hc => of_any w0 w' c a n cap (k + 1) lb 5 five z hz hn (by omega) h (by decide) h1 h2 hc)
  have H6 := hide (fun w' lb h h1 h2 hc => of_any w0 w' c a n cap (k + 1) lb 6 six z hz hn (by omega) h (by decide) h1 h2 hc)
  clear hz h
  go_enter Tryz.func31, Tryz.ntmps31
  go_wp2_with fail
  refine (unhide HO).mono ?_
  rintro e w1 ⟨b, rfl, hcu, hg⟩
  have C1 := hide hcu
  have G1 := hide hg
  have hlt := hcu.lt
  clear hcu hg
  cases b
  · go_wp2_with fail
    refine (unhide H6 _ w1.heap.size ((unhide C1).alloc _) (by simp) (by omega) (fun i hi => cells6 w1 _ i hi)).mono ?_
    rintro e w2 ⟨i, rfl, hi, hcu, hg⟩
    have hs := six_size i hi
    have C2 := hide hcu
    have G2 := hide (gb_trans (gb_trans (unhide G1) (gb_below (r := some c) (bel1 w1 _) (Nat.le_refl _))) hg)
    clear hcu hg hi
    generalize six.getD i ByteArray.empty = s at hs ⊢
    go_wp2
    go_ret
    exact ⟨s, rfl, hs, unhide C2, unhide G2⟩
  · go_wp2_with fail
    refine (unhide H5 _ w1.heap.size ((unhide C1).alloc _) (by simp) (by omega) (fun i hi => cells5 w1 _ i hi)).mono ?_
    rintro e w2 ⟨i, rfl, hi, hcu, hg⟩
    have hs := five_size i hi
    have C2 := hide hcu
    have G2 := hide (gb_trans (gb_trans (unhide G1) (gb_below (r := some c) (bel1 w1 _) (Nat.le_refl _))) hg)
    clear hcu hg hi
    generalize five.getD i ByteArray.empty = s at hs ⊢
    go_wp2
    go_ret
    exact ⟨s, rfl, hs, unhide C2, unhide G2⟩
end Cur
end Go.Proofs.YtkdcofmpbmiloaaGreatDoor
/-
  The model's cursor l1Cur: keys. Only bounds of what is drawn are told.
-/
namespace Go.Proofs.YtkdcofmpbmiloaaGreatDoor
namespace Cur
open Go.RowKit Base Marks OwnR NumText
set_option linter.unusedVariables false

theorem Cu.gbN {w0 w w' : World} {c : Nat} {a : Option Addr} {n cap k : Nat} {r : Option Nat} (h : Cu w0 w c a n cap k) (hg : w.grownBy w' r) (hr : ∀ g, r = some g → c < g) : Cu w0 w' c a n cap k := by
  obtain ⟨⟨q, sd, c0, c1, c2, hq⟩, fz, hlt, hlo, hbel⟩ := h
  have hne : some c ≠ r := fun e => by have := hr c e.symm; omega
  have e := hg.block c hlt hne
  have ec : ∀ o, w'.cell? ⟨c, o, none⟩ = w.cell? ⟨c, o, none⟩ := fun o => World.cell?_of_block (a := ⟨c, o, none⟩) e
  refine ⟨⟨q, sd, (ec _).trans c0, (ec _).trans c1, (ec _).trans c2, hq⟩, fun o => (World.frozen?_of_block (w := w) (a := ⟨c, o, none⟩) e).trans (fz o), Nat.lt_of_lt_of_le hlt hg.size, hlo, hbel.grown hg (Nat.le_trans hlo (Nat.le_of_lt hlt)) (fun g e => by have := hr g e; omega)⟩
def lenV : Value → Nat
  | .slice _ n _ => n
  | _ => 0
def digs : List ByteArray := [⟨#[]⟩, ⟨#[49]⟩, ⟨#[50]⟩, ⟨#[51]⟩, ⟨#[52]⟩]
theorem digs_size (i : Nat) (h : i < 5) : (digs.getD i ByteArray.empty).size ≤ 1 := by
  obtain rfl | rfl | rfl | rfl | rfl : i = 0 ∨ i = 1 ∨ i = 2 ∨ i = 3 ∨ i = 4 := by omega
  all_goals decide
theorem cellsD (w : World) (t : TypeId) (i : Nat) (h : i < 5) : (w.alloc (.cells (digs.map (fun s => Value.string s)).toArray t)).cell? ⟨w.heap.size, i, none⟩ = some (.string (digs.getD i ByteArray.empty)) := by
  rw [World.cell?_alloc_new]
  obtain rfl | rfl | rfl | rfl | rfl : i = 0 ∨ i = 1 ∨ i = 2 ∨ i = 3 ∨ i = 4 := by omega
  all_goals rfl
theorem txt_small (n : Nat) (h : n < 18446744073709551616) : (txt n).size ≤ 20 := by
  have h1 := Lib.nDigits_le20 n h
  have e : (txt n).size = Lib.nDigits n := by
    show (Lib.decDigits n).toArray.size = _
    rw [Lib.decDigits_eq]; simp
  omega
theorem snocS {l : List ByteArray} {s : ByteArray} (h : ∀ x ∈ l, x.size ≤ 100) (hs : s.size ≤ 100) : ∀ x ∈ l ++ [s], x.size ≤ 100 := fun x hx => by
  rcases List.mem_append.1 hx with hx | hx
  · exact h x hx
  · rw [List.mem_singleton.1 hx]; exact hs
/-- What is drawn. -/
def KeysDrawn (w0 w : World) (c : Nat) (a : Option Addr) (n cap k : Nat) (e : Ending) (w' : World) : Prop :=
  ∃ (ts : List ByteArray) (b : Option Addr) (cb : Nat), e = .returned (.slice b ts.length cb) ∧ ts.length ≤ 61 ∧ (∀ x ∈ ts, x.size ≤ 100) ∧ StrN.OwnT w' w.heap.size (.slice b ts.length cb) ts ∧ Cu w0 w' c a n cap (k + 200) ∧ w.grownBy w' (some c)

end Cur
end Go.Proofs.YtkdcofmpbmiloaaGreatDoor
/-
  What the model draws: bytes, values.
-/
namespace Go.Proofs.YtkdcofmpbmiloaaGreatDoor
namespace Cur
open Go.RowKit Base OwnR Marks
set_option linter.unusedVariables false

theorem info_u8 : ∃ i, Tryz.prog.info? 5 = some i ∧ i.zero = some (.int .u8 0) ∧ i.size = 1 ∧ i.bytes = 1 := by
  have h : (Tryz.prog.info? 5).map (fun i => (i.zero, i.size, i.bytes)) = some (some (.int .u8 0), 1, 1) := by kernel_rfl
  obtain ⟨i, hi, hz⟩ := Option.map_eq_some_iff.1 h
  simp only [Prod.mk.injEq] at hz
  exact ⟨i, hi, hz.1, hz.2.1, hz.2.2⟩
theorem infoU : (Tryz.prog.info? 5).map (fun i => (i.zero, i.size, i.bytes)) = some (some (.int .u8 0), 1, 1) := by kernel_rfl
def bcells (l : List Int) : List Value := l.map (Value.int .u8)
theorem bnews_one (x : Int) (u : Value) (hu : u ∈ [Value.int .u8 x]) : u.oneCell' = true := by
  simp at hu; rw [hu]; rfl
theorem bnews_cells (w : World) (x : Int) (t : TypeId) (j : Nat) (u : Value) (hj : [Value.int .u8 x][j]? = some u) :
    (w.alloc (.cells #[.int .u8 x] t)).cell? ((⟨w.heap.size, 0, none⟩ : Addr).add j) = some u := by
  rw [Go.WideShapes.add_plain, Nat.zero_add, World.cell?_alloc_new]
  show [Value.int .u8 x].toArray[j]? = some u
  simpa using hj
theorem bown_snoc {w : World} {base : Nat} {v : Value} {l : List Int} {x : Int} (h : w.ownsRow base 5 1 v (l.length + 1) (bcells l ++ [.int .u8 x])) : w.ownsRow base 5 1 v (l ++ [x]).length (bcells (l ++ [x])) := by
  rw [List.length_append]
  have : bcells (l ++ [x]) = bcells l ++ [.int .u8 x] := by simp [bcells]
  rw [this]
  exact h
/-- What is drawn. -/
def BytesDrawn (w0 w : World) (c : Nat) (a : Option Addr) (n cap k : Nat) (e : Ending) (w' : World) : Prop :=
  ∃ (l : List Int) (b : Option Addr) (cb : Nat), e = .returned (.slice b l.length cb) ∧ l.length ≤ 5 ∧ w'.ownsRow w.heap.size 5 1 (.slice b l.length cb) l.length (bcells l) ∧ Cu w0 w' c a n cap (k + 7) ∧ w.grownBy w' (some c)

set_option maxRecDepth 10000 in
set_option maxHeartbeats 4000000 in
theorem bytes_any (w0 w : World) (c : Nat) (a : Option Addr) (n cap k : Nat) (z : Nat → Int) (hz : BAt w0 a n z) (hn : n ≤ 1048576) (hk : k ≤ 1000000) (h : Cu w0 w c a n cap k) :
    Calls Tryz.prog 57 #[.pointer (some ⟨c, 0, none⟩), .int .i64 5] w (BytesDrawn w0 w c a n cap k) := by
  have HP := hide (pick_any w0 w c a n cap k 6 z hz hn (by omega) h (by omega))
  have HX := hide (fun k (hk : k ≤ 2000000) w' h => next_any w0 w' c a n cap k z hz hn (by omega) h)
  obtain ⟨i0, hi, hz0, hz1, hz2⟩ := info_u8
  have HI := hide hi
  have HZ0 := hide hz0
  have HZ1 := hide hz1
  have HZ2 := hide hz2
  have hcw := h.lt
  clear hz hi hz0 hz1 hz2 h
  go_enter Tryz.func57, Tryz.ntmps57
  go_wp2_with fail
  refine (unhide HP).mono ?_
  rintro e w1 ⟨r1, rfl, hr1, hcu, hg⟩
  have C1 := hide hcu
  have G1 := hide hg
  clear hcu hg
  go_wp2
  go_loopw [5, 6] (fun lv jv wr => ∃ (j : Nat) (l : List Int) (v : Value), j + l.length ≤ 5 ∧ v = lv ∧ jv = .int .i64 j ∧ Hid (wr.ownsRow w.heap.size 5 1 v l.length (bcells l)) ∧ Hid (Cu w0 wr c a n cap (k + 1 + l.length)) ∧ Hid (w.grownBy wr (some c))) (fun _ jv _ => (intOf jv).toNat)
  case atStart => exact ⟨r1, [], _, by simp; omega, rfl, rfl, hide (World.ownsRow_nil _ _ _ _), C1, G1⟩
  case round =>
    obtain ⟨j, l, v, hj, hv, rfl, O2, C2, G2⟩ := hrel
    subst hv
    clear C1 G1
    have hzw := (unhide G2).size
    by_cases hjp : 0 < j
    · obtain ⟨j', rfl⟩ : ∃ j', j = j' + 1 := ⟨j - 1, by omega⟩
      have hjp' : (0 : Int) < ((j' + 1 : Nat) : Int) := by omega
      go_wp2_with fail
      refine (unhide HX (k + 1 + l.length) (by omega) _ (unhide C2)).mono ?_
      rintro e w3 ⟨r, rfl, hr, hcu, hg⟩
      have O3 := hide (StrN.own_gb (unhide O2) hg hcw)
      have C3 := hide hcu
      have G3 := hide (gb_trans (unhide G2) hg)
      have z3 := hcu.lt
      have zw3 := (unhide G3).size
      clear hcu hg O2 C2 G2
      go_wp2_with (at_builtin; go_loud (refine wpList_append_own _ rfl _ _ 22 rfl w.heap.size 5 i0 _ 1 1 Tryz.underlying22 (unhide HI) (unhide HZ0) (unhide HZ1) (unhide HZ2) rfl (by decide) _ _ _ rfl ((unhide O3).alloc _) ⟨w3.heap.size, 0, none⟩ 1 1 [.int .u8 (r : Int)] rfl rfl ?c1 ?c2 ?c3 ?c4 ?c5 ?_))
      case c1 => exact bnews_cells w3 (r : Int) _
      case c2 => exact bnews_one (r : Int)
      case c3 => unfold maxLen; omega
      case c4 => omega
      case c5 => simp; omega
      intro v' w5 hown' hgrow _
      have O5 := hide (bown_snoc hown')
      have C5 := hide (((unhide C3).alloc _).gbN hgrow (fun g e => by have := own_block (unhide O3) g e; omega))
      have G5 := hide (StrN.gb_own (gb_trans (unhide G3) (gb_below (r := some c) (bel1 w3 _) (Nat.le_refl _))) hgrow (fun g e => own_block (unhide O3) g e))
      clear hown' hgrow
      go_wp2
      go_roundw
      case rel => exact ⟨j', _, _, by rw [List.length_append, List.length_singleton]; omega, rfl, by first | rfl | go_num, O5, by rw [List.length_append, List.length_singleton, ← Nat.add_assoc]; exact C5, G5⟩
      case measure => simp [intOf]
    · obtain rfl : j = 0 := by omega
      obtain ⟨b2, cb2, hvs⟩ := own_form (unhide O2)
      subst hvs
      have HD : Hid (BytesDrawn w0 w c a n cap k (.returned (.slice b2 l.length cb2)) wr) := ⟨l, b2, cb2, rfl, by omega, unhide O2, (unhide C2).le (by omega), unhide G2⟩
      go_wp2
      go_ret
      exact unhide HD
/-- Bytes that were drawn, as a text. -/
theorem conv_own {w : World} {base : Nat} {b : Option Addr} {l : List Int} {cb : Nat} (h : w.ownsRow base 5 1 (.slice b l.length cb) l.length (bcells l)) : ∃ s : ByteArray, s.size ≤ l.length ∧ ∀ w', (∀ g o, b = some ⟨g, o, none⟩ → w'.heap[g]? = w.heap[g]?) → (convert 22 9 (.slice b l.length cb)).run Tryz.prog w' = .ok (.string s) w' := by
  cases b with
  | none => exact ⟨ByteArray.empty, Nat.zero_le _, fun w' _ => run_convert_bytes_nil w' _ _ Tryz.underlying22 Tryz.underlying5 _ _ _ Tryz.underlying9⟩
  | some p =>
    refine ⟨strOfNums l, by rw [strOfNums_size]; exact Nat.le_refl _, fun w' hw => ?_⟩
    have h0 := h
    rcases h0.2 with ⟨hv, _⟩ | ⟨g, cap, cur, hv, hB, hh, hr⟩
    · simp at hv
    · simp only [Value.slice.injEq, Option.some.injEq] at hv
      obtain ⟨rfl, _, rfl⟩ := hv
      refine run_convert_bytes_arg w' _ _ Tryz.underlying22 Tryz.underlying5 g 0 l.length cb l rfl (fun i hi => ?_) _ Tryz.underlying9
      obtain ⟨g', cap', hv', _, hrow⟩ := Keep.Row.of_owns h (by omega)
      simp only [Value.slice.injEq, Option.some.injEq, Addr.mk.injEq, and_true] at hv'
      obtain ⟨rfl, _⟩ := hv'
      rw [Nat.zero_add]
      exact (hrow.of_block (hw g 0 rfl)).cell (by simp [bcells, List.getD_eq_getElem?_getD, List.getElem?_eq_getElem hi])
def vals (s : ByteArray) : List ByteArray := [⟨#[]⟩, ⟨#[49]⟩, ⟨#[118]⟩, ⟨#[49, 48]⟩, ⟨#[57, 57, 57, 57, 57, 57, 57, 57, 57, 57, 57, 57, 57, 57, 57, 57, 57, 57]⟩, ⟨#[118, 97, 108, 117, 101, 32, 116, 119, 111]⟩, ⟨#[13, 10]⟩, s]
theorem vals_size (s : ByteArray) (hs : s.size ≤ 5) (i : Nat) (h : i < 8) : ((vals s).getD i ByteArray.empty).size ≤ 101 := by
  obtain rfl | rfl | rfl | rfl | rfl | rfl | rfl | rfl : i = 0 ∨ i = 1 ∨ i = 2 ∨ i = 3 ∨ i = 4 ∨ i = 5 ∨ i = 6 ∨ i = 7 := by omega
  · exact Nat.zero_le _
  · exact (by decide : (⟨#[49]⟩ : ByteArray).size ≤ 101)
  · exact (by decide : (⟨#[118]⟩ : ByteArray).size ≤ 101)
  · exact (by decide : (⟨#[49, 48]⟩ : ByteArray).size ≤ 101)
  · exact (by decide : (⟨#[57, 57, 57, 57, 57, 57, 57, 57, 57, 57, 57, 57, 57, 57, 57, 57, 57, 57]⟩ : ByteArray).size ≤ 101)
  · exact (by decide : (⟨#[118, 97, 108, 117, 101, 32, 116, 119, 111]⟩ : ByteArray).size ≤ 101)
  · exact (by decide : (⟨#[13, 10]⟩ : ByteArray).size ≤ 101)
  · show s.size ≤ 101
    omega
theorem cells8 (w : World) (t : TypeId) (s : ByteArray) (i : Nat) (h : i < 8) : (w.alloc (.cells ((vals s).map (fun s => Value.string s)).toArray t)).cell? ⟨w.heap.size, i, none⟩ = some (.string ((vals s).getD i ByteArray.empty)) := by
  rw [World.cell?_alloc_new]
  obtain rfl | rfl | rfl | rfl | rfl | rfl | rfl | rfl : i = 0 ∨ i = 1 ∨ i = 2 ∨ i = 3 ∨ i = 4 ∨ i = 5 ∨ i = 6 ∨ i = 7 := by omega
  all_goals rfl
theorem conv_zero (n : Nat) (w : World) : (convert 22 9 (.slice (some ⟨w.heap.size, 0, none⟩) n n)).run Tryz.prog (w.alloc (.cells (madeCells #[.int .u8 0] n) 5)) = .ok (.string (strOfNums (List.replicate n 0))) (w.alloc (.cells (madeCells #[.int .u8 0] n) 5)) := by
  refine run_convert_bytes_arg _ _ _ Tryz.underlying22 Tryz.underlying5 w.heap.size 0 n n (List.replicate n 0) (by simp) (fun i hi => ?_) _ Tryz.underlying9
  rw [Nat.zero_add]
  have h := (World.rowIs_made w (.int .u8 0) n 5).cell (i := i) hi
  rw [h]
  simp [List.getD_eq_getElem?_getD, hi]

set_option maxRecDepth 10000 in
set_option maxHeartbeats 2000000 in
theorem value_any (w0 w : World) (c : Nat) (a : Option Addr) (n cap k : Nat) (z : Nat → Int) (hz : BAt w0 a n z) (hn : n ≤ 1048576) (hk : k ≤ 100000) (h : Cu w0 w c a n cap k) :
    Calls Tryz.prog 35 #[.pointer (some ⟨c, 0, none⟩)] w fun e w' => ∃ s : ByteArray, e = .returned (.string s) ∧ s.size ≤ 101 ∧ Cu w0 w' c a n cap (k + 10) ∧ w.grownBy w' (some c) := by
  have HO := hide (one_any w0 w c a n cap k 30 z hz hn (by omega) h (by omega))
  have HP := hide (fun w' h' => pick_any w0 w' c a n cap (k + 1) 2 z hz hn (by omega) h' (by omega))
  have HB := hide (fun w' h' => bytes_any w0 w' c a n cap (k + 1) z hz hn (by omega) h')
  have HF := hide (fun w' lb s h h1 h2 hc => of_any w0 w' c a n cap (k + 1 + 7) lb 8 (vals s) z hz hn (by omega) h (by simp [vals]) h1 h2 hc)
  have hm0 : ∀ w, (Instr.makeSlice 22 (.int .i64 100) (.int .i64 100)).run Tryz.prog w = .ok (.slice (some ⟨w.heap.size, 0, none⟩) 100 100) (w.alloc (.cells (madeCells #[.int .u8 0] 100) 5)) :=
    fun w => run_make_rows (P := Tryz.prog) 22 5 _ 1 1 Tryz.underlying22 infoU .i64 .i64 100 (by omega) (by omega) w
  have hm1 : ∀ w, (Instr.makeSlice 22 (.int .i64 101) (.int .i64 101)).run Tryz.prog w = .ok (.slice (some ⟨w.heap.size, 0, none⟩) 101 101) (w.alloc (.cells (madeCells #[.int .u8 0] 101) 5)) :=
    fun w => run_make_rows (P := Tryz.prog) 22 5 _ 1 1 Tryz.underlying22 infoU .i64 .i64 101 (by omega) (by omega) w
  have hc0 := conv_zero 100
  have hc1 := conv_zero 101
  have hcw := h.lt
  clear hz h
  have hs0 : (strOfNums (List.replicate 100 0)).size ≤ 101 := by rw [strOfNums_size]; simp
  have hs1 : (strOfNums (List.replicate 101 0)).size ≤ 101 := by rw [strOfNums_size]; simp
  generalize strOfNums (List.replicate 100 0) = S0 at hc0 hs0
  generalize strOfNums (List.replicate 101 0) = S1 at hc1 hs1
  go_enter Tryz.func35, Tryz.ntmps35
  go_wp2_with fail
  refine (unhide HO).mono ?_
  rintro e w1 ⟨b, rfl, hcu, hg⟩
  have C1 := hide hcu
  have G1 := hide hg
  have hlt := hcu.lt
  clear hcu hg
  cases b
  · go_wp2_with fail
    refine (unhide HB _ (unhide C1)).mono ?_
    rintro e w2 ⟨l, b, cb, rfl, hl, hown, hcu, hg⟩
    obtain ⟨s, hs, hcv⟩ := conv_own hown
    have hcv2 := hcv w2 (fun _ _ _ => rfl)
    have C2 := hide hcu
    have hlt2 := hcu.lt
    have G2 := hide (gb_trans (unhide G1) hg)
    clear hcu hg hown hcv hm0 hm1 hc0 hc1
    have hs5 : s.size ≤ 5 := by omega
    have HF2 := hide (unhide HF (w2.alloc (.cells ((vals s).map (fun s => Value.string s)).toArray 9)) w2.heap.size s ((unhide C2).alloc _) (by simp) (by omega) (fun i hi => cells8 w2 _ s i hi))
    go_wp2_with fail
    refine (unhide HF2).mono ?_
    rintro e w3 ⟨i, rfl, hi, hcu, hg⟩
    have hsz := vals_size s hs5 i hi
    have C3 := hide hcu
    have G3 := hide (gb_trans (gb_trans (unhide G2) (gb_below (r := some c) (bel1 w2 _) (Nat.le_refl _))) hg)
    clear hcu hg hi HF2
    generalize (vals s).getD i ByteArray.empty = t at hsz ⊢
    go_wp2
    go_ret
    exact ⟨t, rfl, hsz, (unhide C3).le (by omega), unhide G3⟩
  · go_wp2_with fail
    refine (unhide HP _ (unhide C1)).mono ?_
    rintro e w2 ⟨r, rfl, hr, hcu, hg⟩
    have C2 := hide hcu
    have G2 := hide (gb_trans (unhide G1) hg)
    clear hcu hg
    obtain rfl | rfl : r = 0 ∨ r = 1 := by omega
    · have hcv := hc0 w2
      go_wp2
      go_ret
      exact ⟨S0, rfl, hs0, ((unhide C2).alloc _).le (by omega), gb_trans (unhide G2) (gb_below (r := some c) (bel1 w2 _) (Nat.le_refl _))⟩
    · have hcv := hc1 w2
      go_wp2
      go_ret
      exact ⟨S1, rfl, hs1, ((unhide C2).alloc _).le (by omega), gb_trans (unhide G2) (gb_below (r := some c) (bel1 w2 _) (Nat.le_refl _))⟩
end Cur
end Go.Proofs.YtkdcofmpbmiloaaGreatDoor
/-
  The model's cursor l1Cur: among. Only bounds of what is drawn are told.
-/
namespace Go.Proofs.YtkdcofmpbmiloaaGreatDoor
namespace Cur
open Go.RowKit Base Marks
set_option linter.unusedVariables false

set_option maxHeartbeats 400000 in
theorem among_any (w0 w : World) (c : Nat) (a : Option Addr) (n cap k lb lc : Nat) (l : List Int) (z : Nat → Int) (hz : BAt w0 a n z) (hn : n ≤ 1048576) (hk : k ≤ 1000000000) (h : Cu w0 w c a n cap k) (hl : 1 ≤ l.length ∧ l.length ≤ 200) (hlb : lb < w.heap.size) (hne : lb ≠ c)
    (hc : ∀ i, i < l.length → w.cell? ⟨lb, i, none⟩ = some (.int .i64 (l.getD i 0))) :
    Calls Tryz.prog 30 #[.pointer (some ⟨c, 0, none⟩), .slice (some ⟨lb, 0, none⟩) l.length lc] w fun e w' => ∃ i : Nat, e = .returned (.int .i64 (l.getD i 0)) ∧ i < l.length ∧ Cu w0 w' c a n cap (k + 1) ∧ w.grownBy w' (some c) := by
  have HN := hide (pick_any w0 w c a n cap k l.length z hz hn hk h hl)
  have HC := hide hc
  clear hz h hc
  generalize hll : l.length = m at *
  go_enter Tryz.func30, Tryz.ntmps30
  go_wp2_with fail
  refine (unhide HN).mono ?_
  rintro e w1 ⟨x, rfl, hx, hcu, hgb⟩
  have hcx := (gb_cell hgb hlb hne x).trans (unhide HC x hx)
  have hlb1 : lb < w1.heap.size := Nat.lt_of_lt_of_le hlb hgb.size
  have HCU := hide hcu
  have HGB := hide hgb
  clear hcu hgb
  have hx0 : (x : Int) < (m : Int) := by omega
  generalize hs : l.getD x 0 = s at hcx
  have HSS := hide hs
  clear hs
  go_wp2
  go_ret
  exact ⟨x, by rw [unhide HSS]; rfl, hx, unhide HCU, unhide HGB⟩

end Cur
end Go.Proofs.YtkdcofmpbmiloaaGreatDoor
/-
  The model's cursor l1Cur: number. Only bounds of what is drawn are told.
-/
namespace Go.Proofs.YtkdcofmpbmiloaaGreatDoor
namespace Cur
open Go.RowKit Base Marks
set_option linter.unusedVariables false

theorem three (i : Nat) (h : i < 3) : -1 ≤ ([-1, 1000000000, 1000000001] : List Int).getD i 0 ∧ ([-1, 1000000000, 1000000001] : List Int).getD i 0 ≤ 1000000001 := by
  obtain rfl | rfl | rfl : i = 0 ∨ i = 1 ∨ i = 2 := by omega
  all_goals decide
theorem cells3 (w : World) (t : TypeId) (v0 v1 v2 : Value) (i : Nat) (h : i < 3) : (w.alloc (.cells #[v0, v1, v2] t)).cell? ⟨w.heap.size, i, none⟩ = some (([v0, v1, v2] : List Value).getD i undef) := by
  rw [World.cell?_alloc_new]
  obtain rfl | rfl | rfl : i = 0 ∨ i = 1 ∨ i = 2 := by omega
  all_goals rfl

set_option maxHeartbeats 1000000 in
theorem number_any (w0 w : World) (c : Nat) (a : Option Addr) (n cap k : Nat) (z : Nat → Int) (hz : BAt w0 a n z) (hn : n ≤ 1048576) (hk : k ≤ 1000000) (h : Cu w0 w c a n cap k) :
    Calls Tryz.prog 34 #[.pointer (some ⟨c, 0, none⟩)] w fun e w' => ∃ v : Int, e = .returned (.int .i64 v) ∧ (-1 ≤ v ∧ v ≤ 1000000001) ∧ Cu w0 w' c a n cap (k + 2) ∧ w.grownBy w' (some c) := by
  have HO := hide (one_any w0 w c a n cap k 20 z hz hn (by omega) h (by omega))
  have HP := hide (fun w' h' => pick_any w0 w' c a n cap (k + 1) 12 z hz hn (by omega) h' (by omega))
  have HA := hide (fun w' lb h' h1 h2 hc => among_any w0 w' c a n cap (k + 1) lb 3 [-1, 1000000000, 1000000001] z hz hn (by omega) h' (by decide) h1 h2 hc)
  clear hz h
  go_enter Tryz.func34, Tryz.ntmps34
  go_wp2_with fail
  refine (unhide HO).mono ?_
  rintro e w1 ⟨b, rfl, hcu, hgb⟩
  have HCU := hide hcu
  have HGB := hide hgb
  have hlt1 := hcu.lt
  clear hcu hgb
  cases b
  · go_wp2_with fail
    refine (unhide HP _ (unhide HCU)).mono ?_
    rintro e w2 ⟨x, rfl, hx, hcu, hgb⟩
    have HC2 := hide hcu
    have HG2 := hide (gb_trans (unhide HGB) hgb)
    clear hcu hgb
    go_wp2
    go_ret
    exact ⟨(x : Int), rfl, by omega, unhide HC2, unhide HG2⟩
  · go_wp2_with fail
    refine (unhide HA _ w1.heap.size ((unhide HCU).alloc _) (by simp) (by omega) (fun i hi => by rw [cells3 w1 _ _ _ _ i (by simpa using hi)]; obtain rfl | rfl | rfl : i = 0 ∨ i = 1 ∨ i = 2 := (by simp at hi; omega) <;> rfl)).mono ?_
    rintro e w2 ⟨i, rfl, hi, hcu, hgb⟩
    have h3 := three i (by simpa using hi)
    have HC2 := hide hcu
    have HG2 := hide (gb_trans (unhide HGB) (gb_trans (gb_below (r := some c) (bel1 w1 _) (Nat.le_refl _)) hgb))
    clear hcu hgb
    generalize ([-1, 1000000000, 1000000001] : List Int).getD i 0 = v at h3 ⊢
    go_wp2
    go_ret
    exact ⟨v, rfl, h3, unhide HC2, unhide HG2⟩
end Cur
end Go.Proofs.YtkdcofmpbmiloaaGreatDoor
/-
  What the model draws as a command (written by a program of mine).
-/
namespace Go.Proofs.YtkdcofmpbmiloaaGreatDoor
namespace Cur
open Go.RowKit Base OwnR Marks
set_option linter.unusedVariables false

def n14 : List ByteArray := [⟨#[103, 101, 116]⟩, ⟨#[103, 101, 116, 115]⟩, ⟨#[115, 101, 116]⟩, ⟨#[115, 101, 116]⟩, ⟨#[97, 100, 100]⟩, ⟨#[114, 101, 112, 108, 97, 99, 101]⟩, ⟨#[97, 112, 112, 101, 110, 100]⟩, ⟨#[112, 114, 101, 112, 101, 110, 100]⟩, ⟨#[99, 97, 115]⟩, ⟨#[105, 110, 99, 114]⟩, ⟨#[100, 101, 99, 114]⟩, ⟨#[116, 111, 117, 99, 104]⟩, ⟨#[100, 101, 108, 101, 116, 101]⟩, ⟨#[103, 101, 116]⟩]
def n4 : List ByteArray := [⟨#[102, 108, 117, 115, 104, 95, 97, 108, 108]⟩, ⟨#[118, 101, 114, 115, 105, 111, 110]⟩, ⟨#[113, 117, 105, 116]⟩, ⟨#[102, 108, 121]⟩]
theorem cells14 (w : World) (t : TypeId) (i : Nat) (h : i < 14) : (w.alloc (.cells (n14.map (fun s => Value.string s)).toArray t)).cell? ⟨w.heap.size, i, none⟩ = some (.string (n14.getD i ByteArray.empty)) := by
  rw [World.cell?_alloc_new]
  obtain rfl | rfl | rfl | rfl | rfl | rfl | rfl | rfl | rfl | rfl | rfl | rfl | rfl | rfl : i = 0 ∨ i = 1 ∨ i = 2 ∨ i = 3 ∨ i = 4 ∨ i = 5 ∨ i = 6 ∨ i = 7 ∨ i = 8 ∨ i = 9 ∨ i = 10 ∨ i = 11 ∨ i = 12 ∨ i = 13 := by omega
  all_goals rfl
theorem cells4 (w : World) (t : TypeId) (i : Nat) (h : i < 4) : (w.alloc (.cells (n4.map (fun s => Value.string s)).toArray t)).cell? ⟨w.heap.size, i, none⟩ = some (.string (n4.getD i ByteArray.empty)) := by
  rw [World.cell?_alloc_new]
  obtain rfl | rfl | rfl | rfl : i = 0 ∨ i = 1 ∨ i = 2 ∨ i = 3 := by omega
  all_goals rfl
abbrev zB : Obj := .cells #[.string ⟨#[]⟩, .slice none 0 0, .int .i64 0, .int .i64 0, .int .i64 0, .string ⟨#[]⟩, .bool false] 28
/-- A command that is being drawn: its box X, the result's box R, its keys in a row of their own, the cursor. -/
structure Cs (w0 wb w : World) (c R X : Nat) (a : Option Addr) (n cap k : Nat) (nm : ByteArray) (kv : Value) (ks : List ByteArray) (f x m : Int) (dt : ByteArray) (q : Bool) : Prop where
  box : w.heap[X]? = some (.cells #[.string nm, kv, .int .i64 f, .int .i64 x, .int .i64 m, .string dt, .bool q] 28 (0, 0))
  res : w.heap[R]? = some zB
  own : StrN.OwnT w (X + 1) kv ks
  sz : ∀ s ∈ ks, s.size ≤ 100
  ln : ks.length ≤ 10
  dz : dt.size ≤ 101
  cu : Cu w0 w c a n cap k
  gb : wb.grownBy w (some c)
  ne : c < R
  rx : R < X
  wR : wb.heap.size ≤ R
section
variable {w0 wb w : World} {c R X : Nat} {a : Option Addr} {n cap k : Nat} {nm : ByteArray} {kv : Value} {ks : List ByteArray} {f x m : Int} {dt : ByteArray} {q : Bool}
theorem lt_of_heap {w : World} {b : Nat} {o : Obj} (h : w.heap[b]? = some o) : b < w.heap.size := (Array.getElem?_eq_some_iff.1 h).1
theorem Cu.setX (h : Cu w0 w c a n cap k) (hne : c ≠ X) (hX : w0.heap.size ≤ X) (o : Nat) (v : Value) : Cu w0 (w.setCell ⟨X, o, none⟩ v) c a n cap k := by
  have e : (w.setCell ⟨X, o, none⟩ v).heap[c]? = w.heap[c]? := Below.heap_setCell _ _ _ _ hne
  obtain ⟨q, sd, c0, c1, c2, hq⟩ := h.cells
  exact ⟨⟨q, sd, (World.cell?_of_block (a := ⟨c, 0, none⟩) e).trans c0, (World.cell?_of_block (a := ⟨c, 1, none⟩) e).trans c1, (World.cell?_of_block (a := ⟨c, 2, none⟩) e).trans c2, hq⟩, fun o' => (World.frozen?_of_block (a := ⟨c, o', none⟩) e).trans (h.fz o'), by simpa using h.lt, h.lo, h.bel.setCell hX v⟩
theorem gb_far (h : wb.grownBy w (some c)) (hX : wb.heap.size ≤ X) (o : Nat) (v : Value) : wb.grownBy (w.setCell ⟨X, o, none⟩ v) (some c) :=
  StrN.gb_own h (gb_set (gb_refl w (some X)) o v) (fun k e => by simp at e; omega)
theorem Cs.cells (h : Cs w0 wb w c R X a n cap k nm kv ks f x m dt q) : w.cell? ⟨X, 0, none⟩ = some (.string nm) ∧ w.cell? ⟨X, 1, none⟩ = some kv ∧ w.cell? ⟨X, 2, none⟩ = some (.int .i64 f) ∧ w.cell? ⟨X, 3, none⟩ = some (.int .i64 x) ∧ w.cell? ⟨X, 4, none⟩ = some (.int .i64 m) ∧ w.cell? ⟨X, 5, none⟩ = some (.string dt) ∧ w.cell? ⟨X, 6, none⟩ = some (.bool q) ∧ (∀ o, w.frozen? ⟨X, o, none⟩ = false) ∧ X < w.heap.size := by
  refine ⟨?_, ?_, ?_, ?_, ?_, ?_, ?_, fun o => Lib.frozen_of_heap h.box o, lt_of_heap h.box⟩ <;> (rw [Lib.cell_of_heap h.box]; rfl)
theorem Cs.rcells (h : Cs w0 wb w c R X a n cap k nm kv ks f x m dt q) : w.cell? ⟨R, 0, none⟩ = some (.string ⟨#[]⟩) ∧ w.cell? ⟨R, 1, none⟩ = some (.slice none 0 0) ∧ w.cell? ⟨R, 2, none⟩ = some (.int .i64 0) ∧ w.cell? ⟨R, 3, none⟩ = some (.int .i64 0) ∧ w.cell? ⟨R, 4, none⟩ = some (.int .i64 0) ∧ w.cell? ⟨R, 5, none⟩ = some (.string ⟨#[]⟩) ∧ w.cell? ⟨R, 6, none⟩ = some (.bool false) ∧ (∀ o, w.frozen? ⟨R, o, none⟩ = false) ∧ R < w.heap.size := by
  refine ⟨?_, ?_, ?_, ?_, ?_, ?_, ?_, fun o => Lib.frozen_of_heap h.res o, lt_of_heap h.res⟩ <;> (rw [Lib.cell_of_heap h.res]; rfl)
theorem Cs.call {w' : World} {k' : Nat} (h : Cs w0 wb w c R X a n cap k nm kv ks f x m dt q) (hcu : Cu w0 w' c a n cap k') (hg : w.grownBy w' (some c)) : Cs w0 wb w' c R X a n cap k' nm kv ks f x m dt q := by
  have h1 := h.ne
  have h2 := h.rx
  exact ⟨(hg.block X (lt_of_heap h.box) (fun e => by simp at e; omega)).trans h.box, (hg.block R (lt_of_heap h.res) (fun e => by simp at e; omega)).trans h.res, StrN.own_gb h.own hg (by omega), h.sz, h.ln, h.dz, hcu, gb_trans h.gb hg, h.ne, h.rx, h.wR⟩
theorem Cs.alloc (h : Cs w0 wb w c R X a n cap k nm kv ks f x m dt q) (o : Obj) : Cs w0 wb (w.alloc o) c R X a n cap k nm kv ks f x m dt q := h.call (h.cu.alloc o) (gb_below (bel1 w o) (Nat.le_refl _))
theorem Cs.drew (h : Cs w0 wb w c R X a n cap k nm kv ks f x m dt q) : Cs w0 wb w.drew c R X a n cap k nm kv ks f x m dt q := ⟨h.box, h.res, h.own, h.sz, h.ln, h.dz, ⟨h.cu.cells, h.cu.fz, h.cu.lt, h.cu.lo, h.cu.bel.drew⟩, gb_drew h.gb, h.ne, h.rx, h.wR⟩
theorem Cs.le {k' : Nat} (h : Cs w0 wb w c R X a n cap k nm kv ks f x m dt q) (hk : k ≤ k') : Cs w0 wb w c R X a n cap k' nm kv ks f x m dt q := ⟨h.box, h.res, h.own, h.sz, h.ln, h.dz, h.cu.le hk, h.gb, h.ne, h.rx, h.wR⟩
theorem Cs.put0 (h : Cs w0 wb w c R X a n cap k nm kv ks f x m dt q) (nm' : ByteArray)  : Cs w0 wb (w.setCell ⟨X, 0, none⟩ (.string nm')) c R X a n cap k nm' kv ks f x m dt q := by
  have h1 := h.ne
  have h2 := h.rx
  have h3 := h.wR
  have h4 := h.cu.lo
  refine ⟨?_, (Below.heap_setCell _ _ _ _ (show R ≠ X by omega)).trans h.res, ownsRow_setCell_below h.own (show X < X + 1 by omega) _, h.sz, h.ln, h.dz, h.cu.setX (by omega) (by omega) _ _, gb_far h.gb (by omega) _ _, h.ne, h.rx, h.wR⟩
  have := h.box
  simp [World.setCell, Array.getElem?_modify, this]
theorem Cs.put2 (h : Cs w0 wb w c R X a n cap k nm kv ks f x m dt q) (f' : Int)  : Cs w0 wb (w.setCell ⟨X, 2, none⟩ (.int .i64 f')) c R X a n cap k nm kv ks f' x m dt q := by
  have h1 := h.ne
  have h2 := h.rx
  have h3 := h.wR
  have h4 := h.cu.lo
  refine ⟨?_, (Below.heap_setCell _ _ _ _ (show R ≠ X by omega)).trans h.res, ownsRow_setCell_below h.own (show X < X + 1 by omega) _, h.sz, h.ln, h.dz, h.cu.setX (by omega) (by omega) _ _, gb_far h.gb (by omega) _ _, h.ne, h.rx, h.wR⟩
  have := h.box
  simp [World.setCell, Array.getElem?_modify, this]
theorem Cs.put3 (h : Cs w0 wb w c R X a n cap k nm kv ks f x m dt q) (x' : Int)  : Cs w0 wb (w.setCell ⟨X, 3, none⟩ (.int .i64 x')) c R X a n cap k nm kv ks f x' m dt q := by
  have h1 := h.ne
  have h2 := h.rx
  have h3 := h.wR
  have h4 := h.cu.lo
  refine ⟨?_, (Below.heap_setCell _ _ _ _ (show R ≠ X by omega)).trans h.res, ownsRow_setCell_below h.own (show X < X + 1 by omega) _, h.sz, h.ln, h.dz, h.cu.setX (by omega) (by omega) _ _, gb_far h.gb (by omega) _ _, h.ne, h.rx, h.wR⟩
  have := h.box
  simp [World.setCell, Array.getElem?_modify, this]
theorem Cs.put4 (h : Cs w0 wb w c R X a n cap k nm kv ks f x m dt q) (m' : Int)  : Cs w0 wb (w.setCell ⟨X, 4, none⟩ (.int .i64 m')) c R X a n cap k nm kv ks f x m' dt q := by
  have h1 := h.ne
  have h2 := h.rx
  have h3 := h.wR
  have h4 := h.cu.lo
  refine ⟨?_, (Below.heap_setCell _ _ _ _ (show R ≠ X by omega)).trans h.res, ownsRow_setCell_below h.own (show X < X + 1 by omega) _, h.sz, h.ln, h.dz, h.cu.setX (by omega) (by omega) _ _, gb_far h.gb (by omega) _ _, h.ne, h.rx, h.wR⟩
  have := h.box
  simp [World.setCell, Array.getElem?_modify, this]
theorem Cs.put5 (h : Cs w0 wb w c R X a n cap k nm kv ks f x m dt q) (dt' : ByteArray) (hd : dt'.size ≤ 101) : Cs w0 wb (w.setCell ⟨X, 5, none⟩ (.string dt')) c R X a n cap k nm kv ks f x m dt' q := by
  have h1 := h.ne
  have h2 := h.rx
  have h3 := h.wR
  have h4 := h.cu.lo
  refine ⟨?_, (Below.heap_setCell _ _ _ _ (show R ≠ X by omega)).trans h.res, ownsRow_setCell_below h.own (show X < X + 1 by omega) _, h.sz, h.ln, hd, h.cu.setX (by omega) (by omega) _ _, gb_far h.gb (by omega) _ _, h.ne, h.rx, h.wR⟩
  have := h.box
  simp [World.setCell, Array.getElem?_modify, this]
theorem Cs.put6 (h : Cs w0 wb w c R X a n cap k nm kv ks f x m dt q) (q' : Bool)  : Cs w0 wb (w.setCell ⟨X, 6, none⟩ (.bool q')) c R X a n cap k nm kv ks f x m dt q' := by
  have h1 := h.ne
  have h2 := h.rx
  have h3 := h.wR
  have h4 := h.cu.lo
  refine ⟨?_, (Below.heap_setCell _ _ _ _ (show R ≠ X by omega)).trans h.res, ownsRow_setCell_below h.own (show X < X + 1 by omega) _, h.sz, h.ln, h.dz, h.cu.setX (by omega) (by omega) _ _, gb_far h.gb (by omega) _ _, h.ne, h.rx, h.wR⟩
  have := h.box
  simp [World.setCell, Array.getElem?_modify, this]
/-- Other keys, in a row of their own. -/
theorem Cs.put1 {w' : World} {r : Option Nat} {kv' : Value} {ks' : List ByteArray} (h : Cs w0 wb w c R X a n cap k nm kv ks f x m dt q) (hg : w.grownBy w' r) (hr : ∀ g, r = some g → X < g) (hcu : Cu w0 w' c a n cap k) (ho : StrN.OwnT w' (X + 1) kv' ks') (hs : ∀ s ∈ ks', s.size ≤ 100) (hl : ks'.length ≤ 10) (hv : kv'.oneCell' = true) : Cs w0 wb (w'.setCell ⟨X, 1, none⟩ kv') c R X a n cap k nm kv' ks' f x m dt q := by
  have h1 := h.ne
  have h2 := h.rx
  have h3 := h.wR
  have h4 := h.cu.lo
  have hb : w'.heap[X]? = _ := (hg.block X (lt_of_heap h.box) (fun e => by have := hr X e.symm; omega)).trans h.box
  have hR : w'.heap[R]? = _ := (hg.block R (lt_of_heap h.res) (fun e => by have := hr R e.symm; omega)).trans h.res
  refine ⟨?_, (Below.heap_setCell _ _ _ _ (show R ≠ X by omega)).trans hR, ownsRow_setCell_below ho (show X < X + 1 by omega) _, hs, hl, h.dz, hcu.setX (by omega) (by omega) _ _, gb_far (StrN.gb_own h.gb hg (fun g e => by have := hr g e; omega)) (by omega) _ _, h.ne, h.rx, h.wR⟩
  simp [World.setCell, Array.getElem?_modify, hb]
theorem own_new (w : World) (B : Nat) (s : ByteArray) (hB : B ≤ w.heap.size) : StrN.OwnT (w.alloc (.cells #[.string s] 9)) B (.slice (some ⟨w.heap.size, 0, none⟩) 1 1) [s] := by
  refine ⟨rfl, .inr ⟨w.heap.size, 1, #[.string s], rfl, hB, heap_alloc_new w _, Nat.le_refl _, by unfold maxLen; omega, rfl, rfl⟩⟩
/-- One key. -/
theorem Cs.one {s : ByteArray} (h : Cs w0 wb w c R X a n cap k nm kv ks f x m dt q) (hs : s.size ≤ 100) : Cs w0 wb ((w.setCell ⟨X, 1, none⟩ (.slice (some ⟨w.heap.size, 0, none⟩) 1 1)).alloc (.cells #[.string s] 9)) c R X a n cap k nm (.slice (some ⟨w.heap.size, 0, none⟩) 1 1) [s] f x m dt q := by
  have h1 := h.ne
  have h2 := h.rx
  have h3 := h.wR
  have h4 := h.cu.lo
  have h5 := lt_of_heap h.box
  have ho := own_new (w.setCell ⟨X, 1, none⟩ (.slice (some ⟨w.heap.size, 0, none⟩) 1 1)) (X + 1) s (by rw [World.size_setCell]; omega)
  rw [World.size_setCell] at ho
  have hb : (w.setCell ⟨X, 1, none⟩ (.slice (some ⟨w.heap.size, 0, none⟩) 1 1)).heap[X]? = some (.cells #[.string nm, .slice (some ⟨w.heap.size, 0, none⟩) 1 1, .int .i64 f, .int .i64 x, .int .i64 m, .string dt, .bool q] 28 (0, 0)) := by
    have := h.box
    simp [World.setCell, Array.getElem?_modify, this]
  have hB := bel1 (w.setCell ⟨X, 1, none⟩ (.slice (some ⟨w.heap.size, 0, none⟩) 1 1)) (.cells #[.string s] 9)
  exact ⟨(hB.block X (lt_of_heap hb)).trans hb, (hB.block R (by rw [World.size_setCell]; omega)).trans ((Below.heap_setCell _ _ _ _ (show R ≠ X by omega)).trans h.res), ho, fun y hy => by rw [List.mem_singleton.1 hy]; exact hs, by simp, h.dz, (h.cu.setX (by omega) (by omega) _ _).alloc _, gb_trans (gb_far h.gb (by omega) _ _) (gb_below hB (Nat.le_refl _)), h.ne, h.rx, h.wR⟩
end
/-- What is drawn. -/
def CmdDrawn (w0 w : World) (c : Nat) (a : Option Addr) (n cap k : Nat) (e : Ending) (w' : World) : Prop :=
  ∃ (nm : ByteArray) (kv : Value) (ks : List ByteArray) (f x m : Int) (dt : ByteArray) (q : Bool), e = .returned (.agg #[.string nm, kv, .int .i64 f, .int .i64 x, .int .i64 m, .string dt, .bool q]) ∧ StrN.OwnT w' w.heap.size kv ks ∧ (∀ s ∈ ks, s.size ≤ 100) ∧ ks.length ≤ 10 ∧ dt.size ≤ 101 ∧ (ks = [] → Kind.kindN nm.toList = 7) ∧ Cu w0 w' c a n cap (k + 40) ∧ w.grownBy w' (some c)
theorem Cs.out {w0 w w' : World} {c R X : Nat} {a : Option Addr} {n cap k k0 : Nat} {nm : ByteArray} {kv : Value} {ks : List ByteArray} {f x m : Int} {dt : ByteArray} {q : Bool} (h : Cs w0 w w' c R X a n cap k nm kv ks f x m dt q) (hk : k ≤ k0 + 40) (hK : ks = [] → Kind.kindN nm.toList = 7) (v0 v1 v2 v3 v4 v5 v6 : Value) :
    CmdDrawn w0 w c a n cap k0 (.returned (.agg #[.string nm, kv, .int .i64 f, .int .i64 x, .int .i64 m, .string dt, .bool q])) (((((((w'.setCell ⟨R, 0, none⟩ v0).setCell ⟨R, 1, none⟩ v1).setCell ⟨R, 2, none⟩ v2).setCell ⟨R, 3, none⟩ v3).setCell ⟨R, 4, none⟩ v4).setCell ⟨R, 5, none⟩ v5).setCell ⟨R, 6, none⟩ v6) := by
  have h1 := h.ne
  have h2 := h.rx
  have h3 := h.wR
  have h4 := h.cu.lo
  refine ⟨nm, kv, ks, f, x, m, dt, q, rfl, ?_, h.sz, h.ln, h.dz, hK, ?_, ?_⟩
  · refine own_le (base := X + 1) ?_ (by omega)
    repeat (refine ownsRow_setCell_below ?_ (show R < X + 1 by omega) _)
    exact h.own
  · refine Cu.le ?_ hk
    repeat (refine Cu.setX ?_ (by omega) (by omega) _ _)
    exact h.cu
  · repeat (refine gb_far ?_ (by omega) _ _)
    exact h.gb

set_option maxRecDepth 10000 in
set_option maxHeartbeats 8000000 in
theorem cmd_any (w0 w : World) (c : Nat) (a : Option Addr) (n cap k : Nat) (z : Nat → Int) (hz : BAt w0 a n z) (hn : n ≤ 1048576) (hk : k ≤ 10000) (h : Cu w0 w c a n cap k) :
    Calls Tryz.prog 11 #[.pointer (some ⟨c, 0, none⟩)] w (CmdDrawn w0 w c a n cap k) := by
  have HO := hide (fun (m : Nat) (hm : 1 ≤ m ∧ m ≤ 200) k (hk : k ≤ 20000) w' h => one_any w0 w' c a n cap k m z hz hn (by omega) h hm)
  have HP := hide (fun (m : Nat) (hm : 1 ≤ m ∧ m ≤ 200) k (hk : k ≤ 20000) w' h => pick_any w0 w' c a n cap k m z hz hn (by omega) h hm)
  have HKY := hide (fun k (hk : k ≤ 20000) w' h => key_any w0 w' c a n cap k z hz hn (by omega) h)
  have HNU := hide (fun k (hk : k ≤ 20000) w' h => number_any w0 w' c a n cap k z hz hn (by omega) h)
  have HVA := hide (fun k (hk : k ≤ 20000) w' h => value_any w0 w' c a n cap k z hz hn (by omega) h)
  have HF14 := hide (fun k (hk : k ≤ 20000) w' lb h h1 h2 hc => of_any w0 w' c a n cap k lb 14 n14 z hz hn (by omega) h (by decide) h1 h2 hc)
  have HF4 := hide (fun k (hk : k ≤ 20000) w' lb h h1 h2 hc => of_any w0 w' c a n cap k lb 4 n4 z hz hn (by omega) h (by decide) h1 h2 hc)
  have HKD := hide (fun s w => Kind.spec_any s w)
  obtain ⟨i0, hi, hz0, hz1, hz2⟩ := StrN.info_ex
  have HI := hide hi
  have HZ0 := hide hz0
  have HZ1 := hide hz1
  have HZ2 := hide hz2
  have hcw := h.lt
  have hlo := h.lo
  have CA := hide (h.alloc zB)
  have GA := hide (gb_below (r := some c) (bel1 w zB) (Nat.le_refl _))
  have RA := hide (heap_alloc_new w zB)
  have hza : (w.alloc zB).heap.size = w.heap.size + 1 := World.size_alloc _ _
  clear hz hi hz0 hz1 hz2 h
  go_enter Tryz.func11, Tryz.ntmps11
  go_upto_region 1 with fail
  generalize w.alloc zB = wA at CA GA RA hza ⊢
  obtain ⟨R, hR⟩ : ∃ R, R = w.heap.size := ⟨_, rfl⟩
  rw [← hR] at RA ⊢
  have hRA : R < wA.heap.size := by omega
  have hcR : c < R := by omega
  have hwR : w.heap.size ≤ R := by omega
  clear hza hR
  go_wp2_with fail
  refine (unhide HF14 k (by omega) _ wA.heap.size ((unhide CA).alloc _) (by simp) (by omega) (fun i hi => cells14 wA _ i hi)).mono ?_
  rintro e w1 ⟨i, rfl, hi, hcu, hg⟩
  have hg1 := gb_trans (gb_below (r := some c) (bel1 wA (.cells (n14.map (fun s => Value.string s)).toArray 9)) (Nat.le_refl _)) hg
  have R1 := (hg1.block R hRA (fun e => by simp at e; omega)).trans (unhide RA)
  have hz1 : wA.heap.size ≤ w1.heap.size := hg1.size
  have G1 := gb_trans (unhide GA) hg1
  generalize n14.getD i ByteArray.empty = nm
  have S1 : Hid (Cs w0 w (w1.alloc (.cells #[.string nm, .slice none 0 0, .int .i64 0, .int .i64 0, .int .i64 0, .string ⟨#[]⟩, .bool false] 28)) c R w1.heap.size a n cap (k + 1) nm (.slice none 0 0) [] 0 0 0 ⟨#[]⟩ false) :=
    ⟨heap_alloc_new w1 _, ((bel1 w1 _).block R (by omega)).trans R1, World.ownsRow_nil _ _ _ _, by simp, by simp, by decide, hcu.alloc _, gb_trans G1 (gb_below (bel1 w1 _) (Nat.le_refl _)), hcR, by omega, hwR⟩
  clear hi hcu hg hg1 R1 G1 CA GA RA
  go_upto_region 2 with fail
  generalize w1.alloc (.cells #[.string nm, .slice none 0 0, .int .i64 0, .int .i64 0, .int .i64 0, .string ⟨#[]⟩, .bool false] 28) = wX at S1 ⊢
  generalize w1.heap.size = X at S1 hz1 ⊢
  clear hz1
  go_wp2_with fail
  refine (unhide HO 20 (by omega) (k + 1) (by omega) _ (unhide S1).cu).mono ?_
  rintro e w2 ⟨b, rfl, hcu, hg⟩
  have S2 := hide ((unhide S1).call hcu hg)
  clear hcu hg S1
  obtain ⟨x0, x1, x2, x3, x4, x5, x6, xf, xl⟩ := (unhide S2).cells
  go_upto_if 11 with fail
  go_cut [] (fun wx => ∃ nm', Hid (Cs w0 w wx c R X a n cap (k + 3) nm' (.slice none 0 0) [] 0 0 0 ⟨#[]⟩ false))
  case first =>
    cases b
    · go_wp2_with fail
      go_meet
      exact ⟨nm, hide ((unhide S2).le (by omega))⟩
    · have hrx := (unhide S2).rx
      go_wp2_with fail
      refine (unhide HF4 (k + 1 + 1) (by omega) _ w2.heap.size ((unhide S2).cu.alloc _) (by simp) (by omega) (fun i hi => cells4 w2 _ i hi)).mono ?_
      rintro e w3 ⟨i, rfl, hi, hcu, hg⟩
      have S3 := hide (((unhide S2).alloc _).call hcu hg)
      clear hcu hg hi x0 x1 x2 x3 x4 x5 x6 xf xl
      generalize n4.getD i ByteArray.empty = nm4
      obtain ⟨x0, x1, x2, x3, x4, x5, x6, xf, xl⟩ := (unhide S3).cells
      go_wp2_with fail
      go_meet
      exact ⟨nm4, hide ((unhide S3).put0 nm4)⟩
  case rest =>
  obtain ⟨nm2, hS⟩ := hcut
  obtain ⟨w4, hname⟩ : ∃ v, v = wc := ⟨_, rfl⟩
  rw [← hname] at hS ⊢
  clear hname wc S2 x0 x1 x2 x3 x4 x5 x6 xf xl
  have S4 := hS
  clear hS
  obtain ⟨x0, x1, x2, x3, x4, x5, x6, xf, xl⟩ := (unhide S4).cells
  go_wp2_with fail
  refine (unhide HKD nm2 _).mono ?_
  rintro e w5 ⟨rfl, h5⟩
  rw [h5]
  clear h5 w5
  have hKb := Kind.kindN_bd nm2.toList
  generalize hKe : Kind.kindN nm2.toList = K at hKb ⊢
  have HKE := hide hKe
  clear hKe
  obtain rfl | rfl | rfl | rfl | rfl | rfl | rfl | rfl : K = 0 ∨ K = 1 ∨ K = 2 ∨ K = 3 ∨ K = 4 ∨ K = 5 ∨ K = 6 ∨ K = 7 := by omega
  · go_wp2_with fail
    refine (unhide HKY _ (by omega) _ (unhide S4).cu).mono ?_
    rintro e w12 ⟨s11, rfl, hss11, hcu, hg⟩
    have S12 := hide ((unhide S4).call hcu hg)
    clear hcu hg S4
    clear x0 x1 x2 x3 x4 x5 x6 xf xl
    obtain ⟨x0, x1, x2, x3, x4, x5, x6, xf, xl⟩ := (unhide S12).cells
    have S13 := hide ((unhide S12).one (s := s11) (by omega))
    go_upto_region 7 with fail
    generalize (w12.setCell ⟨X, 1, none⟩ (.slice (some ⟨w12.heap.size, 0, none⟩) 1 1)).alloc (.cells #[.string s11] 9) = w13 at S13 ⊢
    clear S12
    clear x0 x1 x2 x3 x4 x5 x6 xf xl
    obtain ⟨x0, x1, x2, x3, x4, x5, x6, xf, xl⟩ := (unhide S13).cells
    generalize w12.heap.size = Gw12 at S13 x1 ⊢
    go_wp2_with fail
    refine (unhide HO 6 (by omega) _ (by omega) _ (unhide S13).cu).mono ?_
    rintro e w15 ⟨b14, rfl, hcu, hg⟩
    have S15 := hide ((unhide S13).call hcu hg)
    clear hcu hg S13
    clear x0 x1 x2 x3 x4 x5 x6 xf xl
    obtain ⟨x0, x1, x2, x3, x4, x5, x6, xf, xl⟩ := (unhide S15).cells
    have S16 := hide ((unhide S15).put6 b14)
    go_upto_region 14 with fail
    generalize w15.setCell ⟨X, 6, none⟩ (.bool b14) = w16 at S16 ⊢
    clear S15
    clear x0 x1 x2 x3 x4 x5 x6 xf xl
    obtain ⟨x0, x1, x2, x3, x4, x5, x6, xf, xl⟩ := (unhide S16).cells
    go_wp2_with fail
    refine (unhide HO 60 (by omega) _ (by omega) _ (unhide S16).cu).mono ?_
    rintro e w17 ⟨b60, rfl, hcu, hg⟩
    have S17 := hide ((unhide S16).call hcu hg)
    clear hcu hg S16
    clear x0 x1 x2 x3 x4 x5 x6 xf xl
    obtain ⟨x0, x1, x2, x3, x4, x5, x6, xf, xl⟩ := (unhide S17).cells
    obtain ⟨y0, y1, y2, y3, y4, y5, y6, yf, yl⟩ := (unhide S17).rcells
    have hrx := (unhide S17).rx
    cases b60
    · go_wp2
      refine bodyPost_ret (v := .agg #[.string nm2, (.slice (some ⟨Gw12, 0, none⟩) 1 1), .int .i64 0, .int .i64 0, .int .i64 0, .string ⟨#[]⟩, .bool b14]) (by simp [results, Tryz.results11, go_sem, y0, y1, y2, y3, y4, y5, y6]) rfl ((unhide S17).out (by omega) (fun e => by simp at e) _ _ _ _ _ _ _)
    · go_wp2_with (at_builtin; go_loud (refine wpList_append_own _ rfl _ _ 26 rfl (X + 1) 9 i0 _ 1 16 Tryz.underlying26 (unhide HI) (unhide HZ0) (unhide HZ1) (unhide HZ2) rfl (by decide) _ _ _ rfl ((unhide S17).alloc _).own ⟨w17.heap.size, 0, none⟩ 1 1 [.string ⟨#[97]⟩] rfl rfl ?c1 ?c2 ?c3 ?c4 ?c5 ?_))
      case c1 => exact StrN.news_cells w17 ⟨#[97]⟩ _
      case c2 => exact StrN.news_one ⟨#[97]⟩
      case c3 => have := (unhide S17).ln; unfold maxLen; omega
      case c4 => have := (unhide S17).ln; omega
      case c5 => simp; omega
      intro v' wz hown' hgrow _
      have OZ := StrN.own_snoc hown'
      obtain ⟨bz, cz, hvz⟩ := own_form hown'
      subst hvz
      have SZ := hide (Cs.put1 ((unhide S17).alloc (.cells #[.string ⟨#[97]⟩] 9)) hgrow (fun g e => by have := own_block (unhide S17).own g e; omega) ((((unhide S17).alloc _).cu).gbN hgrow (fun g e => by have := own_block (unhide S17).own g e; have := (unhide S17).ne; omega)) OZ (snocS (unhide S17).sz (by decide)) (by rw [List.length_append]; simp) rfl)
      have xz := (((unhide S17).alloc (.cells #[.string ⟨#[97]⟩] 9)))
      have ez := (hgrow.block X (lt_of_heap xz.box) (fun e => by have := own_block (unhide S17).own X e.symm; omega)).trans xz.box
      have z1 : wz.cell? ⟨X, 1, none⟩ = some (.slice (some ⟨Gw12, 0, none⟩) 1 1) := by rw [Lib.cell_of_heap ez]; rfl
      have zf : ∀ o, wz.frozen? ⟨X, o, none⟩ = false := fun o => Lib.frozen_of_heap ez o
      clear xz ez hown' hgrow OZ x0 x1 x2 x3 x4 x5 x6 xf xl y0 y1 y2 y3 y4 y5 y6 yf yl
      go_upto_region 24 with fail
      generalize wz.setCell ⟨X, 1, none⟩ _ = wy at SZ ⊢
      obtain ⟨x0, x1, x2, x3, x4, x5, x6, xf, xl⟩ := (unhide SZ).cells
      obtain ⟨y0, y1, y2, y3, y4, y5, y6, yf, yl⟩ := (unhide SZ).rcells
      go_wp2
      refine bodyPost_ret (v := .agg #[.string nm2, .slice bz _ cz, .int .i64 0, .int .i64 0, .int .i64 0, .string ⟨#[]⟩, .bool b14]) (by simp [results, Tryz.results11, go_sem, y0, y1, y2, y3, y4, y5, y6]) rfl ((unhide SZ).out (by omega) (fun e => by simp at e) _ _ _ _ _ _ _)
  · go_wp2_with fail
    refine (unhide HP 3 (by omega) _ (by omega) _ (unhide S4).cu).mono ?_
    rintro e w11 ⟨r1, rfl, hr1, hcu, hg⟩
    have S11 := hide ((unhide S4).call hcu hg)
    clear hcu hg S4
    clear x0 x1 x2 x3 x4 x5 x6 xf xl
    obtain ⟨x0, x1, x2, x3, x4, x5, x6, xf, xl⟩ := (unhide S11).cells
    go_wp2_with fail
    go_loopw [5] (fun jv wr => ∃ (j : Nat) (kv : Value) (ks : List ByteArray), j + ks.length = 1 + r1 ∧ jv = .int .i64 j ∧ Hid (Cs w0 w wr c R X a n cap (k + 3 + 1 + 2 * ks.length) nm2 kv ks 0 0 0 ⟨#[]⟩ false)) (fun jv _ => (intOf jv).toNat)
    case atStart => exact ⟨1 + r1, _, [], by simp, by first | rfl | go_num | simp, hide (unhide S11)⟩
    case round =>
      clear S11 x0 x1 x2 x3 x4 x5 x6 xf xl
      obtain ⟨j, kv, ks, hj, rfl, SR⟩ := hrel
      obtain ⟨x0, x1, x2, x3, x4, x5, x6, xf, xl⟩ := (unhide SR).cells
      by_cases hjp : 0 < j
      · obtain ⟨j', rfl⟩ : ∃ j', j = j' + 1 := ⟨j - 1, by omega⟩
        have hjp' : (0 : Int) < ((j' + 1 : Nat) : Int) := by omega
        have SD := hide (unhide SR).drew
        have HKX : Hid (kv.ownBlock ≠ some X) := fun e => by have := own_block (unhide SR).own X e; omega
        go_upto_region 12 with fail
        go_region_law (first
          | (refine step_append_lies _ (by rfl) _ _ _ (by rfl) (X + 1) 9 i0 _ 1 16 Tryz.underlying26 (unhide HI) (unhide HZ0) (unhide HZ1) (unhide HZ2) rfl (by decide) _ _ _ (by rfl) (((unhide S3).alloc _).own) ⟨w3.heap.size, 0, none⟩ 1 1 [.string sk] (by rfl) rfl (StrN.news_cells w3 sk _) (StrN.news_one sk) (by omega) (by unfold maxLen; omega) (by omega) (by rw [World.size_alloc]; omega) (w3.heap.size + 1) (by simp) ?_; intro g cp w4 hown4 hgrow hat hlt4; have SZ := hide (Cs.put1 ((unhide S3).alloc (.cells #[.string sk] 9)) hgrow (fun g e => by have := own_block (unhide S3).own g e; omega) ((((unhide S3).alloc _).cu).gbN hgrow (fun g e => by have := own_block (unhide S3).own g e; have := (unhide S3).ne; have := (unhide S3).rx; omega)) (StrN.own_snoc hown4) (snocS (unhide S3).sz (by omega)) (by rw [List.length_append, List.length_singleton]; omega) rfl); have e4 := (hgrow.block X (lt_of_heap ((unhide S3).alloc (.cells #[.string sk] 9)).box) (fun e => unhide HKX e.symm)).trans ((unhide S3).alloc (.cells #[.string sk] 9)).box; have y1 : w4.cell? ⟨X, 1, none⟩ = some kv := (by rw [Lib.cell_of_heap e4]; rfl); have yf : ∀ o, w4.frozen? ⟨X, o, none⟩ = false := fun o => Lib.frozen_of_heap e4 o; clear hown4 hgrow hat e4)
          | (go_simp; refine (unhide HKY (k + 3 + 1 + 2 * ks.length) (by omega) _ (unhide SD).cu).mono ?_; rintro e w3 ⟨sk, rfl, hsk, hcu, hg⟩; have S3 := hide ((unhide SD).call hcu hg); have x13 := (unhide S3).cells.2.1; have xf3 := (unhide S3).cells.2.2.2.2.2.2.2.1; have hz3 := (unhide S3).cells.2.2.2.2.2.2.2.2; clear hcu hg))
        all_goals
          generalize w4.setCell ⟨X, 1, none⟩ (.slice (some ⟨g, 0, none⟩) (ks.length + 1) cp) = wz at SZ ⊢
          go_wp2
          go_roundw
          case rel => exact ⟨j', _, ks ++ [sk], by rw [List.length_append, List.length_singleton]; omega, by first | rfl | go_num, hide ((unhide SZ).le (by rw [List.length_append, List.length_singleton]; omega))⟩
          case measure => simp [intOf]
      · obtain rfl : j = 0 := by omega
        obtain ⟨bq, cq, hvq⟩ := own_form (unhide SR).own
        subst hvq
        have hl1 : 1 ≤ ks.length := by omega
        have hl3 : ks.length ≤ 3 := by omega
        clear hj
        go_wp2_with fail
        refine (unhide HO 60 (by omega) _ (by omega) _ (unhide SR).cu).mono ?_
        rintro e w12 ⟨b60, rfl, hcu, hg⟩
        have S12 := hide ((unhide SR).call hcu hg)
        clear hcu hg SR
        clear x0 x1 x2 x3 x4 x5 x6 xf xl
        obtain ⟨x0, x1, x2, x3, x4, x5, x6, xf, xl⟩ := (unhide S12).cells
        obtain ⟨y0, y1, y2, y3, y4, y5, y6, yf, yl⟩ := (unhide S12).rcells
        have hrx := (unhide S12).rx
        cases b60
        · go_wp2
          refine bodyPost_ret (v := .agg #[.string nm2, (.slice bq ks.length cq), .int .i64 0, .int .i64 0, .int .i64 0, .string ⟨#[]⟩, .bool false]) (by simp [results, Tryz.results11, go_sem, y0, y1, y2, y3, y4, y5, y6]) rfl ((unhide S12).out (by omega) (fun e => by rw [e] at hl1; simp at hl1) _ _ _ _ _ _ _)
        · go_wp2_with (at_builtin; go_loud (refine wpList_append_own _ rfl _ _ 26 rfl (X + 1) 9 i0 _ 1 16 Tryz.underlying26 (unhide HI) (unhide HZ0) (unhide HZ1) (unhide HZ2) rfl (by decide) _ _ _ rfl ((unhide S12).alloc _).own ⟨w12.heap.size, 0, none⟩ 1 1 [.string ⟨#[97]⟩] rfl rfl ?c1 ?c2 ?c3 ?c4 ?c5 ?_))
          case c1 => exact StrN.news_cells w12 ⟨#[97]⟩ _
          case c2 => exact StrN.news_one ⟨#[97]⟩
          case c3 => have := (unhide S12).ln; unfold maxLen; omega
          case c4 => have := (unhide S12).ln; omega
          case c5 => simp; omega
          intro v' wz hown' hgrow _
          have OZ := StrN.own_snoc hown'
          obtain ⟨bz, cz, hvz⟩ := own_form hown'
          subst hvz
          have SZ := hide (Cs.put1 ((unhide S12).alloc (.cells #[.string ⟨#[97]⟩] 9)) hgrow (fun g e => by have := own_block (unhide S12).own g e; omega) ((((unhide S12).alloc _).cu).gbN hgrow (fun g e => by have := own_block (unhide S12).own g e; have := (unhide S12).ne; omega)) OZ (snocS (unhide S12).sz (by decide)) (by rw [List.length_append]; simp; omega) rfl)
          have xz := (((unhide S12).alloc (.cells #[.string ⟨#[97]⟩] 9)))
          have ez := (hgrow.block X (lt_of_heap xz.box) (fun e => by have := own_block (unhide S12).own X e.symm; omega)).trans xz.box
          have z1 : wz.cell? ⟨X, 1, none⟩ = some (.slice bq ks.length cq) := by rw [Lib.cell_of_heap ez]; rfl
          have zf : ∀ o, wz.frozen? ⟨X, o, none⟩ = false := fun o => Lib.frozen_of_heap ez o
          clear xz ez hown' hgrow OZ x0 x1 x2 x3 x4 x5 x6 xf xl y0 y1 y2 y3 y4 y5 y6 yf yl
          go_upto_region 24 with fail
          generalize wz.setCell ⟨X, 1, none⟩ _ = wy at SZ ⊢
          obtain ⟨x0, x1, x2, x3, x4, x5, x6, xf, xl⟩ := (unhide SZ).cells
          obtain ⟨y0, y1, y2, y3, y4, y5, y6, yf, yl⟩ := (unhide SZ).rcells
          go_wp2
          refine bodyPost_ret (v := .agg #[.string nm2, .slice bz _ cz, .int .i64 0, .int .i64 0, .int .i64 0, .string ⟨#[]⟩, .bool false]) (by simp [results, Tryz.results11, go_sem, y0, y1, y2, y3, y4, y5, y6]) rfl ((unhide SZ).out (by omega) (fun e => by simp at e) _ _ _ _ _ _ _)
  · go_wp2_with fail
    refine (unhide HKY _ (by omega) _ (unhide S4).cu).mono ?_
    rintro e w12 ⟨s11, rfl, hss11, hcu, hg⟩
    have S12 := hide ((unhide S4).call hcu hg)
    clear hcu hg S4
    clear x0 x1 x2 x3 x4 x5 x6 xf xl
    obtain ⟨x0, x1, x2, x3, x4, x5, x6, xf, xl⟩ := (unhide S12).cells
    have S13 := hide ((unhide S12).one (s := s11) (by omega))
    go_upto_region 7 with fail
    generalize (w12.setCell ⟨X, 1, none⟩ (.slice (some ⟨w12.heap.size, 0, none⟩) 1 1)).alloc (.cells #[.string s11] 9) = w13 at S13 ⊢
    clear S12
    clear x0 x1 x2 x3 x4 x5 x6 xf xl
    obtain ⟨x0, x1, x2, x3, x4, x5, x6, xf, xl⟩ := (unhide S13).cells
    generalize w12.heap.size = Gw12 at S13 x1 ⊢
    go_wp2_with fail
    refine (unhide HO 6 (by omega) _ (by omega) _ (unhide S13).cu).mono ?_
    rintro e w15 ⟨b14, rfl, hcu, hg⟩
    have S15 := hide ((unhide S13).call hcu hg)
    clear hcu hg S13
    clear x0 x1 x2 x3 x4 x5 x6 xf xl
    obtain ⟨x0, x1, x2, x3, x4, x5, x6, xf, xl⟩ := (unhide S15).cells
    have S16 := hide ((unhide S15).put6 b14)
    go_upto_region 14 with fail
    generalize w15.setCell ⟨X, 6, none⟩ (.bool b14) = w16 at S16 ⊢
    clear S15
    clear x0 x1 x2 x3 x4 x5 x6 xf xl
    obtain ⟨x0, x1, x2, x3, x4, x5, x6, xf, xl⟩ := (unhide S16).cells
    go_wp2_with fail
    refine (unhide HNU _ (by omega) _ (unhide S16).cu).mono ?_
    rintro e w18 ⟨v17, rfl, -, hcu, hg⟩
    have S18 := hide ((unhide S16).call hcu hg)
    clear hcu hg S16
    clear x0 x1 x2 x3 x4 x5 x6 xf xl
    obtain ⟨x0, x1, x2, x3, x4, x5, x6, xf, xl⟩ := (unhide S18).cells
    have S19 := hide ((unhide S18).put2 v17)
    go_upto_region 16 with fail
    generalize w18.setCell ⟨X, 2, none⟩ (.int .i64 v17) = w19 at S19 ⊢
    clear S18
    clear x0 x1 x2 x3 x4 x5 x6 xf xl
    obtain ⟨x0, x1, x2, x3, x4, x5, x6, xf, xl⟩ := (unhide S19).cells
    go_wp2_with fail
    refine (unhide HNU _ (by omega) _ (unhide S19).cu).mono ?_
    rintro e w21 ⟨v20, rfl, -, hcu, hg⟩
    have S21 := hide ((unhide S19).call hcu hg)
    clear hcu hg S19
    clear x0 x1 x2 x3 x4 x5 x6 xf xl
    obtain ⟨x0, x1, x2, x3, x4, x5, x6, xf, xl⟩ := (unhide S21).cells
    have S22 := hide ((unhide S21).put3 v20)
    go_upto_region 17 with fail
    generalize w21.setCell ⟨X, 3, none⟩ (.int .i64 v20) = w22 at S22 ⊢
    clear S21
    clear x0 x1 x2 x3 x4 x5 x6 xf xl
    obtain ⟨x0, x1, x2, x3, x4, x5, x6, xf, xl⟩ := (unhide S22).cells
    go_wp2_with fail
    refine (unhide HVA _ (by omega) _ (unhide S22).cu).mono ?_
    rintro e w24 ⟨t23, rfl, hdt23, hcu, hg⟩
    have S24 := hide ((unhide S22).call hcu hg)
    clear hcu hg S22
    clear x0 x1 x2 x3 x4 x5 x6 xf xl
    obtain ⟨x0, x1, x2, x3, x4, x5, x6, xf, xl⟩ := (unhide S24).cells
    have S25 := hide ((unhide S24).put5 t23 hdt23)
    go_upto_region 18 with fail
    generalize w24.setCell ⟨X, 5, none⟩ (.string t23) = w25 at S25 ⊢
    clear S24
    clear x0 x1 x2 x3 x4 x5 x6 xf xl
    obtain ⟨x0, x1, x2, x3, x4, x5, x6, xf, xl⟩ := (unhide S25).cells
    go_wp2_with fail
    refine (unhide HO 60 (by omega) _ (by omega) _ (unhide S25).cu).mono ?_
    rintro e w26 ⟨b60, rfl, hcu, hg⟩
    have S26 := hide ((unhide S25).call hcu hg)
    clear hcu hg S25
    clear x0 x1 x2 x3 x4 x5 x6 xf xl
    obtain ⟨x0, x1, x2, x3, x4, x5, x6, xf, xl⟩ := (unhide S26).cells
    obtain ⟨y0, y1, y2, y3, y4, y5, y6, yf, yl⟩ := (unhide S26).rcells
    have hrx := (unhide S26).rx
    cases b60
    · go_wp2
      refine bodyPost_ret (v := .agg #[.string nm2, (.slice (some ⟨Gw12, 0, none⟩) 1 1), .int .i64 v17, .int .i64 v20, .int .i64 0, .string t23, .bool b14]) (by simp [results, Tryz.results11, go_sem, y0, y1, y2, y3, y4, y5, y6]) rfl ((unhide S26).out (by omega) (fun e => by simp at e) _ _ _ _ _ _ _)
    · go_wp2_with (at_builtin; go_loud (refine wpList_append_own _ rfl _ _ 26 rfl (X + 1) 9 i0 _ 1 16 Tryz.underlying26 (unhide HI) (unhide HZ0) (unhide HZ1) (unhide HZ2) rfl (by decide) _ _ _ rfl ((unhide S26).alloc _).own ⟨w26.heap.size, 0, none⟩ 1 1 [.string ⟨#[97]⟩] rfl rfl ?c1 ?c2 ?c3 ?c4 ?c5 ?_))
      case c1 => exact StrN.news_cells w26 ⟨#[97]⟩ _
      case c2 => exact StrN.news_one ⟨#[97]⟩
      case c3 => have := (unhide S26).ln; unfold maxLen; omega
      case c4 => have := (unhide S26).ln; omega
      case c5 => simp; omega
      intro v' wz hown' hgrow _
      have OZ := StrN.own_snoc hown'
      obtain ⟨bz, cz, hvz⟩ := own_form hown'
      subst hvz
      have SZ := hide (Cs.put1 ((unhide S26).alloc (.cells #[.string ⟨#[97]⟩] 9)) hgrow (fun g e => by have := own_block (unhide S26).own g e; omega) ((((unhide S26).alloc _).cu).gbN hgrow (fun g e => by have := own_block (unhide S26).own g e; have := (unhide S26).ne; omega)) OZ (snocS (unhide S26).sz (by decide)) (by rw [List.length_append]; simp) rfl)
      have xz := (((unhide S26).alloc (.cells #[.string ⟨#[97]⟩] 9)))
      have ez := (hgrow.block X (lt_of_heap xz.box) (fun e => by have := own_block (unhide S26).own X e.symm; omega)).trans xz.box
      have z1 : wz.cell? ⟨X, 1, none⟩ = some (.slice (some ⟨Gw12, 0, none⟩) 1 1) := by rw [Lib.cell_of_heap ez]; rfl
      have zf : ∀ o, wz.frozen? ⟨X, o, none⟩ = false := fun o => Lib.frozen_of_heap ez o
      clear xz ez hown' hgrow OZ x0 x1 x2 x3 x4 x5 x6 xf xl y0 y1 y2 y3 y4 y5 y6 yf yl
      go_upto_region 24 with fail
      generalize wz.setCell ⟨X, 1, none⟩ _ = wy at SZ ⊢
      obtain ⟨x0, x1, x2, x3, x4, x5, x6, xf, xl⟩ := (unhide SZ).cells
      obtain ⟨y0, y1, y2, y3, y4, y5, y6, yf, yl⟩ := (unhide SZ).rcells
      go_wp2
      refine bodyPost_ret (v := .agg #[.string nm2, .slice bz _ cz, .int .i64 v17, .int .i64 v20, .int .i64 0, .string t23, .bool b14]) (by simp [results, Tryz.results11, go_sem, y0, y1, y2, y3, y4, y5, y6]) rfl ((unhide SZ).out (by omega) (fun e => by simp at e) _ _ _ _ _ _ _)
  · go_wp2_with fail
    refine (unhide HKY _ (by omega) _ (unhide S4).cu).mono ?_
    rintro e w12 ⟨s11, rfl, hss11, hcu, hg⟩
    have S12 := hide ((unhide S4).call hcu hg)
    clear hcu hg S4
    clear x0 x1 x2 x3 x4 x5 x6 xf xl
    obtain ⟨x0, x1, x2, x3, x4, x5, x6, xf, xl⟩ := (unhide S12).cells
    have S13 := hide ((unhide S12).one (s := s11) (by omega))
    go_upto_region 7 with fail
    generalize (w12.setCell ⟨X, 1, none⟩ (.slice (some ⟨w12.heap.size, 0, none⟩) 1 1)).alloc (.cells #[.string s11] 9) = w13 at S13 ⊢
    clear S12
    clear x0 x1 x2 x3 x4 x5 x6 xf xl
    obtain ⟨x0, x1, x2, x3, x4, x5, x6, xf, xl⟩ := (unhide S13).cells
    generalize w12.heap.size = Gw12 at S13 x1 ⊢
    go_wp2_with fail
    refine (unhide HO 6 (by omega) _ (by omega) _ (unhide S13).cu).mono ?_
    rintro e w15 ⟨b14, rfl, hcu, hg⟩
    have S15 := hide ((unhide S13).call hcu hg)
    clear hcu hg S13
    clear x0 x1 x2 x3 x4 x5 x6 xf xl
    obtain ⟨x0, x1, x2, x3, x4, x5, x6, xf, xl⟩ := (unhide S15).cells
    have S16 := hide ((unhide S15).put6 b14)
    go_upto_region 14 with fail
    generalize w15.setCell ⟨X, 6, none⟩ (.bool b14) = w16 at S16 ⊢
    clear S15
    clear x0 x1 x2 x3 x4 x5 x6 xf xl
    obtain ⟨x0, x1, x2, x3, x4, x5, x6, xf, xl⟩ := (unhide S16).cells
    go_wp2_with fail
    refine (unhide HNU _ (by omega) _ (unhide S16).cu).mono ?_
    rintro e w18 ⟨v17, rfl, -, hcu, hg⟩
    have S18 := hide ((unhide S16).call hcu hg)
    clear hcu hg S16
    clear x0 x1 x2 x3 x4 x5 x6 xf xl
    obtain ⟨x0, x1, x2, x3, x4, x5, x6, xf, xl⟩ := (unhide S18).cells
    have S19 := hide ((unhide S18).put2 v17)
    go_upto_region 16 with fail
    generalize w18.setCell ⟨X, 2, none⟩ (.int .i64 v17) = w19 at S19 ⊢
    clear S18
    clear x0 x1 x2 x3 x4 x5 x6 xf xl
    obtain ⟨x0, x1, x2, x3, x4, x5, x6, xf, xl⟩ := (unhide S19).cells
    go_wp2_with fail
    refine (unhide HNU _ (by omega) _ (unhide S19).cu).mono ?_
    rintro e w21 ⟨v20, rfl, -, hcu, hg⟩
    have S21 := hide ((unhide S19).call hcu hg)
    clear hcu hg S19
    clear x0 x1 x2 x3 x4 x5 x6 xf xl
    obtain ⟨x0, x1, x2, x3, x4, x5, x6, xf, xl⟩ := (unhide S21).cells
    have S22 := hide ((unhide S21).put3 v20)
    go_upto_region 17 with fail
    generalize w21.setCell ⟨X, 3, none⟩ (.int .i64 v20) = w22 at S22 ⊢
    clear S21
    clear x0 x1 x2 x3 x4 x5 x6 xf xl
    obtain ⟨x0, x1, x2, x3, x4, x5, x6, xf, xl⟩ := (unhide S22).cells
    go_wp2_with fail
    refine (unhide HVA _ (by omega) _ (unhide S22).cu).mono ?_
    rintro e w24 ⟨t23, rfl, hdt23, hcu, hg⟩
    have S24 := hide ((unhide S22).call hcu hg)
    clear hcu hg S22
    clear x0 x1 x2 x3 x4 x5 x6 xf xl
    obtain ⟨x0, x1, x2, x3, x4, x5, x6, xf, xl⟩ := (unhide S24).cells
    have S25 := hide ((unhide S24).put5 t23 hdt23)
    go_upto_region 18 with fail
    generalize w24.setCell ⟨X, 5, none⟩ (.string t23) = w25 at S25 ⊢
    clear S24
    clear x0 x1 x2 x3 x4 x5 x6 xf xl
    obtain ⟨x0, x1, x2, x3, x4, x5, x6, xf, xl⟩ := (unhide S25).cells
    go_wp2_with fail
    refine (unhide HNU _ (by omega) _ (unhide S25).cu).mono ?_
    rintro e w27 ⟨v26, rfl, -, hcu, hg⟩
    have S27 := hide ((unhide S25).call hcu hg)
    clear hcu hg S25
    clear x0 x1 x2 x3 x4 x5 x6 xf xl
    obtain ⟨x0, x1, x2, x3, x4, x5, x6, xf, xl⟩ := (unhide S27).cells
    have S28 := hide ((unhide S27).put4 v26)
    go_upto_region 20 with fail
    generalize w27.setCell ⟨X, 4, none⟩ (.int .i64 v26) = w28 at S28 ⊢
    clear S27
    clear x0 x1 x2 x3 x4 x5 x6 xf xl
    obtain ⟨x0, x1, x2, x3, x4, x5, x6, xf, xl⟩ := (unhide S28).cells
    go_wp2_with fail
    refine (unhide HO 60 (by omega) _ (by omega) _ (unhide S28).cu).mono ?_
    rintro e w29 ⟨b60, rfl, hcu, hg⟩
    have S29 := hide ((unhide S28).call hcu hg)
    clear hcu hg S28
    clear x0 x1 x2 x3 x4 x5 x6 xf xl
    obtain ⟨x0, x1, x2, x3, x4, x5, x6, xf, xl⟩ := (unhide S29).cells
    obtain ⟨y0, y1, y2, y3, y4, y5, y6, yf, yl⟩ := (unhide S29).rcells
    have hrx := (unhide S29).rx
    cases b60
    · go_wp2
      refine bodyPost_ret (v := .agg #[.string nm2, (.slice (some ⟨Gw12, 0, none⟩) 1 1), .int .i64 v17, .int .i64 v20, .int .i64 v26, .string t23, .bool b14]) (by simp [results, Tryz.results11, go_sem, y0, y1, y2, y3, y4, y5, y6]) rfl ((unhide S29).out (by omega) (fun e => by simp at e) _ _ _ _ _ _ _)
    · go_wp2_with (at_builtin; go_loud (refine wpList_append_own _ rfl _ _ 26 rfl (X + 1) 9 i0 _ 1 16 Tryz.underlying26 (unhide HI) (unhide HZ0) (unhide HZ1) (unhide HZ2) rfl (by decide) _ _ _ rfl ((unhide S29).alloc _).own ⟨w29.heap.size, 0, none⟩ 1 1 [.string ⟨#[97]⟩] rfl rfl ?c1 ?c2 ?c3 ?c4 ?c5 ?_))
      case c1 => exact StrN.news_cells w29 ⟨#[97]⟩ _
      case c2 => exact StrN.news_one ⟨#[97]⟩
      case c3 => have := (unhide S29).ln; unfold maxLen; omega
      case c4 => have := (unhide S29).ln; omega
      case c5 => simp; omega
      intro v' wz hown' hgrow _
      have OZ := StrN.own_snoc hown'
      obtain ⟨bz, cz, hvz⟩ := own_form hown'
      subst hvz
      have SZ := hide (Cs.put1 ((unhide S29).alloc (.cells #[.string ⟨#[97]⟩] 9)) hgrow (fun g e => by have := own_block (unhide S29).own g e; omega) ((((unhide S29).alloc _).cu).gbN hgrow (fun g e => by have := own_block (unhide S29).own g e; have := (unhide S29).ne; omega)) OZ (snocS (unhide S29).sz (by decide)) (by rw [List.length_append]; simp) rfl)
      have xz := (((unhide S29).alloc (.cells #[.string ⟨#[97]⟩] 9)))
      have ez := (hgrow.block X (lt_of_heap xz.box) (fun e => by have := own_block (unhide S29).own X e.symm; omega)).trans xz.box
      have z1 : wz.cell? ⟨X, 1, none⟩ = some (.slice (some ⟨Gw12, 0, none⟩) 1 1) := by rw [Lib.cell_of_heap ez]; rfl
      have zf : ∀ o, wz.frozen? ⟨X, o, none⟩ = false := fun o => Lib.frozen_of_heap ez o
      clear xz ez hown' hgrow OZ x0 x1 x2 x3 x4 x5 x6 xf xl y0 y1 y2 y3 y4 y5 y6 yf yl
      go_upto_region 24 with fail
      generalize wz.setCell ⟨X, 1, none⟩ _ = wy at SZ ⊢
      obtain ⟨x0, x1, x2, x3, x4, x5, x6, xf, xl⟩ := (unhide SZ).cells
      obtain ⟨y0, y1, y2, y3, y4, y5, y6, yf, yl⟩ := (unhide SZ).rcells
      go_wp2
      refine bodyPost_ret (v := .agg #[.string nm2, .slice bz _ cz, .int .i64 v17, .int .i64 v20, .int .i64 v26, .string t23, .bool b14]) (by simp [results, Tryz.results11, go_sem, y0, y1, y2, y3, y4, y5, y6]) rfl ((unhide SZ).out (by omega) (fun e => by simp at e) _ _ _ _ _ _ _)
  · go_wp2_with fail
    refine (unhide HKY _ (by omega) _ (unhide S4).cu).mono ?_
    rintro e w12 ⟨s11, rfl, hss11, hcu, hg⟩
    have S12 := hide ((unhide S4).call hcu hg)
    clear hcu hg S4
    clear x0 x1 x2 x3 x4 x5 x6 xf xl
    obtain ⟨x0, x1, x2, x3, x4, x5, x6, xf, xl⟩ := (unhide S12).cells
    have S13 := hide ((unhide S12).one (s := s11) (by omega))
    go_upto_region 7 with fail
    generalize (w12.setCell ⟨X, 1, none⟩ (.slice (some ⟨w12.heap.size, 0, none⟩) 1 1)).alloc (.cells #[.string s11] 9) = w13 at S13 ⊢
    clear S12
    clear x0 x1 x2 x3 x4 x5 x6 xf xl
    obtain ⟨x0, x1, x2, x3, x4, x5, x6, xf, xl⟩ := (unhide S13).cells
    generalize w12.heap.size = Gw12 at S13 x1 ⊢
    go_wp2_with fail
    refine (unhide HO 6 (by omega) _ (by omega) _ (unhide S13).cu).mono ?_
    rintro e w15 ⟨b14, rfl, hcu, hg⟩
    have S15 := hide ((unhide S13).call hcu hg)
    clear hcu hg S13
    clear x0 x1 x2 x3 x4 x5 x6 xf xl
    obtain ⟨x0, x1, x2, x3, x4, x5, x6, xf, xl⟩ := (unhide S15).cells
    have S16 := hide ((unhide S15).put6 b14)
    go_upto_region 14 with fail
    generalize w15.setCell ⟨X, 6, none⟩ (.bool b14) = w16 at S16 ⊢
    clear S15
    clear x0 x1 x2 x3 x4 x5 x6 xf xl
    obtain ⟨x0, x1, x2, x3, x4, x5, x6, xf, xl⟩ := (unhide S16).cells
    go_wp2_with fail
    refine (unhide HNU _ (by omega) _ (unhide S16).cu).mono ?_
    rintro e w18 ⟨v17, rfl, -, hcu, hg⟩
    have S18 := hide ((unhide S16).call hcu hg)
    clear hcu hg S16
    clear x0 x1 x2 x3 x4 x5 x6 xf xl
    obtain ⟨x0, x1, x2, x3, x4, x5, x6, xf, xl⟩ := (unhide S18).cells
    have S19 := hide ((unhide S18).put4 v17)
    go_upto_region 20 with fail
    generalize w18.setCell ⟨X, 4, none⟩ (.int .i64 v17) = w19 at S19 ⊢
    clear S18
    clear x0 x1 x2 x3 x4 x5 x6 xf xl
    obtain ⟨x0, x1, x2, x3, x4, x5, x6, xf, xl⟩ := (unhide S19).cells
    go_wp2_with fail
    refine (unhide HO 60 (by omega) _ (by omega) _ (unhide S19).cu).mono ?_
    rintro e w20 ⟨b60, rfl, hcu, hg⟩
    have S20 := hide ((unhide S19).call hcu hg)
    clear hcu hg S19
    clear x0 x1 x2 x3 x4 x5 x6 xf xl
    obtain ⟨x0, x1, x2, x3, x4, x5, x6, xf, xl⟩ := (unhide S20).cells
    obtain ⟨y0, y1, y2, y3, y4, y5, y6, yf, yl⟩ := (unhide S20).rcells
    have hrx := (unhide S20).rx
    cases b60
    · go_wp2
      refine bodyPost_ret (v := .agg #[.string nm2, (.slice (some ⟨Gw12, 0, none⟩) 1 1), .int .i64 0, .int .i64 0, .int .i64 v17, .string ⟨#[]⟩, .bool b14]) (by simp [results, Tryz.results11, go_sem, y0, y1, y2, y3, y4, y5, y6]) rfl ((unhide S20).out (by omega) (fun e => by simp at e) _ _ _ _ _ _ _)
    · go_wp2_with (at_builtin; go_loud (refine wpList_append_own _ rfl _ _ 26 rfl (X + 1) 9 i0 _ 1 16 Tryz.underlying26 (unhide HI) (unhide HZ0) (unhide HZ1) (unhide HZ2) rfl (by decide) _ _ _ rfl ((unhide S20).alloc _).own ⟨w20.heap.size, 0, none⟩ 1 1 [.string ⟨#[97]⟩] rfl rfl ?c1 ?c2 ?c3 ?c4 ?c5 ?_))
      case c1 => exact StrN.news_cells w20 ⟨#[97]⟩ _
      case c2 => exact StrN.news_one ⟨#[97]⟩
      case c3 => have := (unhide S20).ln; unfold maxLen; omega
      case c4 => have := (unhide S20).ln; omega
      case c5 => simp; omega
      intro v' wz hown' hgrow _
      have OZ := StrN.own_snoc hown'
      obtain ⟨bz, cz, hvz⟩ := own_form hown'
      subst hvz
      have SZ := hide (Cs.put1 ((unhide S20).alloc (.cells #[.string ⟨#[97]⟩] 9)) hgrow (fun g e => by have := own_block (unhide S20).own g e; omega) ((((unhide S20).alloc _).cu).gbN hgrow (fun g e => by have := own_block (unhide S20).own g e; have := (unhide S20).ne; omega)) OZ (snocS (unhide S20).sz (by decide)) (by rw [List.length_append]; simp) rfl)
      have xz := (((unhide S20).alloc (.cells #[.string ⟨#[97]⟩] 9)))
      have ez := (hgrow.block X (lt_of_heap xz.box) (fun e => by have := own_block (unhide S20).own X e.symm; omega)).trans xz.box
      have z1 : wz.cell? ⟨X, 1, none⟩ = some (.slice (some ⟨Gw12, 0, none⟩) 1 1) := by rw [Lib.cell_of_heap ez]; rfl
      have zf : ∀ o, wz.frozen? ⟨X, o, none⟩ = false := fun o => Lib.frozen_of_heap ez o
      clear xz ez hown' hgrow OZ x0 x1 x2 x3 x4 x5 x6 xf xl y0 y1 y2 y3 y4 y5 y6 yf yl
      go_upto_region 24 with fail
      generalize wz.setCell ⟨X, 1, none⟩ _ = wy at SZ ⊢
      obtain ⟨x0, x1, x2, x3, x4, x5, x6, xf, xl⟩ := (unhide SZ).cells
      obtain ⟨y0, y1, y2, y3, y4, y5, y6, yf, yl⟩ := (unhide SZ).rcells
      go_wp2
      refine bodyPost_ret (v := .agg #[.string nm2, .slice bz _ cz, .int .i64 0, .int .i64 0, .int .i64 v17, .string ⟨#[]⟩, .bool b14]) (by simp [results, Tryz.results11, go_sem, y0, y1, y2, y3, y4, y5, y6]) rfl ((unhide SZ).out (by omega) (fun e => by simp at e) _ _ _ _ _ _ _)
  · go_wp2_with fail
    refine (unhide HKY _ (by omega) _ (unhide S4).cu).mono ?_
    rintro e w12 ⟨s11, rfl, hss11, hcu, hg⟩
    have S12 := hide ((unhide S4).call hcu hg)
    clear hcu hg S4
    clear x0 x1 x2 x3 x4 x5 x6 xf xl
    obtain ⟨x0, x1, x2, x3, x4, x5, x6, xf, xl⟩ := (unhide S12).cells
    have S13 := hide ((unhide S12).one (s := s11) (by omega))
    go_upto_region 7 with fail
    generalize (w12.setCell ⟨X, 1, none⟩ (.slice (some ⟨w12.heap.size, 0, none⟩) 1 1)).alloc (.cells #[.string s11] 9) = w13 at S13 ⊢
    clear S12
    clear x0 x1 x2 x3 x4 x5 x6 xf xl
    obtain ⟨x0, x1, x2, x3, x4, x5, x6, xf, xl⟩ := (unhide S13).cells
    generalize w12.heap.size = Gw12 at S13 x1 ⊢
    go_wp2_with fail
    refine (unhide HO 6 (by omega) _ (by omega) _ (unhide S13).cu).mono ?_
    rintro e w15 ⟨b14, rfl, hcu, hg⟩
    have S15 := hide ((unhide S13).call hcu hg)
    clear hcu hg S13
    clear x0 x1 x2 x3 x4 x5 x6 xf xl
    obtain ⟨x0, x1, x2, x3, x4, x5, x6, xf, xl⟩ := (unhide S15).cells
    have S16 := hide ((unhide S15).put6 b14)
    go_upto_region 14 with fail
    generalize w15.setCell ⟨X, 6, none⟩ (.bool b14) = w16 at S16 ⊢
    clear S15
    clear x0 x1 x2 x3 x4 x5 x6 xf xl
    obtain ⟨x0, x1, x2, x3, x4, x5, x6, xf, xl⟩ := (unhide S16).cells
    go_wp2_with fail
    refine (unhide HNU _ (by omega) _ (unhide S16).cu).mono ?_
    rintro e w18 ⟨v17, rfl, -, hcu, hg⟩
    have S18 := hide ((unhide S16).call hcu hg)
    clear hcu hg S16
    clear x0 x1 x2 x3 x4 x5 x6 xf xl
    obtain ⟨x0, x1, x2, x3, x4, x5, x6, xf, xl⟩ := (unhide S18).cells
    have S19 := hide ((unhide S18).put3 v17)
    go_upto_region 22 with fail
    generalize w18.setCell ⟨X, 3, none⟩ (.int .i64 v17) = w19 at S19 ⊢
    clear S18
    clear x0 x1 x2 x3 x4 x5 x6 xf xl
    obtain ⟨x0, x1, x2, x3, x4, x5, x6, xf, xl⟩ := (unhide S19).cells
    go_wp2_with fail
    refine (unhide HO 60 (by omega) _ (by omega) _ (unhide S19).cu).mono ?_
    rintro e w20 ⟨b60, rfl, hcu, hg⟩
    have S20 := hide ((unhide S19).call hcu hg)
    clear hcu hg S19
    clear x0 x1 x2 x3 x4 x5 x6 xf xl
    obtain ⟨x0, x1, x2, x3, x4, x5, x6, xf, xl⟩ := (unhide S20).cells
    obtain ⟨y0, y1, y2, y3, y4, y5, y6, yf, yl⟩ := (unhide S20).rcells
    have hrx := (unhide S20).rx
    cases b60
    · go_wp2
      refine bodyPost_ret (v := .agg #[.string nm2, (.slice (some ⟨Gw12, 0, none⟩) 1 1), .int .i64 0, .int .i64 v17, .int .i64 0, .string ⟨#[]⟩, .bool b14]) (by simp [results, Tryz.results11, go_sem, y0, y1, y2, y3, y4, y5, y6]) rfl ((unhide S20).out (by omega) (fun e => by simp at e) _ _ _ _ _ _ _)
    · go_wp2_with (at_builtin; go_loud (refine wpList_append_own _ rfl _ _ 26 rfl (X + 1) 9 i0 _ 1 16 Tryz.underlying26 (unhide HI) (unhide HZ0) (unhide HZ1) (unhide HZ2) rfl (by decide) _ _ _ rfl ((unhide S20).alloc _).own ⟨w20.heap.size, 0, none⟩ 1 1 [.string ⟨#[97]⟩] rfl rfl ?c1 ?c2 ?c3 ?c4 ?c5 ?_))
      case c1 => exact StrN.news_cells w20 ⟨#[97]⟩ _
      case c2 => exact StrN.news_one ⟨#[97]⟩
      case c3 => have := (unhide S20).ln; unfold maxLen; omega
      case c4 => have := (unhide S20).ln; omega
      case c5 => simp; omega
      intro v' wz hown' hgrow _
      have OZ := StrN.own_snoc hown'
      obtain ⟨bz, cz, hvz⟩ := own_form hown'
      subst hvz
      have SZ := hide (Cs.put1 ((unhide S20).alloc (.cells #[.string ⟨#[97]⟩] 9)) hgrow (fun g e => by have := own_block (unhide S20).own g e; omega) ((((unhide S20).alloc _).cu).gbN hgrow (fun g e => by have := own_block (unhide S20).own g e; have := (unhide S20).ne; omega)) OZ (snocS (unhide S20).sz (by decide)) (by rw [List.length_append]; simp) rfl)
      have xz := (((unhide S20).alloc (.cells #[.string ⟨#[97]⟩] 9)))
      have ez := (hgrow.block X (lt_of_heap xz.box) (fun e => by have := own_block (unhide S20).own X e.symm; omega)).trans xz.box
      have z1 : wz.cell? ⟨X, 1, none⟩ = some (.slice (some ⟨Gw12, 0, none⟩) 1 1) := by rw [Lib.cell_of_heap ez]; rfl
      have zf : ∀ o, wz.frozen? ⟨X, o, none⟩ = false := fun o => Lib.frozen_of_heap ez o
      clear xz ez hown' hgrow OZ x0 x1 x2 x3 x4 x5 x6 xf xl y0 y1 y2 y3 y4 y5 y6 yf yl
      go_upto_region 24 with fail
      generalize wz.setCell ⟨X, 1, none⟩ _ = wy at SZ ⊢
      obtain ⟨x0, x1, x2, x3, x4, x5, x6, xf, xl⟩ := (unhide SZ).cells
      obtain ⟨y0, y1, y2, y3, y4, y5, y6, yf, yl⟩ := (unhide SZ).rcells
      go_wp2
      refine bodyPost_ret (v := .agg #[.string nm2, .slice bz _ cz, .int .i64 0, .int .i64 v17, .int .i64 0, .string ⟨#[]⟩, .bool b14]) (by simp [results, Tryz.results11, go_sem, y0, y1, y2, y3, y4, y5, y6]) rfl ((unhide SZ).out (by omega) (fun e => by simp at e) _ _ _ _ _ _ _)
  · go_wp2_with fail
    refine (unhide HKY _ (by omega) _ (unhide S4).cu).mono ?_
    rintro e w12 ⟨s11, rfl, hss11, hcu, hg⟩
    have S12 := hide ((unhide S4).call hcu hg)
    clear hcu hg S4
    clear x0 x1 x2 x3 x4 x5 x6 xf xl
    obtain ⟨x0, x1, x2, x3, x4, x5, x6, xf, xl⟩ := (unhide S12).cells
    have S13 := hide ((unhide S12).one (s := s11) (by omega))
    go_upto_region 7 with fail
    generalize (w12.setCell ⟨X, 1, none⟩ (.slice (some ⟨w12.heap.size, 0, none⟩) 1 1)).alloc (.cells #[.string s11] 9) = w13 at S13 ⊢
    clear S12
    clear x0 x1 x2 x3 x4 x5 x6 xf xl
    obtain ⟨x0, x1, x2, x3, x4, x5, x6, xf, xl⟩ := (unhide S13).cells
    generalize w12.heap.size = Gw12 at S13 x1 ⊢
    go_wp2_with fail
    refine (unhide HO 6 (by omega) _ (by omega) _ (unhide S13).cu).mono ?_
    rintro e w15 ⟨b14, rfl, hcu, hg⟩
    have S15 := hide ((unhide S13).call hcu hg)
    clear hcu hg S13
    clear x0 x1 x2 x3 x4 x5 x6 xf xl
    obtain ⟨x0, x1, x2, x3, x4, x5, x6, xf, xl⟩ := (unhide S15).cells
    have S16 := hide ((unhide S15).put6 b14)
    go_upto_region 14 with fail
    generalize w15.setCell ⟨X, 6, none⟩ (.bool b14) = w16 at S16 ⊢
    clear S15
    clear x0 x1 x2 x3 x4 x5 x6 xf xl
    obtain ⟨x0, x1, x2, x3, x4, x5, x6, xf, xl⟩ := (unhide S16).cells
    go_wp2_with fail
    refine (unhide HO 60 (by omega) _ (by omega) _ (unhide S16).cu).mono ?_
    rintro e w17 ⟨b60, rfl, hcu, hg⟩
    have S17 := hide ((unhide S16).call hcu hg)
    clear hcu hg S16
    clear x0 x1 x2 x3 x4 x5 x6 xf xl
    obtain ⟨x0, x1, x2, x3, x4, x5, x6, xf, xl⟩ := (unhide S17).cells
    obtain ⟨y0, y1, y2, y3, y4, y5, y6, yf, yl⟩ := (unhide S17).rcells
    have hrx := (unhide S17).rx
    cases b60
    · go_wp2
      refine bodyPost_ret (v := .agg #[.string nm2, (.slice (some ⟨Gw12, 0, none⟩) 1 1), .int .i64 0, .int .i64 0, .int .i64 0, .string ⟨#[]⟩, .bool b14]) (by simp [results, Tryz.results11, go_sem, y0, y1, y2, y3, y4, y5, y6]) rfl ((unhide S17).out (by omega) (fun e => by simp at e) _ _ _ _ _ _ _)
    · go_wp2_with (at_builtin; go_loud (refine wpList_append_own _ rfl _ _ 26 rfl (X + 1) 9 i0 _ 1 16 Tryz.underlying26 (unhide HI) (unhide HZ0) (unhide HZ1) (unhide HZ2) rfl (by decide) _ _ _ rfl ((unhide S17).alloc _).own ⟨w17.heap.size, 0, none⟩ 1 1 [.string ⟨#[97]⟩] rfl rfl ?c1 ?c2 ?c3 ?c4 ?c5 ?_))
      case c1 => exact StrN.news_cells w17 ⟨#[97]⟩ _
      case c2 => exact StrN.news_one ⟨#[97]⟩
      case c3 => have := (unhide S17).ln; unfold maxLen; omega
      case c4 => have := (unhide S17).ln; omega
      case c5 => simp; omega
      intro v' wz hown' hgrow _
      have OZ := StrN.own_snoc hown'
      obtain ⟨bz, cz, hvz⟩ := own_form hown'
      subst hvz
      have SZ := hide (Cs.put1 ((unhide S17).alloc (.cells #[.string ⟨#[97]⟩] 9)) hgrow (fun g e => by have := own_block (unhide S17).own g e; omega) ((((unhide S17).alloc _).cu).gbN hgrow (fun g e => by have := own_block (unhide S17).own g e; have := (unhide S17).ne; omega)) OZ (snocS (unhide S17).sz (by decide)) (by rw [List.length_append]; simp) rfl)
      have xz := (((unhide S17).alloc (.cells #[.string ⟨#[97]⟩] 9)))
      have ez := (hgrow.block X (lt_of_heap xz.box) (fun e => by have := own_block (unhide S17).own X e.symm; omega)).trans xz.box
      have z1 : wz.cell? ⟨X, 1, none⟩ = some (.slice (some ⟨Gw12, 0, none⟩) 1 1) := by rw [Lib.cell_of_heap ez]; rfl
      have zf : ∀ o, wz.frozen? ⟨X, o, none⟩ = false := fun o => Lib.frozen_of_heap ez o
      clear xz ez hown' hgrow OZ x0 x1 x2 x3 x4 x5 x6 xf xl y0 y1 y2 y3 y4 y5 y6 yf yl
      go_upto_region 24 with fail
      generalize wz.setCell ⟨X, 1, none⟩ _ = wy at SZ ⊢
      obtain ⟨x0, x1, x2, x3, x4, x5, x6, xf, xl⟩ := (unhide SZ).cells
      obtain ⟨y0, y1, y2, y3, y4, y5, y6, yf, yl⟩ := (unhide SZ).rcells
      go_wp2
      refine bodyPost_ret (v := .agg #[.string nm2, .slice bz _ cz, .int .i64 0, .int .i64 0, .int .i64 0, .string ⟨#[]⟩, .bool b14]) (by simp [results, Tryz.results11, go_sem, y0, y1, y2, y3, y4, y5, y6]) rfl ((unhide SZ).out (by omega) (fun e => by simp at e) _ _ _ _ _ _ _)
  · go_wp2_with fail
    refine (unhide HO 60 (by omega) _ (by omega) _ (unhide S4).cu).mono ?_
    rintro e w11 ⟨b60, rfl, hcu, hg⟩
    have S11 := hide ((unhide S4).call hcu hg)
    clear hcu hg S4
    clear x0 x1 x2 x3 x4 x5 x6 xf xl
    obtain ⟨x0, x1, x2, x3, x4, x5, x6, xf, xl⟩ := (unhide S11).cells
    obtain ⟨y0, y1, y2, y3, y4, y5, y6, yf, yl⟩ := (unhide S11).rcells
    have hrx := (unhide S11).rx
    cases b60
    · go_wp2
      refine bodyPost_ret (v := .agg #[.string nm2, (.slice none 0 0), .int .i64 0, .int .i64 0, .int .i64 0, .string ⟨#[]⟩, .bool false]) (by simp [results, Tryz.results11, go_sem, y0, y1, y2, y3, y4, y5, y6]) rfl ((unhide S11).out (by omega) (fun e => unhide HKE) _ _ _ _ _ _ _)
    · go_wp2_with (at_builtin; go_loud (refine wpList_append_own _ rfl _ _ 26 rfl (X + 1) 9 i0 _ 1 16 Tryz.underlying26 (unhide HI) (unhide HZ0) (unhide HZ1) (unhide HZ2) rfl (by decide) _ _ _ rfl ((unhide S11).alloc _).own ⟨w11.heap.size, 0, none⟩ 1 1 [.string ⟨#[97]⟩] rfl rfl ?c1 ?c2 ?c3 ?c4 ?c5 ?_))
      case c1 => exact StrN.news_cells w11 ⟨#[97]⟩ _
      case c2 => exact StrN.news_one ⟨#[97]⟩
      case c3 => have := (unhide S11).ln; unfold maxLen; omega
      case c4 => have := (unhide S11).ln; omega
      case c5 => simp; omega
      intro v' wz hown' hgrow _
      have OZ := StrN.own_snoc hown'
      obtain ⟨bz, cz, hvz⟩ := own_form hown'
      subst hvz
      have SZ := hide (Cs.put1 ((unhide S11).alloc (.cells #[.string ⟨#[97]⟩] 9)) hgrow (fun g e => by have := own_block (unhide S11).own g e; omega) ((((unhide S11).alloc _).cu).gbN hgrow (fun g e => by have := own_block (unhide S11).own g e; have := (unhide S11).ne; omega)) OZ (snocS (unhide S11).sz (by decide)) (by rw [List.length_append]; simp) rfl)
      have xz := (((unhide S11).alloc (.cells #[.string ⟨#[97]⟩] 9)))
      have ez := (hgrow.block X (lt_of_heap xz.box) (fun e => by have := own_block (unhide S11).own X e.symm; omega)).trans xz.box
      have z1 : wz.cell? ⟨X, 1, none⟩ = some (.slice none 0 0) := by rw [Lib.cell_of_heap ez]; rfl
      have zf : ∀ o, wz.frozen? ⟨X, o, none⟩ = false := fun o => Lib.frozen_of_heap ez o
      clear xz ez hown' hgrow OZ x0 x1 x2 x3 x4 x5 x6 xf xl y0 y1 y2 y3 y4 y5 y6 yf yl
      go_upto_region 24 with fail
      generalize wz.setCell ⟨X, 1, none⟩ _ = wy at SZ ⊢
      obtain ⟨x0, x1, x2, x3, x4, x5, x6, xf, xl⟩ := (unhide SZ).cells
      obtain ⟨y0, y1, y2, y3, y4, y5, y6, yf, yl⟩ := (unhide SZ).rcells
      go_wp2
      refine bodyPost_ret (v := .agg #[.string nm2, .slice bz _ cz, .int .i64 0, .int .i64 0, .int .i64 0, .string ⟨#[]⟩, .bool false]) (by simp [results, Tryz.results11, go_sem, y0, y1, y2, y3, y4, y5, y6]) rfl ((unhide SZ).out (by omega) (fun e => by simp at e) _ _ _ _ _ _ _)
end Cur
end Go.Proofs.YtkdcofmpbmiloaaGreatDoor
/-
  Contracts of the model's l1Number and GoodCmd: it answers by the plain function gcB, for every command whose keys lie in memory.
-/
namespace Go.Proofs.YtkdcofmpbmiloaaGreatDoor
namespace GoodCmd
open Go.RowKit Base GoodKey Kind Num
set_option linter.unusedVariables false

set_option maxHeartbeats 4000000 in
theorem spec_k0 (nm : ByteArray) (b off cap : Nat) (ks : List ByteArray) (f x n : Int) (dt : ByteArray) (q : Bool) (w : World) (hb : b < w.heap.size)
    (hc : ∀ i, i < ks.length → w.cell? ⟨b, off + i, none⟩ = some (.string (ks.getD i ByteArray.empty)))
    (hl : ks.length ≤ maxLen) (hs : ∀ s ∈ ks, s.size ≤ maxLen) (hd : dt.size ≤ maxLen) (hK : Hid (kindN nm.toList = 0)) :
    Calls Tryz.prog 22 #[.agg #[.string nm, .slice (some ⟨b, off, none⟩) ks.length cap, .int .i64 f, .int .i64 x, .int .i64 n, .string dt, .bool q]] w fun e w' =>
      e = .returned (.bool (gcB 0 ks f x n dt q)) ∧ Below w.heap.size w w' := by
  unfold maxLen at hl hd
  have hcs := hide hc
  have hss := hide hs
  clear hc hs
  go_enter Tryz.func22, Tryz.ntmps22
  go_wp2_with fail
  refine (Kind.spec_any _ _).mono ?_
  rintro e w1 ⟨rfl, rfl⟩
  rw [unhide hK]
  go_wp2_with fail
  go_loop [13] (fun i => ∃ k : Nat, k ≤ ks.length ∧ i = .int .i64 k ∧ Hid ((ks.take k).all gkb = true)) (fun i => ks.length - (intOf i).toNat)
  case atStart => exact ⟨0, Nat.zero_le _, rfl, hide rfl⟩
  case round =>
    obtain ⟨k, hk, rfl, ha⟩ := hrel
    by_cases hlt : k < ks.length
    · have hck := unhide hcs k hlt
      have hsk : Hid ((ks.getD k ByteArray.empty).size ≤ maxLen) := unhide hss _ (by rw [List.getD_eq_getElem?_getD, List.getElem?_eq_getElem hlt]; simp)
      have hst := hide (all_step ks k hlt (unhide ha))
      have hbad := hide (all_bad ks k hlt)
      have hgk : ∀ s : ByteArray, Hid (gk s.data.toList = gkb s) := fun s => hide rfl
      generalize ks.getD k ByteArray.empty = s at hck hsk hst hbad
      have hgs := hgk s
      clear hgk
      have hlt2 : b < w.heap.size := hb
      cases hg : gkb s
      · rw [hg] at hbad hgs
        have H := hide (gcB_bad 0 ks f x n dt q (unhide hbad rfl))
        clear hg hst hbad
        go_wp2_with fail
        refine (GoodKey.spec_any _ _ (unhide hsk)).mono ?_
        rintro e w1 ⟨rfl, rfl⟩
        rw [unhide hgs]
        go_wp2
        go_ret
        exact ⟨ret_bool (unhide H).symm, bel1 w _⟩
      · rw [hg] at hst hgs
        have H := hide (unhide hst rfl)
        clear hg hst hbad
        go_wp2_with fail
        refine (GoodKey.spec_any _ _ (unhide hsk)).mono ?_
        rintro e w1 ⟨rfl, rfl⟩
        rw [unhide hgs]
        go_wp2
        go_round
        case rel => exact ⟨k + 1, by omega, by go_num, H⟩
        case measure => simp [intOf]; omega
    · have HA := hide (all_whole ks k hk hlt (unhide ha))
      go_wp2_with (first | (go_at_call 53; refine (number_any _ _).mono ?_; rintro e w1 ⟨rfl, rfl⟩) | (go_at_call 49; refine (l1In_any _ _ _ _).mono ?_; rintro e w1 ⟨rfl, rfl⟩))
      all_goals
        go_ret
        exact ⟨rfl, bel1 w _⟩

set_option maxHeartbeats 4000000 in
theorem spec_k1 (nm : ByteArray) (b off cap : Nat) (ks : List ByteArray) (f x n : Int) (dt : ByteArray) (q : Bool) (w : World) (hb : b < w.heap.size)
    (hc : ∀ i, i < ks.length → w.cell? ⟨b, off + i, none⟩ = some (.string (ks.getD i ByteArray.empty)))
    (hl : ks.length ≤ maxLen) (hs : ∀ s ∈ ks, s.size ≤ maxLen) (hd : dt.size ≤ maxLen) (hK : Hid (kindN nm.toList = 1)) :
    Calls Tryz.prog 22 #[.agg #[.string nm, .slice (some ⟨b, off, none⟩) ks.length cap, .int .i64 f, .int .i64 x, .int .i64 n, .string dt, .bool q]] w fun e w' =>
      e = .returned (.bool (gcB 1 ks f x n dt q)) ∧ Below w.heap.size w w' := by
  unfold maxLen at hl hd
  have hcs := hide hc
  have hss := hide hs
  clear hc hs
  go_enter Tryz.func22, Tryz.ntmps22
  go_wp2_with fail
  refine (Kind.spec_any _ _).mono ?_
  rintro e w1 ⟨rfl, rfl⟩
  rw [unhide hK]
  go_wp2_with fail
  go_loop [13] (fun i => ∃ k : Nat, k ≤ ks.length ∧ i = .int .i64 k ∧ Hid ((ks.take k).all gkb = true)) (fun i => ks.length - (intOf i).toNat)
  case atStart => exact ⟨0, Nat.zero_le _, rfl, hide rfl⟩
  case round =>
    obtain ⟨k, hk, rfl, ha⟩ := hrel
    by_cases hlt : k < ks.length
    · have hck := unhide hcs k hlt
      have hsk : Hid ((ks.getD k ByteArray.empty).size ≤ maxLen) := unhide hss _ (by rw [List.getD_eq_getElem?_getD, List.getElem?_eq_getElem hlt]; simp)
      have hst := hide (all_step ks k hlt (unhide ha))
      have hbad := hide (all_bad ks k hlt)
      have hgk : ∀ s : ByteArray, Hid (gk s.data.toList = gkb s) := fun s => hide rfl
      generalize ks.getD k ByteArray.empty = s at hck hsk hst hbad
      have hgs := hgk s
      clear hgk
      have hlt2 : b < w.heap.size := hb
      cases hg : gkb s
      · rw [hg] at hbad hgs
        have H := hide (gcB_bad 1 ks f x n dt q (unhide hbad rfl))
        clear hg hst hbad
        go_wp2_with fail
        refine (GoodKey.spec_any _ _ (unhide hsk)).mono ?_
        rintro e w1 ⟨rfl, rfl⟩
        rw [unhide hgs]
        go_wp2
        go_ret
        exact ⟨ret_bool (unhide H).symm, bel1 w _⟩
      · rw [hg] at hst hgs
        have H := hide (unhide hst rfl)
        clear hg hst hbad
        go_wp2_with fail
        refine (GoodKey.spec_any _ _ (unhide hsk)).mono ?_
        rintro e w1 ⟨rfl, rfl⟩
        rw [unhide hgs]
        go_wp2
        go_round
        case rel => exact ⟨k + 1, by omega, by go_num, H⟩
        case measure => simp [intOf]; omega
    · have HA := hide (all_whole ks k hk hlt (unhide ha))
      go_wp2_with (first | (go_at_call 53; refine (number_any _ _).mono ?_; rintro e w1 ⟨rfl, rfl⟩) | (go_at_call 49; refine (l1In_any _ _ _ _).mono ?_; rintro e w1 ⟨rfl, rfl⟩))
      all_goals
        go_ret
        refine ⟨ret_bool ?_, bel1 w _⟩
        rw [gcB1]
        first
          | exact form_f (num_no ‹_›)
          | exact form_x (num_no ‹_›)
          | exact form_n (num_no ‹_›)
          | exact form_d (dat_no ‹_›)
          | exact form_f (num_not0 ‹_›)
          | exact form_d (dat_not0 ‹_›)
          | exact form_x (num_not0 ‹_›)
          | exact form_n (num_not0 (ne_of ‹_›))
          | skip
      all_goals rw [form_end (unhide HA) (num_zero ‹f = 0›) (num_zero ‹x = 0›) (num_zero (eq_of ‹(n != 0) = false›)) (dat_zero ‹dt.toList = []›)]
      · rw [‹inB (ks.length : Int) 1 10 = true›]; simp
      · rw [Bool.eq_false_iff.2 ‹¬ inB (ks.length : Int) 1 10 = true›]; simp

set_option maxHeartbeats 4000000 in
theorem spec_k2 (nm : ByteArray) (b off cap : Nat) (ks : List ByteArray) (f x n : Int) (dt : ByteArray) (q : Bool) (w : World) (hb : b < w.heap.size)
    (hc : ∀ i, i < ks.length → w.cell? ⟨b, off + i, none⟩ = some (.string (ks.getD i ByteArray.empty)))
    (hl : ks.length ≤ maxLen) (hs : ∀ s ∈ ks, s.size ≤ maxLen) (hd : dt.size ≤ maxLen) (hK : Hid (kindN nm.toList = 2)) :
    Calls Tryz.prog 22 #[.agg #[.string nm, .slice (some ⟨b, off, none⟩) ks.length cap, .int .i64 f, .int .i64 x, .int .i64 n, .string dt, .bool q]] w fun e w' =>
      e = .returned (.bool (gcB 2 ks f x n dt q)) ∧ Below w.heap.size w w' := by
  unfold maxLen at hl hd
  have hcs := hide hc
  have hss := hide hs
  clear hc hs
  go_enter Tryz.func22, Tryz.ntmps22
  go_wp2_with fail
  refine (Kind.spec_any _ _).mono ?_
  rintro e w1 ⟨rfl, rfl⟩
  rw [unhide hK]
  go_wp2_with fail
  go_loop [13] (fun i => ∃ k : Nat, k ≤ ks.length ∧ i = .int .i64 k ∧ Hid ((ks.take k).all gkb = true)) (fun i => ks.length - (intOf i).toNat)
  case atStart => exact ⟨0, Nat.zero_le _, rfl, hide rfl⟩
  case round =>
    obtain ⟨k, hk, rfl, ha⟩ := hrel
    by_cases hlt : k < ks.length
    · have hck := unhide hcs k hlt
      have hsk : Hid ((ks.getD k ByteArray.empty).size ≤ maxLen) := unhide hss _ (by rw [List.getD_eq_getElem?_getD, List.getElem?_eq_getElem hlt]; simp)
      have hst := hide (all_step ks k hlt (unhide ha))
      have hbad := hide (all_bad ks k hlt)
      have hgk : ∀ s : ByteArray, Hid (gk s.data.toList = gkb s) := fun s => hide rfl
      generalize ks.getD k ByteArray.empty = s at hck hsk hst hbad
      have hgs := hgk s
      clear hgk
      have hlt2 : b < w.heap.size := hb
      cases hg : gkb s
      · rw [hg] at hbad hgs
        have H := hide (gcB_bad 2 ks f x n dt q (unhide hbad rfl))
        clear hg hst hbad
        go_wp2_with fail
        refine (GoodKey.spec_any _ _ (unhide hsk)).mono ?_
        rintro e w1 ⟨rfl, rfl⟩
        rw [unhide hgs]
        go_wp2
        go_ret
        exact ⟨ret_bool (unhide H).symm, bel1 w _⟩
      · rw [hg] at hst hgs
        have H := hide (unhide hst rfl)
        clear hg hst hbad
        go_wp2_with fail
        refine (GoodKey.spec_any _ _ (unhide hsk)).mono ?_
        rintro e w1 ⟨rfl, rfl⟩
        rw [unhide hgs]
        go_wp2
        go_round
        case rel => exact ⟨k + 1, by omega, by go_num, H⟩
        case measure => simp [intOf]; omega
    · have HA := hide (all_whole ks k hk hlt (unhide ha))
      go_wp2_with (first | (go_at_call 53; refine (number_any _ _).mono ?_; rintro e w1 ⟨rfl, rfl⟩) | (go_at_call 49; refine (l1In_any _ _ _ _).mono ?_; rintro e w1 ⟨rfl, rfl⟩))
      all_goals
        go_ret
        refine ⟨ret_bool ?_, bel1 w _⟩
        rw [gcB2]
        first
          | exact form_f (num_no ‹_›)
          | exact form_x (num_no ‹_›)
          | exact form_n (num_no ‹_›)
          | exact form_d (dat_no ‹_›)
          | exact form_f (num_not0 ‹_›)
          | exact form_d (dat_not0 ‹_›)
          | exact form_x (num_not0 ‹_›)
          | exact form_n (num_not0 (ne_of ‹_›))
          | skip
      all_goals rw [form_end (unhide HA) (num_yes ‹inB f 0 1000000000 = true›) (num_yes ‹inB x 0 1000000000 = true›) (num_zero (eq_of ‹(n != 0) = false›)) (dat_yes ‹(dt.size : Int) ≤ 100›)]
      rw [one_len]; simp

set_option maxHeartbeats 4000000 in
theorem spec_k3 (nm : ByteArray) (b off cap : Nat) (ks : List ByteArray) (f x n : Int) (dt : ByteArray) (q : Bool) (w : World) (hb : b < w.heap.size)
    (hc : ∀ i, i < ks.length → w.cell? ⟨b, off + i, none⟩ = some (.string (ks.getD i ByteArray.empty)))
    (hl : ks.length ≤ maxLen) (hs : ∀ s ∈ ks, s.size ≤ maxLen) (hd : dt.size ≤ maxLen) (hK : Hid (kindN nm.toList = 3)) :
    Calls Tryz.prog 22 #[.agg #[.string nm, .slice (some ⟨b, off, none⟩) ks.length cap, .int .i64 f, .int .i64 x, .int .i64 n, .string dt, .bool q]] w fun e w' =>
      e = .returned (.bool (gcB 3 ks f x n dt q)) ∧ Below w.heap.size w w' := by
  unfold maxLen at hl hd
  have hcs := hide hc
  have hss := hide hs
  clear hc hs
  go_enter Tryz.func22, Tryz.ntmps22
  go_wp2_with fail
  refine (Kind.spec_any _ _).mono ?_
  rintro e w1 ⟨rfl, rfl⟩
  rw [unhide hK]
  go_wp2_with fail
  go_loop [13] (fun i => ∃ k : Nat, k ≤ ks.length ∧ i = .int .i64 k ∧ Hid ((ks.take k).all gkb = true)) (fun i => ks.length - (intOf i).toNat)
  case atStart => exact ⟨0, Nat.zero_le _, rfl, hide rfl⟩
  case round =>
    obtain ⟨k, hk, rfl, ha⟩ := hrel
    by_cases hlt : k < ks.length
    · have hck := unhide hcs k hlt
      have hsk : Hid ((ks.getD k ByteArray.empty).size ≤ maxLen) := unhide hss _ (by rw [List.getD_eq_getElem?_getD, List.getElem?_eq_getElem hlt]; simp)
      have hst := hide (all_step ks k hlt (unhide ha))
      have hbad := hide (all_bad ks k hlt)
      have hgk : ∀ s : ByteArray, Hid (gk s.data.toList = gkb s) := fun s => hide rfl
      generalize ks.getD k ByteArray.empty = s at hck hsk hst hbad
      have hgs := hgk s
      clear hgk
      have hlt2 : b < w.heap.size := hb
      cases hg : gkb s
      · rw [hg] at hbad hgs
        have H := hide (gcB_bad 3 ks f x n dt q (unhide hbad rfl))
        clear hg hst hbad
        go_wp2_with fail
        refine (GoodKey.spec_any _ _ (unhide hsk)).mono ?_
        rintro e w1 ⟨rfl, rfl⟩
        rw [unhide hgs]
        go_wp2
        go_ret
        exact ⟨ret_bool (unhide H).symm, bel1 w _⟩
      · rw [hg] at hst hgs
        have H := hide (unhide hst rfl)
        clear hg hst hbad
        go_wp2_with fail
        refine (GoodKey.spec_any _ _ (unhide hsk)).mono ?_
        rintro e w1 ⟨rfl, rfl⟩
        rw [unhide hgs]
        go_wp2
        go_round
        case rel => exact ⟨k + 1, by omega, by go_num, H⟩
        case measure => simp [intOf]; omega
    · have HA := hide (all_whole ks k hk hlt (unhide ha))
      go_wp2_with (first | (go_at_call 53; refine (number_any _ _).mono ?_; rintro e w1 ⟨rfl, rfl⟩) | (go_at_call 49; refine (l1In_any _ _ _ _).mono ?_; rintro e w1 ⟨rfl, rfl⟩))
      all_goals
        go_ret
        refine ⟨ret_bool ?_, bel1 w _⟩
        rw [gcB3]
        first
          | exact form_f (num_no ‹_›)
          | exact form_x (num_no ‹_›)
          | exact form_n (num_no ‹_›)
          | exact form_d (dat_no ‹_›)
          | exact form_f (num_not0 ‹_›)
          | exact form_d (dat_not0 ‹_›)
          | exact form_x (num_not0 ‹_›)
          | exact form_n (num_not0 (ne_of ‹_›))
          | skip
      all_goals rw [form_end (unhide HA) (num_yes ‹inB f 0 1000000000 = true›) (num_yes ‹inB x 0 1000000000 = true›) (num_yes ‹inB n 0 1000000000 = true›) (dat_yes ‹(dt.size : Int) ≤ 100›)]
      rw [one_len]; simp

set_option maxHeartbeats 4000000 in
theorem spec_k4 (nm : ByteArray) (b off cap : Nat) (ks : List ByteArray) (f x n : Int) (dt : ByteArray) (q : Bool) (w : World) (hb : b < w.heap.size)
    (hc : ∀ i, i < ks.length → w.cell? ⟨b, off + i, none⟩ = some (.string (ks.getD i ByteArray.empty)))
    (hl : ks.length ≤ maxLen) (hs : ∀ s ∈ ks, s.size ≤ maxLen) (hd : dt.size ≤ maxLen) (hK : Hid (kindN nm.toList = 4)) :
    Calls Tryz.prog 22 #[.agg #[.string nm, .slice (some ⟨b, off, none⟩) ks.length cap, .int .i64 f, .int .i64 x, .int .i64 n, .string dt, .bool q]] w fun e w' =>
      e = .returned (.bool (gcB 4 ks f x n dt q)) ∧ Below w.heap.size w w' := by
  unfold maxLen at hl hd
  have hcs := hide hc
  have hss := hide hs
  clear hc hs
  go_enter Tryz.func22, Tryz.ntmps22
  go_wp2_with fail
  refine (Kind.spec_any _ _).mono ?_
  rintro e w1 ⟨rfl, rfl⟩
  rw [unhide hK]
  go_wp2_with fail
  go_loop [13] (fun i => ∃ k : Nat, k ≤ ks.length ∧ i = .int .i64 k ∧ Hid ((ks.take k).all gkb = true)) (fun i => ks.length - (intOf i).toNat)
  case atStart => exact ⟨0, Nat.zero_le _, rfl, hide rfl⟩
  case round =>
    obtain ⟨k, hk, rfl, ha⟩ := hrel
    by_cases hlt : k < ks.length
    · have hck := unhide hcs k hlt
      have hsk : Hid ((ks.getD k ByteArray.empty).size ≤ maxLen) := unhide hss _ (by rw [List.getD_eq_getElem?_getD, List.getElem?_eq_getElem hlt]; simp)
      have hst := hide (all_step ks k hlt (unhide ha))
      have hbad := hide (all_bad ks k hlt)
      have hgk : ∀ s : ByteArray, Hid (gk s.data.toList = gkb s) := fun s => hide rfl
      generalize ks.getD k ByteArray.empty = s at hck hsk hst hbad
      have hgs := hgk s
      clear hgk
      have hlt2 : b < w.heap.size := hb
      cases hg : gkb s
      · rw [hg] at hbad hgs
        have H := hide (gcB_bad 4 ks f x n dt q (unhide hbad rfl))
        clear hg hst hbad
        go_wp2_with fail
        refine (GoodKey.spec_any _ _ (unhide hsk)).mono ?_
        rintro e w1 ⟨rfl, rfl⟩
        rw [unhide hgs]
        go_wp2
        go_ret
        exact ⟨ret_bool (unhide H).symm, bel1 w _⟩
      · rw [hg] at hst hgs
        have H := hide (unhide hst rfl)
        clear hg hst hbad
        go_wp2_with fail
        refine (GoodKey.spec_any _ _ (unhide hsk)).mono ?_
        rintro e w1 ⟨rfl, rfl⟩
        rw [unhide hgs]
        go_wp2
        go_round
        case rel => exact ⟨k + 1, by omega, by go_num, H⟩
        case measure => simp [intOf]; omega
    · have HA := hide (all_whole ks k hk hlt (unhide ha))
      go_wp2_with (first | (go_at_call 53; refine (number_any _ _).mono ?_; rintro e w1 ⟨rfl, rfl⟩) | (go_at_call 49; refine (l1In_any _ _ _ _).mono ?_; rintro e w1 ⟨rfl, rfl⟩))
      all_goals
        go_ret
        refine ⟨ret_bool ?_, bel1 w _⟩
        rw [gcB4]
        first
          | exact form_f (num_no ‹_›)
          | exact form_x (num_no ‹_›)
          | exact form_n (num_no ‹_›)
          | exact form_d (dat_no ‹_›)
          | exact form_f (num_not0 ‹_›)
          | exact form_d (dat_not0 ‹_›)
          | exact form_x (num_not0 ‹_›)
          | exact form_n (num_not0 (ne_of ‹_›))
          | skip
      all_goals rw [form_end (unhide HA) (num_zero ‹f = 0›) (num_zero ‹x = 0›) (num_yes ‹inB n 0 1000000000 = true›) (dat_zero ‹dt.toList = []›)]
      rw [one_len]; simp

set_option maxHeartbeats 4000000 in
theorem spec_k5 (nm : ByteArray) (b off cap : Nat) (ks : List ByteArray) (f x n : Int) (dt : ByteArray) (q : Bool) (w : World) (hb : b < w.heap.size)
    (hc : ∀ i, i < ks.length → w.cell? ⟨b, off + i, none⟩ = some (.string (ks.getD i ByteArray.empty)))
    (hl : ks.length ≤ maxLen) (hs : ∀ s ∈ ks, s.size ≤ maxLen) (hd : dt.size ≤ maxLen) (hK : Hid (kindN nm.toList = 5)) :
    Calls Tryz.prog 22 #[.agg #[.string nm, .slice (some ⟨b, off, none⟩) ks.length cap, .int .i64 f, .int .i64 x, .int .i64 n, .string dt, .bool q]] w fun e w' =>
      e = .returned (.bool (gcB 5 ks f x n dt q)) ∧ Below w.heap.size w w' := by
  unfold maxLen at hl hd
  have hcs := hide hc
  have hss := hide hs
  clear hc hs
  go_enter Tryz.func22, Tryz.ntmps22
  go_wp2_with fail
  refine (Kind.spec_any _ _).mono ?_
  rintro e w1 ⟨rfl, rfl⟩
  rw [unhide hK]
  go_wp2_with fail
  go_loop [13] (fun i => ∃ k : Nat, k ≤ ks.length ∧ i = .int .i64 k ∧ Hid ((ks.take k).all gkb = true)) (fun i => ks.length - (intOf i).toNat)
  case atStart => exact ⟨0, Nat.zero_le _, rfl, hide rfl⟩
  case round =>
    obtain ⟨k, hk, rfl, ha⟩ := hrel
    by_cases hlt : k < ks.length
    · have hck := unhide hcs k hlt
      have hsk : Hid ((ks.getD k ByteArray.empty).size ≤ maxLen) := unhide hss _ (by rw [List.getD_eq_getElem?_getD, List.getElem?_eq_getElem hlt]; simp)
      have hst := hide (all_step ks k hlt (unhide ha))
      have hbad := hide (all_bad ks k hlt)
      have hgk : ∀ s : ByteArray, Hid (gk s.data.toList = gkb s) := fun s => hide rfl
      generalize ks.getD k ByteArray.empty = s at hck hsk hst hbad
      have hgs := hgk s
      clear hgk
      have hlt2 : b < w.heap.size := hb
      cases hg : gkb s
      · rw [hg] at hbad hgs
        have H := hide (gcB_bad 5 ks f x n dt q (unhide hbad rfl))
        clear hg hst hbad
        go_wp2_with fail
        refine (GoodKey.spec_any _ _ (unhide hsk)).mono ?_
        rintro e w1 ⟨rfl, rfl⟩
        rw [unhide hgs]
        go_wp2
        go_ret
        exact ⟨ret_bool (unhide H).symm, bel1 w _⟩
      · rw [hg] at hst hgs
        have H := hide (unhide hst rfl)
        clear hg hst hbad
        go_wp2_with fail
        refine (GoodKey.spec_any _ _ (unhide hsk)).mono ?_
        rintro e w1 ⟨rfl, rfl⟩
        rw [unhide hgs]
        go_wp2
        go_round
        case rel => exact ⟨k + 1, by omega, by go_num, H⟩
        case measure => simp [intOf]; omega
    · have HA := hide (all_whole ks k hk hlt (unhide ha))
      go_wp2_with (first | (go_at_call 53; refine (number_any _ _).mono ?_; rintro e w1 ⟨rfl, rfl⟩) | (go_at_call 49; refine (l1In_any _ _ _ _).mono ?_; rintro e w1 ⟨rfl, rfl⟩))
      all_goals
        go_ret
        refine ⟨ret_bool ?_, bel1 w _⟩
        rw [gcB5]
        first
          | exact form_f (num_no ‹_›)
          | exact form_x (num_no ‹_›)
          | exact form_n (num_no ‹_›)
          | exact form_d (dat_no ‹_›)
          | exact form_f (num_not0 ‹_›)
          | exact form_d (dat_not0 ‹_›)
          | exact form_x (num_not0 ‹_›)
          | exact form_n (num_not0 (ne_of ‹_›))
          | skip
      all_goals rw [form_end (unhide HA) (num_zero ‹f = 0›) (num_yes ‹inB x 0 1000000000 = true›) (num_zero (eq_of ‹(n != 0) = false›)) (dat_zero ‹dt.toList = []›)]
      rw [one_len]; simp

set_option maxHeartbeats 4000000 in
theorem spec_k6 (nm : ByteArray) (b off cap : Nat) (ks : List ByteArray) (f x n : Int) (dt : ByteArray) (q : Bool) (w : World) (hb : b < w.heap.size)
    (hc : ∀ i, i < ks.length → w.cell? ⟨b, off + i, none⟩ = some (.string (ks.getD i ByteArray.empty)))
    (hl : ks.length ≤ maxLen) (hs : ∀ s ∈ ks, s.size ≤ maxLen) (hd : dt.size ≤ maxLen) (hK : Hid (kindN nm.toList = 6)) :
    Calls Tryz.prog 22 #[.agg #[.string nm, .slice (some ⟨b, off, none⟩) ks.length cap, .int .i64 f, .int .i64 x, .int .i64 n, .string dt, .bool q]] w fun e w' =>
      e = .returned (.bool (gcB 6 ks f x n dt q)) ∧ Below w.heap.size w w' := by
  unfold maxLen at hl hd
  have hcs := hide hc
  have hss := hide hs
  clear hc hs
  go_enter Tryz.func22, Tryz.ntmps22
  go_wp2_with fail
  refine (Kind.spec_any _ _).mono ?_
  rintro e w1 ⟨rfl, rfl⟩
  rw [unhide hK]
  go_wp2_with fail
  go_loop [13] (fun i => ∃ k : Nat, k ≤ ks.length ∧ i = .int .i64 k ∧ Hid ((ks.take k).all gkb = true)) (fun i => ks.length - (intOf i).toNat)
  case atStart => exact ⟨0, Nat.zero_le _, rfl, hide rfl⟩
  case round =>
    obtain ⟨k, hk, rfl, ha⟩ := hrel
    by_cases hlt : k < ks.length
    · have hck := unhide hcs k hlt
      have hsk : Hid ((ks.getD k ByteArray.empty).size ≤ maxLen) := unhide hss _ (by rw [List.getD_eq_getElem?_getD, List.getElem?_eq_getElem hlt]; simp)
      have hst := hide (all_step ks k hlt (unhide ha))
      have hbad := hide (all_bad ks k hlt)
      have hgk : ∀ s : ByteArray, Hid (gk s.data.toList = gkb s) := fun s => hide rfl
      generalize ks.getD k ByteArray.empty = s at hck hsk hst hbad
      have hgs := hgk s
      clear hgk
      have hlt2 : b < w.heap.size := hb
      cases hg : gkb s
      · rw [hg] at hbad hgs
        have H := hide (gcB_bad 6 ks f x n dt q (unhide hbad rfl))
        clear hg hst hbad
        go_wp2_with fail
        refine (GoodKey.spec_any _ _ (unhide hsk)).mono ?_
        rintro e w1 ⟨rfl, rfl⟩
        rw [unhide hgs]
        go_wp2
        go_ret
        exact ⟨ret_bool (unhide H).symm, bel1 w _⟩
      · rw [hg] at hst hgs
        have H := hide (unhide hst rfl)
        clear hg hst hbad
        go_wp2_with fail
        refine (GoodKey.spec_any _ _ (unhide hsk)).mono ?_
        rintro e w1 ⟨rfl, rfl⟩
        rw [unhide hgs]
        go_wp2
        go_round
        case rel => exact ⟨k + 1, by omega, by go_num, H⟩
        case measure => simp [intOf]; omega
    · have HA := hide (all_whole ks k hk hlt (unhide ha))
      go_wp2_with (first | (go_at_call 53; refine (number_any _ _).mono ?_; rintro e w1 ⟨rfl, rfl⟩) | (go_at_call 49; refine (l1In_any _ _ _ _).mono ?_; rintro e w1 ⟨rfl, rfl⟩))
      all_goals
        go_ret
        refine ⟨ret_bool ?_, bel1 w _⟩
        rw [gcB6]
        first
          | exact form_f (num_no ‹_›)
          | exact form_x (num_no ‹_›)
          | exact form_n (num_no ‹_›)
          | exact form_d (dat_no ‹_›)
          | exact form_f (num_not0 ‹_›)
          | exact form_d (dat_not0 ‹_›)
          | exact form_x (num_not0 ‹_›)
          | exact form_n (num_not0 (ne_of ‹_›))
          | skip
      all_goals rw [form_end (unhide HA) (num_zero ‹f = 0›) (num_zero ‹x = 0›) (num_zero (eq_of ‹(n != 0) = false›)) (dat_zero ‹dt.toList = []›)]
      rw [one_len]; simp

set_option maxHeartbeats 4000000 in
theorem spec_k7 (nm : ByteArray) (b off cap : Nat) (ks : List ByteArray) (f x n : Int) (dt : ByteArray) (q : Bool) (w : World) (hb : b < w.heap.size)
    (hc : ∀ i, i < ks.length → w.cell? ⟨b, off + i, none⟩ = some (.string (ks.getD i ByteArray.empty)))
    (hl : ks.length ≤ maxLen) (hs : ∀ s ∈ ks, s.size ≤ maxLen) (hd : dt.size ≤ maxLen) (hK : Hid (kindN nm.toList = 7)) :
    Calls Tryz.prog 22 #[.agg #[.string nm, .slice (some ⟨b, off, none⟩) ks.length cap, .int .i64 f, .int .i64 x, .int .i64 n, .string dt, .bool q]] w fun e w' =>
      e = .returned (.bool (gcB 7 ks f x n dt q)) ∧ Below w.heap.size w w' := by
  unfold maxLen at hl hd
  have hcs := hide hc
  have hss := hide hs
  clear hc hs
  go_enter Tryz.func22, Tryz.ntmps22
  go_wp2_with fail
  refine (Kind.spec_any _ _).mono ?_
  rintro e w1 ⟨rfl, rfl⟩
  rw [unhide hK]
  go_wp2_with fail
  go_loop [13] (fun i => ∃ k : Nat, k ≤ ks.length ∧ i = .int .i64 k ∧ Hid ((ks.take k).all gkb = true)) (fun i => ks.length - (intOf i).toNat)
  case atStart => exact ⟨0, Nat.zero_le _, rfl, hide rfl⟩
  case round =>
    obtain ⟨k, hk, rfl, ha⟩ := hrel
    by_cases hlt : k < ks.length
    · have hck := unhide hcs k hlt
      have hsk : Hid ((ks.getD k ByteArray.empty).size ≤ maxLen) := unhide hss _ (by rw [List.getD_eq_getElem?_getD, List.getElem?_eq_getElem hlt]; simp)
      have hst := hide (all_step ks k hlt (unhide ha))
      have hbad := hide (all_bad ks k hlt)
      have hgk : ∀ s : ByteArray, Hid (gk s.data.toList = gkb s) := fun s => hide rfl
      generalize ks.getD k ByteArray.empty = s at hck hsk hst hbad
      have hgs := hgk s
      clear hgk
      have hlt2 : b < w.heap.size := hb
      cases hg : gkb s
      · rw [hg] at hbad hgs
        have H := hide (gcB_bad 7 ks f x n dt q (unhide hbad rfl))
        clear hg hst hbad
        go_wp2_with fail
        refine (GoodKey.spec_any _ _ (unhide hsk)).mono ?_
        rintro e w1 ⟨rfl, rfl⟩
        rw [unhide hgs]
        go_wp2
        go_ret
        exact ⟨ret_bool (unhide H).symm, bel1 w _⟩
      · rw [hg] at hst hgs
        have H := hide (unhide hst rfl)
        clear hg hst hbad
        go_wp2_with fail
        refine (GoodKey.spec_any _ _ (unhide hsk)).mono ?_
        rintro e w1 ⟨rfl, rfl⟩
        rw [unhide hgs]
        go_wp2
        go_round
        case rel => exact ⟨k + 1, by omega, by go_num, H⟩
        case measure => simp [intOf]; omega
    · have HA := hide (all_whole ks k hk hlt (unhide ha))
      go_wp2_with (first | (go_at_call 53; refine (number_any _ _).mono ?_; rintro e w1 ⟨rfl, rfl⟩) | (go_at_call 49; refine (l1In_any _ _ _ _).mono ?_; rintro e w1 ⟨rfl, rfl⟩))
      all_goals
        go_ret
        refine ⟨ret_bool ?_, bel1 w _⟩
        rw [gcB7]
        first
          | exact form_f (num_no ‹_›)
          | exact form_x (num_no ‹_›)
          | exact form_n (num_no ‹_›)
          | exact form_d (dat_no ‹_›)
          | exact form_f (num_not0 ‹_›)
          | exact form_d (dat_not0 ‹_›)
          | exact form_x (num_not0 ‹_›)
          | exact form_n (num_not0 (ne_of ‹_›))
          | skip
      all_goals rw [form_end (unhide HA) (num_zero ‹f = 0›) (num_zero ‹x = 0›) (num_zero (eq_of ‹(n != 0) = false›)) (dat_zero ‹dt.toList = []›)]
      · rw [← zero_len]; simp [‹ks = []›]
      · rw [← zero_len]; simp [‹¬ ks = []›]

theorem spec_any (nm : ByteArray) (b off cap : Nat) (ks : List ByteArray) (f x n : Int) (dt : ByteArray) (q : Bool) (w : World) (hb : b < w.heap.size)
    (hc : ∀ i, i < ks.length → w.cell? ⟨b, off + i, none⟩ = some (.string (ks.getD i ByteArray.empty)))
    (hl : ks.length ≤ maxLen) (hs : ∀ s ∈ ks, s.size ≤ maxLen) (hd : dt.size ≤ maxLen) :
    Calls Tryz.prog 22 #[.agg #[.string nm, .slice (some ⟨b, off, none⟩) ks.length cap, .int .i64 f, .int .i64 x, .int .i64 n, .string dt, .bool q]] w fun e w' =>
      e = .returned (.bool (gcB (kindN nm.toList) ks f x n dt q)) ∧ Below w.heap.size w w' := by
  have hk := kindN_bd nm.toList
  generalize hK : kindN nm.toList = K at hk ⊢
  obtain rfl | rfl | rfl | rfl | rfl | rfl | rfl | rfl : K = 0 ∨ K = 1 ∨ K = 2 ∨ K = 3 ∨ K = 4 ∨ K = 5 ∨ K = 6 ∨ K = 7 := by omega
  · exact spec_k0 nm b off cap ks f x n dt q w hb hc hl hs hd hK
  · exact spec_k1 nm b off cap ks f x n dt q w hb hc hl hs hd hK
  · exact spec_k2 nm b off cap ks f x n dt q w hb hc hl hs hd hK
  · exact spec_k3 nm b off cap ks f x n dt q w hb hc hl hs hd hK
  · exact spec_k4 nm b off cap ks f x n dt q w hb hc hl hs hd hK
  · exact spec_k5 nm b off cap ks f x n dt q w hb hc hl hs hd hK
  · exact spec_k6 nm b off cap ks f x n dt q w hb hc hl hs hd hK
  · exact spec_k7 nm b off cap ks f x n dt q w hb hc hl hs hd hK
end GoodCmd
end Go.Proofs.YtkdcofmpbmiloaaGreatDoor
/-
  The model's GoodStore over items that may be nil (written by a program of mine).
-/
namespace Go.Proofs.YtkdcofmpbmiloaaGreatDoor
namespace Store
open Go.RowKit Base GoodKey Items
set_option linter.unusedVariables false

set_option maxHeartbeats 400000 in
theorem l2All_opt (lim nx : Int) (ia : Option Addr) (cap : Nat) (its : List Itm) (w : World) (hc : ItemsAt w ia its)
    (hl : its.length ≤ 1048576) (hs : ∀ x ∈ its, Small x) :
    Calls Tryz.prog 51 #[.agg #[.int .i64 lim, .int .i64 nx, .slice ia its.length cap]] w fun e w' => e = .returned (.int .i64 (total its)) ∧ Below w.heap.size w w' := by
  have hcs := hide hc
  have hss := hide hs
  clear hc hs
  go_enter Tryz.func51, Tryz.ntmps51
  go_wp2
  go_loopw [3, 9] (fun t i wr => ∃ (k : Nat) (z : Int), k ≤ its.length ∧ 0 ≤ z ∧ z ≤ 1048576 * 2097162 ∧ i = .int .i64 k ∧ t = .int .i64 z ∧ Hid (z = total (its.take k)) ∧ Hid (Below w.heap.size w wr)) (fun _ i _ => its.length - (intOf i).toNat)
  case atStart => exact ⟨0, 0, Nat.zero_le _, by omega, by omega, rfl, rfl, hide (by simp [total]), hide (bel1 w _)⟩
  case round =>
    obtain ⟨k, z, hk, hz0, hz1, rfl, rfl, ht, hbel⟩ := hrel
    by_cases hlt : k < its.length
    · obtain ⟨b, off, hia, hb, hcq⟩ := unhide hcs (fun e => by rw [e] at hlt; exact absurd hlt (Nat.not_lt_zero _))
      subst hia
      have hcz := hide hcq
      clear hcq
      obtain ⟨c0, c1, c2, c3, c4⟩ := (unhide hcz k hlt).below (unhide hbel) hb
      have hsm := hide (small_getD (unhide hss) k hlt)
      have hst := hide (total_step its k hlt)
      have hbd : total (its.take (k + 1)) ≤ 1048576 * 2097162 := by
        have h1 := total_bd (its.take (k + 1)) (fun x hx => unhide hss x (List.mem_of_mem_take hx))
        have h2 : (its.take (k + 1)).length ≤ 1048576 := by rw [List.length_take]; omega
        have := h1.2
        omega
      generalize its.getD k zero = x at c0 c1 c2 c3 c4 hsm hst
      have hch : 0 ≤ charge x ∧ charge x ≤ 2097162 := by have := unhide hsm; unfold Small at this; unfold charge; omega
      have hcal := fun w => l2Charge_any x w (unhide hsm)
      have hnew : Hid (z + charge x = total (its.take (k + 1))) := by show z + charge x = _; rw [unhide hst, unhide ht]
      have hle : z + charge x ≤ 1048576 * 2097162 := by have := unhide hnew; omega
      clear hbd hst
      generalize charge x = c at hcal hnew hle hch
      have HC := hide hcal
      clear hcal
      have hzb := (unhide hbel).size
      go_wp2_with fail
      refine (unhide HC _).mono ?_
      rintro e w1 ⟨rfl, hb1⟩
      have hb1 := hide (((unhide hbel).alloc hzb _).trans (hb1.mono (by simp; omega)))
      go_wp2
      go_roundw
      case rel => exact ⟨k + 1, z + c, by omega, by omega, by omega, by go_num, rfl, hnew, hb1⟩
      case measure => simp [intOf]; omega
    · have H : Hid (z = total its) := by show z = total its; rw [unhide ht, List.take_of_length_le (by omega)]
      go_wp2
      go_ret
      exact ⟨ret_int (unhide H), unhide hbel⟩

set_option maxHeartbeats 2000000 in
theorem spec_opt (lim nx : Int) (ia : Option Addr) (cap : Nat) (its : List Itm) (w : World) (hc : ItemsAt w ia its)
    (hl : its.length ≤ maxLen) (hcap : its.length ≤ cap) (hs : ∀ x ∈ its, Fits x) :
    Calls Tryz.prog 20 #[.agg #[.int .i64 lim, .int .i64 nx, .slice ia its.length cap]] w fun e w' => e = .returned (.bool (gsB lim nx its)) ∧ Below w.heap.size w w' := by
  unfold maxLen at hl
  have hcs := hide hc
  have hss := hide hs
  clear hc hs
  by_cases g1 : inB lim 0 10000 = true
  case neg =>
    have H := hide (gs_1 (nx := nx) (its := its) g1)
    have g1' : inB lim 0 10000 = false := Bool.eq_false_iff.2 g1
    clear g1
    go_enter Tryz.func20, Tryz.ntmps20
    go_wp2_with (go_at_call 49; refine (l1In_any _ _ _ _).mono ?_; rintro e w1 ⟨rfl, rfl⟩)
    go_ret
    exact ⟨ret_bool (unhide H).symm, bel1 w _⟩
  by_cases g2 : inB nx 1 1000000000 = true
  case neg =>
    have H := hide (gs_2 (lim := lim) (its := its) g2)
    have g2' : inB nx 1 1000000000 = false := Bool.eq_false_iff.2 g2
    clear g2
    go_enter Tryz.func20, Tryz.ntmps20
    go_wp2_with (go_at_call 49; refine (l1In_any _ _ _ _).mono ?_; rintro e w1 ⟨rfl, rfl⟩)
    go_ret
    exact ⟨ret_bool (unhide H).symm, bel1 w _⟩
  by_cases g3 : 60 < (its.length : Int)
  · have H := hide (gs_3 (lim := lim) (nx := nx) g3)
    go_enter Tryz.func20, Tryz.ntmps20
    go_wp2_with (go_at_call 49; refine (l1In_any _ _ _ _).mono ?_; rintro e w1 ⟨rfl, rfl⟩)
    go_ret
    exact ⟨ret_bool (unhide H).symm, bel1 w _⟩
  have HG := hide (fun h => @gs_5 lim nx its g1 g2 g3 h)
  go_enter Tryz.func20, Tryz.ntmps20
  go_wp2_with (go_at_call 49; refine (l1In_any _ _ _ _).mono ?_; rintro e w1 ⟨rfl, rfl⟩)
  go_loopw [26] (fun i wr => ∃ (k : Nat), k ≤ its.length ∧ i = .int .i64 k ∧ Hid (goodTo nx its k = true) ∧ Hid (Below (w.heap.size + 1) (w.alloc (.cells #[.int .i64 lim, .int .i64 nx, .slice ia its.length cap] 25)) wr)) (fun i _ => its.length - (intOf i).toNat)
  case atStart => exact ⟨0, Nat.zero_le _, rfl, hide rfl, hide (Below.refl _ _)⟩
  case round =>
    obtain ⟨k, hk, rfl, hgo, hbel⟩ := hrel
    obtain ⟨wo, rfl⟩ : ∃ wo : World, wo = wr := ⟨_, rfl⟩
    have hB : Hid (Below w.heap.size w wo) := (bel1 w _).trans ((unhide hbel).mono (by omega))
    have hbox := boxcell (unhide hbel)
    have hzw : w.heap.size + 1 ≤ wo.heap.size := by have := (unhide hbel).size; simp at this; omega
    by_cases hlt : k < its.length
    · obtain ⟨b, off, hia, hb, hcq⟩ := unhide hcs (fun e => by rw [e] at hlt; exact absurd hlt (Nat.not_lt_zero _))
      subst hia
      have hcz := hide hcq
      clear hcq
      obtain ⟨c0, c1, c2, c3, c4⟩ := (unhide hcz k hlt).below (unhide hB) hb
      have hfit := hide (fits_getD (unhide hss) k hlt)
      have s1 := hide (@step_1 nx its k)
      have s2 := hide (@step_2 nx its k)
      have s3 := hide (@step_3 nx its k)
      have s4 := hide (@step_4 nx its k)
      have hbad := hide (@gs_4 lim nx its k hlt)
      have hgs := hide (@goodTo_step nx its k (unhide hgo))
      generalize its.getD k zero = x at c0 c1 c2 c3 c4 hfit s1 s2 s3 s4
      cases hi : itemB x
      · have H := hide (unhide hbad (unhide s1 hi))
        have HI := hide hi
        clear hi s1 s2 s3 s4 hbad hgs
        go_wp2_with fail
        refine (l2Item_any x _ (unhide hfit)).mono ?_
        rintro e w1 ⟨rfl, hb1⟩
        rw [unhide HI]
        have hb1 := hide (((unhide hB).alloc (by omega) _).trans (hb1.mono (by simp; omega)))
        go_wp2
        go_ret
        exact ⟨ret_bool (unhide H).symm, unhide hb1⟩
      have HI := hide hi
      clear hi
      go_wp2_with fail
      refine (l2Item_any x _ (unhide hfit)).mono ?_
      rintro e w1 ⟨rfl, hb1⟩
      rw [unhide HI]
      simp only [World.size_alloc] at hb1
      have hB1 := hide ((unhide hbel).alloc (by omega) _ |>.trans (hb1.mono (by omega)))
      have hx1 := boxcell hb1
      have hbx1 := boxcell (unhide hB1)
      have hz1 : wo.heap.size + 1 ≤ w1.heap.size := by have := hb1.size; simp at this; omega
      clear hb1 hbox
      by_cases g4 : nx ≤ x.token
      · have H := hide (unhide hbad (unhide s2 g4))
        clear s1 s2 s3 s4 hbad hgs
        go_wp2
        go_ret
        exact ⟨ret_bool (unhide H).symm, (bel1 w _).trans ((unhide hB1).mono (by omega))⟩
      go_wp2_with fail
      go_loopw [46] (fun i wi => ∃ (j : Nat), j ≤ k ∧ i = .int .i64 j ∧ Hid (freshB x (its.take j) = true) ∧ Hid (Below w1.heap.size w1 wi)) (fun i _ => k - (intOf i).toNat)
      case atStart => exact ⟨0, Nat.zero_le _, rfl, hide (by simp [freshB]), hide (Below.refl _ _)⟩
      case round =>
        obtain ⟨j, hj, rfl, hfr, hbi⟩ := hrel
        have hxi : ∀ o, wr.cell? ⟨wo.heap.size, o, none⟩ = (wo.alloc (.cells #[.string x.key, .int .i64 x.flags, .string x.data, .int .i64 x.upto, .int .i64 x.token] 37)).cell? ⟨wo.heap.size, o, none⟩ := fun o => ((unhide hbi).cell (p := ⟨wo.heap.size, o, none⟩) (by simp; omega)).trans (hx1 o)
        have hBi := hide ((unhide hB1).trans ((unhide hbi).mono (by omega)))
        have hzi : wo.heap.size < wr.heap.size := by have := (unhide hbi).size; omega
        by_cases hjk : j < k
        · have hjl : j < its.length := by omega
          obtain ⟨d0, d1, d2, d3, d4⟩ := (unhide hcz j hjl).below (((bel1 w _).trans ((unhide hBi).mono (by omega)))) hb
          have hf1 := hide (@fresh_step x its j hjl (unhide hfr))
          have hf2 := hide (@fresh_bad x its j k hjk hk)
          generalize its.getD j zero = o at d0 d1 d2 d3 d4 hf1 hf2
          cases e1 : (o.key.toList == x.key.toList)
          · cases e2 : (o.token == x.token)
            · have H := hide (unhide hf1 (by simp [clash, e1, e2]))
              clear hf1 hf2 s1 s2 s3 s4 hbad hgs hx1 hbx1
              go_wp2
              go_roundw
              case rel => exact ⟨j + 1, by omega, by go_num, H, hide ((unhide hbi).alloc (unhide hbi).size _)⟩
              case measure => simp [intOf]; omega
            · have H := hide (unhide hbad (unhide s3 (unhide hf2 (by simp [clash, e1, e2]))))
              clear hf1 hf2 s1 s2 s3 s4 hbad hgs hx1 hbx1
              go_wp2
              go_ret
              exact ⟨ret_bool (unhide H).symm, ((bel1 w _).trans ((unhide hBi).mono (by omega))).alloc (by omega) _⟩
          · have H := hide (unhide hbad (unhide s3 (unhide hf2 (by simp [clash, e1]))))
            clear hf1 hf2 s1 s2 s3 s4 hbad hgs hx1 hbx1
            go_wp2
            go_ret
            exact ⟨ret_bool (unhide H).symm, ((bel1 w _).trans ((unhide hBi).mono (by omega))).alloc (by omega) _⟩
        · obtain rfl : j = k := by omega
          have H := hide (unhide hgs (unhide s4 (unhide HI) g4 (unhide hfr)))
          clear s1 s2 s3 s4 hbad hgs hx1 hbx1
          go_wp2
          go_roundw
          case rel => exact ⟨j + 1, by omega, by go_num, H, hBi⟩
          case measure => simp [intOf]; omega
    · obtain rfl : k = its.length := by omega
      have H := hide (unhide HG (unhide hgo))
      have hsm := hide (good_small (unhide hgo))
      have HA := hide (l2All_opt lim nx ia cap its wo.drew ((unhide hcs).below (unhide hB).drew (Nat.le_refl _)) (by omega) (unhide hsm))
      go_wp2
      go_region_with (go_at_call 51; refine (unhide HA).mono ?_; rintro e w1 ⟨rfl, hb1⟩; have hx1 := fun o => hb1.cell (p := ⟨w.heap.size, o, none⟩) (by simp; omega); have hb1 := hide hb1)
      all_goals
        go_wp2
        go_ret
        exact ⟨ret_bool (unhide H), (unhide hB).drew.trans ((unhide hb1).mono (unhide hB).size)⟩
end Store
end Go.Proofs.YtkdcofmpbmiloaaGreatDoor
/-
  The program's gaveUp: whether what is done gives up.
-/
namespace Go.Proofs.YtkdcofmpbmiloaaGreatDoor
namespace Shelf
open Go.RowKit Base Keep
set_option linter.unusedVariables false

theorem cellOf {w : World} {b : Nat} {v : Value} {t : TypeId} (h : w.heap[b]? = some (.cells #[v] t (0, 0))) : w.cell? ⟨b, 0, none⟩ = some v := by simp [World.cell?, h]
theorem frozenOf {w : World} {b : Nat} {cs : Array Value} {t : TypeId} (h : w.heap[b]? = some (.cells cs t (0, 0))) : w.frozen? ⟨b, 0, none⟩ = false := by simp [World.frozen?, h]
theorem nil_no (p : Addr) (w : World) : (binOp BinOp.eql 20 (.iface 145 (.pointer (some p))) .nilIface).run Tryz.prog w = .ok (.bool false) w := by kernel_rfl
theorem nil_yes (w : World) : (binOp BinOp.eql 20 .nilIface .nilIface).run Tryz.prog w = .ok (.bool true) w := by kernel_rfl
theorem infoP : (Tryz.prog.info? 145).map (·.comparable) = some true := by kernel_rfl
theorem infoE : (Tryz.prog.info? 147).isSome = true := by kernel_rfl
theorem same_yes {P : Program} {ti tp te : TypeId} {ms : Array (String × TypeId)} (p : Addr) (w : World) (h1 : (P.info? tp).map (·.comparable) = some true) (h3 : (P.info? te).isSome = true) (hi : P.underlying ti = some (.interface ms)) (hp : P.underlying tp = some (.pointer te)) :
    (binOp BinOp.eql ti (.iface tp (.pointer (some p))) (.iface tp (.pointer (some p)))).run P w = .ok (.bool true) w := by
  obtain ⟨i, h1, h2⟩ := Option.map_eq_some_iff.1 h1
  obtain ⟨j, h3⟩ := Option.isSome_iff_exists.1 h3
  exact run_eql_iface_ptr_same w p hi hp h1 h2 h3
theorem full_yes (p : Addr) (w : World) : (binOp BinOp.eql 20 (.iface 145 (.pointer (some p))) (.iface 145 (.pointer (some p)))).run Tryz.prog w = .ok (.bool true) w :=
  same_yes p w infoP infoE Tryz.underlying20 Tryz.underlying145
set_option maxRecDepth 10000 in
set_option maxHeartbeats 400000 in
theorem catch_full (b p : Addr) (w : World) (older : List PanicEntry) (hc : w.cell? b = some (.bool false)) (hz : w.frozen? b = false) (hF : FullIs w p) :
    CallsD Tryz.prog 60 #[.pointer (some b)] (.panicking ({ v := errV p, recovered := false } :: older)) w fun e u' w' =>
      e = .returned (.tuple #[]) ∧ u' = .panicking ({ v := errV p, recovered := true } :: older) ∧ w' = w.setCell b (.bool true) := by
  have hf := hF.cell
  unfold errV at hf ⊢
  have e1 := nil_no p
  have e2 := full_yes p
  have e3 : ∀ (x y : Operand) (w : World), (eqGuard BinOp.eql 20 x y (.iface 145 (.pointer (some p))) (.iface 145 (.pointer (some p)))).run Tryz.prog w = .ok () w := fun _ _ _ => rfl
  clear hF
  refine callsD_of_wpS Tryz.func60 rfl fun c₀ cs hu => ?_
  apply wpS_seq
  apply wpS_region
  simp [wpOpsS, go_sem, recoverD, hu, Tryz.ntmps60, Exit.thenS]
  have ht : (#[.pointer (some b)] ++ ((Array.replicate 9 undef).setIfInBounds 1 (.iface 145 (.pointer (some p)))).setIfInBounds 0 (.iface 145 (.pointer (some p))) : Array Value) = #[.pointer (some b), .iface 145 (.pointer (some p)), .iface 145 (.pointer (some p)), undef, undef, undef, undef, undef, undef, undef] := rfl
  rw [ht]
  clear ht
  refine wpS_of_wp ?_
  go_upto_region 4 with fail
  generalize hE : (Value.iface 145 (.pointer (some p))) = E at *
  go_wp2
  simp [bodyPostS, results, Tryz.results60]
set_option maxRecDepth 10000 in
theorem catch_idle (b : Addr) (w : World) :
    CallsD Tryz.prog 60 #[.pointer (some b)] .returning w fun e u' w' => e = .returned (.tuple #[]) ∧ u' = .returning ∧ w' = w := by
  have e1 := nil_yes
  refine callsD_of_wpS Tryz.func60 rfl fun c₀ cs hu => ?_
  apply wpS_seq
  apply wpS_region
  simp [wpOpsS, go_sem, recoverD, hu, Tryz.ntmps60, Exit.thenS]
  refine wpS_of_wp ?_
  go_wp2
  cases c₀
  simp_all [bodyPostS, results, Tryz.results60]
set_option maxRecDepth 10000 in
/-- gaveUp over what is done: it returns, or it gives up. -/
theorem gaveUp_any (f : Nat) (cap : Array Value) (w : World) (p : Addr) (Q : Bool → World → Prop)
    (hcf : ∀ w, (callFunc f cap).run Tryz.prog w = .ok (.enter f cap) w)
    (h : Calls Tryz.prog f cap (w.alloc (.cells #[.bool false] 4)) fun e w' => ((e = .returned (.tuple #[]) ∧ Q false w') ∨ (e = .panicked (fullP p) ∧ Q true w')) ∧ w'.heap[w.heap.size]? = some (.cells #[.bool false] 4 (0, 0)) ∧ FullIs w' p) :
    Calls Tryz.prog 46 #[.func (.func f) #[] cap] w fun e w' => ∃ full w1, e = .returned (.bool full) ∧ Q full w1 ∧ w' = w1.setCell ⟨w.heap.size, 0, none⟩ (.bool full) := by
  have hmf : ∀ (fn : Fn) (first cap : Array Value) (w : World), (Instr.makeFunc fn first cap).run Tryz.prog w = .ok (.func fn first cap) w := fun _ _ _ _ => rfl
  have HD := hide h
  clear h
  go_enter_defers Tryz.func46, Tryz.ntmps46
  go_wp2_with fail
  refine (unhide HD).mono ?_
  rintro e w1 ⟨he, hbx, hfu⟩
  have HB := hide hbx
  have HF := hide hfu
  have hc := frozenOf hbx
  have hd := cellOf hbx
  clear hbx hfu
  rcases he with ⟨rfl, hq⟩ | ⟨rfl, hq⟩
  · have HQ := hide hq
    clear hq
    go_wp2
    refine leaves_cons (f := 60) (args := #[.pointer (some ⟨w.heap.size, 0, none⟩)]) (by simp) (by simp [go_sem]) ?_
    refine (catch_idle ⟨w.heap.size, 0, none⟩ _).mono ?_
    rintro e u' w'' ⟨rfl, rfl, rfl⟩
    simp [Leaves, settle, results, Tryz.results46, go_sem, hd]
    exact ⟨w1, unhide HQ, rfl⟩
  · have HQ := hide hq
    clear hq
    unfold fullP
    go_wp2
    refine leaves_cons (f := 60) (args := #[.pointer (some ⟨w.heap.size, 0, none⟩)]) (by simp) (by simp [go_sem]) ?_
    refine (catch_full ⟨w.heap.size, 0, none⟩ p w1 [] hd hc (unhide HF)).mono ?_
    rintro e u' w'' ⟨rfl, rfl, rfl⟩
    simp [Leaves, settle, results, Tryz.results46, go_sem, hd]
    exact ⟨w1, unhide HQ, rfl⟩
end Shelf
end Go.Proofs.YtkdcofmpbmiloaaGreatDoor
/-
  The contract of the program's goodKeys: so many keys, each good, for every slice of strings that lies in memory.
-/
namespace Go.Proofs.YtkdcofmpbmiloaaGreatDoor
namespace KeysI
open Go.RowKit Base GoodKey GoodCmd
set_option linter.unusedVariables false

theorem len_no1 {ks : List ByteArray} {lo hi : Int} (h : (ks.length : Int) < lo) : (inB ks.length lo hi && ks.all gkb) = false := by
  have : inB ks.length lo hi = false := by unfold inB; rw [decide_eq_false (show ¬ lo ≤ (ks.length : Int) by omega)]; rfl
  rw [this]; rfl
theorem len_no2 {ks : List ByteArray} {lo hi : Int} (h : hi < (ks.length : Int)) : (inB ks.length lo hi && ks.all gkb) = false := by
  have : inB ks.length lo hi = false := by unfold inB; rw [decide_eq_false (show ¬ (ks.length : Int) ≤ hi by omega)]; simp
  rw [this]; rfl
theorem len_yes {ks : List ByteArray} {lo hi : Int} (h1 : ¬ (ks.length : Int) < lo) (h2 : ¬ hi < (ks.length : Int)) : (inB ks.length lo hi && ks.all gkb) = ks.all gkb := by
  have : inB ks.length lo hi = true := by unfold inB; rw [decide_eq_true (show lo ≤ (ks.length : Int) by omega), decide_eq_true (show (ks.length : Int) ≤ hi by omega)]; rfl
  rw [this]; rfl

set_option maxRecDepth 10000 in
set_option maxHeartbeats 1000000 in
theorem keys_any (b off cap : Nat) (ks : List ByteArray) (lo hi : Int) (w : World) (hb : b < w.heap.size)
    (hc : ∀ i, i < ks.length → w.cell? ⟨b, off + i, none⟩ = some (.string (ks.getD i ByteArray.empty))) (hl : ks.length ≤ maxLen) (hs : ∀ s ∈ ks, s.size ≤ maxLen) :
    Calls Tryz.prog 39 #[.slice (some ⟨b, off, none⟩) ks.length cap, .int .i64 lo, .int .i64 hi] w fun e w' =>
      e = .returned (.bool (inB ks.length lo hi && ks.all gkb)) ∧ Below w.heap.size w w' := by
  unfold maxLen at hl
  by_cases g1 : (ks.length : Int) < lo
  · have H := hide (len_no1 (hi := hi) g1)
    go_enter Tryz.func39, Tryz.ntmps39
    go_wp2
    go_ret
    exact ⟨ret_bool (unhide H).symm, Below.refl _ _⟩
  by_cases g2 : hi < (ks.length : Int)
  · have H := hide (len_no2 (lo := lo) g2)
    go_enter Tryz.func39, Tryz.ntmps39
    go_wp2
    go_ret
    exact ⟨ret_bool (unhide H).symm, Below.refl _ _⟩
  have HL := hide (len_yes g1 g2)
  have hcs := hide hc
  have hss := hide hs
  clear hc hs
  go_enter Tryz.func39, Tryz.ntmps39
  go_wp2
  go_loop [21] (fun i => ∃ k : Nat, k ≤ ks.length ∧ i = .int .i64 k ∧ Hid ((ks.take k).all gkb = true)) (fun i => ks.length - (intOf i).toNat)
  case atStart => exact ⟨0, Nat.zero_le _, rfl, hide rfl⟩
  case round =>
    obtain ⟨k, hk, rfl, ha⟩ := hrel
    by_cases hlt : k < ks.length
    · have hck := unhide hcs k hlt
      have hsk : Hid ((ks.getD k ByteArray.empty).size ≤ maxLen) := unhide hss _ (by rw [List.getD_eq_getElem?_getD, List.getElem?_eq_getElem hlt]; simp)
      have hst := hide (all_step ks k hlt (unhide ha))
      have hbad := hide (all_bad ks k hlt)
      have hgk : ∀ s : ByteArray, Hid (gk s.data.toList = gkb s) := fun s => hide rfl
      generalize ks.getD k ByteArray.empty = s at hck hsk hst hbad
      have hgs := hgk s
      clear hgk
      cases hg : gkb s
      · rw [hg] at hbad hgs
        have H := hide (unhide hbad rfl)
        clear hg hst hbad
        go_wp2_with fail
        refine (GoodKey.impl_any _ _ (unhide hsk)).mono ?_
        rintro e w1 ⟨rfl, rfl⟩
        rw [unhide hgs]
        go_wp2
        go_ret
        exact ⟨ret_bool (by rw [unhide HL]; exact (unhide H).symm), Below.refl _ _⟩
      · rw [hg] at hst hgs
        have H := hide (unhide hst rfl)
        clear hg hst hbad
        go_wp2_with fail
        refine (GoodKey.impl_any _ _ (unhide hsk)).mono ?_
        rintro e w1 ⟨rfl, rfl⟩
        rw [unhide hgs]
        go_wp2
        go_round
        case rel => exact ⟨k + 1, by omega, by go_num, H⟩
        case measure => simp [intOf]; omega
    · have HA := hide (all_whole ks k hk hlt (unhide ha))
      go_wp2
      go_ret
      exact ⟨ret_bool (by rw [unhide HL]; exact (unhide HA).symm), Below.refl _ _⟩

end KeysI
end Go.Proofs.YtkdcofmpbmiloaaGreatDoor
/-
  Contracts of the program's goodNumber, goodKeys, formOf and GoodCmd: it answers by the plain function gcB, for every command whose keys lie in memory.
-/
namespace Go.Proofs.YtkdcofmpbmiloaaGreatDoor
namespace GoodCmdI
open Go.RowKit Base GoodKey Kind GoodCmd KeysI
set_option linter.unusedVariables false

set_option maxHeartbeats 400000 in
theorem number_any (n : Int) (named : Bool) (w : World) :
    Calls Tryz.prog 40 #[.int .i64 n, .bool named] w fun e w' => e = .returned (.bool (numB named n)) ∧ w' = w := by
  by_cases h0 : n = 0
  · subst h0
    go_enter Tryz.func40, Tryz.ntmps40
    go_wp2
    go_ret
    exact ⟨ret_bool (num_zero rfl).symm, rfl⟩
  have e0 : (n == 0) = false := by simp [h0]
  cases named
  · have H := hide (num_not0 h0)
    clear h0
    go_enter Tryz.func40, Tryz.ntmps40
    go_wp2
    go_ret
    exact ⟨ret_bool (unhide H).symm, rfl⟩
  by_cases h1 : 0 < n
  · have H : Hid (decide (n ≤ 1000000000) = numB true n) := by show decide (n ≤ 1000000000) = numB true n; simp [numB, h0, h1]
    clear h0
    go_enter Tryz.func40, Tryz.ntmps40
    go_wp2
    go_ret
    exact ⟨ret_bool (unhide H), rfl⟩
  · have H : Hid (numB true n = false) := by show numB true n = false; simp [numB, h0]; omega
    clear h0
    go_enter Tryz.func40, Tryz.ntmps40
    go_wp2
    go_ret
    exact ⟨ret_bool (unhide H).symm, rfl⟩

/-- What formOf hands back, a field each. -/
structure Form where
  lo : Int
  hi : Int
  bf : Bool
  bx : Bool
  bd : Bool
  bn : Bool
  bq : Bool
def formN (k : Int) : Form :=
  if k = 1 then ⟨1, 10, false, false, false, false, false⟩ else
  if k = 2 then ⟨1, 1, true, true, true, false, true⟩ else
  if k = 3 then ⟨1, 1, true, true, true, true, true⟩ else
  if k = 4 then ⟨1, 1, false, false, false, true, true⟩ else
  if k = 5 then ⟨1, 1, false, true, false, false, true⟩ else
  if k = 6 then ⟨1, 1, false, false, false, false, true⟩ else ⟨0, 0, false, false, false, false, false⟩
theorem gcB_form (k : Int) (h1 : 1 ≤ k) (h7 : k ≤ 7) (ks : List ByteArray) (f x n : Int) (dt : ByteArray) (q : Bool) :
    gcB k ks f x n dt q = formB (formN k).lo (formN k).hi (formN k).bf (formN k).bx (formN k).bd (formN k).bn (formN k).bq ks f x n dt q := by
  obtain rfl | rfl | rfl | rfl | rfl | rfl | rfl : k = 1 ∨ k = 2 ∨ k = 3 ∨ k = 4 ∨ k = 5 ∨ k = 6 ∨ k = 7 := by omega
  all_goals rfl

set_option maxHeartbeats 1000000 in
theorem form_any (k : Int) (w : World) (h1 : 1 ≤ k) (h7 : k ≤ 7) :
    Calls Tryz.prog 38 #[.int .i64 k] w fun e w' =>
      e = .returned (.agg #[.int .i64 (formN k).lo, .int .i64 (formN k).hi, .bool (formN k).bf, .bool (formN k).bx, .bool (formN k).bd, .bool (formN k).bn, .bool (formN k).bq]) ∧ Below w.heap.size w w' := by
  obtain rfl | rfl | rfl | rfl | rfl | rfl | rfl : k = 1 ∨ k = 2 ∨ k = 3 ∨ k = 4 ∨ k = 5 ∨ k = 6 ∨ k = 7 := by omega
  · go_enter Tryz.func38, Tryz.ntmps38
    go_wp2
    refine bodyPost_ret (v := .agg #[.int .i64 1, .int .i64 10, .bool false, .bool false, .bool false, .bool false, .bool false]) (by simp [results, Tryz.results38, go_sem]) rfl ⟨rfl, bel2 w _ _⟩
  · go_enter Tryz.func38, Tryz.ntmps38
    go_wp2
    refine bodyPost_ret (v := .agg #[.int .i64 1, .int .i64 1, .bool true, .bool true, .bool true, .bool false, .bool true]) (by simp [results, Tryz.results38, go_sem]) rfl ⟨rfl, bel2 w _ _⟩
  · go_enter Tryz.func38, Tryz.ntmps38
    go_wp2
    refine bodyPost_ret (v := .agg #[.int .i64 1, .int .i64 1, .bool true, .bool true, .bool true, .bool true, .bool true]) (by simp [results, Tryz.results38, go_sem]) rfl ⟨rfl, bel2 w _ _⟩
  · go_enter Tryz.func38, Tryz.ntmps38
    go_wp2
    refine bodyPost_ret (v := .agg #[.int .i64 1, .int .i64 1, .bool false, .bool false, .bool false, .bool true, .bool true]) (by simp [results, Tryz.results38, go_sem]) rfl ⟨rfl, bel2 w _ _⟩
  · go_enter Tryz.func38, Tryz.ntmps38
    go_wp2
    refine bodyPost_ret (v := .agg #[.int .i64 1, .int .i64 1, .bool false, .bool true, .bool false, .bool false, .bool true]) (by simp [results, Tryz.results38, go_sem]) rfl ⟨rfl, bel2 w _ _⟩
  · go_enter Tryz.func38, Tryz.ntmps38
    go_wp2
    refine bodyPost_ret (v := .agg #[.int .i64 1, .int .i64 1, .bool false, .bool false, .bool false, .bool false, .bool true]) (by simp [results, Tryz.results38, go_sem]) rfl ⟨rfl, bel2 w _ _⟩
  · go_enter Tryz.func38, Tryz.ntmps38
    go_wp2
    refine bodyPost_ret (v := .agg #[.int .i64 0, .int .i64 0, .bool false, .bool false, .bool false, .bool false, .bool false]) (by simp [results, Tryz.results38, go_sem]) rfl ⟨rfl, bel2 w _ _⟩
end GoodCmdI
end Go.Proofs.YtkdcofmpbmiloaaGreatDoor
/-
  The contract of the program's GoodCmd: it answers by the plain function gcB, for every command whose keys lie in memory.
-/
namespace Go.Proofs.YtkdcofmpbmiloaaGreatDoor
namespace GoodCmdI
open Go.RowKit Base GoodKey Kind GoodCmd
set_option linter.unusedVariables false

set_option maxHeartbeats 4000000 in
theorem impl_any (nm : ByteArray) (b off cap : Nat) (ks : List ByteArray) (f x n : Int) (dt : ByteArray) (q : Bool) (w : World) (hb : b < w.heap.size)
    (hc : ∀ i, i < ks.length → w.cell? ⟨b, off + i, none⟩ = some (.string (ks.getD i ByteArray.empty)))
    (hl : ks.length ≤ maxLen) (hs : ∀ s ∈ ks, s.size ≤ maxLen) (hd : dt.size ≤ maxLen) :
    Calls Tryz.prog 15 #[.agg #[.string nm, .slice (some ⟨b, off, none⟩) ks.length cap, .int .i64 f, .int .i64 x, .int .i64 n, .string dt, .bool q]] w fun e w' =>
      e = .returned (.bool (gcB (kindN nm.toList) ks f x n dt q)) ∧ Below w.heap.size w w' := by
  have hk := kindN_bd nm.toList
  generalize hK : kindN nm.toList = K at hk ⊢
  by_cases hk0 : K = 0
  · subst hk0
    have HK := hide hK
    clear hK hk
    go_enter Tryz.func15, Tryz.ntmps15
    go_wp2_with fail
    refine (Kind.impl_any _ _).mono ?_
    rintro e w1 ⟨rfl, rfl⟩
    rw [unhide HK]
    go_wp2
    go_ret
    exact ⟨rfl, bel1 w _⟩
  have hkb : (K == 0) = false := by simp [hk0]
  have h1 : 1 ≤ K := by omega
  have h7 : K ≤ 7 := hk.2
  have hfc := fun w => form_any K w h1 h7
  have hgc := gcB_form K h1 h7 ks f x n dt q
  generalize formN K = F at hfc hgc
  obtain ⟨lo, hi, bf, bx, bd, bn, bq⟩ := F
  dsimp only at hfc hgc
  have HF := hide hfc
  have HG := hide hgc
  have HK := hide hK
  have HC := hide hc
  have HS := hide hs
  have HL := hide hl
  unfold maxLen at hl hd
  clear hfc hgc hK hc hs hk0 hk
  cases hg : (inB ks.length lo hi && ks.all gkb)
  all_goals
    have Hg := hide hg
    clear hg
    go_enter Tryz.func15, Tryz.ntmps15
    go_wp2_with fail
    refine (Kind.impl_any _ _).mono ?_
    rintro e w1 ⟨rfl, rfl⟩
    rw [unhide HK]
    go_wp2_with fail
    refine (unhide HF _).mono ?_
    rintro e w2 ⟨rfl, hb2⟩
    have hB2 : Hid (Below w.heap.size w w2) := (bel1 w _).trans (hb2.mono (by simp))
    obtain ⟨hc2, hf2⟩ := bcell hb2 (Nat.le_refl _)
    have hz2 : w.heap.size < w2.heap.size := by have := hb2.size; simp at this; omega
    clear hb2
    go_wp2_with fail
    refine (KeysI.keys_any b off cap ks lo hi _ ?_ ?_ (unhide HL) (unhide HS)).mono ?_
    · have := (unhide hB2).size; simp; omega
    · intro i hlt
      rw [((unhide hB2).alloc (by omega) _).cell (p := ⟨b, off + i, none⟩) hb]
      exact unhide HC i hlt
    rintro e w3 ⟨rfl, hb3⟩
    have hB3 : Hid (Below w.heap.size w w3) := ((unhide hB2).alloc (by omega) _).trans (hb3.mono (by simp; omega))
    obtain ⟨hc3, hf3⟩ := bcell hb3 (Nat.le_refl _)
    have hz3 : w2.heap.size < w3.heap.size := by have := hb3.size; simp at this; omega
    clear hb3
    rw [unhide Hg]
  · go_wp2
    go_ret
    exact ⟨ret_bool (by rw [unhide HG]; exact form_g (unhide Hg)), unhide hB3⟩
  · go_wp2_with (go_at_call 40; refine (number_any _ _ _).mono ?_; rintro e w4 ⟨rfl, rfl⟩)
    all_goals
      go_ret
      refine ⟨ret_bool ?_, unhide hB3⟩
      rw [unhide HG]
      first
        | exact form_f (Bool.eq_false_iff.2 ‹_›)
        | exact form_x (Bool.eq_false_iff.2 ‹_›)
        | exact form_n (Bool.eq_false_iff.2 ‹_›)
        | exact form_d (dat_non ‹_› ‹_›)
        | skip
    · rw [form_fin (unhide Hg) ‹numB bf f = true› ‹numB bx x = true› ‹numB bn n = true› (dat_zero ‹dt.toList = []›), ‹q = true›]; rfl
    · rw [form_fin (unhide Hg) ‹numB bf f = true› ‹numB bx x = true› ‹numB bn n = true› (dat_zero ‹dt.toList = []›), Bool.eq_false_iff.2 ‹¬ q = true›]; rfl
    · rw [form_fin (unhide Hg) ‹numB bf f = true› ‹numB bx x = true› ‹numB bn n = true› (dat_big ‹bd = true› ‹(dt.size : Int) ≤ 100›), ‹q = true›]; rfl
    · rw [form_fin (unhide Hg) ‹numB bf f = true› ‹numB bx x = true› ‹numB bn n = true› (dat_big ‹bd = true› ‹(dt.size : Int) ≤ 100›), Bool.eq_false_iff.2 ‹¬ q = true›]; rfl
    · exact form_d (dat_no (by omega))
end GoodCmdI
end Go.Proofs.YtkdcofmpbmiloaaGreatDoor
/-
  The model's DrawCountText: some text, some number in bounds, up or down.
-/
namespace Go.Proofs.YtkdcofmpbmiloaaGreatDoor
namespace Cur
open Go.RowKit Base Marks
set_option linter.unusedVariables false

def ten : List ByteArray := [⟨#[48]⟩, ⟨#[55]⟩, ⟨#[49, 48]⟩, ⟨#[48, 48, 55]⟩, ⟨#[]⟩, ⟨#[120]⟩, ⟨#[57, 57, 57, 57, 57, 57, 57, 57, 57, 57, 57, 57, 57, 57, 57, 57, 57, 57]⟩, ⟨#[57, 57, 57, 57, 57, 57, 57, 57, 56, 57, 57, 57, 57, 57, 57, 57, 57, 57]⟩, ⟨#[49, 48, 48, 48, 48, 48, 48, 48, 48, 48, 48, 48, 48, 48, 48, 48, 48, 48, 48]⟩, ⟨#[45, 49]⟩]
theorem ten_size (i : Nat) (h : i < 10) : (ten.getD i ByteArray.empty).size ≤ 100 := by
  obtain rfl | rfl | rfl | rfl | rfl | rfl | rfl | rfl | rfl | rfl : i = 0 ∨ i = 1 ∨ i = 2 ∨ i = 3 ∨ i = 4 ∨ i = 5 ∨ i = 6 ∨ i = 7 ∨ i = 8 ∨ i = 9 := by omega
  all_goals decide
theorem cells10 (w : World) (t : TypeId) (i : Nat) (h : i < 10) : (w.alloc (.cells #[.string ⟨#[48]⟩, .string ⟨#[55]⟩, .string ⟨#[49, 48]⟩, .string ⟨#[48, 48, 55]⟩, .string ⟨#[]⟩, .string ⟨#[120]⟩, .string ⟨#[57, 57, 57, 57, 57, 57, 57, 57, 57, 57, 57, 57, 57, 57, 57, 57, 57, 57]⟩, .string ⟨#[57, 57, 57, 57, 57, 57, 57, 57, 56, 57, 57, 57, 57, 57, 57, 57, 57, 57]⟩, .string ⟨#[49, 48, 48, 48, 48, 48, 48, 48, 48, 48, 48, 48, 48, 48, 48, 48, 48, 48, 48]⟩, .string ⟨#[45, 49]⟩] t)).cell? ⟨w.heap.size, i, none⟩ = some (.string (ten.getD i ByteArray.empty)) := by
  rw [World.cell?_alloc_new]
  obtain rfl | rfl | rfl | rfl | rfl | rfl | rfl | rfl | rfl | rfl : i = 0 ∨ i = 1 ∨ i = 2 ∨ i = 3 ∨ i = 4 ∨ i = 5 ∨ i = 6 ∨ i = 7 ∨ i = 8 ∨ i = 9 := by omega
  all_goals rfl
theorem Cu.new (w : World) (t : TypeId) (a : Option Addr) (n cap : Nat) : Cu w (w.alloc (.cells #[.slice a n cap, .int .i64 0, .int .u64 0] t)) w.heap.size a n cap 0 := by
  refine ⟨⟨0, 0, ?_, ?_, ?_, Nat.le_refl _⟩, fun o => by simp, by simp, Nat.le_refl _, (Below.refl _ _).alloc (Nat.le_refl _) _⟩
  all_goals rw [World.cell?_alloc_new]; rfl

end Cur
end Go.Proofs.YtkdcofmpbmiloaaGreatDoor
/-
  What the variables hold: the library's, and errFull.
-/
namespace Go.Proofs.YtkdcofmpbmiloaaGreatDoor
namespace Shelf
open Go.RowKit Base
def VarsF (w : World) : Prop := Count.Vars w ∧ ∃ p, FullIs w p
theorem VarsF.below {w w' : World} (h : VarsF w) (hb : Below w.heap.size w w') : VarsF w' := ⟨h.1.below hb, h.2.imp fun _ hp => hp.below hb⟩
end Shelf
end Go.Proofs.YtkdcofmpbmiloaaGreatDoor
/-
  The law's eqItem and eqItemS.
-/
namespace Go.Proofs.YtkdcofmpbmiloaaGreatDoor
namespace Items
open Go.RowKit Base
set_option linter.unusedVariables false
end Items
end Go.Proofs.YtkdcofmpbmiloaaGreatDoor
/-
  Contracts of the law files' helpers over items: szItem, szItemS, toItem, toItemS, eqItem, eqItemS.
-/
namespace Go.Proofs.YtkdcofmpbmiloaaGreatDoor
namespace Items
open Go.RowKit Base
set_option linter.unusedVariables false
theorem info_item : (Tryz.prog.info? 37).map (fun i => (i.zero, i.size, i.bytes)) = some (some (.agg #[.string ByteArray.empty, .int .i64 0, .string ByteArray.empty, .int .i64 0, .int .i64 0]), 5, 56) := by kernel_rfl

end Items
end Go.Proofs.YtkdcofmpbmiloaaGreatDoor
/-
  Contracts of the law files' helpers over stores: szStore, toStore, eqStore.
-/
namespace Go.Proofs.YtkdcofmpbmiloaaGreatDoor
namespace Items
open Go.RowKit Base
set_option linter.unusedVariables false
end Items
end Go.Proofs.YtkdcofmpbmiloaaGreatDoor
/-
  Small laws of my own by which an argument is opened: a field of a struct by value, a slice of strings. No Go function is spoken of here.
-/
namespace Go.Proofs.YtkdcofmpbmiloaaGreatDoor
namespace Open
open Go.ChangeShapes Go.WideShapes Go.RowKit Go.Deep Base
section
variable {H : Type} {enc : TypeId × Value → H} {P : Program} {w : World} {base : Nat} {spare : Nat → Bool} {held : Bool}

theorem field_at {t : TypeId} {fs : Array Field} {cs : Array Value} {d : DataW H} {p : List MemPlace} (hs : P.underlying t = some (.struct fs)) (hone : oneCellFields P fs = true)
    (h : DataW.Trod enc P w base spare held t (.agg cs) d p) (i : Nat) (f : Field) (hf : fs[i]? = some f) (v : Value) (hv : cs[i]? = some v) :
    ∃ n y, DataW.trod enc P w base spare held n f.type [v] = some y := by
  obtain ⟨fuel, hfu⟩ := h
  obtain ⟨xs, n, _, hx, hl, hlen, hfld⟩ := DataW.trod_struct hs hfu
  obtain ⟨o, k⟩ := hone_of hone i f hf
  have hh := hfld i f hf
  have hi : i < xs.length := by
    have := (Array.getElem?_eq_some_iff.1 hf).1
    omega
  rw [o, k, List.getElem?_eq_getElem hi] at hh
  have hcs : ((Value.agg cs).cells.toList.drop i).take 1 = [v] := by
    have hv' : cs.toList[i]? = some v := by simpa using hv
    obtain ⟨hlt, e⟩ := List.getElem?_eq_some_iff.1 hv'
    show (cs.toList.drop i).take 1 = [v]
    rw [List.drop_eq_getElem_cons hlt, e]
    rfl
  rw [hcs] at hh
  exact ⟨n, _, hh⟩

theorem cell_lt {a : Addr} {v : Value} (h : w.cell? a = some v) : a.block < w.heap.size := by
  unfold World.cell? at h
  rcases Nat.lt_or_ge a.block w.heap.size with h' | h'
  · exact h'
  · rw [Array.getElem?_eq_none h'] at h; cases h

theorem strs_of {t e : TypeId} {n : Nat} {v : Value} {y : DataW H × List MemPlace} (ht : P.underlying t = some (.slice e)) (he : P.underlying e = some .string) (hc : P.cellsOf e = 1)
    (h : DataW.trod enc P w base spare held n t [v] = some y) :
    ∃ (a : Option Addr) (cap : Nat) (ss : List ByteArray), v = .slice a ss.length cap ∧ StrsAt w a ss ∧ ss.length ≤ maxLen ∧ ∀ s ∈ ss, s.size ≤ maxLen := by
  rcases open_strings ht he hc h with ⟨hcs, _⟩ | ⟨a, len, cap, ss, hcs, _, hl, hm, hz, _, hcell, hsz⟩
  · simp only [List.cons.injEq, and_true] at hcs
    exact ⟨none, 0, [], hcs, fun h => absurd rfl h, by simp, by simp⟩
  · simp only [List.cons.injEq, and_true] at hcs
    have hle : len ≤ ss.length := by rw [hz]; split <;> omega
    refine ⟨some a, cap, ss.take len, ?_, ?_, ?_, fun s hs => hsz s (List.mem_of_mem_take hs)⟩
    · rw [List.length_take, Nat.min_eq_left hle]; exact hcs
    · intro hne
      have hp : 0 < (ss.take len).length := List.length_pos_iff.2 hne
      rw [List.length_take, Nat.min_eq_left hle] at hp
      have h0 := hcell 0 (by omega)
      obtain ⟨b, off, spot⟩ := a
      have hspot : spot = none := by simpa [Addr.add] using World.cell?_spot h0
      subst hspot
      refine ⟨b, off, rfl, by simpa [Addr.add] using cell_lt h0, fun i hi => ?_⟩
      rw [List.length_take, Nat.min_eq_left hle] at hi
      rw [← add_plain, hcell i (by omega)]
      simp [List.getD_eq_getElem?_getD, hi]
    · rw [List.length_take]; omega
/-- A slice of structs of one-cell fields: each field of each element has its cell, with its own reading. -/
theorem rows_of {t e : TypeId} {fs : Array Field} {n : Nat} {v : Value} {y : DataW H × List MemPlace} (ht : P.underlying t = some (.slice e)) (he : P.underlying e = some (.struct fs)) (hone : oneCellFields P fs = true)
    (hsz : P.cellsOf e = fs.size) (hp : 0 < fs.size) (h : DataW.trod enc P w base spare held n t [v] = some y) :
    ∃ (a : Option Addr) (len cap : Nat), v = .slice a len cap ∧ len ≤ cap ∧ cap ≤ maxLen ∧ (0 < len → ∃ b off, a = some ⟨b, off, none⟩ ∧ b < w.heap.size ∧
      ∀ i, i < len → ∀ (j : Nat) (f : Field), fs[j]? = some f → ∃ c m z, w.cell? ⟨b, off + i * fs.size + j, none⟩ = some c ∧ DataW.trod enc P w base spare held m f.type [c] = some z) := by
  rcases open_slice ht h with ⟨hcs, _⟩ | ⟨a, len, cap, m, k, D, Pl, hcs, _, hl, hm, hmm, _, hx⟩
  · simp only [List.cons.injEq, and_true] at hcs
    exact ⟨none, 0, 0, hcs, Nat.le_refl _, Nat.zero_le _, fun h => absurd h (by omega)⟩
  · simp only [List.cons.injEq, and_true] at hcs
    refine ⟨some a, len, cap, hcs, hl, hm, fun hlen => ?_⟩
    have hle : len ≤ m := by rw [hmm]; split <;> omega
    have hcell : ∀ i, i < len → ∀ (j : Nat) (f : Field), fs[j]? = some f → ∃ c m z, w.cell? (a.add (i * fs.size + j)) = some c ∧ DataW.trod enc P w base spare held m f.type [c] = some z := by
      intro i hi j f hf
      obtain ⟨cs', h1, h2⟩ := hx i (by omega)
      rw [hsz] at h1
      obtain ⟨_, hcl, hce⟩ := World.cells?_some h1
      have hj : j < fs.size := (Array.getElem?_eq_some_iff.1 hf).1
      obtain ⟨xs, n', _, _, _, hxl, hfld⟩ := DataW.trod_struct he h2
      obtain ⟨o, kk⟩ := hone_of hone j f hf
      have hh := hfld j f hf
      rw [o, kk, List.getElem?_eq_getElem (show j < xs.length by omega)] at hh
      have hjc : j < cs'.length := by omega
      have hcs' : (cs'.drop j).take 1 = [cs'[j]] := by rw [List.drop_eq_getElem_cons hjc]; rfl
      rw [hcs'] at hh
      refine ⟨cs'[j], n', _, ?_, hh⟩
      rw [← Go.Deep.add_add, hce j hj, List.getElem?_eq_getElem hjc]
    obtain ⟨f0, hf0⟩ : ∃ f, fs[0]? = some f := ⟨fs[0], by simp [hp]⟩
    obtain ⟨c0, _, _, h0, _⟩ := hcell 0 hlen 0 f0 hf0
    obtain ⟨b, off, spot⟩ := a
    have hspot : spot = none := by simpa [Addr.add] using World.cell?_spot h0
    subst hspot
    refine ⟨b, off, rfl, by simpa [Addr.add] using cell_lt h0, fun i hi j f hf => ?_⟩
    obtain ⟨c, m', z, e1, e2⟩ := hcell i hi j f hf
    refine ⟨c, m', z, ?_, e2⟩
    rw [add_plain] at e1
    rw [Nat.add_assoc]
    exact e1
theorem array3 {α : Type} {cs : Array α} (h : cs.size = 3) : ∃ c0 c1 c2, cs = #[c0, c1, c2] := by
  obtain ⟨l⟩ := cs
  match l, h with
  | [c0, c1, c2], _ => exact ⟨c0, c1, c2, rfl⟩
theorem array7 {α : Type} {cs : Array α} (h : cs.size = 7) : ∃ c0 c1 c2 c3 c4 c5 c6, cs = #[c0, c1, c2, c3, c4, c5, c6] := by
  obtain ⟨l⟩ := cs
  match l, h with
  | [c0, c1, c2, c3, c4, c5, c6], _ => exact ⟨c0, c1, c2, c3, c4, c5, c6, rfl⟩
end
end Open
end Go.Proofs.YtkdcofmpbmiloaaGreatDoor
/-
  A slice of items among the arguments, opened. No Go function is spoken of here.
-/
namespace Go.Proofs.YtkdcofmpbmiloaaGreatDoor
namespace Open
open Go.ChangeShapes Go.WideShapes Go.RowKit Go.Deep Base Items
section
variable {H : Type} {enc : TypeId × Value → H} {P : Program} {w : World} {base : Nat} {spare : Nat → Bool} {held : Bool}
theorem items_of {t e : TypeId} {f0 f1 f2 f3 f4 : Field} {n : Nat} {v : Value} {y : DataW H × List MemPlace} (ht : P.underlying t = some (.slice e)) (he : P.underlying e = some (.struct #[f0, f1, f2, f3, f4])) (hone : oneCellFields P #[f0, f1, f2, f3, f4] = true)
    (hsz : P.cellsOf e = 5) (h0 : P.underlying f0.type = some .string) (h1 : P.underlying f1.type = some (.int .i64)) (h2 : P.underlying f2.type = some .string) (h3 : P.underlying f3.type = some (.int .i64)) (h4 : P.underlying f4.type = some (.int .i64))
    (h : DataW.trod enc P w base spare held n t [v] = some y) :
    ∃ (a : Option Addr) (cap : Nat) (its : List Itm), v = .slice a its.length cap ∧ ItemsAt w a its ∧ its.length ≤ cap ∧ its.length ≤ maxLen ∧ ∀ x ∈ its, Fits x := by
  obtain ⟨a, len, cap, hv, hl, hm, hx⟩ := rows_of ht he hone hsz (by simp) h
  by_cases hlen : len = 0
  · subst hlen
    exact ⟨a, cap, [], hv, fun h => absurd rfl h, Nat.zero_le _, Nat.zero_le _, by simp⟩
  · obtain ⟨b, off, ha, hb, hcell⟩ := hx (by omega)
    have hall : ∀ i, i < len → ∃ x : Itm, At w b (off + i * 5) x ∧ Fits x := by
      intro i hi
      obtain ⟨c0, m0, z0, e0, g0⟩ := hcell i hi 0 f0 rfl
      obtain ⟨c1, m1, z1, e1, g1⟩ := hcell i hi 1 f1 rfl
      obtain ⟨c2, m2, z2, e2, g2⟩ := hcell i hi 2 f2 rfl
      obtain ⟨c3, m3, z3, e3, g3⟩ := hcell i hi 3 f3 rfl
      obtain ⟨c4, m4, z4, e4, g4⟩ := hcell i hi 4 f4 rfl
      obtain ⟨s0, q0, _, b0⟩ := DataW.trod_string h0 g0
      obtain ⟨i1, q1, _, _⟩ := DataW.trod_int h1 g1
      obtain ⟨s2, q2, _, b2⟩ := DataW.trod_string h2 g2
      obtain ⟨i3, q3, _, _⟩ := DataW.trod_int h3 g3
      obtain ⟨i4, q4, _, _⟩ := DataW.trod_int h4 g4
      simp only [List.cons.injEq, and_true] at q0 q1 q2 q3 q4
      subst q0 q1 q2 q3 q4
      exact ⟨⟨s0, i1, s2, i3, i4⟩, ⟨e0, e1, e2, e3, e4⟩, b0, b2⟩
    obtain ⟨V, hV⟩ := @choose_lt Itm ⟨zero⟩ len _ hall
    refine ⟨a, cap, (List.range len).map V, by simpa using hv, fun _ => ⟨b, off, ha, hb, fun i hi => ?_⟩, by simpa using hl, by simp; omega, fun x hx => ?_⟩
    · have hi' : i < len := by simpa using hi
      have e : ((List.range len).map V).getD i zero = V i := by simp [List.getD_eq_getElem?_getD, hi']
      rw [e]
      exact (hV i hi').1
    · obtain ⟨i, hi, rfl⟩ := List.mem_map.1 hx
      exact (hV i (by simpa using hi)).2
end
end Open
end Go.Proofs.YtkdcofmpbmiloaaGreatDoor
/-
  FnExactChargeOf returns true for every store, given the contract of the program's ChargeOf.
-/
namespace Go.Proofs.YtkdcofmpbmiloaaGreatDoor
namespace ChargeOfL
open Go.ChangeShapes Go.WideShapes Go.ChangeAt Go.RowKit Base Items Store
set_option linter.unusedVariables false

theorem ret_ib {a b : Int} {c : Bool} (h : a = b) : Ending.returned (.tuple #[.int .i64 a, .bool c]) = .returned (.tuple #[.int .i64 b, .bool c]) := by rw [h]
/-- What ChargeOf hands back. -/
def chB (lim nx : Int) (its : List Itm) : Int := if gsB lim nx its = true then total its else 0

/-- What the program's ChargeOf must be shown to do. -/
def Impl : Prop := ∀ (lim nx : Int) (b off cap : Nat) (its : List Itm) (w : World), b < w.heap.size → (∀ i, i < its.length → At w b (off + i * 5) (its.getD i zero)) →
  its.length ≤ 1048576 → its.length ≤ cap → (∀ x ∈ its, Fits x) →
  Calls Tryz.prog 7 #[.agg #[.int .i64 lim, .int .i64 nx, .slice (some ⟨b, off, none⟩) its.length cap]] w fun e w' => e = .returned (.tuple #[.int .i64 (chB lim nx its), .bool (gsB lim nx its)]) ∧ Below w.heap.size w w'

theorem own : ownKnob Tryz.prog.godebug = none := by kernel_rfl
theorem laidOut : laidOutB Tryz.prog = true := by kernel_rfl

end ChargeOfL
end Go.Proofs.YtkdcofmpbmiloaaGreatDoor
/-
  The contract of the model's FindItem, by a plain function of the items.
-/
namespace Go.Proofs.YtkdcofmpbmiloaaGreatDoor
namespace Store
open Go.RowKit Base GoodKey Items
set_option linter.unusedVariables false

end Store
end Go.Proofs.YtkdcofmpbmiloaaGreatDoor
/-
  FnExactFindItem returns true for every store, time and key, given the contract of the program's FindItem.
-/
namespace Go.Proofs.YtkdcofmpbmiloaaGreatDoor
namespace FindItemL
open Go.ChangeShapes Go.WideShapes Go.ChangeAt Go.RowKit Base Items Store
open Go.ChangeMaps (open_string shut_string)
set_option linter.unusedVariables false

/-- What the program's FindItem must be shown to do. -/
def Impl : Prop := ∀ (lim nx : Int) (b off cap : Nat) (its : List Itm) (now : Int) (key : ByteArray) (w : World), b < w.heap.size → (∀ i, i < its.length → At w b (off + i * 5) (its.getD i zero)) →
  its.length ≤ 1048576 → its.length ≤ cap → (∀ x ∈ its, Fits x) → key.size ≤ 1048576 →
  Calls Tryz.prog 9 #[.agg #[.int .i64 lim, .int .i64 nx, .slice (some ⟨b, off, none⟩) its.length cap], .int .i64 now, .string key] w fun e w' => e = .returned (findV (findB lim nx its now key)) ∧ Below w.heap.size w w'

/-- What findV says, the item and the bool apart. -/
theorem findV_eq (o : Option Itm) : ∃ (x : Itm) (c : Bool), findV o = .tuple #[.agg #[.string x.key, .int .i64 x.flags, .string x.data, .int .i64 x.upto, .int .i64 x.token], .bool c] := by
  cases o
  · exact ⟨zero, false, rfl⟩
  · exact ⟨_, true, rfl⟩

theorem own : ownKnob Tryz.prog.godebug = none := by kernel_rfl
theorem laidOut : laidOutB Tryz.prog = true := by kernel_rfl

end FindItemL
end Go.Proofs.YtkdcofmpbmiloaaGreatDoor
/-
  A slice of bytes among the arguments, opened. No Go function is spoken of here.
-/
namespace Go.Proofs.YtkdcofmpbmiloaaGreatDoor
namespace Cur
open Go.ChangeShapes Go.WideShapes Go.RowKit Go.Deep Base
section
variable {H : Type} {enc : TypeId × Value → H} {P : Program} {w : World} {base : Nat} {spare : Nat → Bool} {held : Bool}
theorem wf_u8 {m : Int} (h : (Lit.int .u8 m).wf = true) : 0 ≤ m ∧ m ≤ 255 := by
  simp [Lit.wf, IntKind.min, IntKind.max, IntKind.signed, IntKind.bits] at h
  omega
theorem open_of {t e : TypeId} {n : Nat} {v : Value} {y : DataW H × List MemPlace} (ht : P.underlying t = some (.slice e)) (he : P.underlying e = some (.int .u8)) (hc : P.cellsOf e = 1)
    (h : DataW.trod enc P w base spare held n t [v] = some y) :
    ∃ (a : Option Addr) (cap n : Nat) (z : Nat → Int), v = .slice a n cap ∧ BAt w a n z ∧ n ≤ maxLen := by
  rcases open_ints ht he hc h with ⟨hcs, _⟩ | ⟨a, len, cap, zs, hcs, _, hl, hm, hz, _, hcell, hwf⟩
  · simp only [List.cons.injEq, and_true] at hcs
    exact ⟨none, 0, 0, fun _ => 0, hcs, fun h => absurd h (by omega), Nat.zero_le _⟩
  · simp only [List.cons.injEq, and_true] at hcs
    have hle : len ≤ zs.length := by rw [hz]; split <;> omega
    refine ⟨some a, cap, len, fun i => zs.getD i 0, hcs, fun hp => ?_, by omega⟩
    have h0 := hcell 0 (by omega)
    obtain ⟨b, off, spot⟩ := a
    have hspot : spot = none := by simpa [Addr.add] using World.cell?_spot h0
    subst hspot
    refine ⟨b, off, rfl, by simpa [Addr.add] using Open.cell_lt h0, fun i hi => ?_⟩
    have hw := wf_u8 (hwf (zs.getD i 0) (by rw [List.getD_eq_getElem?_getD, List.getElem?_eq_getElem (by omega)]; simp))
    refine ⟨?_, hw⟩
    rw [← add_plain]
    exact hcell i (by omega)
end
end Cur
end Go.Proofs.YtkdcofmpbmiloaaGreatDoor
