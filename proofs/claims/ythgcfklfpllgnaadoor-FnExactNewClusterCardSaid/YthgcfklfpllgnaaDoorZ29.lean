/-
  The program's find: where a name stands, or belongs, among places that rise by name.
-/
import Derived.Test.YthgcfklfpllgnaaDoorZ3
import Derived.Test.YthgcfklfpllgnaaDoorZ18
import Derived.Test.YthgcfklfpllgnaaDoorZ28
import Derived.Test.YthgcfklfpllgnaaDoorZ7
import Derived.Test.YthgcfklfpllgnaaDoorZ5
namespace Go.Proofs.YthgcfklfpllgnaaDoor
namespace Fleet
open Go.RowKit Base Plc
set_option linter.unusedVariables false

theorem rise_at {nm : List ByteArray} (h : Rising (nm.map toL)) {p q : Nat} (hpq : p < q) (hq : q < nm.length) : toL (nm.getD p ByteArray.empty) < toL (nm.getD q ByteArray.empty) := by
  have := List.pairwise_iff_getElem.1 h p q (by simp; omega) (by simpa using hq) hpq
  simpa [List.getD_eq_getElem?_getD, show p < nm.length by omega, hq] using this
/-- Up to i the names lie below x, from j on they don't. -/
def Hv (nm : List ByteArray) (x : ByteArray) (i j : Nat) : Prop := i ≤ j ∧ j ≤ nm.length ∧ (∀ q, q < i → toL (nm.getD q ByteArray.empty) < toL x) ∧ (∀ q, j ≤ q → q < nm.length → ¬ toL (nm.getD q ByteArray.empty) < toL x)
theorem hv_start (nm : List ByteArray) (x : ByteArray) : Hv nm x 0 nm.length := ⟨Nat.zero_le _, Nat.le_refl _, fun q hq => by omega, fun q h1 h2 => by omega⟩
theorem hv_low {nm : List ByteArray} {x : ByteArray} {i j m : Nat} (hr : Rising (nm.map toL)) (h : Hv nm x i j) (h1 : i ≤ m) (h2 : m < j) (hm : toL (nm.getD m ByteArray.empty) < toL x) : Hv nm x (m + 1) j := by
  obtain ⟨a, b, c, d⟩ := h
  refine ⟨by omega, b, fun q hq => ?_, d⟩
  by_cases e : q = m
  · rw [e]; exact hm
  · exact List.lt_trans (rise_at hr (show q < m by omega) (by omega)) hm
theorem hv_high {nm : List ByteArray} {x : ByteArray} {i j m : Nat} (hr : Rising (nm.map toL)) (h : Hv nm x i j) (h1 : i ≤ m) (h2 : m < j) (hm : ¬ toL (nm.getD m ByteArray.empty) < toL x) : Hv nm x i m := by
  obtain ⟨a, b, c, d⟩ := h
  refine ⟨h1, by omega, c, fun q hq1 hq2 hl => ?_⟩
  by_cases e : q = m
  · rw [e] at hl; exact hm hl
  · exact hm (List.lt_trans (rise_at hr (show m < q by omega) hq2) hl)
theorem hv_end {nm : List ByteArray} {x : ByteArray} {i : Nat} (h : Hv nm x i i) : i = kOf x nm := by
  obtain ⟨_, b, c, d⟩ := h
  have hle := kOf_le x nm
  rcases Nat.lt_trichotomy i (kOf x nm) with hl | hl | hl
  · exact absurd ((less_iff _ _).1 (kOf_lt hl)) (d i (Nat.le_refl _) (by omega))
  · exact hl
  · have h1 := kOf_at (x := x) (L := nm) (by omega)
    have h2 := (less_iff _ _).2 (c _ hl)
    rw [h1] at h2
    cases h2
def fnd (nm : List ByteArray) (x : ByteArray) : Bool := decide (kOf x nm < nm.length) && decide (nm.getD (kOf x nm) ByteArray.empty = x)
theorem cmp_lt (a b : ByteArray) : decide (Ring.cmpS a b < 0) = decide (toL a < toL b) := by
  unfold Ring.cmpS
  by_cases h : toL a < toL b
  · rw [if_pos ((less_iff a b).2 h)]; simp [h]
  · rw [if_neg (fun e => h ((less_iff a b).1 e))]
    split <;> simp [h]
theorem cmp_eq (a b : ByteArray) : decide (Ring.cmpS a b = 0) = decide (a = b) := by
  unfold Ring.cmpS
  by_cases h : toL a < toL b
  · rw [if_pos ((less_iff a b).2 h)]
    have : a ≠ b := fun e => by rw [e] at h; exact List.lt_irrefl _ h
    simp [this]
  · rw [if_neg (fun e => h ((less_iff a b).1 e))]
    by_cases h2 : toL b < toL a
    · rw [if_pos ((less_iff b a).2 h2)]
      have : a ≠ b := fun e => by rw [e] at h2; exact List.lt_irrefl _ h2
      simp [this]
    · rw [if_neg (fun e => h2 ((less_iff b a).1 e))]
      have : a = b := toL_inj (List.le_antisymm (List.not_lt.1 h2) (List.not_lt.1 h))
      simp [this]
theorem ret_sb {i k : Nat} {b b' : Bool} (h1 : i = k) (h2 : b' = b) : Ending.returned (.tuple #[.int .i64 (i : Int), .bool b]) = .returned (.tuple #[.int .i64 (k : Int), .bool b']) := by rw [h1, h2]
/-- Places in a row of pointers, each with its name. -/
def PrAt (w : World) (g : Nat) (nm : List ByteArray) (pbs : Nat → Nat) : Prop := ∀ i, i < nm.length → w.cell? ⟨g, i, none⟩ = some (.pointer (some ⟨pbs i, 0, none⟩)) ∧ w.cell? ⟨pbs i, 1, none⟩ = some (.string (nm.getD i ByteArray.empty))
theorem PrAt.below {w w' : World} {g : Nat} {nm : List ByteArray} {pbs : Nat → Nat} (h : PrAt w g nm pbs) (hb : Below w.heap.size w w') : PrAt w' g nm pbs :=
  fun i hi => ⟨(hb.cell (block_lt_of_cell (h i hi).1)).trans (h i hi).1, (hb.cell (block_lt_of_cell (h i hi).2)).trans (h i hi).2⟩

set_option maxRecDepth 10000 in
set_option maxHeartbeats 1000000 in
theorem cmp_any (pb : Nat) (nm key : ByteArray) (w : World) (h : w.cell? ⟨pb, 1, none⟩ = some (.string nm)) :
    Calls Tryd.prog 53 #[.pointer (some ⟨pb, 0, none⟩), .string key] w fun e w' => e = .returned (.int .i64 (Ring.cmpS nm key)) ∧ Below w.heap.size w w' := by
  have HC := hide (fun w' => Ring.compareS nm key w')
  go_enter Tryd.func53, Tryd.ntmps53
  go_wp2_with fail
  refine (unhide HC _).mono ?_
  rintro e w1 ⟨rfl, h1⟩
  rw [h1]; clear h1 w1
  go_wp2
  go_ret
  exact ⟨rfl, Below.refl _ _⟩

set_option maxRecDepth 10000 in
set_option maxHeartbeats 2000000 in
theorem search_some (g cap : Nat) (nm : List ByteArray) (pbs : Nat → Nat) (key : ByteArray) (w : World) (hr : PrAt w g nm pbs) (h1 : nm.length ≤ 1000) (hs : Rising (nm.map toL)) :
    Calls Tryd.prog 52 #[.slice (some ⟨g, 0, none⟩) nm.length cap, .string key, .func (.func 53) #[] #[]] w fun e w' =>
      e = .returned (.tuple #[.int .i64 (kOf key nm : Int), .bool (fnd nm key)]) ∧ Below w.heap.size w w' := by
  have HR := hide hr
  have HS := hide hs
  have HEND := hide (fun i => @hv_end nm key i)
  have HF : Hid (fnd nm key = (decide (kOf key nm < nm.length) && decide (nm.getD (kOf key nm) ByteArray.empty = key))) := rfl
  have HSTA := hide (hv_start nm key)
  clear hr hs
  generalize hn : nm.length = n at h1 HF HSTA ⊢
  have HN := hide hn
  clear hn
  go_enter Tryd.func52, Tryd.ntmps52
  go_wp2
  go_loopw [9, 10] (fun iv jv wr => ∃ (i j : Nat), iv = .int .i64 (i : Int) ∧ jv = .int .i64 (j : Int) ∧ i ≤ j ∧ j ≤ n ∧ Hid (Hv nm key i j) ∧ Hid (Below w.heap.size w wr)) (fun iv jv _ => (intOf jv).toNat - (intOf iv).toNat)
  case atStart => exact ⟨0, n, rfl, rfl, Nat.zero_le _, Nat.le_refl _, HSTA, hide (Below.refl _ _)⟩
  case round =>
    obtain ⟨i, j, rfl, rfl, hij, hjn, hH, hbel⟩ := hrel
    by_cases hlt : i < j
    · obtain ⟨c0, c1⟩ := ((unhide HR).below (unhide hbel)) ((i + j) / 2) (by have := unhide HN; omega)
      have hlo := hide (hv_low (unhide HS) (unhide hH) (show i ≤ (i + j) / 2 by omega) (by omega))
      have hhi := hide (hv_high (unhide HS) (unhide hH) (show i ≤ (i + j) / 2 by omega) (by omega))
      have hm1 : i ≤ (i + j) / 2 := by omega
      have hm2 : (i + j) / 2 < j := by omega
      generalize nm.getD ((i + j) / 2) ByteArray.empty = x at c0 c1 hlo hhi
      generalize pbs ((i + j) / 2) = pb at c0 c1
      have HCL := hide (cmp_any pb x key wr c1)
      have hlt0 := cmp_lt x key
      generalize Ring.cmpS x key = r at HCL hlt0
      by_cases hx : toL x < toL key
      · have hr0 : r < 0 := by have := hlt0.trans (decide_eq_true hx); simpa using this
        have HH := hide (unhide hlo hx)
        clear hlt0 hlo hhi hx c1
        go_wp2_with (go_at_call 53; refine (unhide HCL).mono ?_; rintro e w1 ⟨rfl, hb1⟩; have HB1 := hide hb1)
        go_roundw
        case rel => exact ⟨(i + j) / 2 + 1, j, by go_num, rfl, by omega, hjn, HH, hide ((unhide hbel).trans ((unhide HB1).mono (unhide hbel).size))⟩
        case measure => simp [intOf]; omega
      · have hr0 : ¬ r < 0 := by have := hlt0.trans (decide_eq_false hx); simpa using this
        have HH := hide (unhide hhi hx)
        clear hlt0 hlo hhi hx c1
        go_wp2_with (go_at_call 53; refine (unhide HCL).mono ?_; rintro e w1 ⟨rfl, hb1⟩; have HB1 := hide hb1)
        go_roundw
        case rel => exact ⟨i, (i + j) / 2, rfl, by go_num, by omega, by omega, HH, hide ((unhide hbel).trans ((unhide HB1).mono (unhide hbel).size))⟩
        case measure => simp [intOf]; omega
    · obtain rfl : i = j := by omega
      have HK := hide (unhide HEND i (unhide hH))
      rw [← unhide HK] at HF
      by_cases hin : i < n
      · obtain ⟨c0, c1⟩ := ((unhide HR).below (unhide hbel)) i (by have := unhide HN; omega)
        generalize nm.getD i ByteArray.empty = x at c0 c1 HF
        generalize pbs i = pb at c0 c1
        have HCL := hide (cmp_any pb x key wr c1)
        have heq0 := cmp_eq x key
        have HF2 : Hid (fnd nm key = decide (Ring.cmpS x key = 0)) := hide (by rw [unhide HF, heq0, decide_eq_true hin]; rfl)
        generalize Ring.cmpS x key = r at HCL HF2
        clear heq0 c1 HF
        by_cases hr0 : r = 0
        · have H3 : Hid (fnd nm key = true) := hide (by rw [unhide HF2, decide_eq_true hr0])
          subst hr0
          clear HF2
          go_wp2_with (go_at_call 53; refine (unhide HCL).mono ?_; rintro e w1 ⟨rfl, hb1⟩; have HB1 := hide hb1)
          go_ret2
          exact ⟨ret_sb (unhide HK) (unhide H3), (unhide hbel).trans ((unhide HB1).mono (unhide hbel).size)⟩
        · have H3 : Hid (fnd nm key = false) := hide (by rw [unhide HF2, decide_eq_false hr0])
          have hr1 : (r == 0) = false := by simpa using hr0
          have hr2 : decide (r = 0) = false := by simpa using hr0
          clear HF2
          go_wp2_with (go_at_call 53; refine (unhide HCL).mono ?_; rintro e w1 ⟨rfl, hb1⟩; have HB1 := hide hb1)
          go_ret2
          exact ⟨ret_sb (unhide HK) (unhide H3), (unhide hbel).trans ((unhide HB1).mono (unhide hbel).size)⟩
      · have H3 : Hid (fnd nm key = false) := hide (by rw [unhide HF, decide_eq_false hin]; rfl)
        clear HF
        go_wp2
        go_ret2
        exact ⟨ret_sb (unhide HK) (unhide H3), unhide hbel⟩
set_option maxRecDepth 10000 in
set_option maxHeartbeats 1000000 in
theorem search_nil (a : Option Addr) (cap : Nat) (key : ByteArray) (w : World) :
    Calls Tryd.prog 52 #[.slice a 0 cap, .string key, .func (.func 53) #[] #[]] w fun e w' =>
      e = .returned (.tuple #[.int .i64 0, .bool false]) ∧ Below w.heap.size w w' := by
  go_enter Tryd.func52, Tryd.ntmps52
  go_wp2
  go_loopw [9, 10] (fun iv jv wr => iv = .int .i64 0 ∧ jv = .int .i64 0 ∧ Hid (Below w.heap.size w wr)) (fun _ _ _ => 0)
  case atStart => exact ⟨rfl, rfl, hide (Below.refl _ _)⟩
  case round =>
    obtain ⟨rfl, rfl, hbel⟩ := hrel
    go_wp2
    go_ret2
    exact ⟨rfl, unhide hbel⟩
end Fleet
end Go.Proofs.YthgcfklfpllgnaaDoor
/-
  The cluster at work: how it lies in memory. No Go function is spoken of here.
-/
namespace Go.Proofs.YthgcfklfpllgnaaDoor
namespace Fleet
open Go.RowKit Base Store Items OwnR Keep
set_option linter.unusedVariables false

/-- A place at work: its box, its shelf's box, the shelf's blocks, and what is kept. -/
structure Pc where
  name : ByteArray
  pb : Nat
  hb : Nat
  S : List Nat
  lim : Int
  nx : Int
  lost : Int
  its : List Itm
def zeroP : Pc := ⟨ByteArray.empty, 0, 0, [], 0, 0, 0, []⟩
def PB (w : World) (p : Pc) : Prop := w.heap[p.pb]? = some (.cells #[.pointer (some ⟨p.hb, 0, none⟩), .string p.name] 71 (0, 0))
def bks (p : Pc) : List Nat := p.pb :: p.S
structure PcAt (w : World) (p : Pc) : Prop where
  box : PB w p
  sh : _root_.Go.Proofs.YthgcfklfpllgnaaDoor.Shelf.Shelf w p.hb p.S p.lim p.nx p.lost p.its
  out : p.pb ∉ p.S
theorem PB.lt {w : World} {p : Pc} (h : PB w p) : p.pb < w.heap.size := (Array.getElem?_eq_some_iff.1 h).1
theorem PB.cells {w : World} {p : Pc} (h : PB w p) : w.cell? ⟨p.pb, 0, none⟩ = some (.pointer (some ⟨p.hb, 0, none⟩)) ∧ w.cell? ⟨p.pb, 1, none⟩ = some (.string p.name) := by
  constructor <;> (rw [Lib.cell_of_heap h]; rfl)
theorem PcAt.lt {w : World} {p : Pc} (h : PcAt w p) : ∀ b ∈ bks p, b < w.heap.size := by
  intro b hb
  rcases List.mem_cons.1 hb with rfl | hb
  · exact h.box.lt
  · exact h.sh.lt b hb
theorem PcAt.keep {w w' : World} {T : List Nat} {p : Pc} (h : PcAt w p) (hk : Keeps T w w') (hT : ∀ b ∈ bks p, b ∉ T) : PcAt w' p :=
  ⟨(hk.block _ h.box.lt (hT _ List.mem_cons_self)).trans h.box, h.sh.keep hk (fun b hb => hT b (List.mem_cons_of_mem _ hb)), h.out⟩

structure Fl where
  now : Int
  nx : Int
  lim : Int
  lost : Int
  v4 : Value
  v5 : Value
  v6 : Value
  v7 : Value
  a : Option Addr
  cap : Nat
  ps : List Pc
def rowV (f : Fl) : Value := .slice f.a f.ps.length f.cap
def ptr (p : Pc) : Value := .pointer (some ⟨p.pb, 0, none⟩)
/-- The box of the cluster at work. -/
def FB (w : World) (X : Nat) (f : Fl) : Prop := w.heap[X]? = some (.cells #[.int .i64 f.now, .int .i64 f.nx, .int .i64 f.lim, .int .i64 f.lost, f.v4, f.v5, f.v6, f.v7, rowV f] 65 (0, 0))
theorem FB.lt {w : World} {X : Nat} {f : Fl} (h : FB w X f) : X < w.heap.size := (Array.getElem?_eq_some_iff.1 h).1
theorem FB.frozen {w : World} {X : Nat} {f : Fl} (h : FB w X f) (o : Nat) : w.frozen? ⟨X, o, none⟩ = false := Lib.frozen_of_heap h o
theorem FB.cells {w : World} {X : Nat} {f : Fl} (h : FB w X f) : w.cell? ⟨X, 0, none⟩ = some (.int .i64 f.now) ∧ w.cell? ⟨X, 1, none⟩ = some (.int .i64 f.nx) ∧ w.cell? ⟨X, 2, none⟩ = some (.int .i64 f.lim) ∧ w.cell? ⟨X, 3, none⟩ = some (.int .i64 f.lost) ∧ w.cell? ⟨X, 4, none⟩ = some f.v4 ∧ w.cell? ⟨X, 5, none⟩ = some f.v5 ∧ w.cell? ⟨X, 6, none⟩ = some f.v6 ∧ w.cell? ⟨X, 7, none⟩ = some f.v7 ∧ w.cell? ⟨X, 8, none⟩ = some (rowV f) := by
  refine ⟨?_, ?_, ?_, ?_, ?_, ?_, ?_, ?_, ?_⟩ <;> (rw [Lib.cell_of_heap h]; rfl)
theorem FB.set8 {w : World} {X : Nat} {f : Fl} (h : FB w X f) (a : Option Addr) (cap : Nat) (ps : List Pc) : FB (w.setCell ⟨X, 8, none⟩ (.slice a ps.length cap)) X { f with a := a, cap := cap, ps := ps } := by
  unfold FB rowV at *; simp [World.setCell, Array.getElem?_modify, h]
theorem FB.of_block {w w' : World} {X : Nat} {f : Fl} (h : FB w X f) (e : w'.heap[X]? = w.heap[X]?) : FB w' X f := e.trans h

structure FleetAt (w : World) (M X : Nat) (f : Fl) : Prop where
  box : FB w X f
  row : w.ownsRow M 67 1 (rowV f) f.ps.length (f.ps.map ptr)
  pl : ∀ p ∈ f.ps, PcAt w p
  lo : ∀ p ∈ f.ps, ∀ b ∈ bks p, M ≤ b
  apart : f.ps.Pairwise (fun p q => ∀ b ∈ bks p, b ∉ bks q)
  far : ∀ p ∈ f.ps, ∀ b ∈ bks p, (rowV f).ownBlock ≠ some b
  xm : X < M
theorem keeps_below {w w' : World} (hb : Below w.heap.size w w') : Keeps [] w w' := Keeps.of_below hb (fun _ h _ => h)
theorem FleetAt.keep0 {w w' : World} {M X : Nat} {f : Fl} (h : FleetAt w M X f) (hk : Keeps [] w w') : FleetAt w' M X f :=
  ⟨h.box.of_block (hk.block X h.box.lt (by simp)), own_blocks h.row (fun g hg => hk.block g (own_lt h.row hg) (by simp)), fun p hp => (h.pl p hp).keep hk (by simp), h.lo, h.apart, h.far, h.xm⟩
theorem FleetAt.below {w w' : World} {M X : Nat} {f : Fl} (h : FleetAt w M X f) (hb : Below w.heap.size w w') : FleetAt w' M X f := h.keep0 (keeps_below hb)
theorem FleetAt.mlt {w : World} {M X : Nat} {f : Fl} (h : FleetAt w M X f) : X < w.heap.size := h.box.lt

/-- What lies below M but for the box stays. -/
structure Kp (M X : Nat) (w w' : World) : Prop where
  os : w'.os = w.os
  tape : w'.tape = w.tape
  output : w'.output = w.output
  size : w.heap.size ≤ w'.heap.size
  block : ∀ k, k < M → k ≠ X → w'.heap[k]? = w.heap[k]?
theorem Kp.refl (M X : Nat) (w : World) : Kp M X w w := ⟨rfl, rfl, rfl, Nat.le_refl _, fun _ _ _ => rfl⟩
theorem Kp.trans {M X : Nat} {a b c : World} (h : Kp M X a b) (k : Kp M X b c) : Kp M X a c :=
  ⟨k.os.trans h.os, k.tape.trans h.tape, k.output.trans h.output, Nat.le_trans h.size k.size, fun i h1 h2 => (k.block i h1 h2).trans (h.block i h1 h2)⟩
theorem Kp.of_below {M X : Nat} {w w' : World} (hb : Below w.heap.size w w') (hM : M ≤ w.heap.size) : Kp M X w w' := ⟨hb.os, hb.tape, hb.output, hb.size, fun k h1 _ => hb.block k (by omega)⟩
theorem Kp.of_keeps {M X : Nat} {S : List Nat} {w w' : World} (hk : Keeps S w w') (hM : M ≤ w.heap.size) (hS : ∀ b ∈ S, M ≤ b) : Kp M X w w' := ⟨hk.os, hk.tape, hk.output, hk.size, fun k h1 _ => hk.block k (by omega) (fun h => by have := hS k h; omega)⟩
theorem Kp.below {M X B : Nat} {w w' : World} (h : Kp M X w w') (h1 : B ≤ X) (h2 : B ≤ M) : Below B w w' := ⟨h.os, h.tape, h.output, h.size, fun k hk => h.block k (by omega) (by omega)⟩
theorem Kp.setX {M X : Nat} (w : World) (o : Nat) (v : Value) : Kp M X w (w.setCell ⟨X, o, none⟩ v) :=
  ⟨rfl, rfl, rfl, by simp, fun k _ hk => Below.heap_setCell _ _ _ _ hk⟩

/-- One place more. -/
theorem FleetAt.push {w w1 w2 : World} {M X : Nat} {f : Fl} {name : ByteArray} {h : Nat} {S : List Nat} {lim nx : Int} {its : List Itm} {a' : Option Addr} {cap' : Nat} {P Q : Obj} (hf : FleetAt w M X f)
    (hM : M ≤ w.heap.size) (hb1 : Below w.heap.size w w1) (hsh : _root_.Go.Proofs.YthgcfklfpllgnaaDoor.Shelf.Shelf w1 h S lim nx 0 its) (hS : ∀ y ∈ S, w.heap.size ≤ y)
    (hP : P = .cells #[.pointer (some ⟨h, 0, none⟩), .string name] 71 (0, 0))
    (hown : w2.ownsRow M 67 1 (.slice a' (f.ps.length + 1) cap') (f.ps.length + 1) (f.ps.map ptr ++ [.pointer (some ⟨w1.heap.size, 0, none⟩)]))
    (hg : ((w1.alloc P).alloc Q).grownBy w2 (rowV f).ownBlock) (hat : (rowV f).ownBlock = (Value.slice a' (f.ps.length + 1) cap').ownBlock ∨ (Value.slice a' (f.ps.length + 1) cap').ownBlock = some (w1.heap.size + 2)) :
    FleetAt (w2.setCell ⟨X, 8, none⟩ (.slice a' (f.ps.length + 1) cap')) M X { f with a := a', cap := cap', ps := f.ps ++ [⟨name, w1.heap.size, h, S, lim, nx, 0, its⟩] } ∧ Kp M X w (w2.setCell ⟨X, 8, none⟩ (.slice a' (f.ps.length + 1) cap')) := by
  have hXw := hf.box.lt
  have hz1 := hb1.size
  have hzW : ((w1.alloc P).alloc Q).heap.size = w1.heap.size + 2 := by simp
  have hWb : ∀ k, k < w1.heap.size → ((w1.alloc P).alloc Q).heap[k]? = w1.heap[k]? := fun k hk => (bel2 w1 P Q).block k hk
  have hob : ∀ g, (rowV f).ownBlock = some g → M ≤ g ∧ g < w.heap.size := fun g hg => hf.row.lt g hg
  have hkW : ∀ k, k < w1.heap.size → (rowV f).ownBlock ≠ some k → w2.heap[k]? = w1.heap[k]? := fun k hk hn => (hg.block k (by omega) (fun e => hn e.symm)).trans (hWb k hk)
  have hsz : w1.heap.size + 2 ≤ w2.heap.size := by have := hg.size; omega
  have hXn : (rowV f).ownBlock ≠ some X := fun e => by have := (hob X e).1; have := hf.xm; omega
  -- w1 to the new world, but for the row and the box
  have hk1 : Keeps (X :: (rowV f).ownBlock.toList) w1 (w2.setCell ⟨X, 8, none⟩ (.slice a' (f.ps.length + 1) cap')) := by
    refine ⟨?_, ?_, ?_, ?_, ?_⟩
    · exact hg.os
    · exact hg.tape
    · exact hg.output
    · rw [show (w2.setCell ⟨X, 8, none⟩ (.slice a' (f.ps.length + 1) cap')).heap.size = w2.heap.size by simp]; omega
    · intro k hk hn
      simp only [List.mem_cons, Option.mem_toList, not_or] at hn
      rw [Below.heap_setCell _ _ _ _ (show k ≠ (⟨X, 8, none⟩ : Addr).block from hn.1)]
      exact hkW k hk (fun e => hn.2 e)
  have hkw : Keeps (X :: (rowV f).ownBlock.toList) w (w2.setCell ⟨X, 8, none⟩ (.slice a' (f.ps.length + 1) cap')) := (Keeps.of_below hb1 (fun _ h _ => h)).trans hk1 (fun x hx => .inl hx)
  have hold : ∀ p ∈ f.ps, ∀ b ∈ bks p, b < w.heap.size := fun p hp => (hf.pl p hp).lt
  have hnew : ∀ b ∈ bks (⟨name, w1.heap.size, h, S, lim, nx, 0, its⟩ : Pc), w.heap.size ≤ b ∧ b < w1.heap.size + 1 := by
    intro b hb
    rcases List.mem_cons.1 hb with rfl | hb
    · exact ⟨hz1, Nat.lt_succ_self _⟩
    · exact ⟨hS b hb, Nat.lt_succ_of_lt (hsh.lt b hb)⟩
  have hout : w1.heap.size ∉ S := fun hm => by have := hsh.lt _ hm; omega
  have hbox : FB w2 X f := (hf.box.of_block (hb1.block X hXw)).of_block (hkW X (by omega) hXn)
  have hpb : w2.heap[w1.heap.size]? = some P := by
    rw [hg.block _ (by omega) (fun e => by have := (hob _ e.symm).2; omega), (bel1 (w1.alloc P) Q).block _ (by simp)]
    show (w1.heap.push P)[w1.heap.size]? = _
    simp
  have hnb : ∀ b, (Value.slice a' (f.ps.length + 1) cap').ownBlock = some b → (rowV f).ownBlock = some b ∨ b = w1.heap.size + 2 := by
    intro b hb
    rcases hat with e | e
    · exact .inl (e.trans hb)
    · rw [hb] at e; exact .inr (Option.some.inj e)
  refine ⟨⟨?_, ?_, ?_, ?_, ?_, ?_, hf.xm⟩, ?_⟩
  · have := hbox.set8 a' cap' (f.ps ++ [⟨name, w1.heap.size, h, S, lim, nx, 0, its⟩])
    rw [List.length_append] at this
    exact this
  · have e : (rowV { f with a := a', cap := cap', ps := f.ps ++ [⟨name, w1.heap.size, h, S, lim, nx, 0, its⟩] }) = .slice a' (f.ps.length + 1) cap' := by unfold rowV; simp
    rw [e]
    show World.ownsRow _ _ _ _ _ (f.ps ++ [_]).length ((f.ps ++ [_]).map ptr)
    rw [List.map_append, List.length_append]
    exact ownsRow_setCell_below hown (show X < M from hf.xm) _
  · intro p hp
    rcases List.mem_append.1 hp with hp | hp
    · refine (hf.pl p hp).keep hkw (fun b hb hm => ?_)
      rcases List.mem_cons.1 hm with rfl | hm
      · have := hf.lo p hp _ hb; have := hf.xm; omega
      · exact hf.far p hp b hb (by simpa using hm)
    · rw [List.mem_singleton] at hp
      subst hp
      refine ⟨?_, hsh.keep hk1 (fun b hb hm => ?_), hout⟩
      · show (w2.setCell _ _).heap[w1.heap.size]? = _
        rw [Below.heap_setCell _ _ _ _ (show w1.heap.size ≠ (⟨X, 8, none⟩ : Addr).block by show w1.heap.size ≠ X; omega), hpb, hP]
      · have h1 := hS b hb
        rcases List.mem_cons.1 hm with rfl | hm
        · omega
        · have := (hob b (by simpa using hm)).2; omega
  · intro p hp b hb
    rcases List.mem_append.1 hp with hp | hp
    · exact hf.lo p hp b hb
    · rw [List.mem_singleton] at hp
      subst hp
      have := (hnew b hb).1; omega
  · refine List.pairwise_append.2 ⟨hf.apart, by simp, ?_⟩
    intro p hp q hq b hb hb2
    rw [List.mem_singleton] at hq
    subst hq
    have h1 := hold p hp b hb
    have h2 := (hnew b hb2).1
    omega
  · intro p hp b hb e
    have e' : (Value.slice a' (f.ps.length + 1) cap').ownBlock = some b := by
      have e2 : (rowV { f with a := a', cap := cap', ps := f.ps ++ [⟨name, w1.heap.size, h, S, lim, nx, 0, its⟩] }) = .slice a' (f.ps.length + 1) cap' := by unfold rowV; simp
      rw [e2] at e; exact e
    rcases List.mem_append.1 hp with hp | hp
    · rcases hnb b e' with e3 | e3
      · exact hf.far p hp b hb e3
      · have := hold p hp b hb; omega
    · rw [List.mem_singleton] at hp
      subst hp
      have h1 := hnew b hb
      rcases hnb b e' with e3 | e3
      · have := (hob b e3).2; omega
      · omega
  · refine ⟨hkw.os, hkw.tape, hkw.output, hkw.size, fun k h1 h2 => hkw.block k (by omega) ?_⟩
    simp only [List.mem_cons, Option.mem_toList, not_or]
    exact ⟨h2, fun e => by have := (hob k e).1; omega⟩
end Fleet
end Go.Proofs.YthgcfklfpllgnaaDoor
/-
  The program's shelf: flush; what can be read of a shelf; a good store's items.
-/
namespace Go.Proofs.YthgcfklfpllgnaaDoor
namespace Flush
open Go.RowKit Base Items Keep Own Chain Store GoodKey _root_.Go.Proofs.YthgcfklfpllgnaaDoor.Shelf
set_option linter.unusedVariables false

theorem shelf_in {w : World} {hb : Nat} {S : List Nat} {lim nx lost : Int} {its : List Itm} (h : Shelf w hb S lim nx lost its) : hb ∈ S ∧ hb < w.heap.size := by
  obtain ⟨gl, gf, bm, ls, free, order, cl, vf, D, hp⟩ := h
  exact ⟨by rw [hp.blocks]; simp, hp.mem.box.lt⟩
/-- What can be read of a shelf. -/
theorem shelf_reads {w : World} {hb : Nat} {S : List Nat} {lim nx lost : Int} {its : List Itm} (h : Shelf w hb S lim nx lost its) :
    w.cell? ⟨hb, 0, none⟩ = some (.int .i64 lim) ∧ w.cell? ⟨hb, 1, none⟩ = some (.int .i64 nx) ∧ w.cell? ⟨hb, 2, none⟩ = some (.int .i64 (total its)) ∧ w.cell? ⟨hb, 3, none⟩ = some (.int .i64 lost) ∧
    (∀ o, w.frozen? ⟨hb, o, none⟩ = false) ∧ ∃ bm, w.cell? ⟨hb, 6, none⟩ = some (.map (some bm)) ∧ ∀ w', Keeps [] w w' → ∀ ty, (Builtin.len_ #[77] ty #[.map (some bm)]).run Tryd.prog w' = .ok (.int .i64 (its.length : Nat)) w' := by
  obtain ⟨gl, gf, bm, ls, free, order, cl, vf, D, hp⟩ := h
  obtain ⟨c0, c1, c2, c3, c4, c5, c6⟩ := hp.mem.box.cells
  refine ⟨c0, c1, c2, c3, hp.mem.box.frozen, bm, c6, fun w' hk ty => ?_⟩
  have h1 := (hk.map hp.own (by simp)).len Tryd.underlying77 ty
  rw [hp.map.size, ← items_len ls order, hp.items] at h1
  exact h1

theorem kL_kk (x : Itm) : kL x = kk x.key := rfl
theorem good_keys {lim nx : Int} {its : List Itm} (h : gsB lim nx its = true) : its.length ≤ 60 ∧ (∀ x ∈ its, Small x) ∧ (its.map Itm.key).Nodup := by
  unfold gsB at h
  simp only [Bool.and_eq_true, decide_eq_true_eq] at h
  obtain ⟨⟨⟨_, h3⟩, h4⟩, _⟩ := h
  have hg := (goodTo_iff nx its its.length (Nat.le_refl _)).1 h4
  rw [List.take_length] at hg
  refine ⟨by omega, good_small h4, ?_⟩
  have h5 : (its.map kL) = (its.map Itm.key).map kk := by simp [kL_kk]
  have h6 := hg.2.1
  rw [h5] at h6
  exact (List.pairwise_map.1 h6).imp (fun hne e => hne (by rw [e]))

theorem box_any {w : World} {hb : Nat} {S : List Nat} {lim nx lost : Int} {its : List Itm} (h : Shelf w hb S lim nx lost its) : ∃ bm vl vf, Box w hb ⟨lim, nx, total its, lost, .map (some bm)⟩ vl vf := by
  obtain ⟨gl, gf, bm, ls, free, order, cl, vf, D, hp⟩ := h
  exact ⟨bm, _, _, hp.mem.box⟩
theorem box_set6 {w : World} {hb : Nat} {h : Hd} {vl vf : Value} (hB : Box w hb h vl vf) (v : Value) : Box (w.setCell ⟨hb, 6, none⟩ v) hb { h with vm := v } vl vf := by unfold Box at *; simp [World.setCell, Array.getElem?_modify, hB]
theorem shelf_new' {wx : World} {h g bm : Nat} {lim nx lost : Int} (hB : Box wx h ⟨lim, nx, 0, lost, .map (some bm)⟩ (.slice (some ⟨g, 0, none⟩) 1 1) (.slice none 0 0)) (hl : LinksAt wx 107 g 1 [zl])
    (hm : wx.ownsMap Tryd.prog 9 (plainElem Tryd.prog 3) bm 0 (.map [] : DataW Unit)) (h1 : h ≠ g) (h2 : bm ≠ h) (h3 : bm ≠ g) : Shelf wx h [h, g, bm] lim nx lost [] :=
  ⟨g, none, bm, [zl], [], [], 1, .slice none 0 0, .map [], ⟨⟨hB, hl, World.ownsRow_nil _ _ _ _, rfl, h1, by simp, by simp⟩, good_new, rfl, by simp, hm, mapIs_new, h2, h3, by simp, rfl, by simp, by simp⟩⟩

end Flush
end Go.Proofs.YthgcfklfpllgnaaDoor
