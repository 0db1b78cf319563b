/-
  The cluster at work: how it lies in memory. No Go function is spoken of here.
-/
import Derived.Test.YtkodgbalhnbhcaaGreatDoorZ8
import Derived.Test.YtkodgbalhnbhcaaGreatDoorZ11
import Derived.Test.YtkodgbalhnbhcaaGreatDoorZ9
import Derived.Test.YtkodgbalhnbhcaaGreatDoorZ7
import Derived.Test.YtkodgbalhnbhcaaGreatDoorZ1
import Derived.Test.YtkodgbalhnbhcaaGreatDoorRows
import Derived.Deep.RegionWith
import Derived.BigQuiet
import Derived.Deep.QuietTactic
namespace Go.Proofs.YtkodgbalhnbhcaaGreatDoor
namespace Fleet
open Go.RowKit Base Store Items OwnR Keep
set_option linter.unusedVariables false

/-- A place at work: its box, its shelf's box, the shelf's blocks, and what is kept. -/
structure Pc where
  name : ByteArray
  pb : Nat
  hb : Nat
  S : List Nat
  lim : Int
  nx : Int
  lost : Int
  its : List Itm
def zeroP : Pc := ⟨ByteArray.empty, 0, 0, [], 0, 0, 0, []⟩
def PB (w : World) (p : Pc) : Prop := w.heap[p.pb]? = some (.cells #[.pointer (some ⟨p.hb, 0, none⟩), .string p.name] 104 (0, 0))
def bks (p : Pc) : List Nat := p.pb :: p.S
structure PcAt (w : World) (p : Pc) : Prop where
  box : PB w p
  sh : _root_.Go.Proofs.YtkodgbalhnbhcaaGreatDoor.Shelf.Shelf w p.hb p.S p.lim p.nx p.lost p.its
  out : p.pb ∉ p.S
theorem PB.lt {w : World} {p : Pc} (h : PB w p) : p.pb < w.heap.size := (Array.getElem?_eq_some_iff.1 h).1
theorem PB.cells {w : World} {p : Pc} (h : PB w p) : w.cell? ⟨p.pb, 0, none⟩ = some (.pointer (some ⟨p.hb, 0, none⟩)) ∧ w.cell? ⟨p.pb, 1, none⟩ = some (.string p.name) := by
  constructor <;> (rw [Lib.cell_of_heap h]; rfl)
theorem PcAt.lt {w : World} {p : Pc} (h : PcAt w p) : ∀ b ∈ bks p, b < w.heap.size := by
  intro b hb
  rcases List.mem_cons.1 hb with rfl | hb
  · exact h.box.lt
  · exact h.sh.lt b hb
theorem PcAt.keep {w w' : World} {T : List Nat} {p : Pc} (h : PcAt w p) (hk : Keeps T w w') (hT : ∀ b ∈ bks p, b ∉ T) : PcAt w' p :=
  ⟨(hk.block _ h.box.lt (hT _ List.mem_cons_self)).trans h.box, h.sh.keep hk (fun b hb => hT b (List.mem_cons_of_mem _ hb)), h.out⟩

structure Fl where
  now : Int
  nx : Int
  lim : Int
  lost : Int
  v4 : Value
  v5 : Value
  v6 : Value
  v7 : Value
  a : Option Addr
  cap : Nat
  ps : List Pc
def rowV (f : Fl) : Value := .slice f.a f.ps.length f.cap
def ptr (p : Pc) : Value := .pointer (some ⟨p.pb, 0, none⟩)
/-- The box of the cluster at work. -/
def FB (w : World) (X : Nat) (f : Fl) : Prop := w.heap[X]? = some (.cells #[.int .i64 f.now, .int .i64 f.nx, .int .i64 f.lim, .int .i64 f.lost, f.v4, f.v5, f.v6, f.v7, rowV f] 116 (0, 0))
theorem FB.lt {w : World} {X : Nat} {f : Fl} (h : FB w X f) : X < w.heap.size := (Array.getElem?_eq_some_iff.1 h).1
theorem FB.frozen {w : World} {X : Nat} {f : Fl} (h : FB w X f) (o : Nat) : w.frozen? ⟨X, o, none⟩ = false := Lib.frozen_of_heap h o
theorem FB.cells {w : World} {X : Nat} {f : Fl} (h : FB w X f) : w.cell? ⟨X, 0, none⟩ = some (.int .i64 f.now) ∧ w.cell? ⟨X, 1, none⟩ = some (.int .i64 f.nx) ∧ w.cell? ⟨X, 2, none⟩ = some (.int .i64 f.lim) ∧ w.cell? ⟨X, 3, none⟩ = some (.int .i64 f.lost) ∧ w.cell? ⟨X, 4, none⟩ = some f.v4 ∧ w.cell? ⟨X, 5, none⟩ = some f.v5 ∧ w.cell? ⟨X, 6, none⟩ = some f.v6 ∧ w.cell? ⟨X, 7, none⟩ = some f.v7 ∧ w.cell? ⟨X, 8, none⟩ = some (rowV f) := by
  refine ⟨?_, ?_, ?_, ?_, ?_, ?_, ?_, ?_, ?_⟩ <;> (rw [Lib.cell_of_heap h]; rfl)
theorem FB.set8 {w : World} {X : Nat} {f : Fl} (h : FB w X f) (a : Option Addr) (cap : Nat) (ps : List Pc) : FB (w.setCell ⟨X, 8, none⟩ (.slice a ps.length cap)) X { f with a := a, cap := cap, ps := ps } := by
  unfold FB rowV at *; simp [World.setCell, Array.getElem?_modify, h]
theorem FB.of_block {w w' : World} {X : Nat} {f : Fl} (h : FB w X f) (e : w'.heap[X]? = w.heap[X]?) : FB w' X f := e.trans h

structure FleetAt (w : World) (M X : Nat) (f : Fl) : Prop where
  box : FB w X f
  row : w.ownsRow M 112 1 (rowV f) f.ps.length (f.ps.map ptr)
  pl : ∀ p ∈ f.ps, PcAt w p
  lo : ∀ p ∈ f.ps, ∀ b ∈ bks p, M ≤ b
  apart : f.ps.Pairwise (fun p q => ∀ b ∈ bks p, b ∉ bks q)
  far : ∀ p ∈ f.ps, ∀ b ∈ bks p, (rowV f).ownBlock ≠ some b
  xm : X < M
theorem keeps_below {w w' : World} (hb : Below w.heap.size w w') : Keeps [] w w' := Keeps.of_below hb (fun _ h _ => h)
theorem FleetAt.keep0 {w w' : World} {M X : Nat} {f : Fl} (h : FleetAt w M X f) (hk : Keeps [] w w') : FleetAt w' M X f :=
  ⟨h.box.of_block (hk.block X h.box.lt (by simp)), own_blocks h.row (fun g hg => hk.block g (own_lt h.row hg) (by simp)), fun p hp => (h.pl p hp).keep hk (by simp), h.lo, h.apart, h.far, h.xm⟩
theorem FleetAt.below {w w' : World} {M X : Nat} {f : Fl} (h : FleetAt w M X f) (hb : Below w.heap.size w w') : FleetAt w' M X f := h.keep0 (keeps_below hb)
theorem FleetAt.mlt {w : World} {M X : Nat} {f : Fl} (h : FleetAt w M X f) : X < w.heap.size := h.box.lt

/-- What lies below M but for the box stays. -/
structure Kp (M X : Nat) (w w' : World) : Prop where
  os : w'.os = w.os
  tape : w'.tape = w.tape
  output : w'.output = w.output
  size : w.heap.size ≤ w'.heap.size
  block : ∀ k, k < M → k ≠ X → w'.heap[k]? = w.heap[k]?
theorem Kp.refl (M X : Nat) (w : World) : Kp M X w w := ⟨rfl, rfl, rfl, Nat.le_refl _, fun _ _ _ => rfl⟩
theorem Kp.trans {M X : Nat} {a b c : World} (h : Kp M X a b) (k : Kp M X b c) : Kp M X a c :=
  ⟨k.os.trans h.os, k.tape.trans h.tape, k.output.trans h.output, Nat.le_trans h.size k.size, fun i h1 h2 => (k.block i h1 h2).trans (h.block i h1 h2)⟩
theorem Kp.of_below {M X : Nat} {w w' : World} (hb : Below w.heap.size w w') (hM : M ≤ w.heap.size) : Kp M X w w' := ⟨hb.os, hb.tape, hb.output, hb.size, fun k h1 _ => hb.block k (by omega)⟩
theorem Kp.of_keeps {M X : Nat} {S : List Nat} {w w' : World} (hk : Keeps S w w') (hM : M ≤ w.heap.size) (hS : ∀ b ∈ S, M ≤ b) : Kp M X w w' := ⟨hk.os, hk.tape, hk.output, hk.size, fun k h1 _ => hk.block k (by omega) (fun h => by have := hS k h; omega)⟩
theorem Kp.below {M X B : Nat} {w w' : World} (h : Kp M X w w') (h1 : B ≤ X) (h2 : B ≤ M) : Below B w w' := ⟨h.os, h.tape, h.output, h.size, fun k hk => h.block k (by omega) (by omega)⟩
theorem Kp.setX {M X : Nat} (w : World) (o : Nat) (v : Value) : Kp M X w (w.setCell ⟨X, o, none⟩ v) :=
  ⟨rfl, rfl, rfl, by simp, fun k _ hk => Below.heap_setCell _ _ _ _ hk⟩

/-- One place more. -/
theorem FleetAt.push {w w1 w2 : World} {M X : Nat} {f : Fl} {name : ByteArray} {h : Nat} {S : List Nat} {lim nx : Int} {its : List Itm} {a' : Option Addr} {cap' : Nat} {P Q : Obj} (hf : FleetAt w M X f)
    (hM : M ≤ w.heap.size) (hb1 : Below w.heap.size w w1) (hsh : _root_.Go.Proofs.YtkodgbalhnbhcaaGreatDoor.Shelf.Shelf w1 h S lim nx 0 its) (hS : ∀ y ∈ S, w.heap.size ≤ y)
    (hP : P = .cells #[.pointer (some ⟨h, 0, none⟩), .string name] 104 (0, 0))
    (hown : w2.ownsRow M 112 1 (.slice a' (f.ps.length + 1) cap') (f.ps.length + 1) (f.ps.map ptr ++ [.pointer (some ⟨w1.heap.size, 0, none⟩)]))
    (hg : ((w1.alloc P).alloc Q).grownBy w2 (rowV f).ownBlock) (hat : (rowV f).ownBlock = (Value.slice a' (f.ps.length + 1) cap').ownBlock ∨ (Value.slice a' (f.ps.length + 1) cap').ownBlock = some (w1.heap.size + 2)) :
    FleetAt (w2.setCell ⟨X, 8, none⟩ (.slice a' (f.ps.length + 1) cap')) M X { f with a := a', cap := cap', ps := f.ps ++ [⟨name, w1.heap.size, h, S, lim, nx, 0, its⟩] } ∧ Kp M X w (w2.setCell ⟨X, 8, none⟩ (.slice a' (f.ps.length + 1) cap')) := by
  have hXw := hf.box.lt
  have hz1 := hb1.size
  have hzW : ((w1.alloc P).alloc Q).heap.size = w1.heap.size + 2 := by simp
  have hWb : ∀ k, k < w1.heap.size → ((w1.alloc P).alloc Q).heap[k]? = w1.heap[k]? := fun k hk => (bel2 w1 P Q).block k hk
  have hob : ∀ g, (rowV f).ownBlock = some g → M ≤ g ∧ g < w.heap.size := fun g hg => hf.row.lt g hg
  have hkW : ∀ k, k < w1.heap.size → (rowV f).ownBlock ≠ some k → w2.heap[k]? = w1.heap[k]? := fun k hk hn => (hg.block k (by omega) (fun e => hn e.symm)).trans (hWb k hk)
  have hsz : w1.heap.size + 2 ≤ w2.heap.size := by have := hg.size; omega
  have hXn : (rowV f).ownBlock ≠ some X := fun e => by have := (hob X e).1; have := hf.xm; omega
  -- w1 to the new world, but for the row and the box
  have hk1 : Keeps (X :: (rowV f).ownBlock.toList) w1 (w2.setCell ⟨X, 8, none⟩ (.slice a' (f.ps.length + 1) cap')) := by
    refine ⟨?_, ?_, ?_, ?_, ?_⟩
    · exact hg.os
    · exact hg.tape
    · exact hg.output
    · rw [show (w2.setCell ⟨X, 8, none⟩ (.slice a' (f.ps.length + 1) cap')).heap.size = w2.heap.size by simp]; omega
    · intro k hk hn
      simp only [List.mem_cons, Option.mem_toList, not_or] at hn
      rw [Below.heap_setCell _ _ _ _ (show k ≠ (⟨X, 8, none⟩ : Addr).block from hn.1)]
      exact hkW k hk (fun e => hn.2 e)
  have hkw : Keeps (X :: (rowV f).ownBlock.toList) w (w2.setCell ⟨X, 8, none⟩ (.slice a' (f.ps.length + 1) cap')) := (Keeps.of_below hb1 (fun _ h _ => h)).trans hk1 (fun x hx => .inl hx)
  have hold : ∀ p ∈ f.ps, ∀ b ∈ bks p, b < w.heap.size := fun p hp => (hf.pl p hp).lt
  have hnew : ∀ b ∈ bks (⟨name, w1.heap.size, h, S, lim, nx, 0, its⟩ : Pc), w.heap.size ≤ b ∧ b < w1.heap.size + 1 := by
    intro b hb
    rcases List.mem_cons.1 hb with rfl | hb
    · exact ⟨hz1, Nat.lt_succ_self _⟩
    · exact ⟨hS b hb, Nat.lt_succ_of_lt (hsh.lt b hb)⟩
  have hout : w1.heap.size ∉ S := fun hm => by have := hsh.lt _ hm; omega
  have hbox : FB w2 X f := (hf.box.of_block (hb1.block X hXw)).of_block (hkW X (by omega) hXn)
  have hpb : w2.heap[w1.heap.size]? = some P := by
    rw [hg.block _ (by omega) (fun e => by have := (hob _ e.symm).2; omega), (bel1 (w1.alloc P) Q).block _ (by simp)]
    show (w1.heap.push P)[w1.heap.size]? = _
    simp
  have hnb : ∀ b, (Value.slice a' (f.ps.length + 1) cap').ownBlock = some b → (rowV f).ownBlock = some b ∨ b = w1.heap.size + 2 := by
    intro b hb
    rcases hat with e | e
    · exact .inl (e.trans hb)
    · rw [hb] at e; exact .inr (Option.some.inj e)
  refine ⟨⟨?_, ?_, ?_, ?_, ?_, ?_, hf.xm⟩, ?_⟩
  · have := hbox.set8 a' cap' (f.ps ++ [⟨name, w1.heap.size, h, S, lim, nx, 0, its⟩])
    rw [List.length_append] at this
    exact this
  · have e : (rowV { f with a := a', cap := cap', ps := f.ps ++ [⟨name, w1.heap.size, h, S, lim, nx, 0, its⟩] }) = .slice a' (f.ps.length + 1) cap' := by unfold rowV; simp
    rw [e]
    show World.ownsRow _ _ _ _ _ (f.ps ++ [_]).length ((f.ps ++ [_]).map ptr)
    rw [List.map_append, List.length_append]
    exact ownsRow_setCell_below hown (show X < M from hf.xm) _
  · intro p hp
    rcases List.mem_append.1 hp with hp | hp
    · refine (hf.pl p hp).keep hkw (fun b hb hm => ?_)
      rcases List.mem_cons.1 hm with rfl | hm
      · have := hf.lo p hp _ hb; have := hf.xm; omega
      · exact hf.far p hp b hb (by simpa using hm)
    · rw [List.mem_singleton] at hp
      subst hp
      refine ⟨?_, hsh.keep hk1 (fun b hb hm => ?_), hout⟩
      · show (w2.setCell _ _).heap[w1.heap.size]? = _
        rw [Below.heap_setCell _ _ _ _ (show w1.heap.size ≠ (⟨X, 8, none⟩ : Addr).block by show w1.heap.size ≠ X; omega), hpb, hP]
      · have h1 := hS b hb
        rcases List.mem_cons.1 hm with rfl | hm
        · omega
        · have := (hob b (by simpa using hm)).2; omega
  · intro p hp b hb
    rcases List.mem_append.1 hp with hp | hp
    · exact hf.lo p hp b hb
    · rw [List.mem_singleton] at hp
      subst hp
      have := (hnew b hb).1; omega
  · refine List.pairwise_append.2 ⟨hf.apart, by simp, ?_⟩
    intro p hp q hq b hb hb2
    rw [List.mem_singleton] at hq
    subst hq
    have h1 := hold p hp b hb
    have h2 := (hnew b hb2).1
    omega
  · intro p hp b hb e
    have e' : (Value.slice a' (f.ps.length + 1) cap').ownBlock = some b := by
      have e2 : (rowV { f with a := a', cap := cap', ps := f.ps ++ [⟨name, w1.heap.size, h, S, lim, nx, 0, its⟩] }) = .slice a' (f.ps.length + 1) cap' := by unfold rowV; simp
      rw [e2] at e; exact e
    rcases List.mem_append.1 hp with hp | hp
    · rcases hnb b e' with e3 | e3
      · exact hf.far p hp b hb e3
      · have := hold p hp b hb; omega
    · rw [List.mem_singleton] at hp
      subst hp
      have h1 := hnew b hb
      rcases hnb b e' with e3 | e3
      · have := (hob b e3).2; omega
      · omega
  · refine ⟨hkw.os, hkw.tape, hkw.output, hkw.size, fun k h1 h2 => hkw.block k (by omega) ?_⟩
    simp only [List.mem_cons, Option.mem_toList, not_or]
    exact ⟨h2, fun e => by have := (hob k e).1; omega⟩
end Fleet
end Go.Proofs.YtkodgbalhnbhcaaGreatDoor
/-
  The program's shelf: flush; what can be read of a shelf; a good store's items.
-/
namespace Go.Proofs.YtkodgbalhnbhcaaGreatDoor
namespace Flush
open Go.RowKit Base Items Keep Own Chain Store GoodKey _root_.Go.Proofs.YtkodgbalhnbhcaaGreatDoor.Shelf
set_option linter.unusedVariables false

theorem shelf_in {w : World} {hb : Nat} {S : List Nat} {lim nx lost : Int} {its : List Itm} (h : Shelf w hb S lim nx lost its) : hb ∈ S ∧ hb < w.heap.size := by
  obtain ⟨gl, gf, bm, ls, free, order, cl, vf, D, hp⟩ := h
  exact ⟨by rw [hp.blocks]; simp, hp.mem.box.lt⟩
/-- What can be read of a shelf. -/
theorem shelf_reads {w : World} {hb : Nat} {S : List Nat} {lim nx lost : Int} {its : List Itm} (h : Shelf w hb S lim nx lost its) :
    w.cell? ⟨hb, 0, none⟩ = some (.int .i64 lim) ∧ w.cell? ⟨hb, 1, none⟩ = some (.int .i64 nx) ∧ w.cell? ⟨hb, 2, none⟩ = some (.int .i64 (total its)) ∧ w.cell? ⟨hb, 3, none⟩ = some (.int .i64 lost) ∧
    (∀ o, w.frozen? ⟨hb, o, none⟩ = false) ∧ ∃ bm, w.cell? ⟨hb, 6, none⟩ = some (.map (some bm)) ∧ ∀ w', Keeps [] w w' → ∀ ty, (Builtin.len_ #[109] ty #[.map (some bm)]).run Tryz.prog w' = .ok (.int .i64 (its.length : Nat)) w' := by
  obtain ⟨gl, gf, bm, ls, free, order, cl, vf, D, hp⟩ := h
  obtain ⟨c0, c1, c2, c3, c4, c5, c6⟩ := hp.mem.box.cells
  refine ⟨c0, c1, c2, c3, hp.mem.box.frozen, bm, c6, fun w' hk ty => ?_⟩
  have h1 := (hk.map hp.own (by simp)).len Tryz.underlying109 ty
  rw [hp.map.size, ← items_len ls order, hp.items] at h1
  exact h1

theorem kL_kk (x : Itm) : kL x = kk x.key := rfl
theorem good_keys {lim nx : Int} {its : List Itm} (h : gsB lim nx its = true) : its.length ≤ 60 ∧ (∀ x ∈ its, Small x) ∧ (its.map Itm.key).Nodup := by
  unfold gsB at h
  simp only [Bool.and_eq_true, decide_eq_true_eq] at h
  obtain ⟨⟨⟨_, h3⟩, h4⟩, _⟩ := h
  have hg := (goodTo_iff nx its its.length (Nat.le_refl _)).1 h4
  rw [List.take_length] at hg
  refine ⟨by omega, good_small h4, ?_⟩
  have h5 : (its.map kL) = (its.map Itm.key).map kk := by simp [kL_kk]
  have h6 := hg.2.1
  rw [h5] at h6
  exact (List.pairwise_map.1 h6).imp (fun hne e => hne (by rw [e]))

theorem box_any {w : World} {hb : Nat} {S : List Nat} {lim nx lost : Int} {its : List Itm} (h : Shelf w hb S lim nx lost its) : ∃ bm vl vf, Box w hb ⟨lim, nx, total its, lost, .map (some bm)⟩ vl vf := by
  obtain ⟨gl, gf, bm, ls, free, order, cl, vf, D, hp⟩ := h
  exact ⟨bm, _, _, hp.mem.box⟩
theorem box_set6 {w : World} {hb : Nat} {h : Hd} {vl vf : Value} (hB : Box w hb h vl vf) (v : Value) : Box (w.setCell ⟨hb, 6, none⟩ v) hb { h with vm := v } vl vf := by unfold Box at *; simp [World.setCell, Array.getElem?_modify, hB]
theorem shelf_new' {wx : World} {h g bm : Nat} {lim nx lost : Int} (hB : Box wx h ⟨lim, nx, 0, lost, .map (some bm)⟩ (.slice (some ⟨g, 0, none⟩) 1 1) (.slice none 0 0)) (hl : LinksAt wx 196 g 1 [zl])
    (hm : wx.ownsMap Tryz.prog 9 (plainElem Tryz.prog 3) bm 0 (.map [] : DataW Unit)) (h1 : h ≠ g) (h2 : bm ≠ h) (h3 : bm ≠ g) : Shelf wx h [h, g, bm] lim nx lost [] :=
  ⟨g, none, bm, [zl], [], [], 1, .slice none 0 0, .map [], ⟨⟨hB, hl, World.ownsRow_nil _ _ _ _, rfl, h1, by simp, by simp⟩, good_new, rfl, by simp, hm, mapIs_new, h2, h3, by simp, rfl, by simp, by simp⟩⟩

set_option maxRecDepth 10000 in
set_option maxHeartbeats 1000000 in
theorem flush_shelf (w : World) (hb : Nat) (S : List Nat) (lim nx lost : Int) (its : List Itm) (hs : Shelf w hb S lim nx lost its) :
    Calls Tryz.prog 80 #[.pointer (some ⟨hb, 0, none⟩)] w fun e w' => e = .returned (.tuple #[]) ∧ Step w w' hb S lim nx lost [] := by
  obtain ⟨hin, hwl⟩ := shelf_in hs
  obtain ⟨bm, vl, vf, hbx⟩ := box_any hs
  have HS := hide hs
  have HBX := hide hbx
  clear hs hbx
  have hmm := @run_makeMap Tryz.prog
  go_enter Tryz.func80, Tryz.ntmps80
  go_wp2_with fail
  refine (newChain_any _).mono ?_
  rintro e w1 ⟨g, rfl, hg, hli, hb1⟩
  have hbx1 := (unhide HBX).of_block (hb1.block hb hwl)
  obtain ⟨c0, c1, c2, c3, c4, c5, c6⟩ := hbx1.cells
  have hf := hbx1.frozen
  have hlt1 := hbx1.lt
  have HB1 := hide hb1
  have HLI := hide hli
  have HX1 := hide hbx1
  clear hb1 hli hbx1
  go_wp2
  refine bodyPost_end (v := .tuple #[]) (by simp [results, Tryz.results80, go_sem]) rfl ⟨rfl, ?_⟩
  have hz1 := (unhide HB1).size
  have hgl := Row.lt (unhide HLI)
  have hghb : g ≠ hb := by omega
  have hsz : ((((w1.setCell ⟨hb, 4, none⟩ (.slice (some ⟨g, 0, none⟩) 1 1)).setCell ⟨hb, 5, none⟩ (.slice none 0 0)).setCell ⟨hb, 6, none⟩ (.map (some w1.heap.size))).setCell ⟨hb, 2, none⟩ (.int .i64 0)).heap.size = w1.heap.size := by simp [World.setCell]
  have hbx := box_set2 (box_set6 (((unhide HX1).set4 (.slice (some ⟨g, 0, none⟩) 1 1)).set5 (.slice none 0 0)) (.map (some w1.heap.size))) 0
  have hli := Row.setOther (p := ⟨hb, 2, none⟩) (Row.setOther (p := ⟨hb, 6, none⟩) (Row.setOther (p := ⟨hb, 5, none⟩) (Row.setOther (p := ⟨hb, 4, none⟩) (unhide HLI) hghb (.slice (some ⟨g, 0, none⟩) 1 1)) hghb (.slice none 0 0)) hghb (.map (some w1.heap.size))) hghb (.int .i64 0)
  have hk : Keeps S w ((((w1.setCell ⟨hb, 4, none⟩ (.slice (some ⟨g, 0, none⟩) 1 1)).setCell ⟨hb, 5, none⟩ (.slice none 0 0)).setCell ⟨hb, 6, none⟩ (.map (some w1.heap.size))).setCell ⟨hb, 2, none⟩ (.int .i64 0)) :=
    ((((Keeps.of_below (S := S) (unhide HB1) (fun _ h1 _ => h1)).setCell (p := ⟨hb, 4, none⟩) (.inl hin) _).setCell (p := ⟨hb, 5, none⟩) (.inl hin) _).setCell (p := ⟨hb, 6, none⟩) (.inl hin) _).setCell (p := ⟨hb, 2, none⟩) (.inl hin) _
  generalize ((((w1.setCell ⟨hb, 4, none⟩ (.slice (some ⟨g, 0, none⟩) 1 1)).setCell ⟨hb, 5, none⟩ (.slice none 0 0)).setCell ⟨hb, 6, none⟩ (.map (some w1.heap.size))).setCell ⟨hb, 2, none⟩ (.int .i64 0)) = W at hsz hbx hli hk ⊢
  have hm := World.ownsMap_made W Tryz.prog 9 (plainElem (H := Unit) Tryz.prog 3)
  rw [hsz] at hm
  refine ⟨[hb, g, w1.heap.size], shelf_new' (hbx.of_block (Below.heap_alloc _ _ _ hbx.lt)) (Row.alloc hli _) hm (Ne.symm hghb) (by omega) (by omega), fun b hb' => ?_, hk.alloc _⟩
  simp at hb'
  rcases hb' with e | e | e
  · exact .inl (e ▸ hin)
  · exact .inr (by omega)
  · exact .inr (by omega)

end Flush
end Go.Proofs.YtkodgbalhnbhcaaGreatDoor
/-
  The law's eqItem and eqItemS.
-/
namespace Go.Proofs.YtkodgbalhnbhcaaGreatDoor
namespace Items
open Go.RowKit Base
set_option linter.unusedVariables false
set_option maxHeartbeats 400000 in
theorem eqItem_same (x : Itm) (w : World) :
    Calls Tryz.prog 166 #[.agg #[.string x.key, .int .i64 x.flags, .string x.data, .int .i64 x.upto, .int .i64 x.token], .agg #[.string x.key, .int .i64 x.flags, .string x.data, .int .i64 x.upto, .int .i64 x.token]] w fun e w' =>
      e = .returned (.bool true) ∧ Below w.heap.size w w' := by
  obtain ⟨ky, fl, dt, up, tk⟩ := x
  go_enter Tryz.func166, Tryz.ntmps166
  go_wp2
  go_ret
  exact ⟨rfl, bel2 w _ _⟩

set_option maxHeartbeats 1000000 in
theorem eqItemS_some (b off cap b' off' cap' : Nat) (its : List Itm) (w : World) (hb : b < w.heap.size) (hc : ∀ i, i < its.length → At w b (off + i * 5) (its.getD i zero))
    (hb' : b' < w.heap.size) (hc' : ∀ i, i < its.length → At w b' (off' + i * 5) (its.getD i zero)) (hl : its.length ≤ maxLen) :
    Calls Tryz.prog 148 #[.slice (some ⟨b, off, none⟩) its.length cap, .slice (some ⟨b', off', none⟩) its.length cap'] w fun e w' => e = .returned (.bool true) ∧ Below w.heap.size w w' := by
  unfold maxLen at hl
  have hcs := hide hc
  have hcs' := hide hc'
  clear hc hc'
  go_enter Tryz.func148, Tryz.ntmps148
  go_wp2
  go_loopw [5] (fun i wr => ∃ k : Nat, k ≤ its.length ∧ i = .int .i64 k ∧ Hid (Below w.heap.size w wr)) (fun i _ => its.length - (intOf i).toNat)
  case atStart => exact ⟨0, Nat.zero_le _, rfl, hide (Below.refl _ _)⟩
  case round =>
    obtain ⟨k, hk, rfl, hbel⟩ := hrel
    by_cases hlt : k < its.length
    · obtain ⟨c0, c1, c2, c3, c4⟩ := (unhide hcs k hlt).below (unhide hbel) hb
      obtain ⟨d0, d1, d2, d3, d4⟩ := (unhide hcs' k hlt).below (unhide hbel) hb'
      generalize its.getD k zero = x at c0 c1 c2 c3 c4 d0 d1 d2 d3 d4
      go_wp2
      go_region_with (go_at_call 166; refine (eqItem_same x _).mono ?_; rintro e w1 ⟨rfl, hb1⟩; have hb1 := hide hb1)
      all_goals
        go_wp2
        go_roundw
        case rel => exact ⟨k + 1, by omega, by go_num, hide ((unhide hbel).drew.trans ((unhide hb1).mono (unhide hbel).size))⟩
        case measure => simp [intOf]; omega
    · go_wp2
      go_ret
      exact ⟨rfl, unhide hbel⟩

set_option maxHeartbeats 400000 in
theorem eqItemS_same (a a' : Option Addr) (cap cap' : Nat) (its : List Itm) (w : World) (hc : ItemsAt w a its) (hc' : ItemsAt w a' its) (hl : its.length ≤ maxLen) :
    Calls Tryz.prog 148 #[.slice a its.length cap, .slice a' its.length cap'] w fun e w' => e = .returned (.bool true) ∧ Below w.heap.size w w' := by
  by_cases hne : its = []
  · subst hne
    go_enter Tryz.func148, Tryz.ntmps148
    go_wp2
    go_loop [5] (fun i => i = .int .i64 0) (fun _ => 0)
    case atStart => exact rfl
    case round =>
      obtain rfl := hrel
      go_wp2
      go_ret
      exact ⟨rfl, Below.refl _ _⟩
  · obtain ⟨b, off, rfl, hb, hcc⟩ := hc hne
    obtain ⟨b', off', rfl, hb', hcc'⟩ := hc' hne
    exact eqItemS_some b off cap b' off' cap' its w hb hcc hb' hcc' hl
end Items
end Go.Proofs.YtkodgbalhnbhcaaGreatDoor
/-
  Contracts of the law files' helpers over items: szItem, szItemS, toItem, toItemS, eqItem, eqItemS.
-/
namespace Go.Proofs.YtkodgbalhnbhcaaGreatDoor
namespace Items
open Go.RowKit Base
set_option linter.unusedVariables false
set_option maxHeartbeats 400000 in
theorem szItem_any (x : Itm) (left : Int) (w : World) (hf : Fits x) (h0 : 0 ≤ left) (h1 : left ≤ 1048576) :
    Calls Tryz.prog 163 #[.agg #[.string x.key, .int .i64 x.flags, .string x.data, .int .i64 x.upto, .int .i64 x.token], .int .i64 left] w fun e w' =>
      e = .returned (.int .i64 (szI x left)) ∧ Below w.heap.size w w' := by
  obtain ⟨hk, hd⟩ := hf
  unfold maxLen at hk hd
  obtain ⟨ky, fl, dt, up, tk⟩ := x
  dsimp only at hk hd ⊢
  by_cases g1 : left - ky.size < 0
  · have H : Hid (szI ⟨ky, fl, dt, up, tk⟩ left = -1) := by show szI ⟨ky, fl, dt, up, tk⟩ left = -1; unfold szI; rw [if_pos g1]
    go_enter Tryz.func163, Tryz.ntmps163
    go_wp2
    go_ret
    exact ⟨ret_int (unhide H).symm, bel1 w _⟩
  by_cases g2 : left - ky.size - dt.size < 0
  · have H : Hid (szI ⟨ky, fl, dt, up, tk⟩ left = -1) := by show szI ⟨ky, fl, dt, up, tk⟩ left = -1; unfold szI; rw [if_neg g1, if_pos g2]
    go_enter Tryz.func163, Tryz.ntmps163
    go_wp2
    go_ret
    exact ⟨ret_int (unhide H).symm, bel1 w _⟩
  have H : Hid (szI ⟨ky, fl, dt, up, tk⟩ left = left - ky.size - dt.size) := by show szI ⟨ky, fl, dt, up, tk⟩ left = _; unfold szI; rw [if_neg g1, if_neg g2]
  go_enter Tryz.func163, Tryz.ntmps163
  go_wp2
  go_ret
  exact ⟨ret_int (unhide H).symm, bel1 w _⟩

set_option maxHeartbeats 400000 in
theorem szItemS_some (b off cap : Nat) (its : List Itm) (left : Int) (w : World) (hb : b < w.heap.size) (hc : ∀ i, i < its.length → At w b (off + i * 5) (its.getD i zero))
    (hl : its.length ≤ maxLen) (hs : ∀ x ∈ its, Fits x) (h0 : 0 ≤ left) (h1 : left ≤ 1048576) :
    Calls Tryz.prog 142 #[.slice (some ⟨b, off, none⟩) its.length cap, .int .i64 left] w fun e w' => e = .returned (.int .i64 (szIs its left)) ∧ Below w.heap.size w w' := by
  unfold maxLen at hl
  by_cases g : left - its.length < 0
  · have H : Hid (szIs its left = -1) := by show szIs its left = -1; unfold szIs; rw [if_pos g]
    clear hc hs
    go_enter Tryz.func142, Tryz.ntmps142
    go_wp2
    go_ret
    exact ⟨ret_int (unhide H).symm, Below.refl _ _⟩
  have HE : Hid (szIs its left = szGo its (left - its.length)) := by show szIs its left = _; unfold szIs; rw [if_neg g]
  have hcs := hide hc
  have hss := hide hs
  clear hc hs
  go_enter Tryz.func142, Tryz.ntmps142
  go_wp2
  go_loopw [1, 5] (fun l i wr => ∃ (k : Nat) (z : Int), k ≤ its.length ∧ 0 ≤ z ∧ z ≤ 1048576 ∧ i = .int .i64 k ∧ l = .int .i64 z ∧ Hid (szGo its (left - its.length) = szGo (its.drop k) z) ∧ Hid (Below w.heap.size w wr)) (fun _ i _ => its.length - (intOf i).toNat)
  case atStart => exact ⟨0, left - its.length, Nat.zero_le _, by omega, by omega, rfl, rfl, hide (by simp), hide (Below.refl _ _)⟩
  case round =>
    obtain ⟨k, z, hk, hz0, hz1, rfl, rfl, hr, hbel⟩ := hrel
    by_cases hlt : k < its.length
    · obtain ⟨c0, c1, c2, c3, c4⟩ := (unhide hcs k hlt).below (unhide hbel) hb
      have hfit := hide (fits_getD (unhide hss) k hlt)
      have hd := szGo_drop its k hlt z
      generalize its.getD k zero = x at c0 c1 c2 c3 c4 hfit hd
      have hbd := szI_bd x z hz0
      have hcal := fun w => szItem_any x z w (unhide hfit) hz0 hz1
      generalize szI x z = y at hd hbd hcal
      have HC := hide hcal
      clear hcal
      by_cases g2 : y < 0
      · have H : Hid (szIs its left = -1) := by show szIs its left = -1; rw [unhide HE, unhide hr, hd, if_pos g2]
        clear hd
        go_wp2_with fail
        refine (unhide HC _).mono ?_
        rintro e w1 ⟨rfl, hb1⟩
        have hb1 := hide ((unhide hbel).trans (hb1.mono (unhide hbel).size))
        go_wp2
        go_ret
        exact ⟨ret_int (unhide H).symm, unhide hb1⟩
      · have H : Hid (szGo its (left - its.length) = szGo (its.drop (k + 1)) y) := by show szGo its (left - its.length) = _; rw [unhide hr, hd, if_neg g2]
        clear hd
        go_wp2_with fail
        refine (unhide HC _).mono ?_
        rintro e w1 ⟨rfl, hb1⟩
        have hb1 := hide ((unhide hbel).trans (hb1.mono (unhide hbel).size))
        go_wp2
        go_roundw
        case rel => exact ⟨k + 1, y, by omega, by omega, by omega, by go_num, rfl, H, hb1⟩
        case measure => simp [intOf]; omega
    · have H : Hid (szIs its left = z) := by show szIs its left = z; rw [unhide HE, unhide hr, List.drop_of_length_le (by omega)]; rfl
      go_wp2
      go_ret
      exact ⟨ret_int (unhide H).symm, unhide hbel⟩

set_option maxHeartbeats 400000 in
theorem szItemS_any (a : Option Addr) (cap : Nat) (its : List Itm) (left : Int) (w : World) (hc : ItemsAt w a its)
    (hl : its.length ≤ maxLen) (hs : ∀ x ∈ its, Fits x) (h0 : 0 ≤ left) (h1 : left ≤ 1048576) :
    Calls Tryz.prog 142 #[.slice a its.length cap, .int .i64 left] w fun e w' => e = .returned (.int .i64 (szIs its left)) ∧ Below w.heap.size w w' := by
  by_cases hne : its = []
  · subst hne
    have H : Hid (szIs [] left = left) := by show szIs [] left = left; unfold szIs; rw [if_neg (by simp; omega)]; simp [szGo]
    go_enter Tryz.func142, Tryz.ntmps142
    go_wp2
    go_loop [1, 5] (fun l i => i = .int .i64 0 ∧ l = .int .i64 left) (fun _ _ => 0)
    case atStart => exact ⟨rfl, rfl⟩
    case round =>
      obtain ⟨rfl, rfl⟩ := hrel
      go_wp2
      go_ret
      exact ⟨ret_int (unhide H).symm, Below.refl _ _⟩
  · obtain ⟨b, off, rfl, hb, hcc⟩ := hc hne
    exact szItemS_some b off cap its left w hb hcc hl hs h0 h1

set_option maxHeartbeats 400000 in
theorem toItem_any (x : Itm) (w : World) :
    Calls Tryz.prog 164 #[.agg #[.string x.key, .int .i64 x.flags, .string x.data, .int .i64 x.upto, .int .i64 x.token]] w fun e w' =>
      e = .returned (.agg #[.string x.key, .int .i64 x.flags, .string x.data, .int .i64 x.upto, .int .i64 x.token]) ∧ Below w.heap.size w w' := by
  obtain ⟨ky, fl, dt, up, tk⟩ := x
  go_enter Tryz.func164, Tryz.ntmps164
  go_wp2
  refine bodyPost_ret (v := .agg #[.string ky, .int .i64 fl, .string dt, .int .i64 up, .int .i64 tk]) (by simp [results, Tryz.results164, go_sem]) rfl ⟨rfl, bel3 w _ _ _⟩

theorem info_item : (Tryz.prog.info? 85).map (fun i => (i.zero, i.size, i.bytes)) = some (some (.agg #[.string ByteArray.empty, .int .i64 0, .string ByteArray.empty, .int .i64 0, .int .i64 0]), 5, 56) := by kernel_rfl

set_option maxHeartbeats 400000 in
theorem toItemS_some (b off cap : Nat) (its : List Itm) (w : World) (hb : b < w.heap.size) (hc : ∀ i, i < its.length → At w b (off + i * 5) (its.getD i zero)) (hl : its.length ≤ 1048576) :
    Calls Tryz.prog 143 #[.slice (some ⟨b, off, none⟩) its.length cap] w fun e w' =>
      e = .returned (.slice (some ⟨w.heap.size, 0, none⟩) its.length its.length) ∧ w'.rowIs w.heap.size 85 (its.length * 5) (icell its) ∧ Below w.heap.size w w' := by
  have hmk := fun w => run_make_rows (P := Tryz.prog) 55 85 _ 5 56 Tryz.underlying55 info_item .i64 .i64 its.length (by omega) (by omega) w
  have hcs := hide hc
  clear hc
  go_enter Tryz.func143, Tryz.ntmps143
  go_wp2
  go_loopw [4] (fun i wr => ∃ k : Nat, k ≤ its.length ∧ i = .int .i64 k ∧ Hid (wr.rowIs w.heap.size 85 (its.length * 5) (half its k)) ∧ Hid (Below w.heap.size w wr)) (fun i _ => its.length - (intOf i).toNat)
  case atStart => exact ⟨0, Nat.zero_le _, rfl, hide ((rowIs_mades w _ _ _ _ made_zero).congr (fun i _ => by simp [half])), hide ((Below.refl _ _).alloc (Nat.le_refl _) _)⟩
  case round =>
    obtain ⟨k, hk, rfl, hrow, hbel⟩ := hrel
    by_cases hlt : k < its.length
    · obtain ⟨c0, c1, c2, c3, c4⟩ := (unhide hcs k hlt).below (unhide hbel) hb
      have hst := hide (half_step its k)
      generalize its.getD k zero = x at c0 c1 c2 c3 c4 hst
      go_wp2_with fail
      refine (toItem_any x _).mono ?_
      rintro e w1 ⟨rfl, hb1⟩
      have hrow1 := (unhide hrow).of_block (hb1.block _ (unhide hrow).lt)
      have d0 := hrow1.cell (i := k * 5) (by omega)
      have d1 := hrow1.cell (i := k * 5 + 1) (by omega)
      have d2 := hrow1.cell (i := k * 5 + 2) (by omega)
      have d3 := hrow1.cell (i := k * 5 + 3) (by omega)
      have d4 := hrow1.cell (i := k * 5 + 4) (by omega)
      have f0 := hrow1.frozen (k * 5)
      have f1 := hrow1.frozen (k * 5 + 1)
      have f2 := hrow1.frozen (k * 5 + 2)
      have f3 := hrow1.frozen (k * 5 + 3)
      have f4 := hrow1.frozen (k * 5 + 4)
      have hrow2 := hide (((((hrow1.set (k * 5) (.string x.key)).set (k * 5 + 1) (.int .i64 x.flags)).set (k * 5 + 2) (.string x.data)).set (k * 5 + 3) (.int .i64 x.upto)).set (k * 5 + 4) (.int .i64 x.token))
      have hbel1 := hide ((unhide hbel).trans (hb1.mono (unhide hbel).size))
      generalize half its k (k * 5) = o0 at d0
      generalize half its k (k * 5 + 1) = o1 at d1
      generalize half its k (k * 5 + 2) = o2 at d2
      generalize half its k (k * 5 + 3) = o3 at d3
      generalize half its k (k * 5 + 4) = o4 at d4
      clear hrow1 hb1
      go_wp2
      go_roundw
      case rel => exact ⟨k + 1, by omega, by go_num, hide ((unhide hrow2).congr (fun i _ => unhide hst i)), hide (((((unhide hbel1).setCell (Nat.le_refl _) _).setCell (Nat.le_refl _) _).setCell (Nat.le_refl _) _).setCell (Nat.le_refl _) _ |>.setCell (Nat.le_refl _) _)⟩
      case measure => simp [intOf]; omega
    · go_wp2
      go_ret
      exact ⟨rfl, (unhide hrow).congr (fun i hi => by unfold half; rw [if_pos (by omega)]), unhide hbel⟩

set_option maxHeartbeats 400000 in
theorem toItemS_any (a : Option Addr) (cap : Nat) (its : List Itm) (w : World) (hc : ItemsAt w a its) (hl : its.length ≤ 1048576) :
    Calls Tryz.prog 143 #[.slice a its.length cap] w fun e w' =>
      e = .returned (.slice (some ⟨w.heap.size, 0, none⟩) its.length its.length) ∧ w'.rowIs w.heap.size 85 (its.length * 5) (icell its) ∧ Below w.heap.size w w' := by
  by_cases hne : its = []
  · subst hne
    have hmk : ∀ w, (Instr.makeSlice 55 (.int .i64 0) (.int .i64 0)).run Tryz.prog w = .ok (.slice (some ⟨w.heap.size, 0, none⟩) 0 0) (w.alloc (.cells (madeCells #[.string ByteArray.empty, .int .i64 0, .string ByteArray.empty, .int .i64 0, .int .i64 0] 0) 85)) :=
      fun w => run_make_rows (P := Tryz.prog) 55 85 _ 5 56 Tryz.underlying55 info_item .i64 .i64 0 (by omega) (by omega) w
    go_enter Tryz.func143, Tryz.ntmps143
    go_wp2
    go_loop [4] (fun i => i = .int .i64 0) (fun _ => 0)
    case atStart => exact rfl
    case round =>
      obtain rfl := hrel
      go_wp2
      go_ret
      exact ⟨rfl, (rowIs_mades w _ _ _ _ made_zero), (Below.refl _ _).alloc (Nat.le_refl _) _⟩
  · obtain ⟨b, off, rfl, hb, hcc⟩ := hc hne
    exact toItemS_some b off cap its w hb hcc hl

end Items
end Go.Proofs.YtkodgbalhnbhcaaGreatDoor
