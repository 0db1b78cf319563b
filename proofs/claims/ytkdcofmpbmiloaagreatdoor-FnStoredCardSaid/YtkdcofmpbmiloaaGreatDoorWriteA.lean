/-
  The model's l2Write: its boxes, its outcome; l2Put whole.
-/
import Derived.Test.YtkdcofmpbmiloaaGreatDoorPutC
import Derived.Test.YtkdcofmpbmiloaaGreatDoorY8
import Derived.Test.YtkdcofmpbmiloaaGreatDoorY7
import Derived.Deep.DeepCutAuto
import Derived.Outline
namespace Go.Proofs.YtkdcofmpbmiloaaGreatDoor
namespace Rw
open Go.RowKit Base GoodKey Items Store Own
set_option linter.unusedVariables false

/-- What a call leaves of a store: the items in a row, above B. -/
def WEnd (O : Shelf.Out) (lim : Int) (B : Nat) (a0 : Option Addr) (w : World) (e : Ending) (w' : World) : Prop :=
  ∃ a cap, e = .returned (.tuple #[.agg #[.int .i64 lim, .int .i64 O.nx, .slice a O.its.length cap], .string O.ans, .int .i64 (O.lost : Int)]) ∧ Row w' B (.slice a O.its.length cap) O.its ∧ (a = a0 ∨ ∀ b, a = some ⟨b, 0, none⟩ → w.heap.size ≤ b) ∧ Below w.heap.size w w'

theorem putR_none {lim nx : Int} {its : List Itm} {x : Itm} (h : lim < charge x ∨ nx = 1000000000) : putR lim nx its x = none := by
  unfold putR; rw [if_pos h]
theorem putR_some {lim nx : Int} {its : List Itm} {x : Itm} (h : ¬ (lim < charge x ∨ nx = 1000000000)) : putR lim nx its x = some ((without its x.key ++ [{ x with token := nx }]).drop (trimN lim (without its x.key ++ [{ x with token := nx }])), trimN lim (without its x.key ++ [{ x with token := nx }])) := by
  unfold putR; rw [if_neg h]
theorem l2Put_any (lim nx : Int) (a : Option Addr) (n cap B : Nat) (its : List Itm) (x : Itm) (w : World) (hr : Row w B (.slice a n cap) its) (hn : n = its.length) (hB : B ≤ w.heap.size) (hx : Small x) (hits : ∀ y ∈ its, Small y) (hl : its.length ≤ 60) (hlim : 0 ≤ lim ∧ lim ≤ 10000) (hnx : 1 ≤ nx ∧ nx ≤ 1000000000) :
    Calls Tryz.prog 88 #[.agg #[.int .i64 lim, .int .i64 nx, .slice a n cap], .agg #[.string x.key, .int .i64 x.flags, .string x.data, .int .i64 x.upto, .int .i64 x.token]] w (WEnd (Shelf.putO lim nx its x Shelf.storedT) lim B a w) := by
  by_cases h : lim < charge x ∨ nx = 1000000000
  · refine (l2Put_full lim nx a n cap x w hx h).mono ?_
    rintro e w' ⟨rfl, hb⟩
    unfold Shelf.putO
    rw [putR_none h]
    subst hn
    exact ⟨a, cap, rfl, hr.below hb (Nat.le_refl _), .inl rfl, hb⟩
  · refine (l2Put_keep lim nx a n cap B its x w hr hn hx hits hl (fun h' => h (.inl h')) (fun h' => h (.inr h')) hlim hnx).mono ?_
    rintro e w' ⟨g, c, rfl, hr', hb⟩
    unfold Shelf.putO
    rw [putR_some h]
    exact ⟨some ⟨g, 0, none⟩, c, rfl, hr'.le hB, .inr (fun b e => by simp at e; have := hr'.lt.2.1; omega), hb⟩

theorem Row.offs {w : World} {B : Nat} {a : Option Addr} {n cap : Nat} {its : List Itm} (h : Row w B (.slice a n cap) its) {p : Addr} (hp : ∀ b, a = some ⟨b, 0, none⟩ → b ≠ p.block) (u : Value) : Row (w.setCell p u) B (.slice a n cap) its := by
  refine ⟨h.1, h.2.elim Or.inl ?_⟩
  rintro ⟨g, cap', cur, hv, hg, hh, r⟩
  simp only [Value.slice.injEq] at hv
  refine Or.inr ⟨g, cap', cur, by rw [hv.1, hv.2.1, hv.2.2], hg, ?_, r⟩
  rw [Below.heap_setCell _ _ _ _ (hp g hv.1)]
  exact hh
theorem okx_small {x : Itm} (h : Shelf.Okx x) : Small x := by unfold Shelf.Okx at h; unfold Small; omega
/-- The three boxes that every way of l2Write has: the store, the command, the store to hand back. -/
def Bw (w : World) (H : Nat) (lim nx : Int) (v : Value) (nm : ByteArray) (kv : Value) (f x n : Int) (dt : ByteArray) (q : Bool) : Prop :=
  (w.cell? ⟨H, 0, none⟩ = some (.int .i64 lim) ∧ w.cell? ⟨H, 1, none⟩ = some (.int .i64 nx) ∧ w.cell? ⟨H, 2, none⟩ = some v) ∧
  (w.cell? ⟨H + 1, 0, none⟩ = some (.string nm) ∧ w.cell? ⟨H + 1, 1, none⟩ = some kv ∧ w.cell? ⟨H + 1, 2, none⟩ = some (.int .i64 f) ∧ w.cell? ⟨H + 1, 3, none⟩ = some (.int .i64 x) ∧ w.cell? ⟨H + 1, 4, none⟩ = some (.int .i64 n) ∧ w.cell? ⟨H + 1, 5, none⟩ = some (.string dt) ∧ w.cell? ⟨H + 1, 6, none⟩ = some (.bool q)) ∧
  (w.cell? ⟨H + 1 + 1, 0, none⟩ = some (.int .i64 0) ∧ w.cell? ⟨H + 1 + 1, 1, none⟩ = some (.int .i64 0) ∧ w.cell? ⟨H + 1 + 1, 2, none⟩ = some (.slice none 0 0)) ∧
  (∀ o, w.frozen? ⟨H, o, none⟩ = false) ∧ (∀ o, w.frozen? ⟨H + 1 + 1, o, none⟩ = false) ∧ H + 3 ≤ w.heap.size
section
variable {w w' : World} {H : Nat} {lim nx : Int} {v : Value} {nm : ByteArray} {kv : Value} {f x n : Int} {dt : ByteArray} {q : Bool}
theorem Bw.same (h : Bw w H lim nx v nm kv f x n dt q) (hc : ∀ b o, H ≤ b → b < H + 3 → w'.cell? ⟨b, o, none⟩ = w.cell? ⟨b, o, none⟩ ∧ w'.frozen? ⟨b, o, none⟩ = w.frozen? ⟨b, o, none⟩) (hz : w.heap.size ≤ w'.heap.size) : Bw w' H lim nx v nm kv f x n dt q := by
  obtain ⟨⟨s0, s1, s2⟩, ⟨i0, i1, i2, i3, i4, i5, i6⟩, ⟨y0, y1, y2⟩, f0, f2, z⟩ := h
  have c := fun b o h1 h2 => (hc b o h1 h2).1
  refine ⟨⟨?_, ?_, ?_⟩, ⟨?_, ?_, ?_, ?_, ?_, ?_, ?_⟩, ⟨?_, ?_, ?_⟩, fun o => (hc H o (by omega) (by omega)).2.trans (f0 o), fun o => (hc (H + 1 + 1) o (by omega) (by omega)).2.trans (f2 o), by omega⟩
  all_goals (rw [c _ _ (by omega) (by omega)]; assumption)
theorem Bw.below {C : Nat} (h : Bw w H lim nx v nm kv f x n dt q) (hb : Below C w w') (hC : H + 3 ≤ C) : Bw w' H lim nx v nm kv f x n dt q :=
  h.same (fun b o h1 h2 => ⟨hb.cell (p := ⟨b, o, none⟩) (show b < C by omega), hb.frozen (p := ⟨b, o, none⟩) (show b < C by omega)⟩) hb.size
theorem Bw.off (h : Bw w H lim nx v nm kv f x n dt q) {p : Addr} (hp : H + 3 ≤ p.block) (u : Value) : Bw (w.setCell p u) H lim nx v nm kv f x n dt q := by
  refine h.same (fun b o h1 h2 => ?_) (by simp [World.setCell])
  have e := Below.heap_setCell w p u b (show b ≠ p.block by omega)
  exact ⟨World.cell?_of_block e, by simp⟩
theorem Bw.setS (h : Bw w H lim nx v nm kv f x n dt q) (u : Value) : Bw (w.setCell ⟨H, 2, none⟩ u) H lim nx u nm kv f x n dt q := by
  obtain ⟨⟨s0, s1, s2⟩, ⟨i0, i1, i2, i3, i4, i5, i6⟩, ⟨y0, y1, y2⟩, f0, f2, z⟩ := h
  refine ⟨⟨?_, ?_, ?_⟩, ⟨?_, ?_, ?_, ?_, ?_, ?_, ?_⟩, ⟨?_, ?_, ?_⟩, fun o => (frozen_set _ _ _ _).trans (f0 o), fun o => (frozen_set _ _ _ _).trans (f2 o), by simpa [World.setCell] using z⟩
  all_goals go_simp
end
theorem bw_new (w : World) (lim nx : Int) (v : Value) (nm : ByteArray) (kv : Value) (f x n : Int) (dt : ByteArray) (q : Bool) : Bw (((w.alloc (.cells #[.int .i64 lim, .int .i64 nx, v] 25)).alloc (.cells #[.string nm, kv, .int .i64 f, .int .i64 x, .int .i64 n, .string dt, .bool q] 28)).alloc (.cells #[.int .i64 0, .int .i64 0, .slice none 0 0] 25)) w.heap.size lim nx v nm kv f x n dt q := by
  refine ⟨⟨?_, ?_, ?_⟩, ⟨?_, ?_, ?_, ?_, ?_, ?_, ?_⟩, ⟨?_, ?_, ?_⟩, fun o => ?_, fun o => ?_, by simp⟩
  all_goals go_simp
/-- The box of an item. -/
def Ib (w : World) (b : Nat) (x : Itm) : Prop :=
  (w.cell? ⟨b, 0, none⟩ = some (.string x.key) ∧ w.cell? ⟨b, 1, none⟩ = some (.int .i64 x.flags) ∧ w.cell? ⟨b, 2, none⟩ = some (.string x.data) ∧ w.cell? ⟨b, 3, none⟩ = some (.int .i64 x.upto) ∧ w.cell? ⟨b, 4, none⟩ = some (.int .i64 x.token)) ∧ (∀ o, w.frozen? ⟨b, o, none⟩ = false) ∧ b < w.heap.size
section
variable {w w' : World} {b : Nat} {x : Itm}
theorem Ib.same (h : Ib w b x) (hc : ∀ o, w'.cell? ⟨b, o, none⟩ = w.cell? ⟨b, o, none⟩ ∧ w'.frozen? ⟨b, o, none⟩ = w.frozen? ⟨b, o, none⟩) (hz : w.heap.size ≤ w'.heap.size) : Ib w' b x := by
  obtain ⟨⟨i0, i1, i2, i3, i4⟩, f0, z⟩ := h
  refine ⟨⟨?_, ?_, ?_, ?_, ?_⟩, fun o => (hc o).2.trans (f0 o), by omega⟩
  all_goals (rw [(hc _).1]; assumption)
theorem Ib.below {C : Nat} (h : Ib w b x) (hb : Below C w w') (hC : b < C) : Ib w' b x :=
  h.same (fun o => ⟨hb.cell (p := ⟨b, o, none⟩) hC, hb.frozen (p := ⟨b, o, none⟩) hC⟩) hb.size
theorem Ib.off (h : Ib w b x) {p : Addr} (hp : b ≠ p.block) (u : Value) : Ib (w.setCell p u) b x := by
  have e := Below.heap_setCell w p u b hp
  exact h.same (fun o => ⟨World.cell?_of_block e, by simp⟩) (by simp [World.setCell])
theorem Ib.setD (h : Ib w b x) (d : ByteArray) : Ib (w.setCell ⟨b, 2, none⟩ (.string d)) b { x with data := d } := by
  obtain ⟨⟨i0, i1, i2, i3, i4⟩, f0, z⟩ := h
  refine ⟨⟨?_, ?_, ?_, ?_, ?_⟩, fun o => (frozen_set _ _ _ _).trans (f0 o), by simpa [World.setCell] using z⟩
  all_goals go_simp
theorem Ib.setU (h : Ib w b x) (d : Int) : Ib (w.setCell ⟨b, 3, none⟩ (.int .i64 d)) b { x with upto := d } := by
  obtain ⟨⟨i0, i1, i2, i3, i4⟩, f0, z⟩ := h
  refine ⟨⟨?_, ?_, ?_, ?_, ?_⟩, fun o => (frozen_set _ _ _ _).trans (f0 o), by simpa [World.setCell] using z⟩
  all_goals go_simp
/-- The five stores of an item into its box. -/
def put5 (w : World) (b : Nat) (y : Itm) : World := ((((w.setCell ⟨b, 0, none⟩ (.string y.key)).setCell ⟨b, 1, none⟩ (.int .i64 y.flags)).setCell ⟨b, 2, none⟩ (.string y.data)).setCell ⟨b, 3, none⟩ (.int .i64 y.upto)).setCell ⟨b, 4, none⟩ (.int .i64 y.token)
theorem Ib.set (h : Ib w b x) (y : Itm) : Ib (put5 w b y) b y := by
  obtain ⟨⟨i0, i1, i2, i3, i4⟩, f0, z⟩ := h
  unfold put5
  refine ⟨⟨?_, ?_, ?_, ?_, ?_⟩, fun o => ?_, by simpa [World.setCell] using z⟩
  all_goals go_simp
theorem ib_new (w : World) (x : Itm) : Ib (w.alloc (.cells #[.string x.key, .int .i64 x.flags, .string x.data, .int .i64 x.upto, .int .i64 x.token] 37)) w.heap.size x := by
  refine ⟨⟨?_, ?_, ?_, ?_, ?_⟩, fun o => ?_, by simp⟩
  all_goals go_simp
end
end Rw
end Go.Proofs.YtkdcofmpbmiloaaGreatDoor
