/-
  The program's partsOf: an iterator over the places of each part's keys.
-/
import Derived.Test.YtghckjmpcokhcaaGreatDoorSplitY
import Derived.Shelf.Abstract
import Derived.Shelf.RegionOpen
import Derived.WalkKit
import Derived.OwnWalkIn
import Derived.TacticsInMore
import Derived.LoopNIn
import Derived.LoopIn
import Derived.Test.YtghckjmpcokhcaaGreatDoorPartZ
namespace Go.Proofs.YtghckjmpcokhcaaGreatDoor
namespace Split
open Go.RowKit Base Marks OwnR Ring KeysS
set_option linter.unusedVariables false

attribute [local go_sem] Oper.semAt_some

/-- What a round is handed: whose part it is, and where the places lie. -/
structure Arg where
  i : Nat
  a : Option Addr
  c : Nat
def argL (os : List ByteArray) (n : Nat) (x : Arg) : List Nat := places os n (ow os x.i)
def encs (os : List ByteArray) (n : Nat) (x : Arg) : Array Value := #[.slice x.a (argL os n x).length x.c]
def Mem (os : List ByteArray) (n : Nat) (x : Arg) (W : World) : Prop := x.i < n ∧ firstB os x.i = true ∧ W.ownsRow 0 3 1 (.slice x.a (argL os n x).length x.c) (argL os n x).length (Ints.cells (nums (argL os n x)))
/-- Two blocks lie as they lay. -/
def Kp (b g : Nat) (A B : World) : Prop := A.heap.size ≤ B.heap.size ∧ B.heap[b]? = A.heap[b]? ∧ B.heap[g]? = A.heap[g]?
theorem Kp.refl (b g : Nat) (A : World) : Kp b g A A := ⟨Nat.le_refl _, rfl, rfl⟩
theorem Kp.trans {b g : Nat} {A B C : World} (h : Kp b g A B) (k : Kp b g B C) : Kp b g A C := ⟨Nat.le_trans h.1 k.1, k.2.1.trans h.2.1, k.2.2.trans h.2.2⟩
theorem Kp.below {b g B : Nat} {A C : World} (h : Below B A C) (hb : b < B) (hg : g < B) : Kp b g A C := ⟨h.size, h.block b hb, h.block g hg⟩
theorem cell_blk {A B : World} {b o : Nat} {v : Value} (e : B.heap[b]? = A.heap[b]?) (h : A.cell? ⟨b, o, none⟩ = some v) : B.cell? ⟨b, o, none⟩ = some v := (World.cell?_of_block (a := ⟨b, o, none⟩) e).trans h

set_option maxRecDepth 100000 in
set_option maxHeartbeats 2000000 in
theorem parts_iter (n l b g N : Nat) (os : List ByteArray) (hn : 1 ≤ n) (hN : N ≤ 60) (J : List Arg → World → Prop) (W : World) (hJ : ∀ pre A A', J pre A → Below A.heap.size A A' → J pre A')
    (hY : ∀ pre x W1, J pre W1 → Mem os N x W1 → pre.length < N → YieldAt Fence.wide (n - 1) Tryz.prog l (encs os N x) W1 fun e W' => e = .returned (.bool true) ∧ J (pre ++ [x]) W' ∧ Kp b g W1 W')
    (hb : W.cell? ⟨b, 0, none⟩ = some (.slice (some ⟨g, 0, none⟩) N N)) (hr : RowAt W g 9 N (StringsW.scell os)) (h0 : J [] W) :
    CallsIn Fence.wide n Tryz.prog 53 #[.func (.yield l) #[] #[], .pointer (some ⟨b, 0, none⟩)] W fun e W' => (∃ v, e = .returned v) ∧ ∃ xs, xs.map Arg.i = firsts os N ∧ J xs W' := by
  have hbl := block_lt_of_cell hb
  have hgl := hr.lt
  have HR := hide hr
  have HJ := hide hJ
  have HY := hide hY
  have HB := hide hb
  clear hJ hY hr
  refine callsIn_of_wp Tryz.func53 rfl trivial ?_ rfl
  simp only [Tryz.ntmps53, List.size_toArray, List.length_cons, List.length_nil, Nat.reduceAdd, Nat.reduceSub, Array.replicate_succ, Array.replicate_zero, List.push_toArray, List.append_toArray, List.nil_append, List.cons_append]
  gi_wp2
  gi_loopw [7] (fun iv wr => ∃ (k : Nat) (pre : List Arg), k ≤ N ∧ iv = .int .i64 k ∧ Hid (pre.map Arg.i = firsts os k) ∧ Hid (J pre wr) ∧ Hid (Kp b g W wr)) (fun iv _ => N - (intOf iv).toNat)
  case atStart => exact ⟨0, [], Nat.zero_le _, rfl, hide rfl, hide h0, hide (Kp.refl _ _ _)⟩
  case round =>
    clear hb
    obtain ⟨k, pre, hk, rfl, hpre, hj, hkp⟩ := hrel
    by_cases hlt : k < N
    · have r1 := (unhide HR).of_block (unhide hkp).2.2
      have c0 : wr.cell? ⟨g, k, none⟩ = some (.string (ow os k)) := r1.cell hlt
      have c1 : wr.cell? ⟨b, 0, none⟩ = some (.slice (some ⟨g, 0, none⟩) N N) := cell_blk (unhide hkp).2.1 (unhide HB)
      have hbl1 := block_lt_of_cell c1
      have hgl1 := r1.lt
      have HIX := hide (index_any g N N os (ow os k) wr r1 hN)
      have hfst := @idx_first os k N hlt
      have hfs := hide (firsts_succ os k)
      have HPL := hide (fun w' (h : RowAt w' g 9 N (StringsW.scell os)) => placesOf_any g N N os (ow os k) w' h hN)
      generalize hiv : idx os (ow os k) N = iv at hfst HIX
      have hlen : pre.length < N := by
        have e := congrArg List.length (unhide hpre)
        rw [List.length_map] at e
        have := firsts_le os k
        omega
      by_cases hf : firstB os k = true
      · have hni : ¬ iv < k := fun h => (hfst.1 h) hf
        have HFS : Hid (firsts os (k + 1) = firsts os k ++ [k]) := by show _ = _; rw [unhide hfs, if_pos hf]
        have HMEM : Hid (∀ a c W', W'.ownsRow 0 3 1 (.slice a (places os N (ow os k)).length c) (places os N (ow os k)).length (Ints.cells (nums (places os N (ow os k)))) → Mem os N ⟨k, a, c⟩ W') := fun a c W' h => ⟨hlt, hf, h⟩
        have HENC : Hid (∀ a c, encs os N ⟨k, a, c⟩ = #[.slice a (places os N (ow os k)).length c]) := fun _ _ => rfl
        clear hfst hfs hiv hf
        generalize hpn : (places os N (ow os k)).length = pn at HPL HMEM HENC
        generalize ow os k = o at c0 HIX HPL HMEM
        gi_wp2_with fail
        refine ⟨trivial, (callsIn_wide.2 (unhide HIX)).mono ?_⟩
        rintro e w1 ⟨rfl, hb1⟩
        have J1 := hide (unhide HJ _ _ _ (unhide hj) hb1)
        have K1 := hide ((unhide hkp).trans (Kp.below hb1 hbl1 hgl1))
        have d1 : w1.cell? ⟨b, 0, none⟩ = some (.slice (some ⟨g, 0, none⟩) N N) := cell_blk (hb1.block b hbl1) c1
        have R1 := hide (r1.below hb1 hgl1)
        have hbl2 := block_lt_of_cell d1
        have hgl2 := (unhide R1).lt
        clear hb1 c0 c1 r1 hj hkp HIX
        gi_wp2_with fail
        refine ⟨trivial, (callsIn_wide.2 (unhide HPL _ (unhide R1))).mono ?_⟩
        rintro e w2 ⟨a, c, rfl, hown, hb2⟩
        have J2 := hide (unhide HJ _ _ _ (unhide J1) hb2)
        have K2 := hide ((unhide K1).trans (Kp.below hb2 hbl2 hgl2))
        obtain ⟨fn, tmps, assign, body, hy, hR⟩ := unhide HY pre ⟨k, a, c⟩ w2 (unhide J2) (unhide HMEM a c w2 (own_le hown (Nat.zero_le _))) hlen
        rw [unhide HENC] at hy
        have HRR := hide hR
        clear hR hown hb2 R1 J1 K1 d1 J2 HMEM HENC HPL
        gi_wp2_with fail
        refine (unhide HRR).mono ?_
        rintro e w3 ⟨rfl, hj3, hk3⟩
        have J3 := hide hj3
        have K3 := hide ((unhide K2).trans hk3)
        have HPRE : Hid ((pre ++ [(⟨k, a, c⟩ : Arg)]).map Arg.i = firsts os (k + 1)) := by show _ = _; rw [unhide HFS, List.map_append, unhide hpre]; rfl
        clear hj3 hk3 hy HRR K2 hpre HFS
        gi_wp2
        go_roundw
        case rel => exact ⟨k + 1, _, by omega, by go_num, HPRE, J3, K3⟩
        case measure => simp [intOf]; omega
      · have hni : iv < k := hfst.2 hf
        have HPRE : Hid (pre.map Arg.i = firsts os (k + 1)) := by show _ = _; rw [unhide hfs, if_neg hf, List.append_nil]; exact unhide hpre
        clear hfst hfs hiv hf HPL hpre
        generalize ow os k = o at c0 HIX
        gi_wp2_with fail
        refine ⟨trivial, (callsIn_wide.2 (unhide HIX)).mono ?_⟩
        rintro e w1 ⟨rfl, hb1⟩
        have J1 := hide (unhide HJ _ _ _ (unhide hj) hb1)
        have K1 := hide ((unhide hkp).trans (Kp.below hb1 hbl1 hgl1))
        clear hb1 c0 c1 r1 hj hkp HIX
        gi_wp2
        go_roundw
        case rel => exact ⟨k + 1, pre, by omega, by go_num, HPRE, J1, K1⟩
        case measure => simp [intOf]; omega
    · obtain rfl : k = N := by omega
      gi_wp2
      go_end0
      exact ⟨⟨_, rfl⟩, pre, unhide hpre, unhide hj⟩
end Split
end Go.Proofs.YtghckjmpcokhcaaGreatDoor
/-
  What the loop of the program's SplitKeys holds between two rounds. No Go function is spoken of here.
-/
namespace Go.Proofs.YtghckjmpcokhcaaGreatDoor
namespace Split
open Go.RowKit Base Marks OwnR Ring KeysS Parts
set_option linter.unusedVariables false

theorem types_box {w : World} {a b m : Nat} {t u : TypeId} {f : Nat → Value} {v : Value} (h1 : RowAt w a t m f) (h2 : Boxed w b u v) (hne : t ≠ u) : a ≠ b := by
  intro e
  subst e
  obtain ⟨c, hc, _⟩ := h1
  rw [show w.heap[a]? = _ from h2] at hc
  simp only [Option.some.injEq, Obj.cells.injEq] at hc
  exact hne hc.2.1.symm
/-- What the loop's own cells hold between two rounds. -/
structure Inv (w : World) (P H O bc g N kb ko kc : Nat) (os ks : List ByteArray) (pre : List Arg) (W : World) : Prop where
  out : ∃ v n p, Boxed W P 27 v ∧ Out W w.heap.size v n p ∧ Tells n p ((pre.map Arg.i).map (partAt os ks N))
  cH : Boxed W H 24 (.slice (some ⟨kb, ko, none⟩) N kc)
  cO : Boxed W O 24 (.slice (some ⟨g, 0, none⟩) N N)
  cB : Boxed W bc 24 (.slice (some ⟨g, 0, none⟩) N N)
  row : RowAt W g 9 N (StringsW.scell os)
  bel : Below w.heap.size w W
theorem boxed_gb {W W' : World} {b : Nat} {t : TypeId} {v : Value} {r : Option Nat} (h : Boxed W b t v) (hg : W.grownBy W' r) (hr : ∀ k, r = some k → ∃ o : Obj, W.heap[k]? = some o ∧ o.isCells = false) : Boxed W' b t v := by
  have hb : W.heap[b]? = some (.cells #[v] t) := h
  refine (hg.block b (Array.getElem?_eq_some_iff.1 hb).1 (fun e => ?_)).trans hb
  obtain ⟨o, ho, hc⟩ := hr b e.symm
  rw [hb] at ho
  cases ho; cases hc
theorem row_gb {W W' : World} {b n : Nat} {t : TypeId} {f : Nat → Value} {r : Option Nat} (h : RowAt W b t n f) (hg : W.grownBy W' r) (hr : ∀ k, r = some k → ∃ o : Obj, W.heap[k]? = some o ∧ o.isCells = false) : RowAt W' b t n f := by
  refine h.of_block (hg.block b h.lt (fun e => ?_))
  obtain ⟨o, ho, hc⟩ := hr b e.symm
  obtain ⟨c, hb, _⟩ := h
  rw [hb] at ho
  cases ho; cases hc
theorem own_gb' {W W' : World} {base : Nat} {e : TypeId} {size : Nat} {v : Value} {n : Nat} {xs : List Value} {r : Option Nat} (h : W.ownsRow base e size v n xs) (hg : W.grownBy W' r) (hr : ∀ k, r = some k → ∃ o : Obj, W.heap[k]? = some o ∧ o.isCells = false) : W'.ownsRow base e size v n xs := by
  refine ⟨h.1, h.2.elim Or.inl ?_⟩
  rintro ⟨g, cap, cur, hv, hB, hh, rest⟩
  refine Or.inr ⟨g, cap, cur, hv, hB, (hg.block g (Array.getElem?_eq_some_iff.1 hh).1 (fun e' => ?_)).trans hh, rest⟩
  obtain ⟨o, ho, hc⟩ := hr g e'.symm
  rw [hh] at ho
  cases ho; cases hc
theorem out_gb {W W' : World} {B : Nat} {v : Value} {n : Nat} {p : Nat → Pt} {r : Option Nat} (h : Out W B v n p) (hg : W.grownBy W' r) (hr : ∀ k, r = some k → ∃ o : Obj, W.heap[k]? = some o ∧ o.isCells = false) : Out W' B v n p :=
  ⟨own_gb' h.1 hg hr, fun i hi => ⟨row_gb (h.2.1 i hi).1 hg hr, (h.2.1 i hi).2⟩, h.2.2⟩
theorem inv_own (w : World) (B P H O bc g N kb ko kc : Nat) (os ks : List ByteArray) (hB : w.heap.size ≤ B) : OwnFrom B (Inv w P H O bc g N kb ko kc os ks) := by
  rintro pre W W' r ⟨⟨v, n, p, h1, h2, h3⟩, hH, hO, hc, hr, hb⟩ hg hk
  have hk' := fun k e => (hk k e).2
  exact ⟨⟨v, n, p, boxed_gb h1 hg hk', out_gb h2 hg hk', h3⟩, boxed_gb hH hg hk', boxed_gb hO hg hk', boxed_gb hc hg hk', row_gb hr hg hk', hb.grown hg (hb.size) (fun k e => by have := (hk k e).1; omega)⟩
theorem inv_below {w : World} {P H O bc g N kb ko kc : Nat} {os ks : List ByteArray} {pre : List Arg} {A A' : World} (h : Inv w P H O bc g N kb ko kc os ks pre A) (hb : Below A.heap.size A A') : Inv w P H O bc g N kb ko kc os ks pre A' := by
  obtain ⟨⟨v, n, p, h1, h2, h3⟩, hH, hO, hc, hr, hbb⟩ := h
  have bx : ∀ {b : Nat} {t : TypeId} {v : Value}, Boxed A b t v → Boxed A' b t v := fun {b t v} h => by
    have h' : A.heap[b]? = some (.cells #[v] t) := h
    exact (hb.block b (Array.getElem?_eq_some_iff.1 h').1).trans h'
  exact ⟨⟨v, n, p, bx h1, h2.below hb, h3⟩, bx hH, bx hO, bx hc, hr.below hb hr.lt, hbb.trans (hb.mono hbb.size)⟩
theorem mem_own (B : Nat) (os : List ByteArray) (N : Nat) : OwnFrom B (Mem os N) := by
  rintro x W W' r ⟨h1, h2, h3⟩ hg hk
  exact ⟨h1, h2, own_gb' h3 hg (fun k e => (hk k e).2)⟩

/-- A part's own box. -/
def PB (W : World) (b : Nat) (nd : ByteArray) (kv : Value) : Prop := W.heap[b]? = some (.cells #[.string nd, kv] 31)
theorem PB.c0 {W : World} {b : Nat} {nd : ByteArray} {kv : Value} (h : PB W b nd kv) : W.cell? ⟨b, 0, none⟩ = some (.string nd) ∧ W.cell? ⟨b, 1, none⟩ = some kv ∧ (∀ o, W.frozen? ⟨b, o, none⟩ = false) ∧ b < W.heap.size := by
  have h' : W.heap[b]? = some (.cells #[.string nd, kv] 31) := h
  exact ⟨by simp [World.cell?, h'], by simp [World.cell?, h'], fun o => by simp [World.frozen?, h'], (Array.getElem?_eq_some_iff.1 h').1⟩
theorem PB.set {W : World} {b : Nat} {nd : ByteArray} {kv : Value} (h : PB W b nd kv) (u : Value) : PB (W.setCell ⟨b, 1, none⟩ u) b nd u := by
  have h' : W.heap[b]? = some (.cells #[.string nd, kv] 31) := h
  unfold PB; simp [World.setCell, Array.getElem?_modify, h']
theorem PB.block {W W' : World} {b : Nat} {nd : ByteArray} {kv : Value} (h : PB W b nd kv) (e : W'.heap[b]? = W.heap[b]?) : PB W' b nd kv := e.trans h
/-- A round's part is put behind the others. -/
theorem inv_step {w W2 w6 w7 : World} {P H O g N kb ko kc bc : Nat} {os ks : List ByteArray} {pre : List Arg} {x : Arg} {v v' : Value} {n : Nat} {p : Nat → Pt} {nd : ByteArray} {gk ck : Nat} {K : List ByteArray} {o1 : Obj}
    (hI : Inv w P H O bc g N kb ko kc os ks pre W2) (hBP : Boxed W2 P 27 v) (hOut : Out W2 w.heap.size v n p) (hTl : Tells n p ((pre.map Arg.i).map (partAt os ks N)))
    (hP : w.heap.size ≤ P) (hpart : partAt os ks N x.i = ⟨nd, K⟩)
    (h6 : Below W2.heap.size W2 w6) (hrow : RowAt w6 gk 9 K.length (StringsW.scell K)) (hgk : W2.heap.size ≤ gk)
    (h7 : w7.ownsRow w.heap.size 31 2 v' (n + 1) (pflat p n ++ [.string nd, .slice (some ⟨gk, 0, none⟩) K.length ck])) (hg7 : (w6.alloc o1).grownBy w7 v.ownBlock) (B : Nat) :
    RoundR.Goes B (Kp bc g) (Inv w P H O bc g N kb ko kc os ks (pre ++ [x])) W2 .normal { tmps := #[], defers := [] } (w7.setCell ⟨P, 0, none⟩ v') := by
  obtain ⟨_, hH, hO, hBB, hr, hb⟩ := hI
  have hPl : P < W2.heap.size := (Array.getElem?_eq_some_iff.1 (show W2.heap[P]? = _ from hBP)).1
  -- which block the row of parts is
  have hvb : ∀ k, v.ownBlock = some k → w.heap.size ≤ k ∧ k < W2.heap.size ∧ ∃ c, W2.heap[k]? = some (.cells c 31 (0, 0)) := by
    intro k hk
    rcases hOut.1.2 with ⟨rfl, _⟩ | ⟨g', cap, cur, rfl, hB', hh, _⟩
    · simp [Value.ownBlock] at hk
    · simp only [Value.ownBlock, Option.some.injEq] at hk
      subst hk
      exact ⟨hB', (Array.getElem?_eq_some_iff.1 hh).1, cur, hh⟩
  have e7 : ∀ k, k < W2.heap.size → some k ≠ v.ownBlock → w7.heap[k]? = W2.heap[k]? := fun k hk hne => by
    have h1 : k < w6.heap.size := Nat.lt_of_lt_of_le hk h6.size
    rw [hg7.block k (by simp; omega) hne, Below.heap_alloc w6 o1 k h1, h6.block k hk]
  have e8 : ∀ k, k < W2.heap.size → k ≠ P → some k ≠ v.ownBlock → (w7.setCell ⟨P, 0, none⟩ v').heap[k]? = W2.heap[k]? := fun k hk hkP hne => by
    rw [Below.heap_setCell w7 ⟨P, 0, none⟩ v' k hkP]; exact e7 k hk hne
  have hz7 : w6.heap.size + 1 ≤ w7.heap.size := by have := hg7.size; simpa using this
  have hz8 : (w7.setCell ⟨P, 0, none⟩ v').heap.size = w7.heap.size := by simp [World.setCell]
  have hPb : W2.heap[P]? = some (.cells #[v] 27) := hBP
  -- a block of another type than both
  have other : ∀ (k : Nat) (c : Array Value) (t : TypeId), W2.heap[k]? = some (.cells c t (0, 0)) → t ≠ 27 → t ≠ 31 → (w7.setCell ⟨P, 0, none⟩ v').heap[k]? = W2.heap[k]? := fun k c t hk h1 h2 => by
    refine e8 k (Array.getElem?_eq_some_iff.1 hk).1 (fun e => ?_) (fun e => ?_)
    · rw [e, hPb] at hk; simp only [Option.some.injEq, Obj.cells.injEq] at hk; exact h1 hk.2.1.symm
    · obtain ⟨_, _, c', hc'⟩ := hvb k e.symm
      rw [hk] at hc'; simp only [Option.some.injEq, Obj.cells.injEq] at hc'; exact h2 hc'.2.1
  have bx : ∀ {b : Nat} {u : Value}, Boxed W2 b 24 u → Boxed (w7.setCell ⟨P, 0, none⟩ v') b 24 u := fun {b u} h =>
    (other b _ _ (show W2.heap[b]? = some (.cells #[u] 24) from h) (by decide) (by decide)).trans h
  have rw2 : ∀ {b m : Nat} {f : Nat → Value}, RowAt W2 b 9 m f → RowAt (w7.setCell ⟨P, 0, none⟩ v') b 9 m f := fun {b m f} h => by
    obtain ⟨c, hc, h'⟩ := h
    exact ⟨c, (other b _ _ hc (by decide) (by decide)).trans hc, h'⟩
  have hgP : ∀ g' cap', v' = .slice (some ⟨g', 0, none⟩) (n + 1) cap' → g' ≠ P := by
    rintro g' cap' rfl e
    subst e
    rcases h7.2 with ⟨h', _⟩ | ⟨g'', cap'', cur, h', _, hh, _⟩
    · simp at h'
    · simp only [Value.slice.injEq, Option.some.injEq, Addr.mk.injEq, and_true] at h'
      obtain ⟨rfl, _, _⟩ := h'
      rw [e7 g' hPl (fun e => by
        obtain ⟨_, _, c', hc'⟩ := hvb g' e.symm
        rw [hPb] at hc'; simp only [Option.some.injEq, Obj.cells.injEq] at hc'; exact absurd hc'.2.1 (by decide)), hPb] at hh
      simp only [Option.some.injEq, Obj.cells.injEq] at hh
      exact absurd hh.2.1 (by decide)
  obtain ⟨gv, cv, rfl, hgvB, _, hgvl⟩ := own_some h7 (by omega)
  have hne := hgP gv cv rfl
  have own8 : (w7.setCell ⟨P, 0, none⟩ (.slice (some ⟨gv, 0, none⟩) (n + 1) cv)).ownsRow w.heap.size 31 2 (.slice (some ⟨gv, 0, none⟩) (n + 1) cv) (n + 1) (pflat (upd p n ⟨nd, gk, ck, K⟩) (n + 1)) := by
    rw [← pflat_snoc]
    refine ⟨h7.1, h7.2.elim Or.inl ?_⟩
    rintro ⟨g'', cap'', cur, h', hB', hh, rest⟩
    refine Or.inr ⟨g'', cap'', cur, h', hB', ?_, rest⟩
    simp only [Value.slice.injEq, Option.some.injEq, Addr.mk.injEq, and_true] at h'
    obtain ⟨rfl, _, _⟩ := h'
    rw [Below.heap_setCell w7 ⟨P, 0, none⟩ _ gv hne]; exact hh
  have hrowk : RowAt (w7.setCell ⟨P, 0, none⟩ (.slice (some ⟨gv, 0, none⟩) (n + 1) cv)) gk 9 K.length (StringsW.scell K) := by
    refine hrow.of_block ?_
    rw [Below.heap_setCell w7 ⟨P, 0, none⟩ _ gk (by show gk ≠ P; omega), hg7.block gk (by have := hrow.lt; simp; omega) (fun e => by have := (hvb gk e.symm).2.1; omega), Below.heap_alloc w6 o1 gk hrow.lt]
  refine ⟨⟨by rw [hz8]; have := h6.size; omega, fun k o _ hk ho => ?_⟩, ⟨by rw [hz8]; have := h6.size; omega, ?_, ?_⟩, ⟨⟨_, n + 1, upd p n ⟨nd, gk, ck, K⟩, ?_, ⟨own8, fun i hi => ?_, fun i j hi hj hij => ?_⟩, ?_⟩, bx hH, bx hO, bx hBB, rw2 hr, ?_⟩⟩
  · refine (e8 k (Array.getElem?_eq_some_iff.1 hk).1 (fun e => ?_) (fun e => ?_)).trans hk
    · rw [e, hPb] at hk; cases hk; cases ho
    · obtain ⟨_, _, c', hc'⟩ := hvb k e.symm
      rw [hk] at hc'; cases hc'; cases ho
  · exact other bc _ _ (show W2.heap[bc]? = some (.cells #[_] 24) from hBB) (by decide) (by decide)
  · obtain ⟨c, hc, _⟩ := hr
    exact other g _ _ hc (by decide) (by decide)
  · have e7P : w7.heap[P]? = some (.cells #[v] 27) := (e7 P hPl (fun e => by
      obtain ⟨_, _, c', hc'⟩ := hvb P e.symm
      rw [hPb] at hc'; simp only [Option.some.injEq, Obj.cells.injEq] at hc'; exact absurd hc'.2.1 (by decide))).trans hPb
    show (w7.setCell ⟨P, 0, none⟩ _).heap[P]? = some (.cells #[_] 27)
    simp [World.setCell, Array.getElem?_modify, e7P]
  · by_cases e : i = n
    · subst e
      rw [upd_same]
      exact ⟨hrowk, by show _ ≤ gk; have := hb.size; omega⟩
    · rw [upd_other _ e]
      exact ⟨rw2 (hOut.2.1 i (by omega)).1, (hOut.2.1 i (by omega)).2⟩
  · by_cases e1 : i = n
    · subst e1
      rw [upd_same, upd_other _ (fun e => hij e.symm)]
      have := (hOut.2.1 j (by omega)).1.lt
      show gk ≠ _; omega
    · by_cases e2 : j = n
      · subst e2
        rw [upd_same, upd_other _ e1]
        have := (hOut.2.1 i (by omega)).1.lt
        show _ ≠ gk; omega
      · rw [upd_other _ e1, upd_other _ e2]; exact hOut.2.2 i j (by omega) (by omega) hij
  · rw [List.map_append, List.map_append]
    have := tells_snoc (x := ⟨nd, gk, ck, K⟩) hTl ⟨nd, K⟩ rfl rfl
    rw [show List.map (partAt os ks N) (List.map Arg.i [x]) = [⟨nd, K⟩] by simp [hpart]]
    exact this
  · refine Below.setCell ?_ hP _
    exact ((hb.trans (h6.mono hb.size)).alloc (Nat.le_trans hb.size h6.size) o1).grown hg7 (by have := hb.size; have := h6.size; simp; omega) (fun k e => (hvb k e).1)
end Split
end Go.Proofs.YtghckjmpcokhcaaGreatDoor
