/-
  Rows of slices that a call puts together by append, and the rows that they show. No Go function is spoken of here.
-/
import Derived.Test.YtghckjmpcokhcaaGreatDoorMarkZ
import Derived.Test.YtghckjmpcokhcaaGreatDoorSplitZ
import Derived.Laws.AppendOwn
namespace Go.Proofs.YtghckjmpcokhcaaGreatDoor
namespace RowsW
open Go.RowKit Base OwnR
set_option linter.unusedVariables false

theorem news_val (w : World) (v : Value) (t : TypeId) (j : Nat) (u : Value) (hj : [v][j]? = some u) : (w.alloc (.cells #[v] t)).cell? ((⟨w.heap.size, 0, none⟩ : Addr).add j) = some u := by
  rw [Go.WideShapes.add_plain, Nat.zero_add, World.cell?_alloc_new]
  show [v].toArray[j]? = some u
  simpa using hj
theorem one_slice {a : Option Addr} {n c : Nat} (u : Value) (hu : u ∈ [Value.slice a n c]) : u.oneCell' = true := by
  simp at hu; rw [hu]; rfl
/-- The block of a row that is owned. -/
theorem own_type {w : World} {base : Nat} {e : TypeId} {size : Nat} {v : Value} {n : Nat} {xs : List Value} (h : w.ownsRow base e size v n xs) : ∀ k, v.ownBlock = some k → base ≤ k ∧ ∃ c, w.heap[k]? = some (.cells c e (0, 0)) := by
  intro k hk
  rcases h.2 with ⟨rfl, _⟩ | ⟨g', cap, cur, rfl, hB', hh, _⟩
  · simp [Value.ownBlock] at hk
  · simp only [Value.ownBlock, Option.some.injEq] at hk
    subst hk
    exact ⟨hB', cur, hh⟩
/-- It stands while a block of another type turns. -/
theorem own_types {W W' : World} {base : Nat} {e : TypeId} {size : Nat} {v : Value} {n : Nat} {xs : List Value} {r : Option Nat} (h : W.ownsRow base e size v n xs) (hg : W.grownBy W' r) (hr : ∀ k, r = some k → ∃ c t, W.heap[k]? = some (.cells c t (0, 0)) ∧ t ≠ e) : W'.ownsRow base e size v n xs := by
  refine ⟨h.1, h.2.elim Or.inl ?_⟩
  rintro ⟨g, cap, cur, hv, hB, hh, rest⟩
  refine Or.inr ⟨g, cap, cur, hv, hB, (hg.block g (Array.getElem?_eq_some_iff.1 hh).1 (fun e' => ?_)).trans hh, rest⟩
  obtain ⟨c, t, ho, hc⟩ := hr g e'.symm
  rw [hh] at ho
  simp only [Option.some.injEq, Obj.cells.injEq] at ho
  exact hc ho.2.1.symm
/-- What lies at its places. -/
theorem own_cells {w : World} {base : Nat} {e : TypeId} {a : Option Addr} {c n : Nat} {xs : List Value} (h : w.ownsRow base e 1 (.slice a n c) n xs) (hn : 0 < n) : ∃ g, a = some ⟨g, 0, none⟩ ∧ base ≤ g ∧ g < w.heap.size ∧ ∀ i v, i < n → xs[i]? = some v → w.cell? ⟨g, i, none⟩ = some v := by
  rcases h.2 with ⟨hv, h0⟩ | ⟨g, cap', cur, hv, hg, hh, hc, _, hsz, ht⟩
  · omega
  · simp only [Value.slice.injEq] at hv
    refine ⟨g, hv.1, hg, (Array.getElem?_eq_some_iff.1 hh).1, fun i v hi hx => ?_⟩
    have e1 : cur[i]? = xs[i]? := by rw [← ht, List.getElem?_take_of_lt (by omega)]; simp
    simp only [World.cell?, hh, e1, hx]
    simp
end RowsW
end Go.Proofs.YtghckjmpcokhcaaGreatDoor
/-
  slices.Collect over the program's partsOf: the places of each part's keys, in a row.
-/
namespace Go.Proofs.YtghckjmpcokhcaaGreatDoor
namespace Merge
open Go.RowKit Base Marks OwnR Ring KeysS Parts Split
set_option linter.unusedVariables false

attribute [local go_sem] Oper.semAt_some

theorem partsOf_out (g N : Nat) (w : World) : Calls Tryz.prog 24 #[.slice (some ⟨g, 0, none⟩) N N] w fun e w' => e = .returned (.func (.func 53) #[] #[.pointer (some ⟨w.heap.size, 0, none⟩)]) ∧ w' = w.alloc (.cells #[.slice (some ⟨g, 0, none⟩) N N] 24) := by
  have hmf : ∀ (fn : Fn) (first cap : Array Value) (w : World), (Instr.makeFunc fn first cap).run Tryz.prog w = .ok (.func fn first cap) w := fun _ _ _ _ => rfl
  go_enter Tryz.func24, Tryz.ntmps24
  go_wp2
  go_ret
  exact ⟨rfl, rfl⟩
/-- A part's places, as a slice. -/
def avl (os : List ByteArray) (N : Nat) (x : Arg) : Value := .slice x.a (argL os N x).length x.c
/-- What the loop of Collect holds between two rounds. -/
structure CInv (w : World) (P N : Nat) (os : List ByteArray) (pre : List Arg) (W : World) : Prop where
  out : ∃ v, Boxed W P 77 v ∧ W.ownsRow w.heap.size 61 1 v pre.length (pre.map (avl os N))
  rows : ∀ x ∈ pre, Mem os N x W
  bel : Below w.heap.size w W
theorem cinv_own (w : World) (B P N : Nat) (os : List ByteArray) (hB : w.heap.size ≤ B) : OwnFrom B (CInv w P N os) := by
  rintro pre W W' r ⟨⟨v, h1, h2⟩, h3, hb⟩ hg hk
  have hk' := fun k e => (hk k e).2
  exact ⟨⟨v, boxed_gb h1 hg hk', own_gb' h2 hg hk'⟩, fun x hx => ⟨(h3 x hx).1, (h3 x hx).2.1, own_gb' (h3 x hx).2.2 hg hk'⟩, hb.grown hg hb.size (fun k e => by have := (hk k e).1; omega)⟩
theorem cinv_below {w : World} {P N : Nat} {os : List ByteArray} {pre : List Arg} {A A' : World} (h : CInv w P N os pre A) (hb : Below A.heap.size A A') : CInv w P N os pre A' := by
  obtain ⟨⟨v, h1, h2⟩, h3, hbb⟩ := h
  have h1' : A.heap[P]? = some (.cells #[v] 77) := h1
  exact ⟨⟨v, (hb.block P (Array.getElem?_eq_some_iff.1 h1').1).trans h1', own_below h2 hb (Nat.le_refl _)⟩, fun x hx => ⟨(h3 x hx).1, (h3 x hx).2.1, own_below (h3 x hx).2.2 hb (Nat.le_refl _)⟩, hbb.trans (hb.mono hbb.size)⟩
theorem info_ints : ∃ i, Tryz.prog.info? 61 = some i ∧ i.zero = some (.slice none 0 0) ∧ i.size = 1 ∧ i.bytes = 24 := by
  have h : (Tryz.prog.info? 61).map (fun i => (i.zero, i.size, i.bytes)) = some (some (.slice none 0 0), 1, 24) := by kernel_rfl
  obtain ⟨i, hi, hz⟩ := Option.map_eq_some_iff.1 h
  simp only [Prod.mk.injEq] at hz
  exact ⟨i, hi, hz.1, hz.2.1, hz.2.2⟩
/-- A round's places are put behind the others. -/
theorem cinv_step {w W2 w7 : World} {P N bc g : Nat} {os : List ByteArray} {pre : List Arg} {x : Arg} {v v' : Value} {o1 : Obj} (hI : CInv w P N os pre W2) (hM : Mem os N x W2) (hBP : Boxed W2 P 77 v) (hOwn : W2.ownsRow w.heap.size 61 1 v pre.length (pre.map (avl os N))) (hP : w.heap.size ≤ P) (hbc : bc < w.heap.size) (hgl : g < w.heap.size)
    (h7 : w7.ownsRow w.heap.size 61 1 v' (pre.length + 1) (pre.map (avl os N) ++ [avl os N x])) (hg7 : (W2.alloc o1).grownBy w7 v.ownBlock) (B : Nat) :
    RoundR.Goes B (Kp bc g) (CInv w P N os (pre ++ [x])) W2 .normal { tmps := #[], defers := [] } (w7.setCell ⟨P, 0, none⟩ v') := by
  obtain ⟨_, hrows, hb⟩ := hI
  have hPb : W2.heap[P]? = some (.cells #[v] 77) := hBP
  have hPl : P < W2.heap.size := (Array.getElem?_eq_some_iff.1 hPb).1
  have hvb := RowsW.own_type hOwn
  have e7 : ∀ k, k < W2.heap.size → some k ≠ v.ownBlock → w7.heap[k]? = W2.heap[k]? := fun k hk hne => by
    rw [hg7.block k (by simp; omega) hne, Below.heap_alloc W2 o1 k hk]
  have hz7 : W2.heap.size + 1 ≤ w7.heap.size := by have := hg7.size; simpa using this
  have hz8 : (w7.setCell ⟨P, 0, none⟩ v').heap.size = w7.heap.size := by simp [World.setCell]
  have e8 : ∀ k, k < W2.heap.size → k ≠ P → some k ≠ v.ownBlock → (w7.setCell ⟨P, 0, none⟩ v').heap[k]? = W2.heap[k]? := fun k hk hkP hne => by
    rw [Below.heap_setCell w7 ⟨P, 0, none⟩ v' k hkP]; exact e7 k hk hne
  have other : ∀ (k : Nat) (c : Array Value) (t : TypeId), W2.heap[k]? = some (.cells c t (0, 0)) → t ≠ 77 → t ≠ 61 → (w7.setCell ⟨P, 0, none⟩ v').heap[k]? = W2.heap[k]? := fun k c t hk h1 h2 => by
    refine e8 k (Array.getElem?_eq_some_iff.1 hk).1 (fun e => ?_) (fun e => ?_)
    · rw [e, hPb] at hk; simp only [Option.some.injEq, Obj.cells.injEq] at hk; exact h1 hk.2.1.symm
    · obtain ⟨_, c', hc'⟩ := hvb k e.symm
      rw [hk] at hc'; simp only [Option.some.injEq, Obj.cells.injEq] at hc'; exact h2 hc'.2.1
  have low : ∀ k, k < w.heap.size → (w7.setCell ⟨P, 0, none⟩ v').heap[k]? = W2.heap[k]? := fun k hk => by
    refine e8 k (Nat.lt_of_lt_of_le hk hb.size) (by omega) (fun e => ?_)
    have := (hvb k e.symm).1
    omega
  have mem : ∀ y, Mem os N y W2 → Mem os N y (w7.setCell ⟨P, 0, none⟩ v') := fun y ⟨m1, m2, m3⟩ => by
    refine ⟨m1, m2, m3.1, m3.2.elim Or.inl ?_⟩
    rintro ⟨g', cap, cur, hv, hB, hh, rest⟩
    exact Or.inr ⟨g', cap, cur, hv, hB, (other g' cur _ hh (by decide) (by decide)).trans hh, rest⟩
  have hPne : ∀ k, v'.ownBlock = some k → k ≠ P := fun k hk e => by
    obtain ⟨_, c', hc'⟩ := RowsW.own_type h7 k hk
    have e7P := e7 P hPl (fun e' => by
      obtain ⟨_, c2, hc2⟩ := hvb P e'.symm
      rw [hPb] at hc2; simp only [Option.some.injEq, Obj.cells.injEq] at hc2; exact absurd hc2.2.1 (by decide))
    rw [e, e7P, hPb] at hc'
    simp only [Option.some.injEq, Obj.cells.injEq] at hc'
    exact absurd hc'.2.1 (by decide)
  refine ⟨⟨by rw [hz8]; omega, fun k o _ hk ho => ?_⟩, ⟨by rw [hz8]; omega, low bc hbc, low g hgl⟩, ⟨⟨v', ?_, ?_⟩, fun y hy => ?_, ?_⟩⟩
  · refine (e8 k (Array.getElem?_eq_some_iff.1 hk).1 (fun e => ?_) (fun e => ?_)).trans hk
    · rw [e, hPb] at hk; cases hk; cases ho
    · obtain ⟨_, c', hc'⟩ := hvb k e.symm
      rw [hk] at hc'; cases hc'; cases ho
  · have e7P := (e7 P hPl (fun e' => by
      obtain ⟨_, c2, hc2⟩ := hvb P e'.symm
      rw [hPb] at hc2; simp only [Option.some.injEq, Obj.cells.injEq] at hc2; exact absurd hc2.2.1 (by decide))).trans hPb
    show (w7.setCell ⟨P, 0, none⟩ _).heap[P]? = some (.cells #[_] 77)
    simp [World.setCell, Array.getElem?_modify, e7P]
  · rw [List.length_append, List.map_append]
    refine ⟨h7.1, h7.2.elim Or.inl ?_⟩
    rintro ⟨g'', cap'', cur, h', hB', hh, rest⟩
    refine Or.inr ⟨g'', cap'', cur, h', hB', ?_, rest⟩
    rw [Below.heap_setCell w7 ⟨P, 0, none⟩ v' g'' (hPne g'' (by rw [h']; rfl))]; exact hh
  · rcases List.mem_append.1 hy with h | h
    · exact mem y (hrows y h)
    · rw [List.mem_singleton.1 h]; exact mem x hM
  · refine Below.setCell ?_ hP _
    exact ((hb.alloc hb.size o1)).grown hg7 (by have := hb.size; simp; omega) (fun k e => (hvb k e).1)

set_option maxRecDepth 100000 in
set_option maxHeartbeats 2000000 in
theorem appendSeq_in (bc g N : Nat) (os : List ByteArray) (w : World) (hN : N ≤ 60) (hbc : w.cell? ⟨bc, 0, none⟩ = some (.slice (some ⟨g, 0, none⟩) N N)) (hr : RowAt w g 9 N (StringsW.scell os)) :
    CallsIn Fence.wide 8 Tryz.prog 66 #[.slice none 0 0, .func (.func 53) #[] #[.pointer (some ⟨bc, 0, none⟩)]] w fun e w' =>
      ∃ (v : Value) (xs : List Arg), e = .returned v ∧ xs.map Arg.i = firsts os N ∧ w'.ownsRow w.heap.size 61 1 v xs.length (xs.map (avl os N)) ∧ (∀ x ∈ xs, Mem os N x w') ∧ Below w.heap.size w w' := by
  have hbl := block_lt_of_cell hbc
  have hgl := hr.lt
  have HR := hide hr
  have HB := hide hbc
  clear hr hbc
  refine callsIn_of_wp_marks Tryz.func66 rfl trivial ?_ rfl
  simp only [Tryz.ntmps66, List.size_toArray, List.length_cons, List.length_nil, Nat.reduceAdd, Nat.reduceSub, Array.replicate_succ, Array.replicate_zero, List.push_toArray, List.append_toArray, List.nil_append, List.cons_append]
  gi_wp2_with fail
  obtain ⟨w5, hw5⟩ : ∃ w5, w5 = w.alloc (.cells #[.slice none 0 0] 77) := ⟨_, rfl⟩
  have b5 : Below w.heap.size w w5 := by rw [hw5]; exact bel1 w _
  have hz5 : w5.heap.size = w.heap.size + 1 := by rw [hw5]; simp
  have hINV : CInv w w.heap.size N os [] w5 := by
    refine ⟨⟨.slice none 0 0, by rw [hw5]; exact Boxed.new w _ _, World.ownsRow_nil _ _ _ _⟩, fun x hx => absurd hx (by simp), b5⟩
  rw [← hw5]
  have HB5 := hide b5
  have HINV := hide hINV
  clear hw5 b5 hINV
  refine RoundR.range_own (by decide) (gf := 53) (lb := #[.pointer (some ⟨bc, 0, none⟩)]) rfl (enters_of Tryz.func53 (by kernel_rfl) rfl) (N := N) (encs := encs os N) (fun _ => rfl)
    (CInv w w.heap.size N os) (Mem os N) (fun xs => xs.map Arg.i = firsts os N) (Kp bc g) Kp.trans ?kb (cinv_own w _ _ _ _ (by omega)) (mem_own _ _ _) (fun pre A A' h hb => cinv_below h hb) ?iter (unhide HINV) ?round ?done
  case kb =>
    intro W l o o' hl ho hc
    exact ⟨by simp, World.putObj_heap_other (by omega), World.putObj_heap_other (by omega)⟩
  case iter =>
    intro l J W hJ hW hY h0
    have hB : Below w.heap.size w W := (unhide HB5).trans (hW.mono (by omega))
    exact parts_iter _ l bc g N os (by decide) hN J W hJ hY ((hB.cell (p := ⟨bc, 0, none⟩) hbl).trans (unhide HB)) ((unhide HR).below hB hgl) h0
  case done =>
    intro D xs W hD hS hI hK
    obtain ⟨⟨v, hBP, hOwn⟩, hrows, hbel⟩ := hI
    have c0 := hBP.cell
    have HO := hide hOwn
    have HW := hide hrows
    have HBL := hide hbel
    have HS := hide hS
    clear hOwn hrows hbel hBP hS
    gi_wp2
    refine ⟨by simp, .inl ⟨_, _, rfl, run_takeDeferred hK, ?_⟩⟩
    exact ⟨_, results_tmp rfl _ _ _, v, xs, rfl, unhide HS, own_gb' (unhide HO) (grownBy_putObj' W D _) (fun k e => by cases e; exact ⟨_, hK, rfl⟩), fun x hx => ⟨(unhide HW x hx).1, (unhide HW x hx).2.1, own_gb' (unhide HW x hx).2.2 (grownBy_putObj' W D _) (fun k e => by cases e; exact ⟨_, hK, rfl⟩)⟩, (unhide HBL).grown (grownBy_putObj' W D _) (unhide HBL).size (fun k e => by cases e; omega)⟩
  case round =>
    intro l pre x W W2 hI hM hlen
    have hII := hide hI
    have hMM := hide hM
    obtain ⟨⟨v, hBP, hOwn⟩, hrows, hbel⟩ := hI
    have c0 := hBP.cell
    have hz := hbel.size
    have HO := hide hOwn
    have HSTEP := hide (fun w7 v' h7 hg7 => @cinv_step w W2 w7 w.heap.size N bc g os pre x v v' (.cells #[avl os N x] 61) (unhide hII) (unhide hMM) hBP hOwn (Nat.le_refl _) hbl hgl h7 hg7)
    have hPl : w.heap.size < W2.heap.size := block_lt_of_cell c0
    have hPB : Hid (∀ w7, (W2.alloc (.cells #[avl os N x] 61)).grownBy w7 v.ownBlock → w7.cell? ⟨w.heap.size, 0, none⟩ = some v ∧ w7.frozen? ⟨w.heap.size, 0, none⟩ = false) := fun w7 hg7 => by
      have hPb : W2.heap[w.heap.size]? = some (.cells #[v] 77) := hBP
      have e : w7.heap[w.heap.size]? = some (.cells #[v] 77) := by
        rw [hg7.block _ (by simp; omega) (fun e => ?_), Below.heap_alloc W2 _ _ hPl]; exact hPb
        obtain ⟨_, c2, hc2⟩ := RowsW.own_type hOwn _ e.symm
        rw [hPb] at hc2; simp only [Option.some.injEq, Obj.cells.injEq] at hc2; exact absurd hc2.2.1 (by decide)
      exact ⟨by simp [World.cell?, e], by simp [World.frozen?, e]⟩
    obtain ⟨va, vc, rfl⟩ := own_form hOwn
    obtain ⟨i0, hi0, hz0, hz1, hz2⟩ := info_ints
    have HI := hide hi0
    have HZ0 := hide hz0
    have HZ1 := hide hz1
    have HZ2 := hide hz2
    have own6 := hide (hOwn.alloc (.cells #[avl os N x] 61))
    unfold encs
    simp only [RoundR.fold1]
    have hav : avl os N x = .slice x.a (argL os N x).length x.c := rfl
    rw [hav] at own6 HSTEP hPB
    generalize (argL os N x).length = al at own6 HSTEP hPB ⊢
    clear hi0 hz0 hz1 hz2 hII hMM hOwn hBP hrows hbel hav
    gi_wp2_with fail
    refine ⟨trivial, ?_⟩
    gi_wp2_with (gi_at_builtin; go_loud (refine wpListIn_append_own _ rfl _ _ 77 rfl w.heap.size 61 i0 _ 1 24 Tryz.underlying77 (unhide HI) (unhide HZ0) (unhide HZ1) (unhide HZ2) rfl (by decide) _ _ _ rfl (unhide own6) ⟨W2.heap.size, 0, none⟩ 1 1 [.slice x.a al x.c] rfl rfl (RowsW.news_val W2 _ _) RowsW.one_slice (by unfold maxLen; omega) (by omega) (by simp; omega) ?_); intro v' w7 h7 hg7 _; obtain ⟨gv, cv, hv'⟩ := ownsRow_succ h7; subst hv'; have HF := hide (unhide HSTEP w7 _ h7 hg7); obtain ⟨e0, e1⟩ := unhide hPB w7 hg7; clear h7 hg7)
    exact unhide HF _

set_option maxRecDepth 10000 in
set_option maxHeartbeats 1000000 in
theorem collect_some (bc g N : Nat) (os : List ByteArray) (w : World) (hN : N ≤ 60) (hbc : w.cell? ⟨bc, 0, none⟩ = some (.slice (some ⟨g, 0, none⟩) N N)) (hr : RowAt w g 9 N (StringsW.scell os)) :
    Calls Tryz.prog 34 #[.func (.func 53) #[] #[.pointer (some ⟨bc, 0, none⟩)]] w fun e w' =>
      ∃ (v : Value) (xs : List Arg), e = .returned v ∧ xs.map Arg.i = firsts os N ∧ w'.ownsRow w.heap.size 61 1 v xs.length (xs.map (avl os N)) ∧ (∀ x ∈ xs, Mem os N x w') ∧ Below w.heap.size w w' := by
  have HA := hide (callsIn_wide.1 (appendSeq_in bc g N os w hN hbc hr))
  clear hbc hr
  go_enter Tryz.func34, Tryz.ntmps34
  go_wp2_with fail
  refine (unhide HA).mono ?_
  rintro e w1 ⟨v, xs, rfl, h1, h2, h3, h4⟩
  obtain ⟨va, vc, rfl⟩ := own_form h2
  have H1 := hide h1
  have H2 := hide h2
  have H3 := hide h3
  have H4 := hide h4
  clear h1 h2 h3 h4
  go_wp2
  go_ret
  exact ⟨_, xs, rfl, unhide H1, unhide H2, unhide H3, unhide H4⟩
end Merge
end Go.Proofs.YtghckjmpcokhcaaGreatDoor
