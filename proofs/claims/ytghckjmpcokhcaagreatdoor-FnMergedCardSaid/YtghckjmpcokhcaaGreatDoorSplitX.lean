/-
  The program's SplitKeys: the keys of each node, in rows of their own.
-/
import Derived.Test.YtghckjmpcokhcaaGreatDoorSplitZ
import Derived.Test.YtghckjmpcokhcaaGreatDoorRingUZ
import Derived.Test.YtghckjmpcokhcaaGreatDoorKeysI
import Derived.Test.YtghckjmpcokhcaaGreatDoorHashZ
import Derived.Test.YtghckjmpcokhcaaGreatDoorRingXZ
namespace Go.Proofs.YtghckjmpcokhcaaGreatDoor
namespace Split
open Go.RowKit Base Marks OwnR Ring KeysS Parts
set_option linter.unusedVariables false

attribute [local go_sem] Oper.semAt_some

theorem partsOf_in (n g N : Nat) (w : World) : CallsIn Fence.wide n Tryz.prog 24 #[.slice (some ⟨g, 0, none⟩) N N] w fun e w' => e = .returned (.func (.func 53) #[] #[.pointer (some ⟨w.heap.size, 0, none⟩)]) ∧ w' = w.alloc (.cells #[.slice (some ⟨g, 0, none⟩) N N] 24) := by
  refine callsIn_of_wp Tryz.func24 rfl trivial ?_ rfl
  simp only [Tryz.ntmps24, List.size_toArray, List.length_cons, List.length_nil, Nat.reduceAdd, Nat.reduceSub, Array.replicate_succ, Array.replicate_zero, List.push_toArray, List.append_toArray, List.nil_append, List.cons_append]
  gi_wp2
  go_ret
  exact ⟨rfl, rfl⟩

theorem str_pair' (s : ByteArray) (v : Value) (hv : v.oneCell' = true) : ∀ u ∈ [Value.string s, v], u.oneCell' = true := by
  intro u hu
  simp at hu
  rcases hu with rfl | rfl
  · rfl
  · exact hv
theorem news_two' {w : World} {t : TypeId} {s : ByteArray} {v : Value} (j : Nat) (u : Value) (hj : [Value.string s, v][j]? = some u) : (w.alloc (.cells #[.string s, v] t)).cell? ((⟨w.heap.size, 0, none⟩ : Addr).add j) = some u := by
  rw [Go.WideShapes.add_plain, Nat.zero_add, World.cell?_alloc_new]
  match j with
  | 0 => simpa using hj
  | 1 => simpa using hj
  | j + 2 => simp at hj
theorem box_after {W2 w6 w7 : World} {P n B : Nat} {v : Value} {p : Nat → Pt} {o1 : Obj} (hBP : Boxed W2 P 27 v) (hOut : Out W2 B v n p) (h6 : Below W2.heap.size W2 w6) (hg7 : (w6.alloc o1).grownBy w7 v.ownBlock) : w7.cell? ⟨P, 0, none⟩ = some v ∧ w7.frozen? ⟨P, 0, none⟩ = false := by
  have hPb : W2.heap[P]? = some (.cells #[v] 27) := hBP
  have hPl := (Array.getElem?_eq_some_iff.1 hPb).1
  have h1 : P < w6.heap.size := Nat.lt_of_lt_of_le hPl h6.size
  have e : w7.heap[P]? = some (.cells #[v] 27) := by
    rw [hg7.block P (by simp; omega) (fun e => ?_), Below.heap_alloc w6 o1 P h1, h6.block P hPl]; exact hPb
    rcases hOut.1.2 with ⟨rfl, _⟩ | ⟨g', cap, cur, rfl, _, hh, _⟩
    · simp [Value.ownBlock] at e
    · simp only [Value.ownBlock, Option.some.injEq] at e
      subst e
      rw [hPb] at hh; simp only [Option.some.injEq, Obj.cells.injEq] at hh; exact absurd hh.2.1 (by decide)
  exact ⟨by simp [World.cell?, e], by simp [World.frozen?, e]⟩
theorem cell_one_str (w : World) (t : TypeId) (s : ByteArray) : (w.alloc (.cells #[.string s] t)).cell? ⟨w.heap.size, 0, none⟩ = some (.string s) := by
  rw [World.cell?_alloc_new]; rfl
theorem own_elsewhere {w : World} {B b : Nat} {v : Value} {l : List ByteArray} (h : StrR.OwnV w B v l) (hb : b < B) {o : Nat} (u : Value) : StrR.OwnV (w.setCell ⟨b, o, none⟩ u) B v l := by
  refine ⟨h.1, h.2.elim Or.inl ?_⟩
  rintro ⟨g, cap, cur, hv, hB, hh, rest⟩
  exact Or.inr ⟨g, cap, cur, hv, hB, (Below.heap_setCell w ⟨b, o, none⟩ u g (by show g ≠ b; omega)).trans hh, rest⟩

set_option maxRecDepth 100000 in
set_option maxHeartbeats 4000000 in
theorem split_some (b off cap : Nat) (l : List Nodes.D) (kb ko kc : Nat) (ks : List ByteArray) (w : World) (hb : b < w.heap.size) (hc : ∀ i, i < l.length → Nodes.At w b (off + i * 2) (l.getD i Nodes.zero)) (hl : l.length ≤ maxLen) (hs : ∀ x ∈ l, Nodes.Fits x)
    (hkb : kb < w.heap.size) (hkc : ∀ i, i < ks.length → w.cell? ⟨kb, ko + i, none⟩ = some (.string (ks.getD i ByteArray.empty))) (hkl : ks.length ≤ maxLen) (hks : ∀ s ∈ ks, s.size ≤ maxLen) (hg : NodesM.gnB l = true) (hk : kB ks = true) (hv : Vars w) :
    CallsIn Fence.wide 8 Tryz.prog 6 #[.slice (some ⟨b, off, none⟩) l.length cap, .slice (some ⟨kb, ko, none⟩) ks.length kc] w fun e w' =>
      ∃ v n p, e = .returned (.tuple #[v, .bool true]) ∧ Out w' w.heap.size v n p ∧ Tells n p (parts (owners l ks) ks ks.length) ∧ Below w.heap.size w w' := by
  have HGN : Hid (∀ w1, Below w.heap.size w w1 → Calls Tryz.prog 21 #[.slice (some ⟨b, off, none⟩) l.length cap] w1 fun e w' => e = .returned (.bool true) ∧ Below w1.heap.size w1 w') := fun w1 hb1 => by
    have := NodesM.inodes_some b off cap l w1 (Nat.lt_of_lt_of_le hb hb1.size) (fun i hi => (hc i hi).below hb1 hb) hl hs
    rw [hg] at this; exact this
  have HGK : Hid (∀ w1, Below w.heap.size w w1 → Calls Tryz.prog 22 #[.slice (some ⟨kb, ko, none⟩) ks.length kc, .int .i64 0, .int .i64 60] w1 fun e w' => e = .returned (.bool true) ∧ Below w1.heap.size w1 w') := fun w1 hb1 => by
    have := KeysI.keys_any kb ko kc ks 0 60 w1 (Nat.lt_of_lt_of_le hkb hb1.size) (fun i hi => (hb1.cell (p := ⟨kb, ko + i, none⟩) hkb).trans (hkc i hi)) hkl hks
    rw [show (GoodKey.inB ks.length 0 60 && ks.all GoodCmd.gkb) = kB ks from rfl, hk] at this; exact this
  have HOW := hide (fun w1 (hb1 : Below w.heap.size w w1) => ownersOf_some b off cap l kb ko kc ks w1 (Nat.lt_of_lt_of_le hb hb1.size) (fun i hi => (hc i hi).below hb1 hb) hg (Nat.lt_of_lt_of_le hkb hb1.size) (fun i hi => (hb1.cell (p := ⟨kb, ko + i, none⟩) hkb).trans (hkc i hi)) hk (hv.below hb1))
  have HKC := hide hkc
  have hk60 := (kB_len hk).1
  have HKS := hide (fun k hkk => key_size hk (k := k) hkk)
  clear hc hl hs hkc hkl hks hg hk hv
  obtain ⟨os, hos⟩ : ∃ os, os = owners l ks := ⟨_, rfl⟩
  rw [← hos] at HOW ⊢
  clear hos
  refine callsIn_of_wp_marks Tryz.func6 rfl trivial ?_ rfl
  simp only [Tryz.ntmps6, List.size_toArray, List.length_cons, List.length_nil, Nat.reduceAdd, Nat.reduceSub, Array.replicate_succ, Array.replicate_zero, List.push_toArray, List.append_toArray, List.nil_append, List.cons_append]
  gi_wp2_with fail
  refine ⟨trivial, (callsIn_wide.2 (unhide HGN _ (bel1 w _))).mono ?_⟩
  rintro e w1 ⟨rfl, hb1⟩
  have B1 := hide (Below.trans (bel1 w _) (hb1.mono (by simp)))
  have BH : Boxed w1 w.heap.size 24 (.slice (some ⟨kb, ko, none⟩) ks.length kc) := (hb1.block _ (by simp)).trans (Boxed.new w _ _)
  have cH : w1.cell? ⟨w.heap.size, 0, none⟩ = some (.slice (some ⟨kb, ko, none⟩) ks.length kc) := by
    rw [hb1.cell (by simp)]; rw [World.cell?_alloc_new]; rfl
  clear hb1
  gi_wp2_with fail
  refine ⟨trivial, (callsIn_wide.2 (unhide HGK _ (unhide B1))).mono ?_⟩
  rintro e w2 ⟨rfl, hb2⟩
  have B2 := hide ((unhide B1).trans (hb2.mono (unhide B1).size))
  have cH2 := (hb2.cell (p := ⟨w.heap.size, 0, none⟩) (block_lt_of_cell cH)).trans cH
  have BH2 : Boxed w2 w.heap.size 24 (.slice (some ⟨kb, ko, none⟩) ks.length kc) := (hb2.block _ (block_lt_of_cell cH)).trans BH
  have hz2 := hb2.size
  have hH := block_lt_of_cell cH2
  clear hb2 cH
  gi_wp2_with fail
  have BP := Boxed.new w2 27 (.slice none 0 0)
  refine ⟨trivial, (callsIn_wide.2 (unhide HOW _ ((unhide B2).alloc (by omega) _))).mono ?_⟩
  rintro e w3 ⟨g, rfl, hg3, hr3, hb3⟩
  simp only [World.size_alloc] at hg3 hb3
  have B3 := hide (((unhide B2).alloc (by omega) _).trans (hb3.mono (by omega)))
  have BH3 : Boxed w3 w.heap.size 24 (.slice (some ⟨kb, ko, none⟩) ks.length kc) := (hb3.block _ (by omega)).trans (BH2.alloc _)
  have BP3 : Boxed w3 w2.heap.size 27 (.slice none 0 0) := (hb3.block _ (by simp)).trans BP
  have hz3 := hb3.size
  have hgl := hr3.lt
  have R3 := hide hr3
  clear hb3 hr3 cH2 BP BH BH2
  gi_wp2_with fail
  refine ⟨trivial, (partsOf_in 7 g ks.length _).mono ?_⟩
  rintro e w4 ⟨rfl, rfl⟩
  have hszO : (w3.alloc (.cells #[.slice (some ⟨g, 0, none⟩) ks.length ks.length] 24)).heap.size = w3.heap.size + 1 := World.size_alloc _ _
  obtain ⟨w5, hw5⟩ : ∃ w5, w5 = (w3.alloc (.cells #[.slice (some ⟨g, 0, none⟩) ks.length ks.length] 24)).alloc (.cells #[.slice (some ⟨g, 0, none⟩) ks.length ks.length] 24) := ⟨_, rfl⟩
  have BO : Boxed w5 w3.heap.size 24 (.slice (some ⟨g, 0, none⟩) ks.length ks.length) := by rw [hw5]; exact (Boxed.new w3 _ _).alloc _
  have BB : Boxed w5 (w3.heap.size + 1) 24 (.slice (some ⟨g, 0, none⟩) ks.length ks.length) := by rw [hw5]; have := Boxed.new (w3.alloc (.cells #[.slice (some ⟨g, 0, none⟩) ks.length ks.length] 24)) 24 (.slice (some ⟨g, 0, none⟩) ks.length ks.length); rwa [hszO] at this
  have b35 : Below w3.heap.size w3 w5 := by rw [hw5]; exact bel2 w3 _ _
  have BP5 : Boxed w5 w2.heap.size 27 (.slice none 0 0) := (b35.block _ (Array.getElem?_eq_some_iff.1 (show w3.heap[w2.heap.size]? = _ from BP3)).1).trans BP3
  have hz5 : w5.heap.size = w3.heap.size + 2 := by rw [hw5]; simp
  have BH5 : Boxed w5 w.heap.size 24 (.slice (some ⟨kb, ko, none⟩) ks.length kc) := (b35.block _ (Array.getElem?_eq_some_iff.1 (show w3.heap[w.heap.size]? = _ from BH3)).1).trans BH3
  have hINV : Inv w w2.heap.size w.heap.size w3.heap.size (w3.heap.size + 1) g ks.length kb ko kc os ks [] w5 :=
    ⟨⟨_, 0, fun _ => ⟨ByteArray.empty, 0, 0, []⟩, BP5, Out.nil _ _ _, rfl, fun i hi => absurd hi (by omega)⟩, BH5, BO, BB, (unhide R3).below b35 hgl, (unhide B3).trans (b35.mono (unhide B3).size)⟩
  have hBm : w.heap.size ≤ w5.heap.size := by have := (unhide B3).size; omega
  rw [← hw5]
  have hBB := hide BB
  have HINV := hide hINV
  clear BO BB b35 BP5 BH5 hw5 hINV hszO BP3 BH3 R3
  gi_wp2_with fail
  refine RoundR.range_own (by decide) (gf := 53) (lb := #[.pointer (some ⟨w3.heap.size + 1, 0, none⟩)]) rfl (enters_of Tryz.func53 (by kernel_rfl) rfl) (N := ks.length) (encs := encs os ks.length) (fun _ => rfl)
    (Inv w w2.heap.size w.heap.size w3.heap.size (w3.heap.size + 1) g ks.length kb ko kc os ks) (Mem os ks.length) (fun xs => xs.map Arg.i = firsts os ks.length) (Kp (w3.heap.size + 1) g) Kp.trans ?kb (inv_own w _ _ _ _ _ _ _ _ _ _ _ _ hBm) (mem_own _ _ _) (fun pre A A' h hb => inv_below h hb) ?iter (unhide HINV) ?round ?done
  case kb =>
    intro W l o o' hl ho hc
    exact ⟨by simp, World.putObj_heap_other (by omega), World.putObj_heap_other (by omega)⟩
  case iter =>
    intro l J W hJ hW hY h0
    exact parts_iter _ l (w3.heap.size + 1) g ks.length os (by decide) hk60 J W hJ hY (((hW.cell (p := ⟨w3.heap.size + 1, 0, none⟩) (by show w3.heap.size + 1 < _; omega))).trans (unhide hBB).cell) (((unhide HINV).row).below hW ((unhide HINV).row).lt) h0
  case done =>
    intro D xs W hD hS hI hK
    have hII := hI
    obtain ⟨⟨v, n, p, hBP, hOut, hTl⟩, hBH, hBO, hBc, hrow, hbel⟩ := hI
    have c0 := hBP.cell
    have HT : Hid (Tells n p (parts os ks ks.length)) := by
      rw [hS] at hTl; exact hTl
    have HO := hide hOut
    have HB := hide hbel
    clear hTl hOut hbel hrow hBH hBO hBP hS hII hBc
    gi_wp2
    refine ⟨by simp, .inl ⟨_, _, rfl, run_takeDeferred hK, ?_⟩⟩
    exact ⟨_, results_tmp2 rfl _ _ _, v, n, p, rfl, out_gb (unhide HO) (grownBy_putObj' W D _) (fun k e => by cases e; exact ⟨_, hK, rfl⟩), unhide HT, (unhide HB).grown (grownBy_putObj' W D _) (unhide HB).size (fun k e => by cases e; omega)⟩
  case round =>
    intro l pre x W W2 hI hM hlen
    obtain ⟨xi, xa, xc⟩ := x
    obtain ⟨hi1, hi2, hown⟩ := hM
    have hII := hI
    obtain ⟨⟨v, n, p, hBP, hOut, hTl⟩, hBH, hBO, hBc, hrow, hbel⟩ := hI
    have hpos : 0 < (places os ks.length (ow os xi)).length := List.length_pos_of_mem (places_mem.2 ⟨hi1, rfl⟩)
    have hple := places_le os ks.length (ow os xi)
    have HMEM := hide (fun j => @places_mem os ks.length j (ow os xi))
    have hown' : W2.ownsRow 0 3 1 (.slice xa (places os ks.length (ow os xi)).length xc) (places os ks.length (ow os xi)).length (Ints.cells (nums (places os ks.length (ow os xi)))) := hown
    clear hown
    have HPART : Hid (partAt os ks ks.length xi = ⟨ow os xi, (places os ks.length (ow os xi)).map (ow ks)⟩) := rfl
    unfold encs argL
    simp only [RoundR.fold1]
    generalize places os ks.length (ow os xi) = L at hpos hple HMEM hown' HPART
    obtain ⟨gp, xc', hv, -, hlc, hgpl⟩ := own_some hown' hpos
    simp only [Value.slice.injEq, true_and] at hv
    obtain ⟨rfl, rfl⟩ := hv
    have hcell : ∀ j, j < L.length → W2.cell? ⟨gp, j, none⟩ = some (.int .i64 ((L.getD j 0 : Nat) : Int)) := fun j hj => cell_own hown' j _ (by
      rw [Ints.cells_get _ _ (by rw [nums_len]; exact hj)]
      simp [Ints.ncell, nums, List.getD_eq_getElem?_getD, List.getElem?_eq_getElem hj])
    have hmem0 := (unhide HMEM (L.getD 0 0)).1 (by rw [List.getD_eq_getElem?_getD, List.getElem?_eq_getElem hpos]; exact List.getElem_mem _)
    have c8 := hcell 0 hpos
    have cO := hBO.cell
    have cg : W2.cell? ⟨g, L.getD 0 0, none⟩ = some (.string (ow os xi)) := by
      rw [hrow.cell hmem0.1]; show some (Value.string (ow os _)) = _; rw [hmem0.2]
    have hi0 := hmem0.1
    clear hmem0
    generalize L.getD 0 0 = i0 at c8 cg hi0
    gi_wp2_with fail
    refine RoundR.held_round (S := fun Y => Y.cell? ⟨w3.heap.size, 0, none⟩ = some (.slice (some ⟨g, 0, none⟩) ks.length ks.length) ∧ Y.cell? ⟨gp, 0, none⟩ = some (.int .i64 (i0 : Int)) ∧ Y.cell? ⟨g, i0, none⟩ = some (.string (ow os xi))) (by kernel_rfl) (by rintro ⟨_, _, h⟩; exact h) (RoundR.no_defer (by kernel_rfl)) ⟨cO, c8, cg⟩ (fun hHeld => ?_)
    refine wpAnyH_take (i := 0) (v := ?v7q0) rfl (by kernel_rfl) (by kernel_rfl) (by kernel_rfl) (fun _ _ _ h => h) (Or.inl ⟨by rfl, ?y7q0⟩) hHeld ?r7q0
    case y7q0 =>
      intro Y hY
      obtain ⟨y1, y2, y3⟩ := hY
      go_simp
      try with_reducible rfl
    simp only [Act.put]
    refine wpAnyH_take (i := 1) (v := ?v7q1) rfl (by kernel_rfl) (by kernel_rfl) (by kernel_rfl) (fun _ _ _ h => h) (Or.inl ⟨by rfl, ?y7q1⟩) hHeld ?r7q1
    case y7q1 =>
      intro Y hY
      obtain ⟨y1, y2, y3⟩ := hY
      go_simp
      try with_reducible rfl
    simp only [Act.put]
    refine wpAnyH_take (i := 2) (v := ?v7q2) rfl (by kernel_rfl) (by kernel_rfl) (by kernel_rfl) (fun _ _ _ h => h) (Or.inl ⟨by rfl, ?y7q2⟩) hHeld ?r7q2
    case y7q2 =>
      intro Y hY
      obtain ⟨y1, y2, y3⟩ := hY
      go_simp
      try with_reducible rfl
    simp only [Act.put]
    refine wpAnyH_take (i := 3) (v := ?v7q3) rfl (by kernel_rfl) (by kernel_rfl) (by kernel_rfl) (fun _ _ _ h => h) (Or.inl ⟨by rfl, ?y7q3⟩) hHeld ?r7q3
    case y7q3 =>
      intro Y hY
      obtain ⟨y1, y2, y3⟩ := hY
      go_simp
      try with_reducible rfl
    simp only [Act.put]
    refine wpAnyH_take (i := 4) (v := ?v7q4) rfl (by kernel_rfl) (by kernel_rfl) (by kernel_rfl) (fun _ _ _ h => h) (Or.inl ⟨by rfl, ?y7q4⟩) hHeld ?r7q4
    case y7q4 =>
      intro Y hY
      obtain ⟨y1, y2, y3⟩ := hY
      go_simp
      try with_reducible rfl
    simp only [Act.put]
    refine wpAnyH_take (i := 5) (v := ?v7q5) rfl (by kernel_rfl) (by kernel_rfl) (by kernel_rfl) (fun _ _ _ h => h) (Or.inl ⟨by rfl, ?y7q5⟩) hHeld ?r7q5
    case y7q5 =>
      intro Y hY
      obtain ⟨y1, y2, y3⟩ := hY
      go_simp
      try with_reducible rfl
    simp only [Act.put]
    refine wpAnyH_take (i := 6) (v := ?v7q6) rfl (by kernel_rfl) (by kernel_rfl) (by kernel_rfl) (fun _ _ _ h => h) (Or.inl ⟨by rfl, ?y7q6⟩) hHeld ?r7q6
    case y7q6 =>
      intro Y hY
      obtain ⟨y1, y2, y3⟩ := hY
      go_simp
      try with_reducible rfl
    simp only [Act.put]
    refine wpAnyH_ready (rs := [7]) (by kernel_rfl) (by simp) ?_
    refine AllReadyH.cons (o := _) rfl (fun K hK => ?_) AllReadyH.nil
    go_simp
    refine hK.out _ _ ⟨(World.cell?_alloc_lt W2 _ _ (block_lt_of_cell cO)).trans cO, (World.cell?_alloc_lt W2 _ _ (block_lt_of_cell c8)).trans c8, (World.cell?_alloc_lt W2 _ _ (block_lt_of_cell cg)).trans cg⟩ (fun hHeld2 => ?_)
    clear hK K hHeld
    refine wpAnyH_ready (rs := [8]) (by kernel_rfl) (by simp) ?_
    refine AllReadyH.cons (o := _) rfl (fun K hK => ?_) AllReadyH.nil
    go_simp
    refine hK.out _ _ ⟨(World.cell?_alloc_lt W2 _ _ (block_lt_of_cell cO)).trans cO, (World.cell?_alloc_lt W2 _ _ (block_lt_of_cell c8)).trans c8, (World.cell?_alloc_lt W2 _ _ (block_lt_of_cell cg)).trans cg⟩ (fun hHeld3 => ?_)
    clear hK K hHeld2 hHeld3
    refine wpAnyH_done (by kernel_rfl) ?_ _
    have PB0 : Hid (PB (W2.alloc (.cells #[.string (ow os xi), .slice none 0 0] 31)).drew W2.heap.size (ow os xi) (.slice none 0 0)) := heap_alloc_new W2 _
    have BB0 : Hid (Below W2.heap.size W2 (W2.alloc (.cells #[.string (ow os xi), .slice none 0 0] 31)).drew) := (bel1 W2 _).drew
    generalize (W2.alloc (.cells #[.string (ow os xi), .slice none 0 0] 31)).drew = V at PB0 BB0 ⊢
    have hPn : w.heap.size ≤ w2.heap.size := Nat.le_of_lt hH
    have hHl := block_lt_of_cell hBH.cell
    have hcH0 := hBH.cell
    have hkl : kb < W2.heap.size := Nat.lt_of_lt_of_le hkb hbel.size
    have HCELL := hide hcell
    have HBEL := hide hbel
    generalize hnd : ow os xi = nd at PB0 cg HPART HMEM
    clear cO c8 cg hcell hi0
    gi_wp2_with fail
    gi_loopw [35] (fun jv wr => ∃ (j : Nat) (kv : Value), j ≤ L.length ∧ jv = .int .i64 (j : Int) ∧ Hid (PB wr W2.heap.size nd kv) ∧ Hid (StrR.OwnV wr (W2.heap.size + 1) kv ((L.take j).map (ow ks))) ∧ Hid (Below W2.heap.size W2 wr)) (fun jv _ => L.length - (intOf jv).toNat)
    case atStart => exact ⟨0, .slice none 0 0, Nat.zero_le _, rfl, PB0, hide (World.ownsRow_nil _ _ _ _), BB0⟩
    case round =>
      clear PB0 BB0
      obtain ⟨j, kv, hj, rfl, hpb, hown, hbel⟩ := hrel
      obtain ⟨d0, d1, df, dl⟩ := (unhide hpb).c0
      by_cases hjl : j < L.length
      · have cj := ((unhide hbel).cell (p := ⟨gp, j, none⟩) hgpl).trans (unhide HCELL j hjl)
        have hmj := (unhide HMEM (L.getD j 0)).1 (by rw [List.getD_eq_getElem?_getD, List.getElem?_eq_getElem hjl]; exact List.getElem_mem _)
        have hij := hmj.1
        have hstep : Hid ((L.take (j + 1)).map (ow ks) = (L.take j).map (ow ks) ++ [ow ks (L.getD j 0)]) := by
          show _ = _
          rw [List.take_succ_eq_append_getElem hjl, List.map_append, List.getD_eq_getElem?_getD, List.getElem?_eq_getElem hjl]; rfl
        have hkz := unhide HKS _ hij
        have hck0 : W2.cell? ⟨kb, ko + L.getD j 0, none⟩ = some (.string (ow ks (L.getD j 0))) := ((unhide HBEL).cell (p := ⟨kb, ko + L.getD j 0, none⟩) hkb).trans (unhide HKC _ hij)
        have hkz : (ow ks (L.getD j 0)).size ≤ 30 := hkz
        clear hmj
        generalize L.getD j 0 = ij at cj hij hstep hkz hck0
        generalize ow ks ij = key at hstep hkz hck0
        have hKl : ((L.take j).map (ow ks)).length ≤ 60 := by rw [List.length_map, List.length_take]; omega
        generalize (L.take j).map (ow ks) = KL at hown hstep hKl
        have cH := ((unhide hbel).cell (p := ⟨w.heap.size, 0, none⟩) hHl).trans hcH0
        have ck0 := ((unhide hbel).cell (p := ⟨kb, ko + ij, none⟩) hkl).trans hck0
        have hvk := own_block (unhide hown)
        have hkbl : kb < wr.heap.size := block_lt_of_cell ck0
        gi_wp2_with fail
        refine RoundR.held_round (S := fun Y => Y.cell? ⟨w.heap.size, 0, none⟩ = some (.slice (some ⟨kb, ko, none⟩) ks.length kc) ∧ Y.cell? ⟨kb, ko + ij, none⟩ = some (.string key)) (by kernel_rfl) (by rintro ⟨_, _, h⟩; exact h) (RoundR.no_defer (by kernel_rfl)) ⟨cH, ck0⟩ (fun hHeld => ?_)
        refine wpAnyH_take (i := 0) (v := ?v9q0) rfl (by kernel_rfl) (by kernel_rfl) (by kernel_rfl) (fun _ _ _ h => h) (Or.inl ⟨by rfl, ?y9q0⟩) hHeld ?r9q0
        case y9q0 =>
          intro Y hY
          obtain ⟨y1, y2⟩ := hY
          go_simp
          try with_reducible rfl
        simp only [Act.put]
        refine wpAnyH_take (i := 2) (v := ?v9q2) rfl (by kernel_rfl) (by kernel_rfl) (by kernel_rfl) (fun _ _ _ h => h) (Or.inl ⟨by rfl, ?y9q2⟩) hHeld ?r9q2
        case y9q2 =>
          intro Y hY
          obtain ⟨y1, y2⟩ := hY
          go_simp
          try with_reducible rfl
        simp only [Act.put]
        refine wpAnyH_take (i := 3) (v := ?v9q3) rfl (by kernel_rfl) (by kernel_rfl) (by kernel_rfl) (fun _ _ _ h => h) (Or.inl ⟨by rfl, ?y9q3⟩) hHeld ?r9q3
        case y9q3 =>
          intro Y hY
          obtain ⟨y1, y2⟩ := hY
          go_simp
          try with_reducible rfl
        simp only [Act.put]
        refine wpAnyH_take (i := 4) (v := ?v9q4) rfl (by kernel_rfl) (by kernel_rfl) (by kernel_rfl) (fun _ _ _ h => h) (Or.inl ⟨by rfl, ?y9q4⟩) hHeld ?r9q4
        case y9q4 =>
          intro Y hY
          obtain ⟨y1, y2⟩ := hY
          go_simp
          try with_reducible rfl
        simp only [Act.put]
        refine wpAnyH_take (i := 5) (v := ?v9q5) rfl (by kernel_rfl) (by kernel_rfl) (by kernel_rfl) (fun _ _ _ h => h) (Or.inl ⟨by rfl, ?y9q5⟩) hHeld ?r9q5
        case y9q5 =>
          intro Y hY
          obtain ⟨y1, y2⟩ := hY
          go_simp
          try with_reducible rfl
        simp only [Act.put]
        refine wpAnyH_ready (rs := [1, 6]) (by kernel_rfl) (by simp) ?_
        refine AllReadyH.cons (o := _) rfl (fun K hK => ?_) (AllReadyH.cons (o := _) rfl (fun K hK => ?_) AllReadyH.nil)
        · -- the keys are loaded first
          go_simp
          refine hK.out _ _ ⟨cH, ck0⟩ (fun hHeld1 => ?_)
          clear hK K
          refine wpAnyH_ready (rs := [6]) (by kernel_rfl) (by simp) ?_
          refine AllReadyH.cons (o := _) rfl (fun K hK => ?_) AllReadyH.nil
          go_simp
          refine (CloneS.clone_any key _ (by omega)).mono ?_
          rintro e w6 ⟨rfl, hb6⟩
          have hb6 : Below wr.heap.size wr w6 := Below.trans (Below.refl wr.heap.size wr).drew hb6
          have BL6 := hide ((unhide hbel).trans (hb6.mono (unhide hbel).size))
          have PB6 := hide ((unhide hpb).block (hb6.block _ dl))
          have OW6 : Hid (StrR.OwnV w6 (W2.heap.size + 1) kv KL) := own_below (unhide hown) hb6 (Nat.le_refl _)
          clear hb6
          refine hK.out _ _ ⟨((unhide BL6).cell (p := ⟨w.heap.size, 0, none⟩) hHl).trans hcH0, ((unhide BL6).cell (p := ⟨kb, ko + ij, none⟩) hkl).trans hck0⟩ (fun hHeld6 => ?_)
          clear hK K hHeld1
          refine wpAnyH_ready (rs := [7]) (by kernel_rfl) (by simp) ?_
          refine AllReadyH.cons (o := _) rfl (fun K hK => ?_) AllReadyH.nil
          go_simp
          have BLX := hide ((unhide BL6).alloc (unhide BL6).size (.cells #[.string key] 9))
          have HPX := hide ((unhide PB6).block (Below.heap_alloc w6 (.cells #[.string key] 9) _ (unhide PB6).c0.2.2.2))
          have OW : Hid (StrR.OwnV (w6.alloc (.cells #[.string key] 9)) (W2.heap.size + 1) kv KL) := own_below (unhide OW6) (bel1 w6 _) (Nat.le_refl _)
          have cbb := hide (cell_one_str w6 9 key)
          refine hK.out _ _ ⟨((unhide BLX).cell (p := ⟨w.heap.size, 0, none⟩) hHl).trans hcH0, ((unhide BLX).cell (p := ⟨kb, ko + ij, none⟩) hkl).trans hck0⟩ (fun hHeld7 => ?_)
          clear hK K hHeld6 BL6 PB6 OW6
          refine wpAnyH_ready (rs := [8]) (by kernel_rfl) (by simp) ?_
          refine AllReadyH.cons (o := _) rfl (fun K8 hK8 => ?_) AllReadyH.nil
          refine StrR.step_one _ rfl (.tmp 40) (.tmp 46) rfl (W2.heap.size + 1) kv KL rfl (unhide OW) _ 0 key rfl (unhide cbb) (by omega) (by have := (unhide BLX).size; have := (unhide HPX).c0.2.2.2; omega) ?_
          intro gk ck w8 hown8 hg8
          have PB8 := hide ((unhide HPX).block (hg8.block W2.heap.size (unhide HPX).c0.2.2.2 (fun e => by have := hvk _ e.symm; omega)))
          have BL8 := hide ((unhide BLX).grown hg8 (unhide BLX).size (fun q e => by have := hvk q e; omega))
          have OW8 := hide hown8
          have cH8 : w8.cell? ⟨w.heap.size, 0, none⟩ = some (.slice (some ⟨kb, ko, none⟩) ks.length kc) := ((unhide BL8).cell (p := ⟨w.heap.size, 0, none⟩) hHl).trans hcH0
          have ck8 : w8.cell? ⟨kb, ko + ij, none⟩ = some (.string key) := ((unhide BL8).cell (p := ⟨kb, ko + ij, none⟩) hkl).trans hck0
          clear hown8 hg8 OW HPX BLX cbb
          refine hK8.out _ _ ⟨cH8, ck8⟩ (fun hHeld8 => ?_)
          clear hK8 K8
          obtain ⟨d80, d81, d8f, d8l⟩ := (unhide PB8).c0
          refine wpAnyH_ready (rs := [9]) (by kernel_rfl) (by simp) ?_
          refine AllReadyH.cons (o := _) rfl (fun K9 hK9 => ?_) AllReadyH.nil
          go_simp
          refine hK9.out _ _ hHeld8 (fun hHeld9 => ?_)
          clear hK9 K9 hHeld9
          refine wpAnyH_ready (rs := [10]) (by kernel_rfl) (by simp) ?_
          refine AllReadyH.cons (o := _) rfl (fun K10 hK10 => ?_) AllReadyH.nil
          go_simp
          have PB10 := hide ((unhide PB8).set (.slice (some ⟨gk, 0, none⟩) (KL.length + 1) ck))
          have BL10 := hide ((unhide BL8).setCell (p := ⟨W2.heap.size, 1, none⟩) (Nat.le_refl _) (.slice (some ⟨gk, 0, none⟩) (KL.length + 1) ck))
          have OW10 : Hid (StrR.OwnV (w8.setCell ⟨W2.heap.size, 1, none⟩ (.slice (some ⟨gk, 0, none⟩) (KL.length + 1) ck)) (W2.heap.size + 1) (.slice (some ⟨gk, 0, none⟩) (KL.length + 1) ck) (KL ++ [key])) := own_elsewhere (unhide OW8) (by omega) _
          refine hK10.out _ _ ⟨((unhide BL10).cell (p := ⟨w.heap.size, 0, none⟩) hHl).trans hcH0, ((unhide BL10).cell (p := ⟨kb, ko + ij, none⟩) hkl).trans hck0⟩ (fun hHeld10 => ?_)
          generalize w8.setCell ⟨W2.heap.size, 1, none⟩ (.slice (some ⟨gk, 0, none⟩) (KL.length + 1) ck) = w10 at PB10 BL10 OW10 hHeld10 ⊢
          clear hK10 K10 hHeld8 hHeld10 PB8 BL8 OW8 cH8 ck8 d80 d81 d8f d8l
          refine wpAnyH_done (by kernel_rfl) ?_ _
          have OWN : Hid (StrR.OwnV w10 (W2.heap.size + 1) (.slice (some ⟨gk, 0, none⟩) (KL.length + 1) ck) ((L.take (j + 1)).map (ow ks))) := by rw [unhide hstep]; exact unhide OW10
          gi_wp2
          go_roundw
          case rel => exact ⟨j + 1, _, by omega, by go_num, PB10, OWN, BL10⟩
          case measure => simp [intOf]; omega
        · -- the key is copied first
          go_simp
          refine (CloneS.clone_any key _ (by omega)).mono ?_
          rintro e w6 ⟨rfl, hb6⟩
          have hb6 : Below wr.heap.size wr w6 := Below.trans (Below.refl wr.heap.size wr).drew hb6
          have BL6 := hide ((unhide hbel).trans (hb6.mono (unhide hbel).size))
          have PB6 := hide ((unhide hpb).block (hb6.block _ dl))
          have OW6 : Hid (StrR.OwnV w6 (W2.heap.size + 1) kv KL) := own_below (unhide hown) hb6 (Nat.le_refl _)
          clear hb6
          obtain ⟨d60, d61, d6f, d6l⟩ := (unhide PB6).c0
          refine hK.out _ _ ⟨((unhide BL6).cell (p := ⟨w.heap.size, 0, none⟩) hHl).trans hcH0, ((unhide BL6).cell (p := ⟨kb, ko + ij, none⟩) hkl).trans hck0⟩ (fun hHeld6 => ?_)
          clear hK K
          refine wpAnyH_ready (rs := [1, 7]) (by kernel_rfl) (by simp) ?_
          refine AllReadyH.cons (o := _) rfl (fun K hK => ?_) (AllReadyH.cons (o := _) rfl (fun K hK => ?_) AllReadyH.nil)
          · go_simp
            refine hK.out _ _ hHeld6 (fun hHeld1 => ?_)
            clear hK K
            refine wpAnyH_ready (rs := [7]) (by kernel_rfl) (by simp) ?_
            refine AllReadyH.cons (o := _) rfl (fun K hK => ?_) AllReadyH.nil
            go_simp
            have BLX := hide ((unhide BL6).alloc (unhide BL6).size (.cells #[.string key] 9))
            have HPX := hide ((unhide PB6).block (Below.heap_alloc w6 (.cells #[.string key] 9) _ (unhide PB6).c0.2.2.2))
            have OW : Hid (StrR.OwnV (w6.alloc (.cells #[.string key] 9)) (W2.heap.size + 1) kv KL) := own_below (unhide OW6) (bel1 w6 _) (Nat.le_refl _)
            have cbb := hide (cell_one_str w6 9 key)
            refine hK.out _ _ ⟨((unhide BLX).cell (p := ⟨w.heap.size, 0, none⟩) hHl).trans hcH0, ((unhide BLX).cell (p := ⟨kb, ko + ij, none⟩) hkl).trans hck0⟩ (fun hHeld7 => ?_)
            clear hK K hHeld6 hHeld1 BL6 PB6 OW6 d60 d61 d6f d6l
            refine wpAnyH_ready (rs := [8]) (by kernel_rfl) (by simp) ?_
            refine AllReadyH.cons (o := _) rfl (fun K8 hK8 => ?_) AllReadyH.nil
            refine StrR.step_one _ rfl (.tmp 40) (.tmp 46) rfl (W2.heap.size + 1) kv KL rfl (unhide OW) _ 0 key rfl (unhide cbb) (by omega) (by have := (unhide BLX).size; have := (unhide HPX).c0.2.2.2; omega) ?_
            intro gk ck w8 hown8 hg8
            have PB8 := hide ((unhide HPX).block (hg8.block W2.heap.size (unhide HPX).c0.2.2.2 (fun e => by have := hvk _ e.symm; omega)))
            have BL8 := hide ((unhide BLX).grown hg8 (unhide BLX).size (fun q e => by have := hvk q e; omega))
            have OW8 := hide hown8
            have cH8 : w8.cell? ⟨w.heap.size, 0, none⟩ = some (.slice (some ⟨kb, ko, none⟩) ks.length kc) := ((unhide BL8).cell (p := ⟨w.heap.size, 0, none⟩) hHl).trans hcH0
            have ck8 : w8.cell? ⟨kb, ko + ij, none⟩ = some (.string key) := ((unhide BL8).cell (p := ⟨kb, ko + ij, none⟩) hkl).trans hck0
            clear hown8 hg8 OW HPX BLX cbb
            refine hK8.out _ _ ⟨cH8, ck8⟩ (fun hHeld8 => ?_)
            clear hK8 K8
            obtain ⟨d80, d81, d8f, d8l⟩ := (unhide PB8).c0
            refine wpAnyH_ready (rs := [9]) (by kernel_rfl) (by simp) ?_
            refine AllReadyH.cons (o := _) rfl (fun K9 hK9 => ?_) AllReadyH.nil
            go_simp
            refine hK9.out _ _ hHeld8 (fun hHeld9 => ?_)
            clear hK9 K9 hHeld9
            refine wpAnyH_ready (rs := [10]) (by kernel_rfl) (by simp) ?_
            refine AllReadyH.cons (o := _) rfl (fun K10 hK10 => ?_) AllReadyH.nil
            go_simp
            have PB10 := hide ((unhide PB8).set (.slice (some ⟨gk, 0, none⟩) (KL.length + 1) ck))
            have BL10 := hide ((unhide BL8).setCell (p := ⟨W2.heap.size, 1, none⟩) (Nat.le_refl _) (.slice (some ⟨gk, 0, none⟩) (KL.length + 1) ck))
            have OW10 : Hid (StrR.OwnV (w8.setCell ⟨W2.heap.size, 1, none⟩ (.slice (some ⟨gk, 0, none⟩) (KL.length + 1) ck)) (W2.heap.size + 1) (.slice (some ⟨gk, 0, none⟩) (KL.length + 1) ck) (KL ++ [key])) := own_elsewhere (unhide OW8) (by omega) _
            refine hK10.out _ _ ⟨((unhide BL10).cell (p := ⟨w.heap.size, 0, none⟩) hHl).trans hcH0, ((unhide BL10).cell (p := ⟨kb, ko + ij, none⟩) hkl).trans hck0⟩ (fun hHeld10 => ?_)
            generalize w8.setCell ⟨W2.heap.size, 1, none⟩ (.slice (some ⟨gk, 0, none⟩) (KL.length + 1) ck) = w10 at PB10 BL10 OW10 hHeld10 ⊢
            clear hK10 K10 hHeld8 hHeld10 PB8 BL8 OW8 cH8 ck8 d80 d81 d8f d8l
            refine wpAnyH_done (by kernel_rfl) ?_ _
            have OWN : Hid (StrR.OwnV w10 (W2.heap.size + 1) (.slice (some ⟨gk, 0, none⟩) (KL.length + 1) ck) ((L.take (j + 1)).map (ow ks))) := by rw [unhide hstep]; exact unhide OW10
            gi_wp2
            go_roundw
            case rel => exact ⟨j + 1, _, by omega, by go_num, PB10, OWN, BL10⟩
            case measure => simp [intOf]; omega
          · go_simp
            have BLX := hide ((unhide BL6).alloc (unhide BL6).size (.cells #[.string key] 9))
            have HPX := hide ((unhide PB6).block (Below.heap_alloc w6 (.cells #[.string key] 9) _ (unhide PB6).c0.2.2.2))
            have OW : Hid (StrR.OwnV (w6.alloc (.cells #[.string key] 9)) (W2.heap.size + 1) kv KL) := own_below (unhide OW6) (bel1 w6 _) (Nat.le_refl _)
            have cbb := hide (cell_one_str w6 9 key)
            refine hK.out _ _ ⟨((unhide BLX).cell (p := ⟨w.heap.size, 0, none⟩) hHl).trans hcH0, ((unhide BLX).cell (p := ⟨kb, ko + ij, none⟩) hkl).trans hck0⟩ (fun hHeld7 => ?_)
            have d71 := (unhide HPX).c0.2.1
            clear hK K hHeld6 BL6 PB6 OW6 d60 d61 d6f d6l
            refine wpAnyH_ready (rs := [1]) (by kernel_rfl) (by simp) ?_
            refine AllReadyH.cons (o := _) rfl (fun K hK => ?_) AllReadyH.nil
            go_simp
            refine hK.out _ _ hHeld7 (fun hHeld1 => ?_)
            clear hK K d71
            refine wpAnyH_ready (rs := [8]) (by kernel_rfl) (by simp) ?_
            refine AllReadyH.cons (o := _) rfl (fun K8 hK8 => ?_) AllReadyH.nil
            refine StrR.step_one _ rfl (.tmp 40) (.tmp 46) rfl (W2.heap.size + 1) kv KL rfl (unhide OW) _ 0 key rfl (unhide cbb) (by omega) (by have := (unhide BLX).size; have := (unhide HPX).c0.2.2.2; omega) ?_
            intro gk ck w8 hown8 hg8
            have PB8 := hide ((unhide HPX).block (hg8.block W2.heap.size (unhide HPX).c0.2.2.2 (fun e => by have := hvk _ e.symm; omega)))
            have BL8 := hide ((unhide BLX).grown hg8 (unhide BLX).size (fun q e => by have := hvk q e; omega))
            have OW8 := hide hown8
            have cH8 : w8.cell? ⟨w.heap.size, 0, none⟩ = some (.slice (some ⟨kb, ko, none⟩) ks.length kc) := ((unhide BL8).cell (p := ⟨w.heap.size, 0, none⟩) hHl).trans hcH0
            have ck8 : w8.cell? ⟨kb, ko + ij, none⟩ = some (.string key) := ((unhide BL8).cell (p := ⟨kb, ko + ij, none⟩) hkl).trans hck0
            clear hown8 hg8 OW HPX BLX cbb
            refine hK8.out _ _ ⟨cH8, ck8⟩ (fun hHeld8 => ?_)
            clear hK8 K8
            obtain ⟨d80, d81, d8f, d8l⟩ := (unhide PB8).c0
            refine wpAnyH_ready (rs := [9]) (by kernel_rfl) (by simp) ?_
            refine AllReadyH.cons (o := _) rfl (fun K9 hK9 => ?_) AllReadyH.nil
            go_simp
            refine hK9.out _ _ hHeld8 (fun hHeld9 => ?_)
            clear hK9 K9 hHeld9
            refine wpAnyH_ready (rs := [10]) (by kernel_rfl) (by simp) ?_
            refine AllReadyH.cons (o := _) rfl (fun K10 hK10 => ?_) AllReadyH.nil
            go_simp
            have PB10 := hide ((unhide PB8).set (.slice (some ⟨gk, 0, none⟩) (KL.length + 1) ck))
            have BL10 := hide ((unhide BL8).setCell (p := ⟨W2.heap.size, 1, none⟩) (Nat.le_refl _) (.slice (some ⟨gk, 0, none⟩) (KL.length + 1) ck))
            have OW10 : Hid (StrR.OwnV (w8.setCell ⟨W2.heap.size, 1, none⟩ (.slice (some ⟨gk, 0, none⟩) (KL.length + 1) ck)) (W2.heap.size + 1) (.slice (some ⟨gk, 0, none⟩) (KL.length + 1) ck) (KL ++ [key])) := own_elsewhere (unhide OW8) (by omega) _
            refine hK10.out _ _ ⟨((unhide BL10).cell (p := ⟨w.heap.size, 0, none⟩) hHl).trans hcH0, ((unhide BL10).cell (p := ⟨kb, ko + ij, none⟩) hkl).trans hck0⟩ (fun hHeld10 => ?_)
            generalize w8.setCell ⟨W2.heap.size, 1, none⟩ (.slice (some ⟨gk, 0, none⟩) (KL.length + 1) ck) = w10 at PB10 BL10 OW10 hHeld10 ⊢
            clear hK10 K10 hHeld8 hHeld10 PB8 BL8 OW8 cH8 ck8 d80 d81 d8f d8l
            refine wpAnyH_done (by kernel_rfl) ?_ _
            have OWN : Hid (StrR.OwnV w10 (W2.heap.size + 1) (.slice (some ⟨gk, 0, none⟩) (KL.length + 1) ck) ((L.take (j + 1)).map (ow ks))) := by rw [unhide hstep]; exact unhide OW10
            gi_wp2
            go_roundw
            case rel => exact ⟨j + 1, _, by omega, by go_num, PB10, OWN, BL10⟩
            case measure => simp [intOf]; omega
      · obtain rfl : j = L.length := by omega
        rw [List.take_length] at hown
        obtain ⟨gk, ck, hkv, hgkB, -, -⟩ := own_some (unhide hown) (by rw [List.length_map]; exact hpos)
        subst hkv
        have hrowk := hide (StrR.own_row (unhide hown)).2
        have hkl2 : (L.map (ow ks)).length ≤ 60 := by rw [List.length_map]; omega
        generalize L.map (ow ks) = K at d1 hrowk HPART hkl2
        obtain ⟨va, vc, rfl⟩ := hOut.form
        have hPl : w2.heap.size < W2.heap.size := block_lt_of_cell hBP.cell
        have cP := ((unhide hbel).cell (p := ⟨w2.heap.size, 0, none⟩) hPl).trans hBP.cell
        have own6 := hide (own_below hOut.1 (unhide hbel) (Nat.le_refl _))
        have hn60 : n ≤ 60 := by have := hTl.1; simp at this; omega
        have hzw := (unhide hbel).size
        have hHz := (unhide HBEL).size
        have HSTEP := hide (fun w7 v' ck' h7 hg7 => @inv_step w W2 wr w7 w2.heap.size w.heap.size w3.heap.size g ks.length kb ko kc (w3.heap.size + 1) os ks pre ⟨xi, some ⟨gp, 0, none⟩, xc⟩ _ v' n p nd gk ck' K (.cells #[.string nd, .slice (some ⟨gk, 0, none⟩) K.length ck] 31) hII hBP hOut hTl hPn (unhide HPART) (unhide hbel) (unhide hrowk) (by omega) h7 hg7)
        have hPB := hide (fun w7 (hg7 : (wr.alloc (.cells #[.string nd, .slice (some ⟨gk, 0, none⟩) K.length ck] 31)).grownBy w7 (Value.slice va n vc).ownBlock) => box_after hBP hOut (unhide hbel) hg7)
        obtain ⟨i0', hi', hz0', hz1', hz2'⟩ := Parts.info_ex
        have HI := hide hi'
        have HZ0 := hide hz0'
        have HZ1 := hide hz1'
        have HZ2 := hide hz2'
        clear hi' hz0' hz1' hz2' hII hOut hTl hBP hown
        gi_wp2_with (gi_at_builtin; refine wpListIn_append_own _ rfl _ _ 27 rfl w.heap.size 31 i0' _ 2 40 Tryz.underlying27 (unhide HI) (unhide HZ0) (unhide HZ1) (unhide HZ2) rfl (by decide) _ _ _ rfl ((unhide own6).alloc _) ⟨wr.heap.size, 0, none⟩ 1 1 [.string nd, .slice (some ⟨gk, 0, none⟩) K.length ck] rfl rfl news_two' (str_pair' nd _ rfl) (by unfold maxLen; omega) (by omega) (by simp; omega) ?_; intro v' w7 h7 hg7 _; obtain ⟨gv, cv, hv'⟩ := ownsRow_succ h7; subst hv'; have HF := hide (unhide HSTEP w7 _ ck h7 hg7); obtain ⟨e0, e1⟩ := unhide hPB w7 hg7; clear h7 hg7)
        exact unhide HF _
end Split
end Go.Proofs.YtghckjmpcokhcaaGreatDoor
/-
  SplitKeys, the program's and the model's, at every nodes and keys that lie in memory.
-/
namespace Go.Proofs.YtghckjmpcokhcaaGreatDoor
namespace Split
open Go.RowKit Base Marks OwnR Ring KeysS Parts
set_option linter.unusedVariables false

def Ends (l : List Nodes.D) (ks : List ByteArray) (w : World) (e : Ending) (w' : World) : Prop :=
  ∃ v n p, e = .returned (.tuple #[v, .bool (okB l ks)]) ∧ Out w' w.heap.size v n p ∧ Tells n p (outL l ks) ∧ Below w.heap.size w w'
theorem tells_nil (p : Nat → Pt) : Tells 0 p [] := ⟨rfl, fun i hi => absurd hi (by omega)⟩
theorem out_yes {l : List Nodes.D} {ks : List ByteArray} (h1 : NodesM.gnB l = true) (h2 : kB ks = true) : okB l ks = true ∧ outL l ks = parts (owners l ks) ks ks.length := by
  have : okB l ks = true := by unfold okB; rw [h1, h2]; rfl
  exact ⟨this, by unfold outL; rw [this]; rfl⟩
theorem out_no {l : List Nodes.D} {ks : List ByteArray} (h : NodesM.gnB l = false ∨ kB ks = false) : okB l ks = false ∧ outL l ks = [] := by
  have : okB l ks = false := by unfold okB; rcases h with h | h <;> rw [h] <;> simp
  exact ⟨this, by unfold outL; rw [this]; rfl⟩

set_option maxRecDepth 10000 in
set_option maxHeartbeats 2000000 in
theorem impl_any (b off cap : Nat) (l : List Nodes.D) (kb ko kc : Nat) (ks : List ByteArray) (w : World) (hb : b < w.heap.size) (hc : ∀ i, i < l.length → Nodes.At w b (off + i * 2) (l.getD i Nodes.zero)) (hl : l.length ≤ maxLen) (hs : ∀ x ∈ l, Nodes.Fits x)
    (hkb : kb < w.heap.size) (hkc : ∀ i, i < ks.length → w.cell? ⟨kb, ko + i, none⟩ = some (.string (ks.getD i ByteArray.empty))) (hkl : ks.length ≤ maxLen) (hks : ∀ s ∈ ks, s.size ≤ maxLen) (hv : Vars w) :
    Calls Tryz.prog 6 #[.slice (some ⟨b, off, none⟩) l.length cap, .slice (some ⟨kb, ko, none⟩) ks.length kc] w (Ends l ks w) := by
  cases hg : NodesM.gnB l
  · obtain ⟨e1, e2⟩ := out_no (ks := ks) (.inl hg)
    have HGN := hide (fun w1 (hb1 : Below w.heap.size w w1) => NodesM.inodes_some b off cap l w1 (Nat.lt_of_lt_of_le hb hb1.size) (fun i hi => (hc i hi).below hb1 hb) hl hs)
    rw [hg] at HGN
    show Calls _ _ _ w (fun e w' => Ends l ks w e w')
    unfold Ends
    rw [e1, e2]
    clear hg e1 e2 hc hs hkc hks hv
    go_enter Tryz.func6, Tryz.ntmps6
    go_wp2_with fail
    refine (unhide HGN _ (bel1 w _)).mono ?_
    rintro e w1 ⟨rfl, hb1⟩
    have B1 := hide ((bel1 w _).trans (hb1.mono (by simp)))
    clear hb1
    go_wp2
    go_ret2
    exact ⟨_, 0, fun _ => ⟨ByteArray.empty, 0, 0, []⟩, rfl, Out.nil _ _ _, tells_nil _, unhide B1⟩
  cases hk : kB ks
  · obtain ⟨e1, e2⟩ := out_no (l := l) (.inr hk)
    have HGN := hide (fun w1 (hb1 : Below w.heap.size w w1) => NodesM.inodes_some b off cap l w1 (Nat.lt_of_lt_of_le hb hb1.size) (fun i hi => (hc i hi).below hb1 hb) hl hs)
    rw [hg] at HGN
    have HGK : Hid (∀ w1, Below w.heap.size w w1 → Calls Tryz.prog 22 #[.slice (some ⟨kb, ko, none⟩) ks.length kc, .int .i64 0, .int .i64 60] w1 fun e w' => e = .returned (.bool false) ∧ Below w1.heap.size w1 w') := fun w1 hb1 => by
      have := KeysI.keys_any kb ko kc ks 0 60 w1 (Nat.lt_of_lt_of_le hkb hb1.size) (fun i hi => (hb1.cell (p := ⟨kb, ko + i, none⟩) hkb).trans (hkc i hi)) hkl hks
      rw [show (GoodKey.inB ks.length 0 60 && ks.all GoodCmd.gkb) = kB ks from rfl, hk] at this; exact this
    show Calls _ _ _ w (fun e w' => Ends l ks w e w')
    unfold Ends
    rw [e1, e2]
    clear hg hk e1 e2 hc hs hkc hks hv
    go_enter Tryz.func6, Tryz.ntmps6
    go_wp2_with fail
    refine (unhide HGN _ (bel1 w _)).mono ?_
    rintro e w1 ⟨rfl, hb1⟩
    have B1 := hide ((bel1 w _).trans (hb1.mono (by simp)))
    have cH : w1.cell? ⟨w.heap.size, 0, none⟩ = some (.slice (some ⟨kb, ko, none⟩) ks.length kc) := by
      rw [hb1.cell (by simp)]; rw [World.cell?_alloc_new]; rfl
    clear hb1
    go_wp2_with fail
    refine (unhide HGK _ (unhide B1)).mono ?_
    rintro e w2 ⟨rfl, hb2⟩
    have B2 := hide ((unhide B1).trans (hb2.mono (unhide B1).size))
    clear hb2 cH
    go_wp2
    go_ret2
    exact ⟨_, 0, fun _ => ⟨ByteArray.empty, 0, 0, []⟩, rfl, Out.nil _ _ _, tells_nil _, unhide B2⟩
  obtain ⟨e1, e2⟩ := out_yes hg hk
  refine (callsIn_wide.1 (split_some b off cap l kb ko kc ks w hb hc hl hs hkb hkc hkl hks hg hk hv)).mono ?_
  rintro e w' ⟨v, n, p, he, h1, h2, h3⟩
  exact ⟨v, n, p, by rw [he, e1], h1, by rw [e2]; exact h2, h3⟩

set_option maxRecDepth 10000 in
set_option maxHeartbeats 2000000 in
theorem spec_any (b off cap : Nat) (l : List Nodes.D) (kb ko kc : Nat) (ks : List ByteArray) (w : World) (hb : b < w.heap.size) (hc : ∀ i, i < l.length → Nodes.At w b (off + i * 2) (l.getD i Nodes.zero)) (hl : l.length ≤ maxLen) (hs : ∀ x ∈ l, Nodes.Fits x)
    (hkb : kb < w.heap.size) (hkc : ∀ i, i < ks.length → w.cell? ⟨kb, ko + i, none⟩ = some (.string (ks.getD i ByteArray.empty))) (hkl : ks.length ≤ maxLen) (hks : ∀ s ∈ ks, s.size ≤ maxLen) :
    Calls Tryz.prog 7 #[.slice (some ⟨b, off, none⟩) l.length cap, .slice (some ⟨kb, ko, none⟩) ks.length kc] w (Ends l ks w) := by
  have HGN := hide (NodesM.nodes_some b off cap l w hb hc hl hs)
  have HGK : Hid (∀ w1, Below w.heap.size w w1 → Calls Tryz.prog 27 #[.slice (some ⟨kb, ko, none⟩) ks.length kc] w1 fun e w' => e = .returned (.bool (kB ks)) ∧ w' = w1) := fun w1 hb1 =>
    KeysS.mkeys_any kb ko kc ks w1 (Nat.lt_of_lt_of_le hkb (Below.size hb1)) (fun i hi => ((hb1.cell (p := ⟨kb, ko + i, none⟩) hkb).trans (hkc i hi))) hkl hks
  have HSP := hide (fun w1 (hb1 : Below w.heap.size w w1) hg hk => l6Split_some b off cap l kb ko kc ks w1 (Nat.lt_of_lt_of_le hb hb1.size) (fun i hi => (hc i hi).below hb1 hb) hg (Nat.lt_of_lt_of_le hkb hb1.size) (fun i hi => (hb1.cell (p := ⟨kb, ko + i, none⟩) hkb).trans (hkc i hi)) hk)
  show Calls _ _ _ w (fun e w' => Ends l ks w e w')
  unfold Ends
  clear hc hs hkc hks
  cases hg : NodesM.gnB l
  · obtain ⟨e1, e2⟩ := out_no (ks := ks) (.inl hg)
    rw [hg] at HGN
    rw [e1, e2]
    clear hg e1 e2 HSP
    go_enter Tryz.func7, Tryz.ntmps7
    go_wp2_with fail
    refine (unhide HGN).mono ?_
    rintro e w1 ⟨rfl, hb1⟩
    have B1 := hide hb1
    clear hb1
    go_wp2
    go_ret2
    exact ⟨_, 0, fun _ => ⟨ByteArray.empty, 0, 0, []⟩, rfl, Out.nil _ _ _, tells_nil _, unhide B1⟩
  cases hk : kB ks
  · obtain ⟨e1, e2⟩ := out_no (l := l) (.inr hk)
    rw [hg] at HGN
    rw [hk] at HGK
    rw [e1, e2]
    clear hg hk e1 e2 HSP
    go_enter Tryz.func7, Tryz.ntmps7
    go_wp2_with fail
    refine (unhide HGN).mono ?_
    rintro e w1 ⟨rfl, hb1⟩
    have B1 := hide hb1
    clear hb1
    go_wp2_with fail
    refine (unhide HGK _ (unhide B1)).mono ?_
    rintro e w2 ⟨rfl, h2⟩
    rw [h2]
    clear h2 w2
    go_wp2
    go_ret2
    exact ⟨_, 0, fun _ => ⟨ByteArray.empty, 0, 0, []⟩, rfl, Out.nil _ _ _, tells_nil _, unhide B1⟩
  obtain ⟨e1, e2⟩ := out_yes hg hk
  rw [e1, e2]
  have HSP' := hide (fun w1 hb1 => unhide HSP w1 hb1 hg hk)
  rw [hg] at HGN
  rw [hk] at HGK
  clear hg hk e1 e2 HSP
  generalize parts (owners l ks) ks ks.length = PL at HSP' ⊢
  go_enter Tryz.func7, Tryz.ntmps7
  go_wp2_with fail
  refine (unhide HGN).mono ?_
  rintro e w1 ⟨rfl, hb1⟩
  have B1 := hide hb1
  clear hb1
  go_wp2_with fail
  refine (unhide HGK _ (unhide B1)).mono ?_
  rintro e w2 ⟨rfl, h2⟩
  rw [h2]
  clear h2 w2
  go_wp2_with fail
  refine (unhide HSP' _ (unhide B1)).mono ?_
  rintro e w3 ⟨v, n, p, rfl, hout, htl, hb3⟩
  have B3 := hide ((unhide B1).trans (hb3.mono (unhide B1).size))
  have hz := (unhide B1).size
  have HO : Hid (Out w3 w.heap.size v n p) := ⟨own_le hout.1 hz, fun i hi => ⟨(hout.2.1 i hi).1, Nat.le_trans hz (hout.2.1 i hi).2⟩, hout.2.2⟩
  have HT := hide htl
  clear hout htl hb3
  go_wp2
  go_ret2
  exact ⟨v, n, p, rfl, unhide HO, unhide HT, unhide B3⟩
end Split
end Go.Proofs.YtghckjmpcokhcaaGreatDoor
