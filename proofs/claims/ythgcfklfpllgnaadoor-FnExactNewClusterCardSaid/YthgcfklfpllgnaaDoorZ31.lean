/-
  strings.Clone hands back the text; the program's copyOfItem its item.
-/
import Derived.Test.YthgcfklfpllgnaaDoorZ28
import Derived.Lib.BufferWrite
import Derived.Lib.UnsafeStr
import Derived.Laws.CopyOwn
namespace Go.Proofs.YthgcfklfpllgnaaDoor
namespace Shelf
open Go.RowKit Base Items Keep Own Chain Store
set_option linter.unusedVariables false

theorem clone_runs (s : ByteArray) (w : World) (h0 : s.size ≠ 0) (hs : s.size ≤ 1048576) : ∃ W2 W3 : World,
    (Builtin.copy_ #[81, 9] 3 #[.slice (some ⟨w.heap.size, 0, none⟩) s.size s.size, .string s]).run Tryd.prog (w.alloc (.cells (madeCells #[.int .u8 0] s.size) 5)) = .ok (.int .i64 s.size) W2 ∧
    (Builtin.unsafeString_ #[104, 3] 9 #[.pointer (some ⟨w.heap.size, 0, none⟩), .int .i64 s.size]).run Tryd.prog W2 = .ok (.string s) W3 ∧ W2.heap.size = w.heap.size + 1 ∧ Below w.heap.size w W3 := by
  have hA : (w.alloc (.cells (madeCells #[.int .u8 0] s.size) 5)).heap[w.heap.size]? = some (.cells (madeCells #[.int .u8 0] s.size) 5 (0, 0)) := heap_alloc_new w _
  have hcp := Lib.run_copy_row_string (P := Tryd.prog) (w.alloc (.cells (madeCells #[.int .u8 0] s.size) 5)) 81 9 3 5 w.heap.size 0 s.size s.size s (madeCells #[.int .u8 0] s.size) 5 Tryd.underlying81 (by kernel_rfl) hA (Nat.le_refl _) (by rw [size_madeCells]; omega)
  have el : s.data.toList.length = s.size := by simp
  have ec : ((madeCells #[Value.int .u8 0] s.size).toList.take 0 ++ Lib.byteCells s.data.toList ++ (madeCells #[Value.int .u8 0] s.size).toList.drop (0 + s.size)) = Lib.byteCells s.data.toList := by
    rw [List.take_zero, List.nil_append, List.drop_eq_nil_of_le (by rw [Array.length_toList, size_madeCells]; omega), List.append_nil]
  rw [ec] at hcp
  have hh := setRow_heap (w.alloc (.cells (madeCells #[.int .u8 0] s.size) 5)) w.heap.size _ (Lib.byteCells s.data.toList).toArray _ _ hA
  have hus := Lib.run_unsafeString_row (P := Tryd.prog) ((w.alloc (.cells (madeCells #[.int .u8 0] s.size) 5)).setRow w.heap.size (Lib.byteCells s.data.toList).toArray) 104 3 9 5 Tryd.underlying104 (by kernel_rfl) w.heap.size s.size
    (by unfold World.shape?; rw [hh]; simp [Lib.byteCells_length]) s.data.toList (by intro e; rw [e] at el; simp at el; omega) (by omega) (by omega)
    (fun j x hj => by
      rw [Go.WideShapes.add_plain, Nat.zero_add, cell_setRow_same _ _ _ _ _ _ _ hA]
      simp [Lib.byteCells, hj])
  rw [el] at hus
  refine ⟨_, _, hcp, hus, by simp, ?_⟩
  exact Lib.below_freeze (below_setRow (bel1 w _) (Nat.le_refl _) _) (Nat.le_refl _) _

set_option maxRecDepth 10000 in
set_option maxHeartbeats 1000000 in
theorem sclone_any (s : ByteArray) (w : World) (hs : s.size ≤ 1048576) : Calls Tryd.prog 44 #[.string s] w fun e w' => e = .returned (.string s) ∧ Below w.heap.size w w' := by
  by_cases h0 : s.size = 0
  · have e0 : s = ByteArray.empty := by
      apply Go.WideShapes.bytes_inj
      have : s.data.toList.length = 0 := by simpa using h0
      rw [List.length_eq_zero_iff.1 this]; rfl
    subst e0
    clear h0 hs
    go_enter Tryd.func44, Tryd.ntmps44
    go_wp2
    go_ret
    exact ⟨rfl, Below.refl _ _⟩
  have h0' : ¬ (s.size : Int) = 0 := by omega
  have hmk := fun w => run_make_rows (P := Tryd.prog) 81 5 (.int .u8 0) 1 1 Tryd.underlying81 (by kernel_rfl) .i64 .i64 s.size (by omega) (by omega) w
  rw [Nat.mul_one] at hmk
  have hmk' : (Instr.makeSlice 81 (.int .i64 s.size) (.int .i64 s.size)).run Tryd.prog w = .ok (.slice (some ⟨w.heap.size, 0, none⟩) s.size s.size) (w.alloc (.cells (madeCells #[.int .u8 0] s.size) 5)) := hmk w
  obtain ⟨W2, W3, hcp, hus, hz, hb⟩ := clone_runs s w h0 hs
  have HB := hide hb
  have hpos : (0 : Int) < s.size := by omega
  clear hmk hb
  go_enter Tryd.func44, Tryd.ntmps44
  go_wp2
  go_ret
  exact ⟨rfl, unhide HB⟩

set_option maxRecDepth 10000 in
set_option maxHeartbeats 1000000 in
theorem clone_any (s : ByteArray) (w : World) (hs : s.size ≤ 1048576) : Calls Tryd.prog 33 #[.string s] w fun e w' => e = .returned (.string s) ∧ Below w.heap.size w w' := by
  go_enter Tryd.func33, Tryd.ntmps33
  go_wp2_with fail
  refine (sclone_any s _ hs).mono ?_
  rintro e w1 ⟨rfl, hb1⟩
  have HB := hide hb1
  clear hb1
  go_wp2
  go_ret
  exact ⟨rfl, unhide HB⟩

set_option maxRecDepth 10000 in
set_option maxHeartbeats 1000000 in
theorem copyOf_any (x : Itm) (w : World) (hx : Small x) : Calls Tryd.prog 46 #[.agg #[.string x.key, .int .i64 x.flags, .string x.data, .int .i64 x.upto, .int .i64 x.token]] w fun e w' => e = .returned (itemV x) ∧ Below w.heap.size w w' := by
  obtain ⟨h1, h2⟩ := hx
  go_enter Tryd.func46, Tryd.ntmps46
  go_wp2_with fail
  refine (clone_any x.key _ h1).mono ?_
  rintro e w1 ⟨rfl, hb1⟩
  have B1 := hide ((bel2 w _ _).trans (hb1.mono (by simp; omega)))
  simp only [World.size_alloc] at hb1
  have q1 := fun o => hb1.cell (p := ⟨w.heap.size, o, none⟩) (by simp; omega)
  have q2 := fun o => hb1.cell (p := ⟨w.heap.size + 1, o, none⟩) (by simp)
  have p1 := fun o => hb1.frozen (p := ⟨w.heap.size, o, none⟩) (by simp; omega)
  have p2 := fun o => hb1.frozen (p := ⟨w.heap.size + 1, o, none⟩) (by simp)
  have hz1 : w.heap.size + 1 < w1.heap.size := by have := hb1.size; simp at this; omega
  clear hb1
  go_wp2_with fail
  refine (clone_any x.data _ h2).mono ?_
  rintro e w2 ⟨rfl, hb2⟩
  have hsz : (w1.setCell ⟨w.heap.size, 0, none⟩ (.string x.key)).heap.size = w1.heap.size := by simp [World.setCell]
  rw [hsz] at hb2
  have B2 := hide (((unhide B1).setCell (p := ⟨w.heap.size, 0, none⟩) (Nat.le_refl _) (.string x.key)).trans (hb2.mono (by omega)))
  have r1 := fun o => hb2.cell (p := ⟨w.heap.size, o, none⟩) (by simp; omega)
  have r2 := fun o => hb2.cell (p := ⟨w.heap.size + 1, o, none⟩) (by simp; omega)
  have s1 := fun o => hb2.frozen (p := ⟨w.heap.size, o, none⟩) (by simp; omega)
  have s2 := fun o => hb2.frozen (p := ⟨w.heap.size + 1, o, none⟩) (by simp; omega)
  clear hb2 hsz
  go_wp2
  refine bodyPost_ret (v := itemV x) (by simp [results, Tryd.results46, go_sem, itemV, r2, q2]; done) rfl ⟨rfl, ?_⟩
  repeat (refine Below.setCell ?_ (by first | (simp; done) | (simp; omega)) _)
  exact unhide B2
end Shelf
end Go.Proofs.YthgcfklfpllgnaaDoor
/-
  The program's shelf: store, find.
-/
namespace Go.Proofs.YthgcfklfpllgnaaDoor
namespace Shelf
open Go.RowKit Base Items Keep Own Chain Store
set_option linter.unusedVariables false

theorem set_self {α : Type} {xs : List α} {j : Nat} {v : α} (h : xs[j]? = some v) : xs.set j v = xs := by
  obtain ⟨hj, rfl⟩ := List.getElem?_eq_some_iff.1 h
  simp
/-- An item is written over itself. -/
theorem row_same {w : World} {t : TypeId} {g cap : Nat} {its : List Itm} (h : Row w t 5 g its.length cap (flat its)) {k : Nat} (hk : k < its.length) {x : Itm} (hx : x = its.getD k zero) :
    Row (((((w.setCell ⟨g, k * 5, none⟩ (.string x.key)).setCell ⟨g, k * 5 + 1, none⟩ (.int .i64 x.flags)).setCell ⟨g, k * 5 + 2, none⟩ (.string x.data)).setCell ⟨g, k * 5 + 3, none⟩ (.int .i64 x.upto)).setCell ⟨g, k * 5 + 4, none⟩ (.int .i64 x.token)) t 5 g its.length cap (flat its) := by
  subst hx
  have e0 : (flat its)[k * 5]? = some (.string (its.getD k zero).key) := by rw [flat_get its _ (by omega), icell, show (k * 5) % 5 = 0 by omega, show (k * 5) / 5 = k by omega]; simp
  have e1 : (flat its)[k * 5 + 1]? = some (.int .i64 (its.getD k zero).flags) := by rw [flat_get its _ (by omega), icell, show (k * 5 + 1) % 5 = 1 by omega, show (k * 5 + 1) / 5 = k by omega]; simp
  have e2 : (flat its)[k * 5 + 2]? = some (.string (its.getD k zero).data) := by rw [flat_get its _ (by omega), icell, show (k * 5 + 2) % 5 = 2 by omega, show (k * 5 + 2) / 5 = k by omega]; simp
  have e3 : (flat its)[k * 5 + 3]? = some (.int .i64 (its.getD k zero).upto) := by rw [flat_get its _ (by omega), icell, show (k * 5 + 3) % 5 = 3 by omega, show (k * 5 + 3) / 5 = k by omega]; simp
  have e4 : (flat its)[k * 5 + 4]? = some (.int .i64 (its.getD k zero).token) := by rw [flat_get its _ (by omega), icell, show (k * 5 + 4) % 5 = 4 by omega, show (k * 5 + 4) / 5 = k by omega]; simp
  have h0 := row_set h (j := k * 5) (by omega) (.string (its.getD k zero).key)
  rw [set_self e0] at h0
  have h1 := row_set h0 (j := k * 5 + 1) (by omega) (.int .i64 (its.getD k zero).flags)
  rw [set_self e1] at h1
  have h2 := row_set h1 (j := k * 5 + 2) (by omega) (.string (its.getD k zero).data)
  rw [set_self e2] at h2
  have h3 := row_set h2 (j := k * 5 + 3) (by omega) (.int .i64 (its.getD k zero).upto)
  rw [set_self e3] at h3
  have h4 := row_set h3 (j := k * 5 + 4) (by omega) (.int .i64 (its.getD k zero).token)
  rw [set_self e4] at h4
  exact h4

set_option maxRecDepth 10000 in
set_option maxHeartbeats 2000000 in
theorem store_shelf (w : World) (hb : Nat) (S : List Nat) (lim nx lost : Int) (its : List Itm) (hs : Shelf w hb S lim nx lost its) (hl : its.length ≤ 100) :
    Calls Tryd.prog 34 #[.pointer (some ⟨hb, 0, none⟩)] w fun e w' => ∃ a cap, e = .returned (.agg #[.int .i64 lim, .int .i64 nx, .slice a its.length cap]) ∧
      w'.ownsRow w.heap.size 92 5 (.slice a its.length cap) its.length (flat its) ∧ Below w.heap.size w w' := by
  have hks := hide (shelf_keys hs).2
  obtain ⟨gl, gf, bm, ls, free, order, cl, vf, D, hp⟩ := hs
  have hol : order.length = its.length := by rw [← hp.items, items_len]
  have hval := fun w' (hk : Below w.heap.size w w') => values_any w' hb _ gl gf ls free order cl vf (hp.keep (Keeps.of_below (S := []) hk (fun _ h1 _ => h1)) (by simp)).mem hp.good (by have := hp.len; omega)
  rw [hp.items, hol] at hval
  have HV := hide hval
  have HBX := hide (hp.mem.box)
  have hlt := hp.mem.box.lt
  clear hval hp
  go_enter Tryd.func34, Tryd.ntmps34
  go_wp2_with fail
  refine (unhide HV _ (bel1 w _)).mono ?_
  rintro e w1 ⟨va, vc, rfl, hown, hb1⟩
  simp only [World.size_alloc] at hown hb1
  have HO := hide hown
  have HB1 := hide hb1
  clear hown hb1 HV
  go_wp2_with fail
  go_loopw [12] (fun i wr => ∃ (k : Nat), k ≤ its.length ∧ i = .int .i64 k ∧ Hid (wr.ownsRow (w.heap.size + 1) 92 5 (.slice va its.length vc) its.length (flat its)) ∧ Hid (Below (w.heap.size + 1) (w.alloc (.cells #[.int .i64 0, .int .i64 0, .slice none 0 0] 57)) wr)) (fun i _ => its.length - (intOf i).toNat)
  case atStart => exact ⟨0, Nat.zero_le _, rfl, HO, HB1⟩
  case round =>
    obtain ⟨k, hk, rfl, hown, hbel⟩ := hrel
    have hB : Hid (Below w.heap.size w wr) := (bel1 w _).trans ((unhide hbel).mono (by omega))
    have hzw : w.heap.size + 1 ≤ wr.heap.size := by have := (unhide hbel).size; simp at this; omega
    by_cases hlt' : k < its.length
    · obtain ⟨g, cap, hva, hg, hrow⟩ := Row.of_owns (unhide hown) (by omega)
      simp only [Value.slice.injEq, true_and] at hva
      obtain ⟨rfl, rfl⟩ := hva
      obtain ⟨c0, c1, c2, c3, c4⟩ := row_at hrow hlt'
      have hsm := hide (small_getD (unhide hks) k hlt')
      have hsame := hide (fun (W : World) (h : Row W 92 5 g its.length vc (flat its)) => row_same h hlt' (x := its.getD k zero) rfl)
      have HR := hide hrow
      have hgl := hrow.lt
      have hki : (k : Int) < its.length := by omega
      clear hrow
      have hcc := hide (fun (W : World) (h : Row W 92 5 g its.length vc (flat its)) => row_at h hlt')
      generalize its.getD k zero = x at c0 c1 c2 c3 c4 hsm hsame hcc
      go_wp2_with fail
      refine (copyOf_any x _ (unhide hsm)).mono ?_
      rintro e w2 ⟨rfl, hb2⟩
      simp only [World.size_alloc] at hb2
      have HR2 := hide (((unhide HR).alloc (.cells #[.string x.key, .int .i64 x.flags, .string x.data, .int .i64 x.upto, .int .i64 x.token] 92)).of_block (hb2.block g (by omega)))
      have HB2 := hide (((unhide hbel).alloc (by omega) _).trans (hb2.mono (by omega)))
      obtain ⟨d0, d1, d2, d3, d4⟩ := unhide hcc _ (unhide HR2)
      have fz := fun j => Row.frozen (unhide HR2) j
      clear c0 c1 c2 c3 c4 hb2
      unfold itemV
      go_wp2
      have R5 := unhide hsame _ (unhide HR2)
      have B5 := (((((unhide HB2).setCell (p := ⟨g, k * 5, none⟩) hg (.string x.key)).setCell (p := ⟨g, k * 5 + 1, none⟩) hg (.int .i64 x.flags)).setCell (p := ⟨g, k * 5 + 2, none⟩) hg (.string x.data)).setCell (p := ⟨g, k * 5 + 3, none⟩) hg (.int .i64 x.upto)).setCell (p := ⟨g, k * 5 + 4, none⟩) hg (.int .i64 x.token)
      go_roundw
      case rel => exact ⟨k + 1, by omega, by go_num, hide (R5.owns hg), hide B5⟩
      case measure => simp [intOf]; omega
    · obtain ⟨c0, c1, c2, c3, c4, c5, c6⟩ := ((unhide HBX).of_block ((unhide hB).block hb hlt)).cells
      have hr := fun o => (unhide hbel).cell (p := ⟨w.heap.size, o, none⟩) (by simp)
      have hrf := fun o => (unhide hbel).frozen (p := ⟨w.heap.size, o, none⟩) (by simp)
      clear c2 c3 c4 c5 c6
      go_wp2
      go_region
      go_wp2
      refine bodyPost_ret (v := .agg #[.int .i64 lim, .int .i64 nx, .slice va its.length vc]) (by simp [results, Tryd.results34, go_sem, hr]; done) rfl ⟨va, vc, rfl, ?_, ?_⟩
      · refine own_le (base := w.heap.size + 1) ?_ (by omega)
        show ((((wr.setCell ⟨w.heap.size, 0, none⟩ (.int .i64 lim)).setCell ⟨w.heap.size, 1, none⟩ (.int .i64 nx)).setCell ⟨w.heap.size, 2, none⟩ (.slice va its.length vc))).ownsRow (w.heap.size + 1) _ _ _ _ _
        exact ownsRow_setCell_below (ownsRow_setCell_below (ownsRow_setCell_below (unhide hown) (show w.heap.size < w.heap.size + 1 by omega) _) (show w.heap.size < w.heap.size + 1 by omega) _) (show w.heap.size < w.heap.size + 1 by omega) _
      · exact ((((unhide hB).setCell (p := ⟨w.heap.size, 0, none⟩) (Nat.le_refl _) _).setCell (p := ⟨w.heap.size, 1, none⟩) (Nat.le_refl _) _).setCell (p := ⟨w.heap.size, 2, none⟩) (Nat.le_refl _) _).drew
end Shelf
end Go.Proofs.YthgcfklfpllgnaaDoor
