/-
  The model's l7Limit; the cells of a row of nodes.
-/
import Derived.Test.YthgcfklfpllgnaaDoorPlcS
import Derived.Test.YthgcfklfpllgnaaDoorZ6
import Derived.Test.YthgcfklfpllgnaaDoorZ1
import Derived.Maps.OwnSet
import Derived.Test.YthgcfklfpllgnaaDoorRows
import Derived.Lib.BufferWrite
import Derived.Lib.UnsafeStr
import Derived.Laws.CopyOwn
namespace Go.Proofs.YthgcfklfpllgnaaDoor
namespace Plc
open Go.RowKit Base Marks GoodKey
set_option linter.unusedVariables false

set_option maxRecDepth 10000 in
theorem limit_any (n : Int) (w : World) : Calls Tryd.prog 15 #[.int .i64 n] w fun e w' => e = .returned (.bool (inB n 0 10000)) ∧ w' = w := by
  have HI := hide (l1In_any n 0 10000 w)
  go_enter Tryd.func15, Tryd.ntmps15
  go_wp2_with fail
  refine (unhide HI).mono ?_
  rintro e w' ⟨rfl, h⟩
  rw [h]; clear h w'
  go_wp2
  go_ret
  exact ⟨rfl, rfl⟩
def nflat (l : List Nodes.D) : List Value := l.flatMap (fun x => [.string x.name, .int .i64 x.weight])
theorem nflat_len (l : List Nodes.D) : (nflat l).length = l.length * 2 := by
  induction l with
  | nil => rfl
  | cons x r ih =>
    have e : nflat (x :: r) = [.string x.name, .int .i64 x.weight] ++ nflat r := by simp [nflat]
    rw [e, List.length_append, ih]; simp; omega
theorem nflat_get : ∀ (l : List Nodes.D) (j : Nat), j < l.length * 2 → (nflat l)[j]? = some (Nodes.icell l j)
  | [], j, h => by simp at h
  | x :: r, j, h => by
    have e : nflat (x :: r) = [.string x.name, .int .i64 x.weight] ++ nflat r := by simp [nflat]
    rw [e]
    by_cases h2 : j < 2
    · rw [List.getElem?_append_left (by simpa using h2)]
      obtain rfl | rfl : j = 0 ∨ j = 1 := by omega
      all_goals simp [Nodes.icell]
    · obtain ⟨i, rfl⟩ : ∃ i, j = i + 2 := ⟨j - 2, by omega⟩
      rw [List.getElem?_append_right (by simp)]
      have ei : Nodes.icell (x :: r) (i + 2) = Nodes.icell r i := by
        unfold Nodes.icell
        rw [show (i + 2) % 2 = i % 2 by omega, show (i + 2) / 2 = i / 2 + 1 by omega]
        simp
      rw [ei]
      simp only [List.length_cons, List.length_nil, Nat.zero_add, Nat.add_sub_cancel]
      exact nflat_get r i (by simp at h; omega)
theorem nflat_one {l : List Nodes.D} {u : Value} (h : u ∈ nflat l) : u.oneCell' = true := by
  obtain ⟨x, _, hx⟩ := List.mem_flatMap.1 h
  simp only [List.mem_cons, List.not_mem_nil, or_false] at hx
  rcases hx with rfl | rfl <;> rfl
theorem nflat_cells {w : World} {b off : Nat} {l : List Nodes.D} (hc : ∀ i, i < l.length → Nodes.At w b (off + i * 2) (l.getD i Nodes.zero)) (j : Nat) (u : Value) (hj : (nflat l)[j]? = some u) : w.cell? ((⟨b, off, none⟩ : Addr).add j) = some u := by
  have hlt : j < l.length * 2 := by rw [← nflat_len]; exact (List.getElem?_eq_some_iff.1 hj).1
  rw [Go.WideShapes.add_plain]
  rw [nflat_get l j hlt] at hj
  obtain rfl := Option.some.inj hj
  obtain ⟨h0, h1⟩ := hc (j / 2) (by omega)
  unfold Nodes.icell
  by_cases h2 : j % 2 = 0
  · rw [if_pos h2]; rw [show off + j / 2 * 2 = off + j by omega] at h0; exact h0
  · rw [if_neg h2]; rw [show off + j / 2 * 2 + 1 = off + j by omega] at h1; exact h1
theorem own_empty {w : World} {g base : Nat} {t : TypeId} {size : Nat} (h : w.heap[g]? = some (.cells #[] t (0, 0))) (hg : base ≤ g) : w.ownsRow base t size (.slice (some ⟨g, 0, none⟩) 0 0) 0 [] :=
  ⟨by simp, .inr ⟨g, 0, #[], rfl, hg, h, Nat.le_refl _, Nat.zero_le _, by simp, by simp⟩⟩
end Plc
end Go.Proofs.YthgcfklfpllgnaaDoor
/-
  A world that is another but for a few blocks: laws of my own. No Go function is spoken of here.
-/
namespace Go.Proofs.YthgcfklfpllgnaaDoor
namespace Keep
open Go.RowKit Base

/-- w' is w but for the blocks on a list, and new ones. -/
structure Keeps (S : List Nat) (w w' : World) : Prop where
  os : w'.os = w.os
  tape : w'.tape = w.tape
  output : w'.output = w.output
  size : w.heap.size ≤ w'.heap.size
  block : ∀ k, k < w.heap.size → k ∉ S → w'.heap[k]? = w.heap[k]?

theorem Keeps.refl (S : List Nat) (w : World) : Keeps S w w := ⟨rfl, rfl, rfl, Nat.le_refl _, fun _ _ _ => rfl⟩
/-- Two steps: what the second may write was written by the first too, or is new since. -/
theorem Keeps.trans {S S' : List Nat} {a b c : World} (h : Keeps S a b) (k : Keeps S' b c) (hs : ∀ x ∈ S', x ∈ S ∨ a.heap.size ≤ x) : Keeps S a c :=
  ⟨k.os.trans h.os, k.tape.trans h.tape, k.output.trans h.output, Nat.le_trans h.size k.size, fun i hi hn =>
    (k.block i (Nat.lt_of_lt_of_le hi h.size) (fun hm => (hs i hm).elim hn (fun hle => by omega))).trans (h.block i hi hn)⟩
theorem Keeps.mono {S S' : List Nat} {w w' : World} (h : Keeps S w w') (hs : ∀ x ∈ S, x ∈ S') : Keeps S' w w' :=
  ⟨h.os, h.tape, h.output, h.size, fun i hi hn => h.block i hi (fun hm => hn (hs i hm))⟩
theorem Keeps.drew {S : List Nat} {a w : World} (h : Keeps S a w) : Keeps S a w.drew := ⟨h.os, h.tape, h.output, h.size, h.block⟩
theorem Keeps.alloc {S : List Nat} {a w : World} (h : Keeps S a w) (o : Obj) : Keeps S a (w.alloc o) :=
  h.trans (S' := []) ⟨rfl, rfl, rfl, by simp, fun k hk _ => Below.heap_alloc _ _ _ hk⟩ (by simp)
theorem Keeps.setCell {S : List Nat} {a w : World} (h : Keeps S a w) {p : Addr} (hp : p.block ∈ S ∨ a.heap.size ≤ p.block) (u : Value) : Keeps S a (w.setCell p u) :=
  h.trans (S' := [p.block]) ⟨rfl, rfl, rfl, by simp [World.setCell], fun k _ hk => Below.heap_setCell _ _ _ _ (by simpa using hk)⟩ (by simpa using hp)
theorem Keeps.grown {S : List Nat} {a w w' : World} {row : Option Nat} (h : Keeps S a w) (hg : w.grownBy w' row) (hr : ∀ k, row = some k → k ∈ S ∨ a.heap.size ≤ k) : Keeps S a w' := by
  cases row with
  | none => exact h.trans (S' := []) ⟨hg.os, hg.tape, hg.output, hg.size, fun k hk _ => hg.block k hk (by simp)⟩ (by simp)
  | some r => exact h.trans (S' := [r]) ⟨hg.os, hg.tape, hg.output, hg.size, fun k hk hn => hg.block k hk (by simpa using hn)⟩ (by simpa using hr r rfl)
theorem Keeps.turned {S : List Nat} {a w w' : World} {b : Nat} (h : Keeps S a w) (hg : w.mapTurned w' b) (hr : b ∈ S ∨ a.heap.size ≤ b) : Keeps S a w' :=
  h.grown hg.grown (fun k e => by simp at e; exact e ▸ hr)
theorem Keeps.of_below {S : List Nat} {B : Nat} {w w' : World} (h : Below B w w') (hB : ∀ k, k < w.heap.size → k ∉ S → k < B) : Keeps S w w' :=
  ⟨h.os, h.tape, h.output, h.size, fun k hk hn => h.block k (hB k hk hn)⟩
theorem Keeps.below {S : List Nat} {B : Nat} {w w' : World} (h : Keeps S w w') (hS : ∀ x ∈ S, B ≤ x) (hB : B ≤ w.heap.size) : Below B w w' :=
  ⟨h.os, h.tape, h.output, h.size, fun k hk => h.block k (by omega) (fun hm => by have := hS k hm; omega)⟩
theorem Keeps.cell {S : List Nat} {w w' : World} (h : Keeps S w w') {b o : Nat} (hb : b < w.heap.size) (hn : b ∉ S) : w'.cell? ⟨b, o, none⟩ = w.cell? ⟨b, o, none⟩ :=
  World.cell?_of_block (w := w) (h.block b hb hn)
theorem Keeps.frozen {S : List Nat} {w w' : World} (h : Keeps S w w') {b o : Nat} (hb : b < w.heap.size) (hn : b ∉ S) : w'.frozen? ⟨b, o, none⟩ = w.frozen? ⟨b, o, none⟩ :=
  World.frozen?_of_block (w := w) (h.block b hb hn)
theorem Keeps.map {H : Type} {P : Program} {k : TypeId} {R : Value → Option (DataW H × List MemPlace)} {b n : Nat} {D : DataW H} {S : List Nat} {w w' : World} (h : Keeps S w w') (hm : w.ownsMap P k R b n D) (hn : b ∉ S) : w'.ownsMap P k R b n D := by
  have hb := hm.lt
  obtain ⟨es, clock, hh, r⟩ := hm
  exact ⟨es, clock, by rw [h.block b hb hn]; exact hh, r⟩
theorem map_below {H : Type} {P : Program} {k : TypeId} {R : Value → Option (DataW H × List MemPlace)} {b n B : Nat} {D : DataW H} {w w' : World} (hm : w.ownsMap P k R b n D) (h : Below B w w') (hb : b < B) : w'.ownsMap P k R b n D := by
  obtain ⟨es, clock, hh, r⟩ := hm
  exact ⟨es, clock, by rw [h.block b hb]; exact hh, r⟩
theorem map_tight {H : Type} {P : Program} {k : TypeId} {R : Value → Option (DataW H × List MemPlace)} {b n m : Nat} {D : DataW H} {w : World} (hm : w.ownsMap P k R b n D) (h : Maps.size D ≤ m) : w.ownsMap P k R b m D := by
  obtain ⟨es, clock, hh, F, hs, rfl⟩ := hm
  refine ⟨es, clock, hh, F, ?_, rfl⟩
  simpa [Maps.size, length_sorted] using h

theorem own_blocks {w w' : World} {base : Nat} {e : TypeId} {size : Nat} {v : Value} {n : Nat} {xs : List Value} (h : w.ownsRow base e size v n xs) (hb : ∀ g, v.ownBlock = some g → w'.heap[g]? = w.heap[g]?) : w'.ownsRow base e size v n xs := by
  refine ⟨h.1, h.2.elim Or.inl ?_⟩
  rintro ⟨g, cap, cur, rfl, hg, hh, r⟩
  exact Or.inr ⟨g, cap, cur, rfl, hg, by rw [hb g rfl]; exact hh, r⟩
theorem own_lt {w : World} {base : Nat} {e : TypeId} {size : Nat} {v : Value} {n : Nat} {xs : List Value} (h : w.ownsRow base e size v n xs) {g : Nat} (hg : v.ownBlock = some g) : g < w.heap.size := (h.lt g hg).2

/-- A row of cells of the call's own: a slice that leads to the beginning of a block, with the cells that it has. -/
def Row (w : World) (e : TypeId) (size g n cap : Nat) (xs : List Value) : Prop :=
  xs.length = n * size ∧ ∃ cur, w.heap[g]? = some (.cells cur e (0, 0)) ∧ n ≤ cap ∧ cap ≤ maxLen ∧ cur.size = cap * size ∧ cur.toList.take (n * size) = xs
section
variable {w w' : World} {e : TypeId} {size g n cap : Nat} {xs : List Value}
theorem Row.owns (h : Row w e size g n cap xs) {base : Nat} (hb : base ≤ g) : w.ownsRow base e size (.slice (some ⟨g, 0, none⟩) n cap) n xs := by
  obtain ⟨h1, cur, h2⟩ := h
  exact ⟨h1, .inr ⟨g, cap, cur, rfl, hb, h2⟩⟩
theorem Row.of_owns {base : Nat} {v : Value} (h : w.ownsRow base e size v n xs) (hn : 0 < n) : ∃ g cap, v = .slice (some ⟨g, 0, none⟩) n cap ∧ base ≤ g ∧ Row w e size g n cap xs := by
  obtain ⟨h1, h2⟩ := h
  rcases h2 with ⟨_, h0⟩ | ⟨g, cap, cur, hv, hg, r⟩
  · omega
  · exact ⟨g, cap, hv, hg, h1, cur, r⟩
theorem Row.lt (h : Row w e size g n cap xs) : g < w.heap.size := by
  obtain ⟨_, cur, hh, _⟩ := h
  exact (Array.getElem?_eq_some_iff.1 hh).1
theorem Row.of_block (h : Row w e size g n cap xs) (hb : w'.heap[g]? = w.heap[g]?) : Row w' e size g n cap xs := by
  obtain ⟨h1, cur, hh, r⟩ := h
  exact ⟨h1, cur, by rw [hb]; exact hh, r⟩
theorem Row.keep {S : List Nat} (h : Row w e size g n cap xs) (hk : Keeps S w w') (hn : g ∉ S) : Row w' e size g n cap xs := h.of_block (hk.block g h.lt hn)
theorem Row.alloc (h : Row w e size g n cap xs) (o : Obj) : Row (w.alloc o) e size g n cap xs := h.of_block (Below.heap_alloc _ _ _ h.lt)
theorem Row.cell (h : Row w e size g n cap xs) {j : Nat} {u : Value} (hj : xs[j]? = some u) : w.cell? ⟨g, j, none⟩ = some u := by
  obtain ⟨h1, cur, hh, h2, h3, h4, h5⟩ := h
  have hlt : j < n * size := by rw [← h1]; exact (List.getElem?_eq_some_iff.1 hj).1
  rw [← h5, List.getElem?_take_of_lt hlt] at hj
  simp only [World.cell?, hh]
  simpa using hj
theorem Row.frozen (h : Row w e size g n cap xs) (j : Nat) : w.frozen? ⟨g, j, none⟩ = false := by
  obtain ⟨h1, cur, hh, h2, h3, h4, h5⟩ := h
  simp [World.frozen?, hh]
theorem Row.setOther (h : Row w e size g n cap xs) {p : Addr} (hp : g ≠ p.block) (u : Value) : Row (w.setCell p u) e size g n cap xs := h.of_block (Below.heap_setCell _ _ _ _ hp)
end
end Keep
end Go.Proofs.YthgcfklfpllgnaaDoor
/-
  strings.Clone hands back the text, in new memory.
-/
namespace Go.Proofs.YthgcfklfpllgnaaDoor
namespace CloneS
open Go.RowKit Base Keep
set_option linter.unusedVariables false

theorem clone_runs (s : ByteArray) (w : World) (h0 : s.size ≠ 0) (hs : s.size ≤ 1048576) : ∃ W2 W3 : World,
    (Builtin.copy_ #[81, 9] 3 #[.slice (some ⟨w.heap.size, 0, none⟩) s.size s.size, .string s]).run Tryd.prog (w.alloc (.cells (madeCells #[.int .u8 0] s.size) 5)) = .ok (.int .i64 s.size) W2 ∧
    (Builtin.unsafeString_ #[104, 3] 9 #[.pointer (some ⟨w.heap.size, 0, none⟩), .int .i64 s.size]).run Tryd.prog W2 = .ok (.string s) W3 ∧ W2.heap.size = w.heap.size + 1 ∧ Below w.heap.size w W3 := by
  have hA : (w.alloc (.cells (madeCells #[.int .u8 0] s.size) 5)).heap[w.heap.size]? = some (.cells (madeCells #[.int .u8 0] s.size) 5 (0, 0)) := heap_alloc_new w _
  have hcp := Lib.run_copy_row_string (P := Tryd.prog) (w.alloc (.cells (madeCells #[.int .u8 0] s.size) 5)) 81 9 3 5 w.heap.size 0 s.size s.size s (madeCells #[.int .u8 0] s.size) 5 Tryd.underlying81 (by kernel_rfl) hA (Nat.le_refl _) (by rw [size_madeCells]; omega)
  have el : s.data.toList.length = s.size := by simp
  have ec : ((madeCells #[Value.int .u8 0] s.size).toList.take 0 ++ Lib.byteCells s.data.toList ++ (madeCells #[Value.int .u8 0] s.size).toList.drop (0 + s.size)) = Lib.byteCells s.data.toList := by
    rw [List.take_zero, List.nil_append, List.drop_eq_nil_of_le (by rw [Array.length_toList, size_madeCells]; omega), List.append_nil]
  rw [ec] at hcp
  have hh := setRow_heap (w.alloc (.cells (madeCells #[.int .u8 0] s.size) 5)) w.heap.size _ (Lib.byteCells s.data.toList).toArray _ _ hA
  have hus := Lib.run_unsafeString_row (P := Tryd.prog) ((w.alloc (.cells (madeCells #[.int .u8 0] s.size) 5)).setRow w.heap.size (Lib.byteCells s.data.toList).toArray) 104 3 9 5 Tryd.underlying104 (by kernel_rfl) w.heap.size s.size
    (by unfold World.shape?; rw [hh]; simp [Lib.byteCells_length]) s.data.toList (by intro e; rw [e] at el; simp at el; omega) (by omega) (by omega)
    (fun j x hj => by
      rw [Go.WideShapes.add_plain, Nat.zero_add, cell_setRow_same _ _ _ _ _ _ _ hA]
      simp [Lib.byteCells, hj])
  rw [el] at hus
  refine ⟨_, _, hcp, hus, by simp, ?_⟩
  exact Lib.below_freeze (below_setRow (bel1 w _) (Nat.le_refl _) _) (Nat.le_refl _) _

set_option maxRecDepth 10000 in
set_option maxHeartbeats 1000000 in
theorem sclone_any (s : ByteArray) (w : World) (hs : s.size ≤ 1048576) : Calls Tryd.prog 44 #[.string s] w fun e w' => e = .returned (.string s) ∧ Below w.heap.size w w' := by
  by_cases h0 : s.size = 0
  · have e0 : s = ByteArray.empty := by
      apply Go.WideShapes.bytes_inj
      have : s.data.toList.length = 0 := by simpa using h0
      rw [List.length_eq_zero_iff.1 this]; rfl
    subst e0
    clear h0 hs
    go_enter Tryd.func44, Tryd.ntmps44
    go_wp2
    go_ret
    exact ⟨rfl, Below.refl _ _⟩
  have h0' : ¬ (s.size : Int) = 0 := by omega
  have hmk := fun w => run_make_rows (P := Tryd.prog) 81 5 (.int .u8 0) 1 1 Tryd.underlying81 (by kernel_rfl) .i64 .i64 s.size (by omega) (by omega) w
  rw [Nat.mul_one] at hmk
  have hmk' : (Instr.makeSlice 81 (.int .i64 s.size) (.int .i64 s.size)).run Tryd.prog w = .ok (.slice (some ⟨w.heap.size, 0, none⟩) s.size s.size) (w.alloc (.cells (madeCells #[.int .u8 0] s.size) 5)) := hmk w
  obtain ⟨W2, W3, hcp, hus, hz, hb⟩ := clone_runs s w h0 hs
  have HB := hide hb
  have hpos : (0 : Int) < s.size := by omega
  clear hmk hb
  go_enter Tryd.func44, Tryd.ntmps44
  go_wp2
  go_ret
  exact ⟨rfl, unhide HB⟩

set_option maxRecDepth 10000 in
set_option maxHeartbeats 1000000 in
theorem clone_any (s : ByteArray) (w : World) (hs : s.size ≤ 1048576) : Calls Tryd.prog 33 #[.string s] w fun e w' => e = .returned (.string s) ∧ Below w.heap.size w w' := by
  go_enter Tryd.func33, Tryd.ntmps33
  go_wp2_with fail
  refine (sclone_any s _ hs).mono ?_
  rintro e w1 ⟨rfl, hb1⟩
  have HB := hide hb1
  clear hb1
  go_wp2
  go_ret
  exact ⟨rfl, unhide HB⟩

end CloneS
end Go.Proofs.YthgcfklfpllgnaaDoor
