/-
  The program's readValue: an item from the front of a text, and what is behind it.
-/
import Derived.Test.YtghckjmpcokhcaaGreatDoorRdZ
import Derived.Test.YtghckjmpcokhcaaGreatDoorRdY
import Derived.Test.YtghckjmpcokhcaaGreatDoorItemZ
import Derived.Lib.SplitLaws
namespace Go.Proofs.YtghckjmpcokhcaaGreatDoor
namespace Rd
open Go.RowKit Base Items Store GoodKey NumText Sp Count Vals Marks
set_option linter.unusedVariables false

/-- What the library's variables hold. -/
structure V2 (w : World) : Prop where
  vars : Count.Vars w
  most : ∃ m, w.cell? ⟨1, 0, none⟩ = some (.int .i64 m)
theorem V2.below {w w' : World} (h : V2 w) (hb : Below w.heap.size w w') : V2 w' := by
  obtain ⟨h1, m, h2⟩ := h
  exact ⟨h1.below hb, m, (hb.cell (p := ⟨1, 0, none⟩) (block_lt_of_cell h2)).trans h2⟩
theorem cut_any (s : ByteArray) (w : World) (hs : s.size ≤ 1048576) (hv : V2 w) : Calls Tryz.prog 86 #[.string s, .string ⟨#[13, 10]⟩] w fun e w' => (∃ f, e = .returned (.tuple #[.string (lineB s), .string (restB s), .bool f])) ∧ Below w.heap.size w w' := by
  obtain ⟨m, hm⟩ := hv.most
  refine (Tryz.strings_Cut s ⟨#[13, 10]⟩ m w (by omega) hm).mono ?_
  rintro e w' ⟨rfl, n, rfl⟩
  exact ⟨⟨_, rfl⟩, bel_draws (Below.refl _ _) n⟩
theorem words_len (s : ByteArray) : (wordsB s).length = Lib.countB s ⟨#[32]⟩ + 1 := Lib.splitB_all ⟨#[32]⟩ (by decide) 0 _ s rfl
theorem split_any (s : ByteArray) (w : World) (hs : s.size ≤ 1048576) (hv : V2 w) : Calls Tryz.prog 87 #[.string s, .string ⟨#[32]⟩] w fun e w' => e = .returned (.slice (some ⟨w.heap.size, 0, none⟩) (wordsB s).length (wordsB s).length) ∧ w' = w.alloc (.cells ((wordsB s).map Value.string).toArray 9) := by
  obtain ⟨m, hm⟩ := hv.most
  refine (Tryz.strings_Split s ⟨#[32]⟩ m w (by omega) hm (by decide)).mono ?_
  rintro e w' ⟨rfl, rfl⟩
  rw [words_len]
  exact ⟨rfl, rfl⟩
theorem line_size (s : ByteArray) : (lineB s).size ≤ s.size ∧ (restB s).size ≤ s.size := by
  rcases cut_cases (bl s) with h | ⟨a, r, hs, h⟩
  · have e1 : bl (lineB s) = bl s := by unfold lineB; rw [h]
    have e2 : bl (restB s) = [] := by unfold restB; rw [h]
    have h1 := congrArg List.length e1
    have h2 : (restB s).size = 0 := by rw [← bl_len, e2]; rfl
    rw [bl_len, bl_len] at h1
    omega
  · have e1 : bl (lineB s) = a := by unfold lineB; rw [h]
    have e2 : bl (restB s) = r := by unfold restB; rw [h]
    have h1 := congrArg List.length e1
    have h2 := congrArg List.length e2
    have h3 := congrArg List.length hs
    rw [bl_len] at h1 h2 h3
    simp only [List.length_append, List.length_cons] at h3
    omega
theorem join_le : ∀ {ws : List (List UInt8)} {a : List UInt8}, a ∈ ws → a.length ≤ (join ws).length
  | [], _, h => by simp at h
  | [b], a, h => by simp at h; subst h; exact Nat.le_refl _
  | b :: c :: r, a, h => by
    rw [join_cons (by simp)]
    simp only [List.length_append, List.length_cons]
    rw [List.mem_cons] at h
    rcases h with rfl | h
    · omega
    · have := join_le h; omega
theorem words_short (s : ByteArray) (hs : s.size ≤ 1048576) : Short (wordsB s) := by
  intro a ha
  have h1 : bl a ∈ (wordsB s).map bl := List.mem_map_of_mem ha
  rw [words_sp] at h1
  have := join_le h1
  rw [join_sp, bl_len, bl_len] at this
  omega
/-- An item in a box. -/
def IB (w : World) (X : Nat) (x : Itm) : Prop := w.heap[X]? = some (.cells #[.string x.key, .int .i64 x.flags, .string x.data, .int .i64 x.upto, .int .i64 x.token] 35 (0, 0))
theorem IB.cells {w : World} {X : Nat} {x : Itm} (h : IB w X x) : w.cell? ⟨X, 0, none⟩ = some (.string x.key) ∧ w.cell? ⟨X, 1, none⟩ = some (.int .i64 x.flags) ∧ w.cell? ⟨X, 2, none⟩ = some (.string x.data) ∧ w.cell? ⟨X, 3, none⟩ = some (.int .i64 x.upto) ∧ w.cell? ⟨X, 4, none⟩ = some (.int .i64 x.token) ∧ (∀ o, w.frozen? ⟨X, o, none⟩ = false) ∧ X < w.heap.size := by
  have h' : w.heap[X]? = _ := h
  refine ⟨?_, ?_, ?_, ?_, ?_, fun o => ?_, (Array.getElem?_eq_some_iff.1 h').1⟩
  all_goals first | simp [World.cell?, h'] | simp [World.frozen?, h']
theorem IB.blk {w w' : World} {X : Nat} {x : Itm} (h : IB w X x) (e : w'.heap[X]? = w.heap[X]?) : IB w' X x := e.trans h
theorem IB.gb {w w' : World} {X b : Nat} {x : Itm} (h : IB w X x) (hg : w.grownBy w' (some b)) (hne : X ≠ b) : IB w' X x := h.blk (hg.block X h.cells.2.2.2.2.2.2 (fun e => hne (by simpa using e)))
theorem IB.below {w w' : World} {X : Nat} {x : Itm} (h : IB w X x) (hb : Below w.heap.size w w') : IB w' X x := h.blk (hb.block X h.cells.2.2.2.2.2.2)
theorem IB.key {w : World} {X : Nat} {x : Itm} (h : IB w X x) (k : ByteArray) : IB (w.setCell ⟨X, 0, none⟩ (.string k)) X { x with key := k } := by
  have h' : w.heap[X]? = _ := h
  unfold IB; simp [World.setCell, Array.getElem?_modify, h']
theorem IB.flags {w : World} {X : Nat} {x : Itm} (h : IB w X x) (k : Int) : IB (w.setCell ⟨X, 1, none⟩ (.int .i64 k)) X { x with flags := k } := by
  have h' : w.heap[X]? = _ := h
  unfold IB; simp [World.setCell, Array.getElem?_modify, h']
theorem IB.data {w : World} {X : Nat} {x : Itm} (h : IB w X x) (k : ByteArray) : IB (w.setCell ⟨X, 2, none⟩ (.string k)) X { x with data := k } := by
  have h' : w.heap[X]? = _ := h
  unfold IB; simp [World.setCell, Array.getElem?_modify, h']
theorem IB.token {w : World} {X : Nat} {x : Itm} (h : IB w X x) (k : Int) : IB (w.setCell ⟨X, 4, none⟩ (.int .i64 k)) X { x with token := k } := by
  have h' : w.heap[X]? = _ := h
  unfold IB; simp [World.setCell, Array.getElem?_modify, h']
theorem IB.new (w : World) : IB (w.alloc (.cells #[.string ⟨#[]⟩, .int .i64 0, .string ⟨#[]⟩, .int .i64 0, .int .i64 0] 35)) w.heap.size zero := heap_alloc_new w _
theorem RB.set {w : World} {b X o : Nat} {s : St} (h : RB w b s) (hX : b < X) (v : Value) : RB (w.setCell ⟨X, o, none⟩ v) b s := h.of (fun k hk => Below.heap_setCell w ⟨X, o, none⟩ v k (by show k ≠ X; omega))
theorem IB.set {w : World} {R X o : Nat} {x : Itm} (h : IB w R x) (hX : R ≠ X) (v : Value) : IB (w.setCell ⟨X, o, none⟩ v) R x := h.blk (Below.heap_setCell w ⟨X, o, none⟩ v R (by show R ≠ X; exact hX))

/-- All that the walk holds: the result's box, the reader's, the item's. -/
structure All (w W : World) (R b X : Nat) (st : St) (x : Itm) : Prop where
  bel : Below w.heap.size w W
  res : IB W R zero
  rd : RB W b st
  it : IB W X x
theorem All.gb {w W W' : World} {R b X : Nat} {st st' : St} {x : Itm} (h : All w W R b X st x) (hg : W.grownBy W' (some b)) (hr : RB W' b st') (h1 : w.heap.size ≤ b) (h2 : R ≠ b) (h3 : X ≠ b) : All w W' R b X st' x :=
  ⟨h.bel.grown hg h.bel.size (fun k e => by simp at e; omega), h.res.gb hg h2, hr, h.it.gb hg h3⟩
theorem All.put {w W : World} {R b X o : Nat} {st : St} {x y : Itm} {v : Value} (h : All w W R b X st x) (hi : IB (W.setCell ⟨X, o, none⟩ v) X y) (h1 : w.heap.size ≤ X) (h2 : R ≠ X) (h3 : b < X) : All w (W.setCell ⟨X, o, none⟩ v) R b X st y :=
  ⟨h.bel.setCell (p := ⟨X, o, none⟩) h1 v, h.res.set h2 v, h.rd.set h3 v, hi⟩
theorem All.below {w W W' : World} {R b X : Nat} {st : St} {x : Itm} (h : All w W R b X st x) (hb : Below W.heap.size W W') : All w W' R b X st x :=
  ⟨h.bel.trans (hb.mono h.bel.size), h.res.below hb, h.rd.below hb, h.it.below hb⟩
/-- The same ahead of the item's box. -/
structure All3 (w W : World) (R b : Nat) (st : St) : Prop where
  bel : Below w.heap.size w W
  res : IB W R zero
  rd : RB W b st
theorem All3.gb {w W W' : World} {b : Nat} {st st' : St} (h : All3 w W w.heap.size b st) (hg : W.grownBy W' (some b)) (hr : RB W' b st') (h1 : w.heap.size < b) : All3 w W' w.heap.size b st' :=
  ⟨h.bel.grown hg h.bel.size (fun k e => by simp at e; omega), h.res.gb hg (by omega), hr⟩
theorem All3.item {w W : World} {R b : Nat} {st : St} (h : All3 w W R b st) : All w (W.alloc (.cells #[.string ⟨#[]⟩, .int .i64 0, .string ⟨#[]⟩, .int .i64 0, .int .i64 0] 35)) R b W.heap.size st zero :=
  ⟨h.bel.trans ((bel1 W _).mono h.bel.size), h.res.below (bel1 W _), h.rd.below (bel1 W _), IB.new W⟩
theorem all3_start {w w1 : World} (hb : Below w.heap.size w w1) (hi : IB w1 w.heap.size zero) (ws : List ByteArray) : All3 w ((w1.alloc (.cells (ws.map Value.string).toArray 9)).alloc (.cells #[.slice (some ⟨w1.heap.size, 0, none⟩) ws.length ws.length, .bool false] 132)) w.heap.size (w1.heap.size + 1) ⟨ws, false⟩ := by
  have hsz : (w1.alloc (.cells (ws.map Value.string).toArray 9)).heap.size = w1.heap.size + 1 := World.size_alloc _ _
  have b2 := bel2 w1 (.cells (ws.map Value.string).toArray 9) (.cells #[.slice (some ⟨w1.heap.size, 0, none⟩) ws.length ws.length, .bool false] 132)
  refine ⟨hb.trans (b2.mono hb.size), hi.below b2, _, ws.length, ?_, Nat.le_refl _, fun _ => ⟨w1.heap.size, 0, rfl, by omega, fun i hi => ?_⟩⟩
  · have := heap_alloc_new (w1.alloc (.cells (ws.map Value.string).toArray 9)) (.cells #[.slice (some ⟨w1.heap.size, 0, none⟩) ws.length ws.length, .bool false] 132)
    rw [hsz] at this; exact this
  · rw [Nat.zero_add, World.cell?_alloc_lt _ _ _ (by show w1.heap.size < _; omega), World.cell?_alloc_new]
    simp at hi
    simp [hi]
theorem word_ne {a : ByteArray} (h : a ≠ wordS) : (a.toList == [86, 65, 76, 85, 69]) = false := by
  have e : wordS.toList = [86, 65, 76, 85, 69] := by rw [Lib.toList_data]; rfl
  rw [← e]; exact str_ne h
theorem word_eq {a : ByteArray} (h : a = wordS) : (a.toList == [86, 65, 76, 85, 69]) = true := by
  have e : wordS.toList = [86, 65, 76, 85, 69] := by rw [Lib.toList_data]; rfl
  rw [← e]; exact str_eq h
theorem ok_no {w k : ByteArray} {f n t : Int} {ws : List ByteArray} {bad token : Bool} (h : w ≠ wordS ∨ bad = true ∨ ws ≠ [] ∨ goodV ⟨k, f, ByteArray.empty, 0, t⟩ token = false) : ¬ okH ⟨w, k, f, n, t, ⟨ws, bad⟩⟩ token = true := by
  unfold okH item
  simp only [Bool.and_eq_true, decide_eq_true_eq, Bool.not_eq_true', not_and]
  intro h1 h2
  rcases h with h | h | h | h
  · exact absurd h1.1.1 h
  · rw [h] at h1; exact absurd h1.1.2 (by simp)
  · exact absurd h1.2 h
  · rw [h] at h2; exact absurd h2 (by simp)
theorem ok_yes {w k : ByteArray} {f n t : Int} {token : Bool} (h1 : w = wordS) (h2 : goodV ⟨k, f, ByteArray.empty, 0, t⟩ token = true) : okH ⟨w, k, f, n, t, ⟨[], false⟩⟩ token = true := by
  unfold okH item
  rw [h2, h1]; simp
theorem nx_sh {s : St} (h : Short s.ws) : Short (nx s).2.ws := (nx_short h).2
theorem ky_sh {s : St} (h : Short s.ws) : Short (ky s).2.ws := nx_sh h
theorem nm_sh {s : St} {m : Int} (h : Short s.ws) : Short (nm s m).2.ws := by unfold nm; split <;> exact nx_sh h
theorem words_cell (w : World) (ws : List ByteArray) (t : TypeId) (i : Nat) (hi : i < ws.length) : (w.alloc (.cells (ws.map Value.string).toArray t)).cell? ⟨w.heap.size, i, none⟩ = some (.string (ws.getD i ByteArray.empty)) := by
  rw [World.cell?_alloc_new]; simp [hi]
end Rd
end Go.Proofs.YtghckjmpcokhcaaGreatDoor
