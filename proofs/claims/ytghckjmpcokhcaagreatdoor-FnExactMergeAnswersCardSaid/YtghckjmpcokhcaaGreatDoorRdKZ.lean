/-
  The program's readValue: an item from the front of a text, and what is behind it.
-/
import Derived.Test.YtghckjmpcokhcaaGreatDoorRdZ
import Derived.Test.YtghckjmpcokhcaaGreatDoorRdY
import Derived.Test.YtghckjmpcokhcaaGreatDoorItemZ
import Derived.Lib.SplitLaws
import Derived.Test.YtghckjmpcokhcaaGreatDoorRdW
namespace Go.Proofs.YtghckjmpcokhcaaGreatDoor
namespace Rd
open Go.RowKit Base Items Store GoodKey NumText Sp Count Vals Marks
set_option linter.unusedVariables false

/-- What the library's variables hold. -/
structure V2 (w : World) : Prop where
  vars : Count.Vars w
  most : ∃ m, w.cell? ⟨1, 0, none⟩ = some (.int .i64 m)
theorem V2.below {w w' : World} (h : V2 w) (hb : Below w.heap.size w w') : V2 w' := by
  obtain ⟨h1, m, h2⟩ := h
  exact ⟨h1.below hb, m, (hb.cell (p := ⟨1, 0, none⟩) (block_lt_of_cell h2)).trans h2⟩
theorem cut_any (s : ByteArray) (w : World) (hs : s.size ≤ 1048576) (hv : V2 w) : Calls Tryz.prog 86 #[.string s, .string ⟨#[13, 10]⟩] w fun e w' => (∃ f, e = .returned (.tuple #[.string (lineB s), .string (restB s), .bool f])) ∧ Below w.heap.size w w' := by
  obtain ⟨m, hm⟩ := hv.most
  refine (Tryz.strings_Cut s ⟨#[13, 10]⟩ m w (by omega) hm).mono ?_
  rintro e w' ⟨rfl, n, rfl⟩
  exact ⟨⟨_, rfl⟩, bel_draws (Below.refl _ _) n⟩
theorem words_len (s : ByteArray) : (wordsB s).length = Lib.countB s ⟨#[32]⟩ + 1 := Lib.splitB_all ⟨#[32]⟩ (by decide) 0 _ s rfl
theorem split_any (s : ByteArray) (w : World) (hs : s.size ≤ 1048576) (hv : V2 w) : Calls Tryz.prog 87 #[.string s, .string ⟨#[32]⟩] w fun e w' => e = .returned (.slice (some ⟨w.heap.size, 0, none⟩) (wordsB s).length (wordsB s).length) ∧ w' = w.alloc (.cells ((wordsB s).map Value.string).toArray 9) := by
  obtain ⟨m, hm⟩ := hv.most
  refine (Tryz.strings_Split s ⟨#[32]⟩ m w (by omega) hm (by decide)).mono ?_
  rintro e w' ⟨rfl, rfl⟩
  rw [words_len]
  exact ⟨rfl, rfl⟩
theorem line_size (s : ByteArray) : (lineB s).size ≤ s.size ∧ (restB s).size ≤ s.size := by
  rcases cut_cases (bl s) with h | ⟨a, r, hs, h⟩
  · have e1 : bl (lineB s) = bl s := by unfold lineB; rw [h]
    have e2 : bl (restB s) = [] := by unfold restB; rw [h]
    have h1 := congrArg List.length e1
    have h2 : (restB s).size = 0 := by rw [← bl_len, e2]; rfl
    rw [bl_len, bl_len] at h1
    omega
  · have e1 : bl (lineB s) = a := by unfold lineB; rw [h]
    have e2 : bl (restB s) = r := by unfold restB; rw [h]
    have h1 := congrArg List.length e1
    have h2 := congrArg List.length e2
    have h3 := congrArg List.length hs
    rw [bl_len] at h1 h2 h3
    simp only [List.length_append, List.length_cons] at h3
    omega
theorem join_le : ∀ {ws : List (List UInt8)} {a : List UInt8}, a ∈ ws → a.length ≤ (join ws).length
  | [], _, h => by simp at h
  | [b], a, h => by simp at h; subst h; exact Nat.le_refl _
  | b :: c :: r, a, h => by
    rw [join_cons (by simp)]
    simp only [List.length_append, List.length_cons]
    rw [List.mem_cons] at h
    rcases h with rfl | h
    · omega
    · have := join_le h; omega
theorem words_short (s : ByteArray) (hs : s.size ≤ 1048576) : Short (wordsB s) := by
  intro a ha
  have h1 : bl a ∈ (wordsB s).map bl := List.mem_map_of_mem ha
  rw [words_sp] at h1
  have := join_le h1
  rw [join_sp, bl_len, bl_len] at this
  omega
/-- An item in a box. -/
def IB (w : World) (X : Nat) (x : Itm) : Prop := w.heap[X]? = some (.cells #[.string x.key, .int .i64 x.flags, .string x.data, .int .i64 x.upto, .int .i64 x.token] 35 (0, 0))
theorem IB.cells {w : World} {X : Nat} {x : Itm} (h : IB w X x) : w.cell? ⟨X, 0, none⟩ = some (.string x.key) ∧ w.cell? ⟨X, 1, none⟩ = some (.int .i64 x.flags) ∧ w.cell? ⟨X, 2, none⟩ = some (.string x.data) ∧ w.cell? ⟨X, 3, none⟩ = some (.int .i64 x.upto) ∧ w.cell? ⟨X, 4, none⟩ = some (.int .i64 x.token) ∧ (∀ o, w.frozen? ⟨X, o, none⟩ = false) ∧ X < w.heap.size := by
  have h' : w.heap[X]? = _ := h
  refine ⟨?_, ?_, ?_, ?_, ?_, fun o => ?_, (Array.getElem?_eq_some_iff.1 h').1⟩
  all_goals first | simp [World.cell?, h'] | simp [World.frozen?, h']
theorem IB.blk {w w' : World} {X : Nat} {x : Itm} (h : IB w X x) (e : w'.heap[X]? = w.heap[X]?) : IB w' X x := e.trans h
theorem IB.gb {w w' : World} {X b : Nat} {x : Itm} (h : IB w X x) (hg : w.grownBy w' (some b)) (hne : X ≠ b) : IB w' X x := h.blk (hg.block X h.cells.2.2.2.2.2.2 (fun e => hne (by simpa using e)))
theorem IB.below {w w' : World} {X : Nat} {x : Itm} (h : IB w X x) (hb : Below w.heap.size w w') : IB w' X x := h.blk (hb.block X h.cells.2.2.2.2.2.2)
theorem IB.key {w : World} {X : Nat} {x : Itm} (h : IB w X x) (k : ByteArray) : IB (w.setCell ⟨X, 0, none⟩ (.string k)) X { x with key := k } := by
  have h' : w.heap[X]? = _ := h
  unfold IB; simp [World.setCell, Array.getElem?_modify, h']
theorem IB.flags {w : World} {X : Nat} {x : Itm} (h : IB w X x) (k : Int) : IB (w.setCell ⟨X, 1, none⟩ (.int .i64 k)) X { x with flags := k } := by
  have h' : w.heap[X]? = _ := h
  unfold IB; simp [World.setCell, Array.getElem?_modify, h']
theorem IB.data {w : World} {X : Nat} {x : Itm} (h : IB w X x) (k : ByteArray) : IB (w.setCell ⟨X, 2, none⟩ (.string k)) X { x with data := k } := by
  have h' : w.heap[X]? = _ := h
  unfold IB; simp [World.setCell, Array.getElem?_modify, h']
theorem IB.token {w : World} {X : Nat} {x : Itm} (h : IB w X x) (k : Int) : IB (w.setCell ⟨X, 4, none⟩ (.int .i64 k)) X { x with token := k } := by
  have h' : w.heap[X]? = _ := h
  unfold IB; simp [World.setCell, Array.getElem?_modify, h']
theorem IB.new (w : World) : IB (w.alloc (.cells #[.string ⟨#[]⟩, .int .i64 0, .string ⟨#[]⟩, .int .i64 0, .int .i64 0] 35)) w.heap.size zero := heap_alloc_new w _
theorem RB.set {w : World} {b X o : Nat} {s : St} (h : RB w b s) (hX : b < X) (v : Value) : RB (w.setCell ⟨X, o, none⟩ v) b s := h.of (fun k hk => Below.heap_setCell w ⟨X, o, none⟩ v k (by show k ≠ X; omega))
theorem IB.set {w : World} {R X o : Nat} {x : Itm} (h : IB w R x) (hX : R ≠ X) (v : Value) : IB (w.setCell ⟨X, o, none⟩ v) R x := h.blk (Below.heap_setCell w ⟨X, o, none⟩ v R (by show R ≠ X; exact hX))

/-- All that the walk holds: the result's box, the reader's, the item's. -/
structure All (w W : World) (R b X : Nat) (st : St) (x : Itm) : Prop where
  bel : Below w.heap.size w W
  res : IB W R zero
  rd : RB W b st
  it : IB W X x
theorem All.gb {w W W' : World} {R b X : Nat} {st st' : St} {x : Itm} (h : All w W R b X st x) (hg : W.grownBy W' (some b)) (hr : RB W' b st') (h1 : w.heap.size ≤ b) (h2 : R ≠ b) (h3 : X ≠ b) : All w W' R b X st' x :=
  ⟨h.bel.grown hg h.bel.size (fun k e => by simp at e; omega), h.res.gb hg h2, hr, h.it.gb hg h3⟩
theorem All.put {w W : World} {R b X o : Nat} {st : St} {x y : Itm} {v : Value} (h : All w W R b X st x) (hi : IB (W.setCell ⟨X, o, none⟩ v) X y) (h1 : w.heap.size ≤ X) (h2 : R ≠ X) (h3 : b < X) : All w (W.setCell ⟨X, o, none⟩ v) R b X st y :=
  ⟨h.bel.setCell (p := ⟨X, o, none⟩) h1 v, h.res.set h2 v, h.rd.set h3 v, hi⟩
theorem All.below {w W W' : World} {R b X : Nat} {st : St} {x : Itm} (h : All w W R b X st x) (hb : Below W.heap.size W W') : All w W' R b X st x :=
  ⟨h.bel.trans (hb.mono h.bel.size), h.res.below hb, h.rd.below hb, h.it.below hb⟩
/-- The same ahead of the item's box. -/
structure All3 (w W : World) (R b : Nat) (st : St) : Prop where
  bel : Below w.heap.size w W
  res : IB W R zero
  rd : RB W b st
theorem All3.gb {w W W' : World} {b : Nat} {st st' : St} (h : All3 w W w.heap.size b st) (hg : W.grownBy W' (some b)) (hr : RB W' b st') (h1 : w.heap.size < b) : All3 w W' w.heap.size b st' :=
  ⟨h.bel.grown hg h.bel.size (fun k e => by simp at e; omega), h.res.gb hg (by omega), hr⟩
theorem All3.item {w W : World} {R b : Nat} {st : St} (h : All3 w W R b st) : All w (W.alloc (.cells #[.string ⟨#[]⟩, .int .i64 0, .string ⟨#[]⟩, .int .i64 0, .int .i64 0] 35)) R b W.heap.size st zero :=
  ⟨h.bel.trans ((bel1 W _).mono h.bel.size), h.res.below (bel1 W _), h.rd.below (bel1 W _), IB.new W⟩
theorem all3_start {w w1 : World} (hb : Below w.heap.size w w1) (hi : IB w1 w.heap.size zero) (ws : List ByteArray) : All3 w ((w1.alloc (.cells (ws.map Value.string).toArray 9)).alloc (.cells #[.slice (some ⟨w1.heap.size, 0, none⟩) ws.length ws.length, .bool false] 132)) w.heap.size (w1.heap.size + 1) ⟨ws, false⟩ := by
  have hsz : (w1.alloc (.cells (ws.map Value.string).toArray 9)).heap.size = w1.heap.size + 1 := World.size_alloc _ _
  have b2 := bel2 w1 (.cells (ws.map Value.string).toArray 9) (.cells #[.slice (some ⟨w1.heap.size, 0, none⟩) ws.length ws.length, .bool false] 132)
  refine ⟨hb.trans (b2.mono hb.size), hi.below b2, _, ws.length, ?_, Nat.le_refl _, fun _ => ⟨w1.heap.size, 0, rfl, by omega, fun i hi => ?_⟩⟩
  · have := heap_alloc_new (w1.alloc (.cells (ws.map Value.string).toArray 9)) (.cells #[.slice (some ⟨w1.heap.size, 0, none⟩) ws.length ws.length, .bool false] 132)
    rw [hsz] at this; exact this
  · rw [Nat.zero_add, World.cell?_alloc_lt _ _ _ (by show w1.heap.size < _; omega), World.cell?_alloc_new]
    simp at hi
    simp [hi]
theorem word_ne {a : ByteArray} (h : a ≠ wordS) : (a.toList == [86, 65, 76, 85, 69]) = false := by
  have e : wordS.toList = [86, 65, 76, 85, 69] := by rw [Lib.toList_data]; rfl
  rw [← e]; exact str_ne h
theorem word_eq {a : ByteArray} (h : a = wordS) : (a.toList == [86, 65, 76, 85, 69]) = true := by
  have e : wordS.toList = [86, 65, 76, 85, 69] := by rw [Lib.toList_data]; rfl
  rw [← e]; exact str_eq h
theorem ok_no {w k : ByteArray} {f n t : Int} {ws : List ByteArray} {bad token : Bool} (h : w ≠ wordS ∨ bad = true ∨ ws ≠ [] ∨ goodV ⟨k, f, ByteArray.empty, 0, t⟩ token = false) : ¬ okH ⟨w, k, f, n, t, ⟨ws, bad⟩⟩ token = true := by
  unfold okH item
  simp only [Bool.and_eq_true, decide_eq_true_eq, Bool.not_eq_true', not_and]
  intro h1 h2
  rcases h with h | h | h | h
  · exact absurd h1.1.1 h
  · rw [h] at h1; exact absurd h1.1.2 (by simp)
  · exact absurd h1.2 h
  · rw [h] at h2; exact absurd h2 (by simp)
theorem ok_yes {w k : ByteArray} {f n t : Int} {token : Bool} (h1 : w = wordS) (h2 : goodV ⟨k, f, ByteArray.empty, 0, t⟩ token = true) : okH ⟨w, k, f, n, t, ⟨[], false⟩⟩ token = true := by
  unfold okH item
  rw [h2, h1]; simp
theorem nx_sh {s : St} (h : Short s.ws) : Short (nx s).2.ws := (nx_short h).2
theorem ky_sh {s : St} (h : Short s.ws) : Short (ky s).2.ws := nx_sh h
theorem nm_sh {s : St} {m : Int} (h : Short s.ws) : Short (nm s m).2.ws := by unfold nm; split <;> exact nx_sh h
theorem words_cell (w : World) (ws : List ByteArray) (t : TypeId) (i : Nat) (hi : i < ws.length) : (w.alloc (.cells (ws.map Value.string).toArray t)).cell? ⟨w.heap.size, i, none⟩ = some (.string (ws.getD i ByteArray.empty)) := by
  rw [World.cell?_alloc_new]; simp [hi]
end Rd
end Go.Proofs.YtghckjmpcokhcaaGreatDoor
/-
  How the model reads a text, as plain data. No Go function is spoken of here.
-/
namespace Go.Proofs.YtghckjmpcokhcaaGreatDoor
namespace Rd
open Go.RowKit Base Items Store GoodKey NumText Sp Count Vals
set_option linter.unusedVariables false

/-- Where the first byte 10 stands, or the end. -/
def Ten (l : List UInt8) (en : Nat) : Prop := en ≤ l.length ∧ 10 ∉ l.take en ∧ (en = l.length ∨ l[en]? = some 10)
theorem ten_at {l a t : List UInt8} {en : Nat} (h : l = a ++ 13 :: 10 :: t) (ha : 10 ∉ a) (ht : Ten l en) : en = a.length + 1 ∧ l.take (en - 1) = a ∧ l.drop (en + 1) = t ∧ en < l.length := by
  obtain ⟨h1, h2, h3⟩ := ht
  have hl : l.length = a.length + 2 + t.length := by rw [h]; simp; omega
  have hge : a.length + 1 ≤ en := by
    apply Nat.le_of_not_lt
    intro hlt
    rcases h3 with h3 | h3
    · omega
    · rw [h] at h3
      by_cases e : en < a.length
      · rw [List.getElem?_append_left e] at h3
        exact ha (List.mem_of_getElem? h3)
      · have : en = a.length := by omega
        rw [this, List.getElem?_append_right (Nat.le_refl _)] at h3
        simp at h3
  have hle : en ≤ a.length + 1 := by
    apply Nat.le_of_not_lt
    intro hlt
    apply h2
    apply List.mem_of_getElem? (i := a.length + 1)
    rw [List.getElem?_take, if_pos (by omega), h, List.getElem?_append_right (by omega)]
    simp
  have he : en = a.length + 1 := by omega
  refine ⟨he, ?_, ?_, by omega⟩
  · rw [he, h]; simp
  · rw [he, h, show a.length + 1 + 1 = a.length + 2 by omega, ← List.drop_drop, List.drop_left]; rfl
/-- The model's state is on the way of whatever can be read. -/
def MI (s : ByteArray) (token : Bool) (its : List Itm) (rest : ByteArray) : Prop :=
  ∀ L, Reads s token L → (its = L ∧ rest = lastS) ∨ (∃ x L', L = its ++ x :: L' ∧ rest = Shelf.valueR x token ++ (told token L' ++ lastS))
theorem mi_of {token : Bool} {its L2 L : List Itm} {rest : ByteArray} (h1 : L = its ++ L2) (h2 : rest = told token L2 ++ lastS) : (its = L ∧ rest = lastS) ∨ (∃ x L', L = its ++ x :: L' ∧ rest = Shelf.valueR x token ++ (told token L' ++ lastS)) := by
  cases L2 with
  | nil => exact .inl ⟨by rw [h1]; simp, by rw [h2]; simp [told]⟩
  | cons x L' => exact .inr ⟨x, L', h1, by rw [h2, told_cons, ByteArray.append_assoc]⟩
theorem mi_start (s : ByteArray) (token : Bool) : MI s token [] s := fun L hL => mi_of (L2 := L) rfl hL.txt.symm
theorem value_line {x : Itm} {token : Bool} (hg : goodV x token = true) : 10 ∉ join (wordsOf x token) := by
  obtain ⟨g1, g2, g3, g4, g5⟩ := (goodV_iff _ _).1 hg
  have hk : (10 : UInt8) ∉ bl x.key := no_byte (lo := 33) (fun c hc => (key_chars g1 c hc).1) (by decide)
  have hd' : ∀ n, (10 : UInt8) ∉ Lib.decDigits n := fun n => no_byte (lo := 48) (fun c hc => (dec_dig n c hc).1) (by decide)
  have hw : (10 : UInt8) ∉ bl wordS := by decide
  cases token
  · simp only [wordsOf, Bool.false_eq_true, if_false, join, List.mem_append, List.mem_cons, not_or]
    exact ⟨hw, by decide, hk, by decide, hd' _, by decide, hd' _⟩
  · simp only [wordsOf, if_true, join, List.mem_append, List.mem_cons, not_or]
    exact ⟨hw, by decide, hk, by decide, hd' _, by decide, hd' _, by decide, hd' _⟩
theorem sp_words {x : Itm} {token : Bool} (hg : goodV x token = true) : sp (join (wordsOf x token)) = wordsOf x token := by
  obtain ⟨g1, g2, g3, g4, g5⟩ := (goodV_iff _ _).1 hg
  have hk : (32 : UInt8) ∉ bl x.key := no_byte (lo := 33) (fun c hc => (key_chars g1 c hc).1) (by decide)
  have hd' : ∀ n, (32 : UInt8) ∉ Lib.decDigits n := fun n => no_byte (lo := 48) (fun c hc => (dec_dig n c hc).1) (by decide)
  have hw : (32 : UInt8) ∉ bl wordS := by decide
  cases token
  · simp only [wordsOf, Bool.false_eq_true, if_false, join]
    rw [sp_cons hw, sp_cons hk, sp_cons (hd' _), sp_word (hd' _)]
  · simp only [wordsOf, if_true, join]
    rw [sp_cons hw, sp_cons hk, sp_cons (hd' _), sp_cons (hd' _), sp_word (hd' _)]
/-- What can be read of the rest, by its first line. -/
theorem mi_line {s rest : ByteArray} {token : Bool} {its L : List Itm} {en : Nat} (hM : MI s token its rest) (hL : Reads s token L) (ht : Ten (bl rest) en) :
    0 < en ∧ en < (bl rest).length ∧ ((its = L ∧ sp ((bl rest).take (en - 1)) = [[69, 78, 68]]) ∨
      (∃ x L', L = its ++ x :: L' ∧ goodV x token = true ∧ Canon x token ∧ sp ((bl rest).take (en - 1)) = wordsOf x token ∧ (bl rest).drop (en + 1) = bl x.data ++ [13, 10] ++ bl (told token L' ++ lastS))) := by
  rcases hM L hL with ⟨h1, h2⟩ | ⟨x, L', h1, h2⟩
  · have e : bl rest = [69, 78, 68] ++ 13 :: 10 :: [] := by rw [h2]; rfl
    obtain ⟨a1, a2, a3, a4⟩ := ten_at e (by decide) ht
    refine ⟨by omega, a4, .inl ⟨h1, ?_⟩⟩
    rw [a2]; exact sp_word (by decide)
  · have hx := hL.ok x (by rw [h1]; simp)
    have e : bl rest = join (wordsOf x token) ++ 13 :: 10 :: (bl x.data ++ [13, 10] ++ bl (told token L' ++ lastS)) := by
      rw [h2, bl_app, value_bl]; simp
    obtain ⟨a1, a2, a3, a4⟩ := ten_at e (value_line hx.1) ht
    exact ⟨by omega, a4, .inr ⟨x, L', h1, hx.1, hx.2, by rw [a2, sp_words hx.1], a3⟩⟩
def many (token : Bool) : Nat := if token then 5 else 4
theorem words_many (x : Itm) (token : Bool) : (wordsOf x token).length = many token := by cases token <;> rfl
theorem mi_none {s rest : ByteArray} {token : Bool} {its : List Itm} {en : Nat} (hM : MI s token its rest) (ht : Ten (bl rest) en) (h : en = 0 ∨ en = (bl rest).length) : rdR s token = none := by
  refine rdR_none (fun L hL => ?_)
  obtain ⟨h1, h2, _⟩ := mi_line hM hL ht
  omega
theorem mi_break {s rest : ByteArray} {token : Bool} {its : List Itm} {en : Nat} {ws : List ByteArray} (hM : MI s token its rest) (ht : Ten (bl rest) en) (hw : ws.map bl = sp ((bl rest).take (en - 1))) (h1 : ws.length = 1) : ∀ L, Reads s token L → its = L := by
  intro L hL
  obtain ⟨_, _, h | ⟨x, L', _, _, _, h4, _⟩⟩ := mi_line hM hL ht
  · exact h.1
  · have := congrArg List.length hw
    rw [h4, words_many, List.length_map, h1] at this
    cases token <;> simp [many] at this
theorem mi_words {s rest : ByteArray} {token : Bool} {its : List Itm} {en : Nat} {ws : List ByteArray} (hM : MI s token its rest) (ht : Ten (bl rest) en) (hw : ws.map bl = sp ((bl rest).take (en - 1))) (h1 : ws.length ≠ 1) (h2 : ws.length ≠ many token) : rdR s token = none := by
  refine rdR_none (fun L hL => ?_)
  obtain ⟨_, _, h | ⟨x, L', _, _, _, h4, _⟩⟩ := mi_line hM hL ht
  · have := congrArg List.length hw
    rw [h.2, List.length_map] at this
    exact h1 this
  · have := congrArg List.length hw
    rw [h4, words_many, List.length_map] at this
    exact h2 this
theorem mrd_num {v : Int} (h0 : 0 ≤ v) (h1 : v ≤ 1000000000) : mrd (Lib.decDigits v.toNat) = v := by
  rw [mrd_dec (by omega)]; omega
/-- The item that the model makes of the words and the bytes behind the line. -/
def mitem (token : Bool) (ws : List ByteArray) (rest : ByteArray) (en : Nat) : Itm :=
  ⟨ws.getD 1 ByteArray.empty, mrd (bl (ws.getD 2 ByteArray.empty)), rest.extract (en + 1) (en + 1 + (mrd (bl (ws.getD 3 ByteArray.empty))).toNat), 0, if token then mrd (bl (ws.getD 4 ByteArray.empty)) else 0⟩
theorem mi_fields {ws : List ByteArray} {x : Itm} {token : Bool} (h : ws.map bl = wordsOf x token) (hg : goodV x token = true) (hc : Canon x token) : ws.getD 1 ByteArray.empty = x.key ∧ mrd (bl (ws.getD 2 ByteArray.empty)) = x.flags ∧ mrd (bl (ws.getD 3 ByteArray.empty)) = x.data.size ∧ (if token then mrd (bl (ws.getD 4 ByteArray.empty)) else 0) = x.token := by
  obtain ⟨g1, g2, g3, g4, g5⟩ := (goodV_iff _ _).1 hg
  unfold wordsOf at h
  cases token
  · simp only [Bool.false_eq_true, if_false] at h ⊢
    obtain ⟨a1, a2, a3, a4, rfl⟩ := len4 (by simpa using congrArg List.length h)
    simp only [List.map_cons, List.map_nil, List.cons.injEq, and_true] at h
    obtain ⟨w1, w2, w3, w4⟩ := h
    refine ⟨bl_inj w2, ?_, ?_, (hc.2 rfl).symm⟩
    · show mrd (bl a3) = _; rw [w3, mrd_num g2 g3]
    · show mrd (bl a4) = _; rw [w4, mrd_dec (by omega)]
  · simp only [if_true] at h ⊢
    obtain ⟨a1, a2, a3, a4, a5, rfl⟩ := len5 (by simpa using congrArg List.length h)
    simp only [List.map_cons, List.map_nil, List.cons.injEq, and_true] at h
    obtain ⟨w1, w2, w3, w4, w5⟩ := h
    have g5 := g5 rfl
    refine ⟨bl_inj w2, ?_, ?_, ?_⟩
    · show mrd (bl a3) = _; rw [w3, mrd_num g2 g3]
    · show mrd (bl a4) = _; rw [w4, mrd_dec (by omega)]
    · show mrd (bl a5) = _; rw [w5, mrd_num (by omega) g5.2]
theorem mi_size {s rest : ByteArray} {token : Bool} {its : List Itm} {en : Nat} {ws : List ByteArray} (hM : MI s token its rest) (ht : Ten (bl rest) en) (hw : ws.map bl = sp ((bl rest).take (en - 1))) (h2 : ws.length = many token)
    (h : inB (mrd (bl (ws.getD 3 ByteArray.empty))) 0 100 = false ∨ (rest.size : Int) < (en : Int) + 1 + mrd (bl (ws.getD 3 ByteArray.empty)) + 2) : rdR s token = none := by
  refine rdR_none (fun L hL => ?_)
  obtain ⟨_, hen, hh | ⟨x, L', _, h5, h6, h4, h7⟩⟩ := mi_line hM hL ht
  · have := congrArg List.length hw
    rw [hh.2, List.length_map, h2] at this
    cases token <;> simp [many] at this
  · rw [h4] at hw
    obtain ⟨f1, f2, f3, f4⟩ := mi_fields hw h5 h6
    obtain ⟨g1, g2, g3, g4, g5⟩ := (goodV_iff _ _).1 h5
    rw [f3] at h
    have hlen := congrArg List.length h7
    rw [List.length_drop] at hlen
    simp only [List.length_append, List.length_cons, List.length_nil, bl_len] at hlen
    rw [bl_len] at hen
    rcases h with h | h
    · simp [inB] at h; omega
    · omega
theorem mi_next {s rest : ByteArray} {token : Bool} {its : List Itm} {en : Nat} {ws : List ByteArray} (hM : MI s token its rest) (ht : Ten (bl rest) en) (hw : ws.map bl = sp ((bl rest).take (en - 1))) (h2 : ws.length = many token)
    (h : ¬ inB (mrd (bl (ws.getD 3 ByteArray.empty))) 0 100 = false) (hr : ¬ (rest.size : Int) < (en : Int) + 1 + mrd (bl (ws.getD 3 ByteArray.empty)) + 2) :
    MI s token (its ++ [mitem token ws rest en]) (rest.extract (en + 1 + (mrd (bl (ws.getD 3 ByteArray.empty))).toNat + 2) rest.size) := by
  intro L hL
  obtain ⟨_, hen, hh | ⟨x, L', h1, h5, h6, h4, h7⟩⟩ := mi_line hM hL ht
  · have := congrArg List.length hw
    rw [hh.2, List.length_map, h2] at this
    cases token <;> simp [many] at this
  · rw [h4] at hw
    obtain ⟨f1, f2, f3, f4⟩ := mi_fields hw h5 h6
    have ed : rest.extract (en + 1) (en + 1 + x.data.size) = x.data := by
      apply bl_inj
      rw [ext_bl, h7, show en + 1 + x.data.size - (en + 1) = x.data.size by omega]
      simp [bl]
    have ex : mitem token ws rest en = x := by
      refine Itm.ext' f1 f2 ?_ h6.1.symm f4
      show rest.extract (en + 1) (en + 1 + (mrd (bl (ws.getD 3 ByteArray.empty))).toNat) = x.data
      rw [f3, Int.toNat_natCast, ed]
    have er : rest.extract (en + 1 + (mrd (bl (ws.getD 3 ByteArray.empty))).toNat + 2) rest.size = told token L' ++ lastS := by
      apply bl_inj
      rw [f3, Int.toNat_natCast, ext_bl, show en + 1 + x.data.size + 2 = (en + 1) + (x.data.size + 2) by omega, ← List.drop_drop, h7]
      have e1 : (bl x.data ++ [13, 10] ++ bl (told token L' ++ lastS)).drop (x.data.size + 2) = bl (told token L' ++ lastS) := by
        rw [List.drop_append_of_le_length (by simp [bl]), List.drop_of_length_le (by simp [bl])]; rfl
      rw [e1]
      apply List.take_of_length_le
      have := congrArg List.length h7
      rw [List.length_drop] at this
      simp only [List.length_append, List.length_cons, List.length_nil, bl_len] at this ⊢
      omega
    rw [ex, er]
    exact mi_of (L2 := L') (by rw [h1]; simp) rfl
/-- At the end the text is held against what was read. -/
theorem mi_end {s : ByteArray} {token : Bool} {its : List Itm} (hF : ∀ L, Reads s token L → its = L) (hc : ∀ x ∈ its, Canon x token) : ((vtR its token).ok = true ∧ (vtR its token).s = s → rdR s token = some its) ∧ (¬ ((vtR its token).ok = true ∧ (vtR its token).s = s) → rdR s token = none) := by
  constructor
  · rintro ⟨h1, h2⟩
    unfold vtR at h1 h2
    by_cases g1 : 60 < (its.length : Int)
    · rw [if_pos g1] at h1; simp at h1
    · rw [if_neg g1] at h1 h2
      by_cases g2 : its.all (fun x => goodV x token) = true
      · rw [if_pos g2] at h2
        exact rdR_some ⟨by omega, fun x hx => ⟨List.all_eq_true.1 g2 x hx, hc x hx⟩, h2⟩
      · rw [if_neg g2] at h1; simp at h1
  · intro h
    refine rdR_none (fun L hL => h ?_)
    obtain rfl := hF L hL
    have hall : its.all (fun x => goodV x token) = true := List.all_eq_true.2 (fun x hx => (hL.ok x hx).1)
    rw [vt_ok (by have := hL.len; omega) hall]
    exact ⟨rfl, hL.txt⟩
end Rd
end Go.Proofs.YtghckjmpcokhcaaGreatDoor
