/-
  An item as it is told, as plain data. No Go function is spoken of here.
-/
import Derived.Test.YtghckjmpcokhcaaGreatDoorSpS
import Derived.Test.YtghckjmpcokhcaaGreatDoorPlainA
namespace Go.Proofs.YtghckjmpcokhcaaGreatDoor
namespace Shelf
open Go.RowKit Base Items Store GoodKey NumText
set_option linter.unusedVariables false

def valueS : ByteArray := ⟨#[86, 65, 76, 85, 69, 32]⟩
def blankS : ByteArray := ⟨#[32]⟩
def endS : ByteArray := ⟨#[13, 10]⟩
/-- The line ahead of an item's data, without its token. -/
def lineR (x : Itm) : ByteArray := valueS ++ x.key ++ blankS ++ txt x.flags.toNat ++ blankS ++ txt x.data.size
def valueR (x : Itm) (token : Bool) : ByteArray := (if token then lineR x ++ (blankS ++ txt x.token.toNat) else lineR x) ++ endS ++ x.data ++ endS
theorem txt_le (n : Nat) (h : n < 18446744073709551616) : (txt n).size ≤ 20 := by
  have e : (txt n).size = Lib.nDigits n := by
    show (Lib.decDigits n).toArray.size = _
    rw [← Lib.decDigits_length n]; simp
  rw [e]; exact Lib.nDigits_le20 n h
theorem bx5' (w : World) (t : TypeId) (v0 v1 v2 v3 v4 : Value) : (w.alloc (.cells #[v0, v1, v2, v3, v4] t)).cell? ⟨w.heap.size, 0, none⟩ = some v0 ∧ (w.alloc (.cells #[v0, v1, v2, v3, v4] t)).cell? ⟨w.heap.size, 1, none⟩ = some v1 ∧
    (w.alloc (.cells #[v0, v1, v2, v3, v4] t)).cell? ⟨w.heap.size, 2, none⟩ = some v2 ∧ (w.alloc (.cells #[v0, v1, v2, v3, v4] t)).cell? ⟨w.heap.size, 3, none⟩ = some v3 ∧ (w.alloc (.cells #[v0, v1, v2, v3, v4] t)).cell? ⟨w.heap.size, 4, none⟩ = some v4 := by
  refine ⟨?_, ?_, ?_, ?_, ?_⟩ <;> (rw [World.cell?_alloc_new]; rfl)
end Shelf
end Go.Proofs.YtghckjmpcokhcaaGreatDoor
/-
  A text of items, as plain data. No Go function is spoken of here.
-/
namespace Go.Proofs.YtghckjmpcokhcaaGreatDoor
namespace Vals
open Go.RowKit Base Items Store GoodKey NumText Shelf
set_option linter.unusedVariables false

/-- What is asked of an item that is to be told. -/
def goodV (x : Itm) (token : Bool) : Bool := gk x.key.data.toList && inB x.flags 0 1000000000 && decide ((x.data.size : Int) ≤ 100) && (!token || inB x.token 1 1000000000)
def asItem (x : Itm) (token : Bool) : Itm := { x with upto := 0, token := if token then x.token else 1 }
theorem goodV_item (x : Itm) (token : Bool) : itemB (asItem x token) = goodV x token := by
  cases token <;> simp [itemB, goodV, asItem, inB]
theorem goodV_iff (x : Itm) (token : Bool) : goodV x token = true ↔ gk x.key.data.toList = true ∧ 0 ≤ x.flags ∧ x.flags ≤ 1000000000 ∧ (x.data.size : Int) ≤ 100 ∧ (token = true → 1 ≤ x.token ∧ x.token ≤ 1000000000) := by
  cases token <;> simp [goodV, inB, and_assoc]
theorem goodV_small {x : Itm} {token : Bool} (h : goodV x token = true) : x.key.size ≤ 30 ∧ x.data.size ≤ 100 := by
  obtain ⟨h1, _, _, h4, _⟩ := (goodV_iff x token).1 h
  refine ⟨?_, by omega⟩
  apply Nat.le_of_not_lt
  intro hn
  have := gk_len x.key (.inr (by omega))
  rw [h1] at this
  exact absurd this (by decide)
theorem valueR_size {x : Itm} {token : Bool} (h : goodV x token = true) : (valueR x token).size ≤ 300 := by
  obtain ⟨h1, h2⟩ := goodV_small h
  obtain ⟨_, a, b, _, c⟩ := (goodV_iff x token).1 h
  have s1 := txt_le x.flags.toNat (by omega)
  have s2 := txt_le x.data.size (by omega)
  have e1 : valueS.size = 6 := rfl
  have e2 : blankS.size = 1 := rfl
  have e3 : endS.size = 2 := rfl
  cases token
  · simp only [valueR, lineR, ByteArray.size_append, Bool.false_eq_true, if_false]; omega
  · have s3 := txt_le x.token.toNat (by have := c rfl; omega)
    simp only [valueR, lineR, ByteArray.size_append, if_true]; omega

/-- The items as they are told, one behind the other. -/
def told (token : Bool) : List Itm → ByteArray
  | [] => ByteArray.empty
  | x :: l => valueR x token ++ told token l
theorem told_append (token : Bool) (a b : List Itm) : told token (a ++ b) = told token a ++ told token b := by
  induction a with
  | nil => simp [told]
  | cons x l ih => simp only [List.cons_append, told, ih, ByteArray.append_assoc]
theorem told_step (token : Bool) (l : List Itm) (k : Nat) (h : k < l.length) : told token (l.take (k + 1)) = told token (l.take k) ++ valueR (l.getD k zero) token := by
  have e : l.take (k + 1) = l.take k ++ [l.getD k zero] := by
    rw [List.take_add_one, List.getElem?_eq_getElem h]; simp [List.getD, List.getElem?_eq_getElem h]
  rw [e, told_append]; simp [told]
def goodTo (token : Bool) (l : List Itm) (k : Nat) : Bool := (l.take k).all (fun x => goodV x token)
theorem goodTo_step {token : Bool} {l : List Itm} {k : Nat} (hk : k < l.length) (h : goodTo token l k = true) (hs : goodV (l.getD k zero) token = true) : goodTo token l (k + 1) = true := by
  have e : l.take (k + 1) = l.take k ++ [l.getD k zero] := by
    rw [List.take_add_one, List.getElem?_eq_getElem hk]; simp [List.getD, List.getElem?_eq_getElem hk]
  unfold goodTo at *
  rw [e, List.all_append, h, List.all_cons, hs]; rfl
theorem goodTo_bad {token : Bool} {l : List Itm} {k : Nat} (hk : k < l.length) (hs : goodV (l.getD k zero) token = false) : l.all (fun x => goodV x token) = false := by
  cases e : l.all (fun x => goodV x token)
  · rfl
  · rw [List.all_eq_true] at e
    have := e (l.getD k zero) (by simp [List.getD, List.getElem?_eq_getElem hk])
    rw [hs] at this; exact this.symm
theorem goodTo_all {token : Bool} {l : List Itm} (h : goodTo token l l.length = true) : l.all (fun x => goodV x token) = true := by
  unfold goodTo at h; rwa [List.take_length] at h
theorem told_size {token : Bool} {l : List Itm} (h : l.all (fun x => goodV x token) = true) : (told token l).size ≤ 300 * l.length := by
  induction l with
  | nil => simp [told]
  | cons x l ih =>
    simp only [List.all_cons, Bool.and_eq_true] at h
    have := ih h.2
    have := valueR_size h.1
    simp only [told, ByteArray.size_append, List.length_cons]; omega
theorem told_size_to {token : Bool} {l : List Itm} {k : Nat} (h : goodTo token l k = true) : (told token (l.take k)).size ≤ 300 * k := by
  have := told_size h
  have : (l.take k).length ≤ k := by simp; omega
  omega
def lastS : ByteArray := ⟨#[69, 78, 68, 13, 10]⟩
/-- What ValuesText tells. -/
structure Res where
  s : ByteArray
  ok : Bool
def vtR (l : List Itm) (token : Bool) : Res := if 60 < (l.length : Int) then ⟨ByteArray.empty, false⟩ else if l.all (fun x => goodV x token) then ⟨told token l ++ lastS, true⟩ else ⟨ByteArray.empty, false⟩
theorem vt_long {l : List Itm} {token : Bool} (h : 60 < (l.length : Int)) : vtR l token = ⟨ByteArray.empty, false⟩ := if_pos h
theorem vt_bad {l : List Itm} {token : Bool} (h : l.all (fun x => goodV x token) = false) : vtR l token = ⟨ByteArray.empty, false⟩ := by unfold vtR; split <;> simp [h]
theorem vt_ok {l : List Itm} {token : Bool} (h1 : ¬ 60 < (l.length : Int)) (h : l.all (fun x => goodV x token) = true) : vtR l token = ⟨told token l ++ lastS, true⟩ := by unfold vtR; rw [if_neg h1, if_pos h]
end Vals
end Go.Proofs.YtghckjmpcokhcaaGreatDoor
