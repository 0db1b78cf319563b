/-
  Words between blanks, as plain data; what the library's Split and Cut tell of them. No Go function is spoken of here.
-/
import Derived.Test.YtghckjmpcokhcaaGreatDoorBase
import Derived.Lib.SplitLaws
import Derived.Lib.CutLaws
import Derived.Test.YtghckjmpcokhcaaGreatDoorItemsZ
import Derived.Test.YtghckjmpcokhcaaGreatDoorKeyZ
namespace Go.Proofs.YtghckjmpcokhcaaGreatDoor
namespace Sp
open Go Go.Lib
set_option linter.unusedVariables false

def pre (c : UInt8) : List (List UInt8) → List (List UInt8)
  | [] => [[c]]
  | a :: r => (c :: a) :: r
/-- The words of a line. -/
def sp : List UInt8 → List (List UInt8)
  | [] => [[]]
  | c :: l => if c = 32 then [] :: sp l else pre c (sp l)
theorem sp_ne (l : List UInt8) : sp l ≠ [] := by
  cases l with
  | nil => simp [sp]
  | cons c l =>
    unfold sp
    split
    · simp
    · cases h : sp l <;> simp [pre]
theorem sp_word {a : List UInt8} (h : 32 ∉ a) : sp a = [a] := by
  induction a with
  | nil => rfl
  | cons c a ih =>
    simp only [List.mem_cons, not_or] at h
    unfold sp
    rw [if_neg (fun e => h.1 e.symm), ih h.2]; rfl
theorem sp_cons {a l : List UInt8} (h : 32 ∉ a) : sp (a ++ 32 :: l) = a :: sp l := by
  induction a with
  | nil => simp [sp]
  | cons c a ih =>
    simp only [List.mem_cons, not_or] at h
    rw [List.cons_append]
    conv => lhs; unfold sp
    rw [if_neg (fun e => h.1 e.symm), ih h.2]; rfl
def join : List (List UInt8) → List UInt8
  | [] => []
  | [a] => a
  | a :: b :: r => a ++ 32 :: join (b :: r)
theorem join_cons {a : List UInt8} {r : List (List UInt8)} (h : r ≠ []) : join (a :: r) = a ++ 32 :: join r := by
  cases r with
  | nil => exact absurd rfl h
  | cons b r => rfl
theorem join_pre (c : UInt8) (r : List (List UInt8)) : join (pre c r) = c :: join r := by
  match r with
  | [] => rfl
  | [a] => rfl
  | a :: b :: r => rfl
theorem join_sp (l : List UInt8) : join (sp l) = l := by
  induction l with
  | nil => rfl
  | cons c l ih =>
    unfold sp
    split
    · rename_i e
      rw [join_cons (sp_ne l), ih, e]; rfl
    · rw [join_pre, ih]
theorem pre_app (c : UInt8) (a : List UInt8) (r : List (List UInt8)) : pre c (a :: r) = (c :: a) :: r := rfl

/-! The library's index of one byte. -/
theorem idx_cons (b : UInt8) (l : List UInt8) : index (b :: l) [32] = if b = 32 then 0 else if index l [32] = -1 then -1 else index l [32] + 1 := by
  conv => lhs; unfold index
  by_cases h : b = 32
  · rw [if_pos h, h]; rfl
  · have e : List.isPrefixOf [32] (b :: l) = false := by
      simp only [List.isPrefixOf, Bool.and_true, beq_eq_false_iff_ne, ne_eq]
      exact fun e => h e.symm
    rw [e, if_neg h]
    by_cases h2 : index l [32] = -1 <;> simp [h2]
theorem idx_miss {l : List UInt8} (h : index l [32] = -1) : 32 ∉ l := by
  induction l with
  | nil => simp
  | cons b l ih =>
    rw [idx_cons] at h
    by_cases hb : b = 32
    · rw [if_pos hb] at h; exact absurd h (by decide)
    · rw [if_neg hb] at h
      have hg := index_ge l [32]
      by_cases h2 : index l [32] = -1
      · simp only [List.mem_cons, not_or]; exact ⟨fun e => hb e.symm, ih h2⟩
      · rw [if_neg h2] at h; omega
theorem idx_hit {l : List UInt8} {i : Nat} (h : index l [32] = i) : 32 ∉ l.take i ∧ l = l.take i ++ 32 :: l.drop (i + 1) := by
  induction l generalizing i with
  | nil => simp [index] at h
  | cons b l ih =>
    rw [idx_cons] at h
    by_cases hb : b = 32
    · rw [if_pos hb] at h
      obtain rfl : i = 0 := by omega
      simp [hb]
    · rw [if_neg hb] at h
      have hg := index_ge l [32]
      by_cases h2 : index l [32] = -1
      · rw [if_pos h2] at h; omega
      · rw [if_neg h2] at h
        obtain ⟨j, rfl⟩ : ∃ j, i = j + 1 := ⟨i - 1, by omega⟩
        obtain ⟨h3, h4⟩ := ih (i := j) (by omega)
        refine ⟨?_, ?_⟩
        · simp only [List.take_succ_cons, List.mem_cons, not_or]; exact ⟨fun e => hb e.symm, h3⟩
        · simp only [List.take_succ_cons, List.drop_succ_cons, List.cons_append]; rw [← h4]
theorem split_sp : ∀ (m : Nat) (l : List UInt8) (k : Nat), l.length ≤ m → count l [32] = k → splitK [32] 0 k l = sp l := by
  intro m
  induction m with
  | zero =>
    intro l k hl hk
    obtain rfl : l = [] := List.length_eq_zero_iff.1 (by omega)
    have : k = 0 := by rw [← hk]; rfl
    subst this; rfl
  | succ m ih =>
    intro l k hl hk
    by_cases h : index l [32] = -1
    · have h0 : k = 0 := by rw [← hk]; exact count_miss h
      subst h0
      rw [sp_word (idx_miss h)]; rfl
    · have hg := index_ge l [32]
      obtain ⟨i, hi⟩ : ∃ i : Nat, index l [32] = i := ⟨(index l [32]).toNat, by omega⟩
      obtain ⟨h1, h2⟩ := idx_hit hi
      have hc := count_hit (by simp) hi (s := l)
      rw [hk] at hc
      simp only [List.length_cons, List.length_nil] at hc
      subst hc
      rw [Nat.add_comm 1]
      have hne : ¬ (index l [32] == -1) = true := fun e => h (beq_iff_eq.1 e)
      unfold splitK
      rw [if_neg hne]
      have e : (index l [32]).toNat = i := by omega
      rw [e]
      simp only [Nat.add_zero, List.length_cons, List.length_nil, Nat.zero_add]
      have hd : (l.drop (i + 1)).length ≤ m := by
        have := congrArg List.length h2
        simp only [List.length_append, List.length_cons, List.length_take, List.length_drop] at this
        rw [List.length_drop]; omega
      rw [ih (l.drop (i + 1)) _ hd rfl]
      conv => rhs; rw [h2]
      rw [sp_cons h1]
/-- What strings.Split at a blank makes of a line. -/
theorem splitB_sp (s : ByteArray) : (splitB ⟨#[32]⟩ 0 (countB s ⟨#[32]⟩) s).map (·.data.toList) = sp s.data.toList := by
  rw [splitB_data]
  exact split_sp s.data.toList.length s.data.toList _ (Nat.le_refl _) rfl
end Sp
end Go.Proofs.YtghckjmpcokhcaaGreatDoor
/-
  What a good store is, as a plain function of its fields, and the charges of items. No Go function is spoken of here.
-/
namespace Go.Proofs.YtghckjmpcokhcaaGreatDoor
namespace Store
open Go.RowKit Base GoodKey Items

def itemB (x : Itm) : Bool := gk x.key.data.toList && inB x.flags 0 1000000000 && decide ((x.data.size : Int) ≤ 100) && inB x.upto 0 2000000000 && inB x.token 1 1000000000
theorem item_1 {x : Itm} (h : ¬ gk x.key.data.toList = true) : false = itemB x := by simp [itemB, h]
theorem item_2 {x : Itm} (h : ¬ inB x.flags 0 1000000000 = true) : false = itemB x := by simp [itemB, h]
theorem item_3 {x : Itm} (h : ¬ (x.data.size : Int) ≤ 100) : false = itemB x := by
  unfold itemB; rw [decide_eq_false h]; simp
theorem item_4 {x : Itm} (h : ¬ inB x.upto 0 2000000000 = true) : false = itemB x := by simp [itemB, h]
theorem item_5 {x : Itm} (h1 : gk x.key.data.toList = true) (h2 : inB x.flags 0 1000000000 = true) (h3 : (x.data.size : Int) ≤ 100) (h4 : inB x.upto 0 2000000000 = true) : inB x.token 1 1000000000 = itemB x := by
  unfold itemB; rw [h1, h2, h4, decide_eq_true h3]; simp

def charge (x : Itm) : Int := x.key.size + x.data.size + 10
def total : List Itm → Int
  | [] => 0
  | x :: r => charge x + total r
theorem total_append (a b : List Itm) : total (a ++ b) = total a + total b := by
  induction a with
  | nil => simp [total]
  | cons x r ih => simp only [List.cons_append, total, ih]; omega
theorem total_step (its : List Itm) (k : Nat) (h : k < its.length) : total (its.take (k + 1)) = total (its.take k) + charge (its.getD k zero) := by
  rw [List.take_succ_eq_append_getElem h, total_append]
  simp [total, List.getD_eq_getElem?_getD, List.getElem?_eq_getElem h]
/-- Small items: what l2All may be asked of without a wrap. -/
def Small (x : Itm) : Prop := x.key.size ≤ 1048576 ∧ x.data.size ≤ 1048576
theorem small_getD {its : List Itm} (h : ∀ x ∈ its, Small x) (k : Nat) (hk : k < its.length) : Small (its.getD k zero) := by
  rw [List.getD_eq_getElem?_getD, List.getElem?_eq_getElem hk]
  exact h _ (List.getElem_mem _)
theorem total_bd (its : List Itm) (h : ∀ x ∈ its, Small x) : 0 ≤ total its ∧ total its ≤ its.length * 2097162 := by
  induction its with
  | nil => simp [total]
  | cons x r ih =>
    have h1 := h x (by simp)
    have h2 := ih (fun y hy => h y (by simp [hy]))
    unfold Small at h1
    simp only [total, charge, List.length_cons]
    omega

def clash (o x : Itm) : Bool := (o.key.toList == x.key.toList) || (o.token == x.token)
def freshB (x : Itm) (l : List Itm) : Bool := l.all (fun o => !clash o x)
def stepB (nx : Int) (its : List Itm) (i : Nat) : Bool := itemB (its.getD i zero) && decide ((its.getD i zero).token < nx) && freshB (its.getD i zero) (its.take i)
def goodTo (nx : Int) (its : List Itm) (k : Nat) : Bool := (List.range k).all (stepB nx its)
def gsB (lim nx : Int) (its : List Itm) : Bool := inB lim 0 10000 && inB nx 1 1000000000 && decide ((its.length : Int) ≤ 60) && goodTo nx its its.length && decide (total its ≤ lim)
theorem gs_1 {lim nx : Int} {its : List Itm} (h : ¬ inB lim 0 10000 = true) : gsB lim nx its = false := by simp [gsB, h]
theorem gs_2 {lim nx : Int} {its : List Itm} (h : ¬ inB nx 1 1000000000 = true) : gsB lim nx its = false := by simp [gsB, h]
theorem gs_3 {lim nx : Int} {its : List Itm} (h : 60 < (its.length : Int)) : gsB lim nx its = false := by
  unfold gsB; rw [decide_eq_false (show ¬ (its.length : Int) ≤ 60 by omega)]; simp
theorem goodTo_step {nx : Int} {its : List Itm} {k : Nat} (h : goodTo nx its k = true) (hs : stepB nx its k = true) : goodTo nx its (k + 1) = true := by
  unfold goodTo at *
  rw [List.range_succ, List.all_append, h]
  simp [hs]
theorem goodTo_bad {nx : Int} {its : List Itm} {k : Nat} (hk : k < its.length) (hs : stepB nx its k = false) : goodTo nx its its.length = false := by
  unfold goodTo
  rw [List.all_eq_false]
  exact ⟨k, by simpa using hk, by simp [hs]⟩
theorem gs_4 {lim nx : Int} {its : List Itm} {k : Nat} (hk : k < its.length) (hs : stepB nx its k = false) : gsB lim nx its = false := by
  unfold gsB; rw [goodTo_bad hk hs]; simp
theorem gs_5 {lim nx : Int} {its : List Itm} (h1 : inB lim 0 10000 = true) (h2 : inB nx 1 1000000000 = true) (h3 : ¬ 60 < (its.length : Int)) (h4 : goodTo nx its its.length = true) : decide (total its ≤ lim) = gsB lim nx its := by
  unfold gsB; rw [h1, h2, h4, decide_eq_true (show (its.length : Int) ≤ 60 by omega)]; simp
theorem step_1 {nx : Int} {its : List Itm} {k : Nat} (h : itemB (its.getD k zero) = false) : stepB nx its k = false := by simp only [stepB, h, Bool.false_and]
theorem step_2 {nx : Int} {its : List Itm} {k : Nat} (h : nx ≤ (its.getD k zero).token) : stepB nx its k = false := by
  unfold stepB; rw [decide_eq_false (show ¬ (its.getD k zero).token < nx by omega)]; simp
theorem step_3 {nx : Int} {its : List Itm} {k : Nat} (h : freshB (its.getD k zero) (its.take k) = false) : stepB nx its k = false := by simp only [stepB, h, Bool.and_false]
theorem step_4 {nx : Int} {its : List Itm} {k : Nat} (h1 : itemB (its.getD k zero) = true) (h2 : ¬ nx ≤ (its.getD k zero).token) (h3 : freshB (its.getD k zero) (its.take k) = true) : stepB nx its k = true := by
  simp only [stepB, h1, h3, decide_eq_true (show (its.getD k zero).token < nx by omega)]; rfl
theorem fresh_step {x : Itm} {its : List Itm} {j : Nat} (hj : j < its.length) (h : freshB x (its.take j) = true) (hc : clash (its.getD j zero) x = false) : freshB x (its.take (j + 1)) = true := by
  unfold freshB at *
  rw [List.take_succ_eq_append_getElem hj, List.all_append, h]
  simp [List.getD_eq_getElem?_getD, List.getElem?_eq_getElem hj] at hc
  simp [hc]
theorem fresh_bad {x : Itm} {its : List Itm} {j k : Nat} (hjk : j < k) (hk : k ≤ its.length) (hc : clash (its.getD j zero) x = true) : freshB x (its.take k) = false := by
  unfold freshB
  rw [List.all_eq_false]
  refine ⟨its[j]'(by omega), ?_, ?_⟩
  · rw [List.mem_take_iff_getElem]
    exact ⟨j, by omega, rfl⟩
  · simp [List.getD_eq_getElem?_getD, List.getElem?_eq_getElem (show j < its.length by omega)] at hc
    simp [hc]
theorem good_small {nx : Int} {its : List Itm} (h : goodTo nx its its.length = true) : ∀ x ∈ its, Small x := by
  intro x hx
  obtain ⟨i, hi, rfl⟩ := List.getElem_of_mem hx
  unfold goodTo at h
  rw [List.all_eq_true] at h
  have := h i (by simpa using hi)
  simp only [stepB, itemB, gk, inB, List.getD_eq_getElem?_getD, List.getElem?_eq_getElem hi, Option.getD_some, Bool.and_eq_true, decide_eq_true_eq] at this
  have el : its[i].key.data.toList.length = its[i].key.size := by simp
  unfold Small
  omega
end Store
end Go.Proofs.YtghckjmpcokhcaaGreatDoor
