/-
  The plain function by which both GoodCmd answer: of a kind, the keys and the other fields. No Go function is spoken of here.
-/
import Derived.Test.YtncmehgjpifinacKeysP
import Derived.Test.YtncmehgjpifinacGoodKeyS
import Derived.Test.YtncmehgjpifinacKindS
namespace Go.Proofs.Ytncmehgjpifinac
namespace GoodCmd
open Go.RowKit Base GoodKey Kind

def numB (named : Bool) (n : Int) : Bool := decide (n = 0) || (named && decide (0 < n) && decide (n ≤ 1000000000))
def datB (bd : Bool) (dt : ByteArray) : Bool := decide (dt.size = 0) || (bd && decide (dt.size ≤ 100))
def formB (lo hi : Int) (bf bx bd bn bq : Bool) (ks : List ByteArray) (f x n : Int) (dt : ByteArray) (q : Bool) : Bool :=
  (inB ks.length lo hi && ks.all gkb) && numB bf f && numB bx x && numB bn n && datB bd dt && (!q || bq)
def gcB (k : Int) (ks : List ByteArray) (f x n : Int) (dt : ByteArray) (q : Bool) : Bool :=
  if k = 1 then formB 1 10 false false false false false ks f x n dt q else
  if k = 2 then formB 1 1 true true true false true ks f x n dt q else
  if k = 3 then formB 1 1 true true true true true ks f x n dt q else
  if k = 4 then formB 1 1 false false false true true ks f x n dt q else
  if k = 5 then formB 1 1 false true false false true ks f x n dt q else
  if k = 6 then formB 1 1 false false false false true ks f x n dt q else
  if k = 7 then formB 0 0 false false false false false ks f x n dt q else false

theorem gcB_bad (k : Int) (ks : List ByteArray) (f x n : Int) (dt : ByteArray) (q : Bool) (h : ks.all gkb = false) : gcB k ks f x n dt q = false := by
  unfold gcB formB
  rw [h]
  simp
theorem dat_empty (dt : ByteArray) : dt.toList.isEmpty = decide (dt.size = 0) := by
  rw [Lib.toList_data]
  have e : dt.data.toList.length = dt.size := by simp
  rw [← e]
  cases dt.data.toList with
  | nil => rfl
  | cons a l => rfl
theorem dat_nil (dt : ByteArray) : dt.toList = [] ↔ dt.size = 0 := by
  have := dat_empty dt
  rw [Bool.eq_iff_iff] at this
  simpa [List.isEmpty_iff] using this

variable {lo hi : Int} {bf bx bd bn bq : Bool} {ks : List ByteArray} {f x n : Int} {dt : ByteArray} {q : Bool}
theorem num_no {b : Bool} {z : Int} (h : ¬ inB z 0 1000000000 = true) : numB b z = false := by
  unfold inB at h
  unfold numB
  simp only [Bool.and_eq_true, decide_eq_true_eq] at h
  cases b
  · simp; omega
  · simp; omega
theorem num_yes {z : Int} (h : inB z 0 1000000000 = true) : numB true z = true := by
  unfold inB at h
  unfold numB
  simp only [Bool.and_eq_true, decide_eq_true_eq] at h
  simp; omega
theorem num_zero {b : Bool} {z : Int} (h : z = 0) : numB b z = true := by subst h; simp [numB]
theorem num_not0 {z : Int} (h : ¬ z = 0) : numB false z = false := by simp [numB, h]
theorem dat_no {b : Bool} (h : 100 < (dt.size : Int)) : datB b dt = false := by
  unfold datB
  rw [decide_eq_false (show ¬ dt.size = 0 by omega), decide_eq_false (show ¬ dt.size ≤ 100 by omega)]
  simp
theorem dat_yes (h : (dt.size : Int) ≤ 100) : datB true dt = true := by
  unfold datB
  simp; omega
theorem dat_zero {b : Bool} (h : dt.toList = []) : datB b dt = true := by simp [datB, (dat_nil dt).1 h]
theorem dat_not0 (h : ¬ dt.toList = []) : datB false dt = false := by
  have : ¬ dt.size = 0 := fun e => h ((dat_nil dt).2 e)
  simp [datB, this]
theorem form_g (h : (inB ks.length lo hi && ks.all gkb) = false) : false = formB lo hi bf bx bd bn bq ks f x n dt q := by simp only [formB, h, Bool.false_and]
theorem form_fin (h : (inB ks.length lo hi && ks.all gkb) = true) (h1 : numB bf f = true) (h2 : numB bx x = true) (h3 : numB bn n = true) (h4 : datB bd dt = true) : formB lo hi bf bx bd bn bq ks f x n dt q = (!q || bq) := by
  simp only [formB, h, h1, h2, h3, h4, Bool.true_and]
theorem dat_non (h : ¬ dt.toList = []) (hb : ¬ bd = true) : datB bd dt = false := by
  rw [Bool.eq_false_iff.2 hb]; exact dat_not0 h
theorem dat_big (hb : bd = true) (h : (dt.size : Int) ≤ 100) : datB bd dt = true := by rw [hb]; exact dat_yes h
theorem form_f (h : numB bf f = false) : false = formB lo hi bf bx bd bn bq ks f x n dt q := by simp [formB, h]
theorem form_x (h : numB bx x = false) : false = formB lo hi bf bx bd bn bq ks f x n dt q := by simp [formB, h]
theorem form_n (h : numB bn n = false) : false = formB lo hi bf bx bd bn bq ks f x n dt q := by simp [formB, h]
theorem form_d (h : datB bd dt = false) : false = formB lo hi bf bx bd bn bq ks f x n dt q := by simp [formB, h]
theorem form_q (hq : q = true) (hb : bq = false) : false = formB lo hi bf bx bd bn bq ks f x n dt q := by simp [formB, hq, hb]
theorem form_end (ha : ks.all gkb = true) (h1 : numB bf f = true) (h2 : numB bx x = true) (h3 : numB bn n = true) (h4 : datB bd dt = true) : formB lo hi bf bx bd bn bq ks f x n dt q = (inB ks.length lo hi && (!q || bq)) := by
  simp [formB, ha, h1, h2, h3, h4]
theorem ne_of {z : Int} (h : (z != 0) = true) : ¬ z = 0 := by simpa using h
theorem eq_of {z : Int} (h : (z != 0) = false) : z = 0 := by simpa using h
theorem gcB0 : gcB 0 ks f x n dt q = false := rfl
theorem gcB1 : gcB 1 ks f x n dt q = formB 1 10 false false false false false ks f x n dt q := rfl
theorem gcB2 : gcB 2 ks f x n dt q = formB 1 1 true true true false true ks f x n dt q := rfl
theorem gcB3 : gcB 3 ks f x n dt q = formB 1 1 true true true true true ks f x n dt q := rfl
theorem gcB4 : gcB 4 ks f x n dt q = formB 1 1 false false false true true ks f x n dt q := rfl
theorem gcB5 : gcB 5 ks f x n dt q = formB 1 1 false true false false true ks f x n dt q := rfl
theorem gcB6 : gcB 6 ks f x n dt q = formB 1 1 false false false false true ks f x n dt q := rfl
theorem gcB7 : gcB 7 ks f x n dt q = formB 0 0 false false false false false ks f x n dt q := rfl
theorem one_len (l : List ByteArray) : ((l.length : Int) == 1) = inB l.length 1 1 := by
  rw [Bool.eq_iff_iff]
  simp only [inB, beq_iff_eq, Bool.and_eq_true, decide_eq_true_eq]
  omega
theorem zero_len (l : List ByteArray) : ((l.length : Int) == 0) = inB l.length 0 0 := by
  rw [Bool.eq_iff_iff]
  simp only [inB, beq_iff_eq, Bool.and_eq_true, decide_eq_true_eq]
  omega
end GoodCmd
end Go.Proofs.Ytncmehgjpifinac
