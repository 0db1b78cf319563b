/-
  The contract of the model's l1In; what a good key is, as a plain function of its bytes.
-/
import Derived.Test.YthgcfklfpllgnaaDoorRows
import Derived.Test.YthgcfklfpllgnaaDoorZ1
namespace Go.Proofs.YthgcfklfpllgnaaDoor
namespace GoodKey
open Go.RowKit Base
set_option linter.unusedVariables false

def okb (c : UInt8) : Bool := decide (33 ≤ c.toNat) && decide (c.toNat ≤ 126)
def inB (n lo hi : Int) : Bool := decide (lo ≤ n) && decide (n ≤ hi)
def gk (l : List UInt8) : Bool := inB l.length 1 30 && l.all okb

theorem take_snoc (s : ByteArray) (k : Nat) (h : k < s.size) : s.data.toList.take (k + 1) = s.data.toList.take k ++ [s[k]] := by
  rw [List.take_succ_eq_append_getElem (by simpa using h)]; rfl
theorem all_snoc (s : ByteArray) (k : Nat) (h : k < s.size) (ha : (s.data.toList.take k).all okb = true) (h1 : ¬ (s[k].toNat : Int) < 33) (h2 : ¬ 126 < (s[k].toNat : Int)) :
    (s.data.toList.take (k + 1)).all okb = true := by
  rw [take_snoc s k h, List.all_append, ha]
  simp [okb]; omega
theorem gk_bad (s : ByteArray) (k : Nat) (h : k < s.size) (hb : (s[k].toNat : Int) < 33 ∨ 126 < (s[k].toNat : Int)) : gk s.data.toList = false := by
  have hm : s[k] ∈ s.data.toList := by
    have e : s[k] = s.data.toList[k]'(by simpa using h) := rfl
    rw [e]; exact List.getElem_mem _
  have ho : okb s[k] = false := by simp [okb]; omega
  have ha : s.data.toList.all okb = false := by
    rw [List.all_eq_false]; exact ⟨_, hm, by simp [ho]⟩
  simp [gk, ha]
theorem gk_all (s : ByteArray) (k : Nat) (hk : k ≤ s.size) (h : ¬ k < s.size) (ha : (s.data.toList.take k).all okb = true) : inB s.size 1 30 = gk s.data.toList := by
  have e : s.data.toList.take k = s.data.toList := List.take_of_length_le (by simp; omega)
  rw [e] at ha
  have el : s.data.toList.length = s.size := by simp
  simp [gk, ha, el]
theorem gk_len (s : ByteArray) (h : (s.size : Int) < 1 ∨ 30 < (s.size : Int)) : gk s.data.toList = false := by
  have el : s.data.toList.length = s.size := by simp
  have e : inB s.size 1 30 = false := by simp [inB]; omega
  simp [gk, el, e]
theorem inB_true (s : ByteArray) (h1 : ¬ (s.size : Int) < 1) (h2 : ¬ 30 < (s.size : Int)) : inB s.size 1 30 = true := by simp [inB]; omega

set_option maxHeartbeats 400000 in
theorem l1In_any (n lo hi : Int) (w : World) :
    Calls Tryd.prog 27 #[.int .i64 n, .int .i64 lo, .int .i64 hi] w fun e w' => e = .returned (.bool (inB n lo hi)) ∧ w' = w := by
  by_cases h : lo ≤ n
  · go_enter Tryd.func27, Tryd.ntmps27
    go_wp2
    go_ret
    exact ⟨ret_bool (by simp [inB, h]), rfl⟩
  · go_enter Tryd.func27, Tryd.ntmps27
    go_wp2
    go_ret
    exact ⟨ret_bool (by rw [inB, decide_eq_false (by omega)]; rfl), rfl⟩

end GoodKey
end Go.Proofs.YthgcfklfpllgnaaDoor
/-
  The contract of the model's GoodKey: it answers by a plain function of the bytes, for every string.
-/
namespace Go.Proofs.YthgcfklfpllgnaaDoor
namespace GoodKey
open Go.RowKit Base
set_option linter.unusedVariables false

end GoodKey
end Go.Proofs.YthgcfklfpllgnaaDoor
/-
  What a good store is, as a plain function of its fields, and the charges of items. No Go function is spoken of here.
-/
namespace Go.Proofs.YthgcfklfpllgnaaDoor
namespace Store
open Go.RowKit Base GoodKey Items

def itemB (x : Itm) : Bool := gk x.key.data.toList && inB x.flags 0 1000000000 && decide ((x.data.size : Int) ≤ 100) && inB x.upto 0 2000000000 && inB x.token 1 1000000000
theorem item_1 {x : Itm} (h : ¬ gk x.key.data.toList = true) : false = itemB x := by simp [itemB, h]
theorem item_2 {x : Itm} (h : ¬ inB x.flags 0 1000000000 = true) : false = itemB x := by simp [itemB, h]
theorem item_3 {x : Itm} (h : ¬ (x.data.size : Int) ≤ 100) : false = itemB x := by
  unfold itemB; rw [decide_eq_false h]; simp
theorem item_4 {x : Itm} (h : ¬ inB x.upto 0 2000000000 = true) : false = itemB x := by simp [itemB, h]
theorem item_5 {x : Itm} (h1 : gk x.key.data.toList = true) (h2 : inB x.flags 0 1000000000 = true) (h3 : (x.data.size : Int) ≤ 100) (h4 : inB x.upto 0 2000000000 = true) : inB x.token 1 1000000000 = itemB x := by
  unfold itemB; rw [h1, h2, h4, decide_eq_true h3]; simp

def charge (x : Itm) : Int := x.key.size + x.data.size + 10
def total : List Itm → Int
  | [] => 0
  | x :: r => charge x + total r
theorem total_append (a b : List Itm) : total (a ++ b) = total a + total b := by
  induction a with
  | nil => simp [total]
  | cons x r ih => simp only [List.cons_append, total, ih]; omega
theorem total_step (its : List Itm) (k : Nat) (h : k < its.length) : total (its.take (k + 1)) = total (its.take k) + charge (its.getD k zero) := by
  rw [List.take_succ_eq_append_getElem h, total_append]
  simp [total, List.getD_eq_getElem?_getD, List.getElem?_eq_getElem h]
/-- Small items: what l2All may be asked of without a wrap. -/
def Small (x : Itm) : Prop := x.key.size ≤ 1048576 ∧ x.data.size ≤ 1048576
theorem small_getD {its : List Itm} (h : ∀ x ∈ its, Small x) (k : Nat) (hk : k < its.length) : Small (its.getD k zero) := by
  rw [List.getD_eq_getElem?_getD, List.getElem?_eq_getElem hk]
  exact h _ (List.getElem_mem _)
theorem total_bd (its : List Itm) (h : ∀ x ∈ its, Small x) : 0 ≤ total its ∧ total its ≤ its.length * 2097162 := by
  induction its with
  | nil => simp [total]
  | cons x r ih =>
    have h1 := h x (by simp)
    have h2 := ih (fun y hy => h y (by simp [hy]))
    unfold Small at h1
    simp only [total, charge, List.length_cons]
    omega

def clash (o x : Itm) : Bool := (o.key.toList == x.key.toList) || (o.token == x.token)
def freshB (x : Itm) (l : List Itm) : Bool := l.all (fun o => !clash o x)
def stepB (nx : Int) (its : List Itm) (i : Nat) : Bool := itemB (its.getD i zero) && decide ((its.getD i zero).token < nx) && freshB (its.getD i zero) (its.take i)
def goodTo (nx : Int) (its : List Itm) (k : Nat) : Bool := (List.range k).all (stepB nx its)
def gsB (lim nx : Int) (its : List Itm) : Bool := inB lim 0 10000 && inB nx 1 1000000000 && decide ((its.length : Int) ≤ 60) && goodTo nx its its.length && decide (total its ≤ lim)
theorem gs_1 {lim nx : Int} {its : List Itm} (h : ¬ inB lim 0 10000 = true) : gsB lim nx its = false := by simp [gsB, h]
theorem gs_2 {lim nx : Int} {its : List Itm} (h : ¬ inB nx 1 1000000000 = true) : gsB lim nx its = false := by simp [gsB, h]
theorem gs_3 {lim nx : Int} {its : List Itm} (h : 60 < (its.length : Int)) : gsB lim nx its = false := by
  unfold gsB; rw [decide_eq_false (show ¬ (its.length : Int) ≤ 60 by omega)]; simp
theorem goodTo_step {nx : Int} {its : List Itm} {k : Nat} (h : goodTo nx its k = true) (hs : stepB nx its k = true) : goodTo nx its (k + 1) = true := by
  unfold goodTo at *
  rw [List.range_succ, List.all_append, h]
  simp [hs]
theorem goodTo_bad {nx : Int} {its : List Itm} {k : Nat} (hk : k < its.length) (hs : stepB nx its k = false) : goodTo nx its its.length = false := by
  unfold goodTo
  rw [List.all_eq_false]
  exact ⟨k, by simpa using hk, by simp [hs]⟩
theorem gs_4 {lim nx : Int} {its : List Itm} {k : Nat} (hk : k < its.length) (hs : stepB nx its k = false) : gsB lim nx its = false := by
  unfold gsB; rw [goodTo_bad hk hs]; simp
theorem gs_5 {lim nx : Int} {its : List Itm} (h1 : inB lim 0 10000 = true) (h2 : inB nx 1 1000000000 = true) (h3 : ¬ 60 < (its.length : Int)) (h4 : goodTo nx its its.length = true) : decide (total its ≤ lim) = gsB lim nx its := by
  unfold gsB; rw [h1, h2, h4, decide_eq_true (show (its.length : Int) ≤ 60 by omega)]; simp
theorem step_1 {nx : Int} {its : List Itm} {k : Nat} (h : itemB (its.getD k zero) = false) : stepB nx its k = false := by simp only [stepB, h, Bool.false_and]
theorem step_2 {nx : Int} {its : List Itm} {k : Nat} (h : nx ≤ (its.getD k zero).token) : stepB nx its k = false := by
  unfold stepB; rw [decide_eq_false (show ¬ (its.getD k zero).token < nx by omega)]; simp
theorem step_3 {nx : Int} {its : List Itm} {k : Nat} (h : freshB (its.getD k zero) (its.take k) = false) : stepB nx its k = false := by simp only [stepB, h, Bool.and_false]
theorem step_4 {nx : Int} {its : List Itm} {k : Nat} (h1 : itemB (its.getD k zero) = true) (h2 : ¬ nx ≤ (its.getD k zero).token) (h3 : freshB (its.getD k zero) (its.take k) = true) : stepB nx its k = true := by
  simp only [stepB, h1, h3, decide_eq_true (show (its.getD k zero).token < nx by omega)]; rfl
theorem fresh_step {x : Itm} {its : List Itm} {j : Nat} (hj : j < its.length) (h : freshB x (its.take j) = true) (hc : clash (its.getD j zero) x = false) : freshB x (its.take (j + 1)) = true := by
  unfold freshB at *
  rw [List.take_succ_eq_append_getElem hj, List.all_append, h]
  simp [List.getD_eq_getElem?_getD, List.getElem?_eq_getElem hj] at hc
  simp [hc]
theorem fresh_bad {x : Itm} {its : List Itm} {j k : Nat} (hjk : j < k) (hk : k ≤ its.length) (hc : clash (its.getD j zero) x = true) : freshB x (its.take k) = false := by
  unfold freshB
  rw [List.all_eq_false]
  refine ⟨its[j]'(by omega), ?_, ?_⟩
  · rw [List.mem_take_iff_getElem]
    exact ⟨j, by omega, rfl⟩
  · simp [List.getD_eq_getElem?_getD, List.getElem?_eq_getElem (show j < its.length by omega)] at hc
    simp [hc]
theorem good_small {nx : Int} {its : List Itm} (h : goodTo nx its its.length = true) : ∀ x ∈ its, Small x := by
  intro x hx
  obtain ⟨i, hi, rfl⟩ := List.getElem_of_mem hx
  unfold goodTo at h
  rw [List.all_eq_true] at h
  have := h i (by simpa using hi)
  simp only [stepB, itemB, gk, inB, List.getD_eq_getElem?_getD, List.getElem?_eq_getElem hi, Option.getD_some, Bool.and_eq_true, decide_eq_true_eq] at this
  have el : its[i].key.data.toList.length = its[i].key.size := by simp
  unfold Small
  omega
end Store
end Go.Proofs.YthgcfklfpllgnaaDoor
