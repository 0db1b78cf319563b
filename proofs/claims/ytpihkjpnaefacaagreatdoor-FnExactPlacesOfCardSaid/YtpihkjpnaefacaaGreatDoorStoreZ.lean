/-
  What a good store is, as a plain function of its fields, and the charges of items. No Go function is spoken of here.
-/
import Derived.Test.YtpihkjpnaefacaaGreatDoorItemsV
import Derived.Test.YtpihkjpnaefacaaGreatDoorGoodKeyS
import Derived.Maps.OwnSet
namespace Go.Proofs.YtpihkjpnaefacaaGreatDoor
namespace Store
open Go.RowKit Base GoodKey Items

def itemB (x : Itm) : Bool := gk x.key.data.toList && inB x.flags 0 1000000000 && decide ((x.data.size : Int) ≤ 100) && inB x.upto 0 2000000000 && inB x.token 1 1000000000
theorem item_1 {x : Itm} (h : ¬ gk x.key.data.toList = true) : false = itemB x := by simp [itemB, h]
theorem item_2 {x : Itm} (h : ¬ inB x.flags 0 1000000000 = true) : false = itemB x := by simp [itemB, h]
theorem item_3 {x : Itm} (h : ¬ (x.data.size : Int) ≤ 100) : false = itemB x := by
  unfold itemB; rw [decide_eq_false h]; simp
theorem item_4 {x : Itm} (h : ¬ inB x.upto 0 2000000000 = true) : false = itemB x := by simp [itemB, h]
theorem item_5 {x : Itm} (h1 : gk x.key.data.toList = true) (h2 : inB x.flags 0 1000000000 = true) (h3 : (x.data.size : Int) ≤ 100) (h4 : inB x.upto 0 2000000000 = true) : inB x.token 1 1000000000 = itemB x := by
  unfold itemB; rw [h1, h2, h4, decide_eq_true h3]; simp

def charge (x : Itm) : Int := x.key.size + x.data.size + 10
def total : List Itm → Int
  | [] => 0
  | x :: r => charge x + total r
theorem total_append (a b : List Itm) : total (a ++ b) = total a + total b := by
  induction a with
  | nil => simp [total]
  | cons x r ih => simp only [List.cons_append, total, ih]; omega
theorem total_step (its : List Itm) (k : Nat) (h : k < its.length) : total (its.take (k + 1)) = total (its.take k) + charge (its.getD k zero) := by
  rw [List.take_succ_eq_append_getElem h, total_append]
  simp [total, List.getD_eq_getElem?_getD, List.getElem?_eq_getElem h]
/-- Small items: what l2All may be asked of without a wrap. -/
def Small (x : Itm) : Prop := x.key.size ≤ 1048576 ∧ x.data.size ≤ 1048576
theorem small_getD {its : List Itm} (h : ∀ x ∈ its, Small x) (k : Nat) (hk : k < its.length) : Small (its.getD k zero) := by
  rw [List.getD_eq_getElem?_getD, List.getElem?_eq_getElem hk]
  exact h _ (List.getElem_mem _)
theorem total_bd (its : List Itm) (h : ∀ x ∈ its, Small x) : 0 ≤ total its ∧ total its ≤ its.length * 2097162 := by
  induction its with
  | nil => simp [total]
  | cons x r ih =>
    have h1 := h x (by simp)
    have h2 := ih (fun y hy => h y (by simp [hy]))
    unfold Small at h1
    simp only [total, charge, List.length_cons]
    omega

def clash (o x : Itm) : Bool := (o.key.toList == x.key.toList) || (o.token == x.token)
def freshB (x : Itm) (l : List Itm) : Bool := l.all (fun o => !clash o x)
def stepB (nx : Int) (its : List Itm) (i : Nat) : Bool := itemB (its.getD i zero) && decide ((its.getD i zero).token < nx) && freshB (its.getD i zero) (its.take i)
def goodTo (nx : Int) (its : List Itm) (k : Nat) : Bool := (List.range k).all (stepB nx its)
def gsB (lim nx : Int) (its : List Itm) : Bool := inB lim 0 10000 && inB nx 1 1000000000 && decide ((its.length : Int) ≤ 60) && goodTo nx its its.length && decide (total its ≤ lim)
theorem gs_1 {lim nx : Int} {its : List Itm} (h : ¬ inB lim 0 10000 = true) : gsB lim nx its = false := by simp [gsB, h]
theorem gs_2 {lim nx : Int} {its : List Itm} (h : ¬ inB nx 1 1000000000 = true) : gsB lim nx its = false := by simp [gsB, h]
theorem gs_3 {lim nx : Int} {its : List Itm} (h : 60 < (its.length : Int)) : gsB lim nx its = false := by
  unfold gsB; rw [decide_eq_false (show ¬ (its.length : Int) ≤ 60 by omega)]; simp
theorem goodTo_step {nx : Int} {its : List Itm} {k : Nat} (h : goodTo nx its k = true) (hs : stepB nx its k = true) : goodTo nx its (k + 1) = true := by
  unfold goodTo at *
  rw [List.range_succ, List.all_append, h]
  simp [hs]
theorem goodTo_bad {nx : Int} {its : List Itm} {k : Nat} (hk : k < its.length) (hs : stepB nx its k = false) : goodTo nx its its.length = false := by
  unfold goodTo
  rw [List.all_eq_false]
  exact ⟨k, by simpa using hk, by simp [hs]⟩
theorem gs_4 {lim nx : Int} {its : List Itm} {k : Nat} (hk : k < its.length) (hs : stepB nx its k = false) : gsB lim nx its = false := by
  unfold gsB; rw [goodTo_bad hk hs]; simp
theorem gs_5 {lim nx : Int} {its : List Itm} (h1 : inB lim 0 10000 = true) (h2 : inB nx 1 1000000000 = true) (h3 : ¬ 60 < (its.length : Int)) (h4 : goodTo nx its its.length = true) : decide (total its ≤ lim) = gsB lim nx its := by
  unfold gsB; rw [h1, h2, h4, decide_eq_true (show (its.length : Int) ≤ 60 by omega)]; simp
theorem step_1 {nx : Int} {its : List Itm} {k : Nat} (h : itemB (its.getD k zero) = false) : stepB nx its k = false := by simp only [stepB, h, Bool.false_and]
theorem step_2 {nx : Int} {its : List Itm} {k : Nat} (h : nx ≤ (its.getD k zero).token) : stepB nx its k = false := by
  unfold stepB; rw [decide_eq_false (show ¬ (its.getD k zero).token < nx by omega)]; simp
theorem step_3 {nx : Int} {its : List Itm} {k : Nat} (h : freshB (its.getD k zero) (its.take k) = false) : stepB nx its k = false := by simp only [stepB, h, Bool.and_false]
theorem step_4 {nx : Int} {its : List Itm} {k : Nat} (h1 : itemB (its.getD k zero) = true) (h2 : ¬ nx ≤ (its.getD k zero).token) (h3 : freshB (its.getD k zero) (its.take k) = true) : stepB nx its k = true := by
  simp only [stepB, h1, h3, decide_eq_true (show (its.getD k zero).token < nx by omega)]; rfl
theorem fresh_step {x : Itm} {its : List Itm} {j : Nat} (hj : j < its.length) (h : freshB x (its.take j) = true) (hc : clash (its.getD j zero) x = false) : freshB x (its.take (j + 1)) = true := by
  unfold freshB at *
  rw [List.take_succ_eq_append_getElem hj, List.all_append, h]
  simp [List.getD_eq_getElem?_getD, List.getElem?_eq_getElem hj] at hc
  simp [hc]
theorem fresh_bad {x : Itm} {its : List Itm} {j k : Nat} (hjk : j < k) (hk : k ≤ its.length) (hc : clash (its.getD j zero) x = true) : freshB x (its.take k) = false := by
  unfold freshB
  rw [List.all_eq_false]
  refine ⟨its[j]'(by omega), ?_, ?_⟩
  · rw [List.mem_take_iff_getElem]
    exact ⟨j, by omega, rfl⟩
  · simp [List.getD_eq_getElem?_getD, List.getElem?_eq_getElem (show j < its.length by omega)] at hc
    simp [hc]
theorem good_small {nx : Int} {its : List Itm} (h : goodTo nx its its.length = true) : ∀ x ∈ its, Small x := by
  intro x hx
  obtain ⟨i, hi, rfl⟩ := List.getElem_of_mem hx
  unfold goodTo at h
  rw [List.all_eq_true] at h
  have := h i (by simpa using hi)
  simp only [stepB, itemB, gk, inB, List.getD_eq_getElem?_getD, List.getElem?_eq_getElem hi, Option.getD_some, Bool.and_eq_true, decide_eq_true_eq] at this
  have el : its[i].key.data.toList.length = its[i].key.size := by simp
  unfold Small
  omega
end Store
end Go.Proofs.YtpihkjpnaefacaaGreatDoor
/-
  Sets of keys and of tokens told by the lists of what was put into them; what a good store is, by them. No Go function is spoken of here.
-/
namespace Go.Proofs.YtpihkjpnaefacaaGreatDoor
namespace Store
open Go.RowKit Base GoodKey Items
set_option linter.unusedVariables false

def kL (x : Itm) : Lit := .string x.key.data.toList
def tL (x : Itm) : Lit := .int .i64 x.token
theorem kL_key (x : Itm) : WideAt.IsKeyLit (kL x) := by simp [kL, WideAt.IsKeyLit]
theorem tL_key (x : Itm) : WideAt.IsKeyLit (tL x) := by simp [tL, WideAt.IsKeyLit]
theorem keysOf_key {f : Itm → Lit} (hf : ∀ x, WideAt.IsKeyLit (f x)) (its : List Itm) : ∀ l ∈ its.map f, WideAt.IsKeyLit l := by
  intro l hl
  obtain ⟨x, _, rfl⟩ := List.mem_map.1 hl
  exact hf x

theorem size_set (u : DataW Unit) (ls : List Lit) (h : ∀ x ∈ ls, WideAt.IsKeyLit x) : Maps.size (Maps.setOf u ls) ≤ ls.length ∧ (Maps.size (Maps.setOf u ls) = ls.length ↔ ls.Nodup) := by
  obtain ⟨n, hn⟩ : ∃ n, ls.length = n := ⟨_, rfl⟩
  induction n generalizing ls with
  | zero => rw [List.length_eq_zero_iff.1 hn]; simp [Maps.setOf, Maps.size]
  | succ n ih =>
    have hne : ls ≠ [] := by intro e; simp [e] at hn
    obtain ⟨r, y, rfl⟩ : ∃ r y, ls = r ++ [y] := ⟨ls.dropLast, ls.getLast hne, (List.dropLast_concat_getLast hne).symm⟩
    have hr : ∀ x ∈ r, WideAt.IsKeyLit x := fun x hx => h x (List.mem_append_left _ hx)
    obtain ⟨h1, h2⟩ := ih r hr (by simpa using hn)
    rw [Maps.setOf_snoc, Maps.size_put (Maps.tidy_setOf u r hr), Maps.has_setOf u y r hr]
    have hany : (r.any fun x => x.sameKey y) = true ↔ y ∈ r := by
      rw [List.any_eq_true]
      constructor
      · rintro ⟨x, hx, hs⟩
        exact (WideAt.sameKey_eq hs) ▸ hx
      · exact fun hy => ⟨y, hy, WideAt.sameKey_self (hr y hy)⟩
    have hnd : (r ++ [y]).Nodup ↔ r.Nodup ∧ y ∉ r := by
      rw [List.nodup_append]
      constructor
      · rintro ⟨a, _, c⟩
        exact ⟨a, fun hy => c y hy y (by simp) rfl⟩
      · rintro ⟨a, c⟩
        exact ⟨a, by simp, fun z hz t ht => by simp at ht; subst ht; intro e; subst e; exact c hz⟩
    rw [hnd, List.length_append]
    by_cases hy : y ∈ r
    · rw [if_pos (hany.2 hy)]
      simp
      constructor
      · omega
      · constructor
        · intro e; omega
        · intro e; exact absurd hy e.2
    · rw [if_neg (fun e => hy (hany.1 e))]
      simp
      exact ⟨h1, fun e => ⟨h2.1 e, hy⟩, fun e => h2.2 e.1⟩

theorem map_step {α : Type} (f : Itm → α) (its : List Itm) (k : Nat) (h : k < its.length) : (its.take (k + 1)).map f = (its.take k).map f ++ [f (its.getD k zero)] := by
  rw [List.take_succ_eq_append_getElem h, List.map_append]
  simp [List.getD_eq_getElem?_getD, List.getElem?_eq_getElem h]

/-- An item that is good, its token below Next. -/
def okB (nx : Int) (x : Itm) : Bool := itemB x && decide (x.token < nx)
theorem clash_iff (o x : Itm) : clash o x = true ↔ kL o = kL x ∨ tL o = tL x := by
  unfold clash kL tL
  rw [Lib.toList_data, Lib.toList_data]
  simp
theorem fresh_iff (x : Itm) (l : List Itm) : freshB x l = true ↔ kL x ∉ l.map kL ∧ tL x ∉ l.map tL := by
  unfold freshB
  rw [List.all_eq_true]
  simp only [List.mem_map, not_exists, not_and]
  constructor
  · intro h
    refine ⟨fun o ho e => ?_, fun o ho e => ?_⟩
    · have := h o ho
      rw [(clash_iff o x).2 (.inl e)] at this; simp at this
    · have := h o ho
      rw [(clash_iff o x).2 (.inr e)] at this; simp at this
  · rintro ⟨h1, h2⟩ o ho
    cases e : clash o x
    · rfl
    · rcases (clash_iff o x).1 e with e' | e'
      · exact absurd e' (h1 o ho)
      · exact absurd e' (h2 o ho)
theorem goodTo_iff (nx : Int) (its : List Itm) : ∀ k, k ≤ its.length → (goodTo nx its k = true ↔ (∀ i, i < k → okB nx (its.getD i zero) = true) ∧ ((its.take k).map kL).Nodup ∧ ((its.take k).map tL).Nodup)
  | 0, _ => by simp [goodTo]
  | k + 1, h => by
    have ih := goodTo_iff nx its k (by omega)
    have e : goodTo nx its (k + 1) = (goodTo nx its k && stepB nx its k) := by
      unfold goodTo
      rw [List.range_succ, List.all_append]
      simp
    have hnd : ∀ (r : List Lit) (y : Lit), (r ++ [y]).Nodup ↔ r.Nodup ∧ y ∉ r := by
      intro r y
      rw [List.nodup_append]
      constructor
      · rintro ⟨a, _, c⟩
        exact ⟨a, fun hy => c y hy y (by simp) rfl⟩
      · rintro ⟨a, c⟩
        exact ⟨a, by simp, fun z hz t ht => by simp at ht; subst ht; intro e; subst e; exact c hz⟩
    have es : stepB nx its k = (okB nx (its.getD k zero) && freshB (its.getD k zero) (its.take k)) := rfl
    rw [e, es, Bool.and_eq_true, Bool.and_eq_true, ih, map_step kL its k (by omega), map_step tL its k (by omega), hnd, hnd, fresh_iff]
    constructor
    · rintro ⟨⟨h1, h2, h3⟩, h4, h5, h6⟩
      refine ⟨fun i hi => ?_, ⟨h2, h5⟩, h3, h6⟩
      by_cases hik : i = k
      · rw [hik]; exact h4
      · exact h1 i (by omega)
    · rintro ⟨h1, ⟨h2, h5⟩, h3, h6⟩
      exact ⟨⟨fun i hi => h1 i (by omega), h2, h3⟩, h1 k (by omega), h5, h6⟩
theorem ok_bad {lim nx : Int} {its : List Itm} {k : Nat} (hk : k < its.length) (h : okB nx (its.getD k zero) = false) : gsB lim nx its = false := by
  refine gs_4 hk ?_
  have es : stepB nx its k = (okB nx (its.getD k zero) && freshB (its.getD k zero) (its.take k)) := rfl
  rw [es, h]; rfl
theorem ok_small {nx : Int} {x : Itm} (h : okB nx x = true) : Small x := by
  simp only [okB, itemB, gk, inB, Bool.and_eq_true, decide_eq_true_eq] at h
  have el : x.key.data.toList.length = x.key.size := by simp
  unfold Small
  omega
theorem ok_total {nx : Int} {its : List Itm} {k : Nat} (hk : k ≤ its.length) (h60 : k ≤ 60) (h : ∀ j, j < k → okB nx (its.getD j zero) = true) : total (its.take k) ≤ 60 * 2097162 := by
  have h1 := total_bd (its.take k) (fun x hx => by
    obtain ⟨i, hi, rfl⟩ := List.getElem_of_mem hx
    have hi' : i < k := by simp at hi; omega
    have h2 := ok_small (h i hi')
    rw [List.getD_eq_getElem?_getD, List.getElem?_eq_getElem (show i < its.length by omega)] at h2
    simpa using h2)
  have h3 : (its.take k).length ≤ 60 := by simp; omega
  omega
theorem map_step' (f : Itm → Lit) (its : List Itm) (k : Nat) (h : k < its.length) : (its.map f).take (k + 1) = (its.map f).take k ++ [f (its.getD k zero)] := by
  rw [← List.map_take, ← List.map_take]; exact map_step f its k h
/-- What the program's GoodStore says behind its loop. -/
theorem gs_sets {lim nx : Int} {its : List Itm} (h1 : inB lim 0 10000 = true) (h2 : inB nx 1 1000000000 = true) (h3 : ¬ 60 < (its.length : Int)) (h4 : ∀ i, i < its.length → okB nx (its.getD i zero) = true) (u : DataW Unit) :
    gsB lim nx its = (decide ((Maps.size (Maps.setOf u (its.map kL)) : Int) = its.length) && decide ((Maps.size (Maps.setOf u (its.map tL)) : Int) = its.length) && decide (total its ≤ lim)) := by
  have e1 := (size_set u (its.map kL) (keysOf_key kL_key its)).2
  have e2 := (size_set u (its.map tL) (keysOf_key tL_key its)).2
  rw [List.length_map] at e1 e2
  have eg := goodTo_iff nx its its.length (Nat.le_refl _)
  rw [List.take_length] at eg
  have d1 : ∀ c : Bool, (c = true ↔ (its.map kL).Nodup) → decide ((Maps.size (Maps.setOf u (its.map kL)) : Int) = its.length) = c := by
    intro c hc
    rw [Bool.eq_iff_iff, hc, ← e1, decide_eq_true_eq]; omega
  have d2 : ∀ c : Bool, (c = true ↔ (its.map tL).Nodup) → decide ((Maps.size (Maps.setOf u (its.map tL)) : Int) = its.length) = c := by
    intro c hc
    rw [Bool.eq_iff_iff, hc, ← e2, decide_eq_true_eq]; omega
  cases hg : goodTo nx its its.length
  · have hn : ¬ ((its.map kL).Nodup ∧ (its.map tL).Nodup) := fun hh => by rw [eg.2 ⟨h4, hh⟩] at hg; cases hg
    have e3 : gsB lim nx its = false := by unfold gsB; rw [hg]; simp
    rw [e3]
    by_cases n1 : (its.map kL).Nodup
    · rw [d2 false (by simp; exact fun n2 => hn ⟨n1, n2⟩)]; simp
    · rw [d1 false (by simp; exact n1)]; simp
  · obtain ⟨_, n1, n2⟩ := eg.1 hg
    rw [← gs_5 h1 h2 h3 hg, d1 true (by simp; exact n1), d2 true (by simp; exact n2)]; rfl
end Store
end Go.Proofs.YtpihkjpnaefacaaGreatDoor
