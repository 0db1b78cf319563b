/-
  What a good lane is, as a plain function of its fields; what may be sent on it. No Go function is spoken of here.
-/
import Derived.Test.YtfbfnoofapgneaaWaitP
import Derived.Test.YtfbfnoofapgneaaInS
namespace Go.Proofs.Ytfbfnoofapgneaa
namespace Lanes
open Go.RowKit Base GoodKey Waits

def waitB (x : D) : Bool := decide (0 ≤ x.id) && inB x.since 0 1000000000
def freshB (id : Int) (l : List D) : Bool := l.all (fun o => !(o.id == id))
def lastB (l : List D) (x : D) : Bool := decide (l.length = 0) || decide ((l.getD (l.length - 1) zero).since ≤ x.since)
/-- What mayWait tells: x may wait behind l. -/
def mayB (l : List D) (x : D) : Bool := waitB x && lastB l x && freshB x.id l
def stepB (l : List D) (i : Nat) : Bool := mayB (l.take i) (l.getD i zero)
def goodTo (l : List D) (k : Nat) : Bool := (List.range k).all (stepB l)
def glB (ep fa : Int) (l : List D) : Bool := inB ep 1 1000000 && inB fa 0 1000000 && decide ((l.length : Int) ≤ 20) && goodTo l l.length

theorem gl_1 {ep fa : Int} {l : List D} (h : ¬ inB ep 1 1000000 = true) : glB ep fa l = false := by simp [glB, h]
theorem gl_2 {ep fa : Int} {l : List D} (h : ¬ inB fa 0 1000000 = true) : glB ep fa l = false := by simp [glB, h]
theorem gl_3 {ep fa : Int} {l : List D} (h : 20 < (l.length : Int)) : glB ep fa l = false := by
  unfold glB; rw [decide_eq_false (show ¬ (l.length : Int) ≤ 20 by omega)]; simp
theorem goodTo_step {l : List D} {k : Nat} (h : goodTo l k = true) (hs : stepB l k = true) : goodTo l (k + 1) = true := by
  unfold goodTo at *
  rw [List.range_succ, List.all_append, h]
  simp [hs]
theorem goodTo_bad {l : List D} {k : Nat} (hk : k < l.length) (hs : stepB l k = false) : goodTo l l.length = false := by
  unfold goodTo
  rw [List.all_eq_false]
  exact ⟨k, by simpa using hk, by simp [hs]⟩
theorem gl_4 {ep fa : Int} {l : List D} {k : Nat} (hk : k < l.length) (hs : stepB l k = false) : glB ep fa l = false := by
  unfold glB; rw [goodTo_bad hk hs]; simp
theorem gl_5 {ep fa : Int} {l : List D} (h1 : inB ep 1 1000000 = true) (h2 : inB fa 0 1000000 = true) (h3 : ¬ 20 < (l.length : Int)) (h4 : goodTo l l.length = true) : glB ep fa l = true := by
  unfold glB; rw [h1, h2, h4, decide_eq_true (show (l.length : Int) ≤ 20 by omega)]; rfl
theorem len_take (l : List D) (k : Nat) (hk : k ≤ l.length) : (l.take k).length = k := by rw [List.length_take]; omega
theorem take_getD (l : List D) (k j : Nat) (hj : j < k) : (l.take k).getD j zero = l.getD j zero := by
  simp only [List.getD_eq_getElem?_getD, List.getElem?_take_of_lt hj]
theorem step_1 {l : List D} {k : Nat} (h : (l.getD k zero).id < 0) : stepB l k = false := by
  unfold stepB mayB waitB; rw [decide_eq_false (show ¬ 0 ≤ (l.getD k zero).id by omega)]; rfl
theorem step_2 {l : List D} {k : Nat} (h : inB (l.getD k zero).since 0 1000000000 = false) : stepB l k = false := by
  unfold stepB mayB waitB; rw [h]; simp
theorem step_3 {l : List D} {k : Nat} (hk : k ≤ l.length) (h0 : 0 < k) (h : (l.getD k zero).since < (l.getD (k - 1) zero).since) : stepB l k = false := by
  unfold stepB mayB lastB
  rw [len_take l k hk, take_getD l k (k - 1) (by omega), decide_eq_false (show ¬ k = 0 by omega), decide_eq_false (show ¬ (l.getD (k - 1) zero).since ≤ (l.getD k zero).since by omega)]
  simp
theorem step_4 {l : List D} {k : Nat} (h : freshB (l.getD k zero).id (l.take k) = false) : stepB l k = false := by
  unfold stepB mayB; rw [h]; simp
theorem step_5 {l : List D} {k : Nat} (hk : k ≤ l.length) (h1 : ¬ (l.getD k zero).id < 0) (h2 : inB (l.getD k zero).since 0 1000000000 = true) (h3 : 0 < k → ¬ (l.getD k zero).since < (l.getD (k - 1) zero).since) (h4 : freshB (l.getD k zero).id (l.take k) = true) : stepB l k = true := by
  unfold stepB mayB waitB lastB
  rw [len_take l k hk, h2, h4, decide_eq_true (show 0 ≤ (l.getD k zero).id by omega)]
  by_cases h0 : k = 0
  · subst h0; rfl
  · rw [take_getD l k (k - 1) (by omega), decide_eq_true (show (l.getD (k - 1) zero).since ≤ (l.getD k zero).since by have := h3 (by omega); omega)]
    simp
theorem fresh_step {id : Int} {l : List D} {j : Nat} (hj : j < l.length) (h : freshB id (l.take j) = true) (hc : ((l.getD j zero).id == id) = false) : freshB id (l.take (j + 1)) = true := by
  unfold freshB at *
  rw [List.take_succ_eq_append_getElem hj, List.all_append, h]
  simp [List.getD_eq_getElem?_getD, List.getElem?_eq_getElem hj] at hc
  simp [hc]
theorem fresh_bad {id : Int} {l : List D} {j k : Nat} (hjk : j < k) (hk : k ≤ l.length) (hc : ((l.getD j zero).id == id) = true) : freshB id (l.take k) = false := by
  unfold freshB
  rw [List.all_eq_false]
  refine ⟨l[j]'(by omega), ?_, ?_⟩
  · rw [List.mem_take_iff_getElem]
    exact ⟨j, by omega, rfl⟩
  · simp [List.getD_eq_getElem?_getD, List.getElem?_eq_getElem (show j < l.length by omega)] at hc
    simp [hc]
theorem fresh_0 (id : Int) (l : List D) : freshB id (l.take 0) = true := rfl
/-- The same of mayWait's own words. -/
theorem may_1 {l : List D} {x : D} (h : x.id < 0) : mayB l x = false := by
  unfold mayB waitB; rw [decide_eq_false (show ¬ 0 ≤ x.id by omega)]; rfl
theorem may_2 {l : List D} {x : D} (h : inB x.since 0 1000000000 = false) : mayB l x = false := by
  unfold mayB waitB; rw [h]; simp
theorem may_3 {l : List D} {x : D} (h0 : 0 < l.length) (h : x.since < (l.getD (l.length - 1) zero).since) : mayB l x = false := by
  unfold mayB lastB
  rw [decide_eq_false (show ¬ l.length = 0 by omega), decide_eq_false (show ¬ (l.getD (l.length - 1) zero).since ≤ x.since by omega)]
  simp
theorem may_4 {l : List D} {x : D} {j : Nat} (hj : j < l.length) (hc : ((l.getD j zero).id == x.id) = true) : mayB l x = false := by
  have h := fresh_bad hj (Nat.le_refl _) hc
  rw [List.take_length] at h
  unfold mayB; rw [h]; simp
theorem may_5 {l : List D} {x : D} (h1 : ¬ x.id < 0) (h2 : inB x.since 0 1000000000 = true) (h3 : 0 < l.length → ¬ x.since < (l.getD (l.length - 1) zero).since) (h4 : freshB x.id (l.take l.length) = true) : mayB l x = true := by
  rw [List.take_length] at h4
  unfold mayB waitB lastB
  rw [h2, h4, decide_eq_true (show 0 ≤ x.id by omega)]
  by_cases h0 : l.length = 0
  · rw [decide_eq_true h0]; rfl
  · rw [decide_eq_true (show (l.getD (l.length - 1) zero).since ≤ x.since by have := h3 (by omega); omega)]
    simp
theorem glB_len {ep fa : Int} {l : List D} (h : glB ep fa l = true) : l.length ≤ 20 := by
  unfold glB at h
  simp only [Bool.and_eq_true, decide_eq_true_eq] at h
  omega
theorem glB_step {ep fa : Int} {l : List D} (h : glB ep fa l = true) {k : Nat} (hk : k < l.length) : stepB l k = true := by
  unfold glB goodTo at h
  simp only [Bool.and_eq_true, List.all_eq_true, List.mem_range] at h
  exact h.2 k hk
theorem glB_ep {ep fa : Int} {l : List D} (h : glB ep fa l = true) : (1 ≤ ep ∧ ep ≤ 1000000) ∧ 0 ≤ fa ∧ fa ≤ 1000000 := by
  unfold glB inB at h
  simp only [Bool.and_eq_true, decide_eq_true_eq] at h
  omega
theorem good_wait {ep fa : Int} {l : List D} (h : glB ep fa l = true) {k : Nat} (hk : k < l.length) : 0 ≤ (l.getD k zero).id ∧ 0 ≤ (l.getD k zero).since ∧ (l.getD k zero).since ≤ 1000000000 := by
  have := glB_step h hk
  unfold stepB mayB waitB inB at this
  simp only [Bool.and_eq_true, decide_eq_true_eq] at this
  omega
theorem good_next {ep fa : Int} {l : List D} (h : glB ep fa l = true) {k : Nat} (hk : k + 1 < l.length) : (l.getD k zero).since ≤ (l.getD (k + 1) zero).since := by
  have := glB_step h hk
  unfold stepB mayB lastB at this
  rw [len_take l (k + 1) (by omega), take_getD l (k + 1) (k + 1 - 1) (by omega)] at this
  simp only [Bool.and_eq_true, Bool.or_eq_true, decide_eq_true_eq] at this
  have e : k + 1 - 1 = k := by omega
  rw [e] at this
  omega
theorem good_last {ep fa : Int} {l : List D} (h : glB ep fa l = true) (k : Nat) (hk : k < l.length) : (l.getD k zero).since ≤ (l.getD (l.length - 1) zero).since := by
  have go : ∀ d k, k + d = l.length - 1 → k < l.length → (l.getD k zero).since ≤ (l.getD (l.length - 1) zero).since := by
    intro d
    induction d with
    | zero => intro k e hk; rw [show k = l.length - 1 by omega]; omega
    | succ d ih =>
      intro k e hk
      have h1 := good_next h (k := k) (by omega)
      have h2 := ih (k + 1) (by omega) (by omega)
      omega
  exact go (l.length - 1 - k) k (by omega) hk
end Lanes
end Go.Proofs.Ytfbfnoofapgneaa
