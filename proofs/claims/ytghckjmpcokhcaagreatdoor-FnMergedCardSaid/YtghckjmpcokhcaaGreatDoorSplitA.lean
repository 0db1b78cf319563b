/-
  Keys split among their nodes, as plain data. No Go function is spoken of here.
-/
import Derived.Test.YtghckjmpcokhcaaGreatDoorBase
import Derived.Test.YtghckjmpcokhcaaGreatDoorKeyZ
namespace Go.Proofs.YtghckjmpcokhcaaGreatDoor
namespace Split
open Go.RowKit Base
set_option linter.unusedVariables false

def ow (os : List ByteArray) (i : Nat) : ByteArray := os.getD i ByteArray.empty
/-- No owner ahead of i is the one at i. -/
def firstB (os : List ByteArray) (i : Nat) : Bool := (List.range i).all (fun j => !decide (ow os j = ow os i))
/-- Where an owner stands among the first n. -/
def places (os : List ByteArray) (n : Nat) (o : ByteArray) : List Nat := (List.range n).filter (fun i => decide (ow os i = o))
/-- Where an owner stands for the first time, among the first n. -/
def firsts (os : List ByteArray) (n : Nat) : List Nat := (List.range n).filter (firstB os)
structure Part where
  node : ByteArray
  keys : List ByteArray
def zeroP : Part := ⟨ByteArray.empty, []⟩
def partAt (os ks : List ByteArray) (n i : Nat) : Part := ⟨ow os i, (places os n (ow os i)).map (ow ks)⟩
def parts (os ks : List ByteArray) (n : Nat) : List Part := (firsts os n).map (partAt os ks n)

theorem places_succ (os : List ByteArray) (n : Nat) (o : ByteArray) : places os (n + 1) o = places os n o ++ if ow os n = o then [n] else [] := by
  unfold places
  rw [List.range_succ, List.filter_append]
  by_cases h : ow os n = o <;> simp [h]
theorem firsts_succ (os : List ByteArray) (n : Nat) : firsts os (n + 1) = firsts os n ++ if firstB os n = true then [n] else [] := by
  unfold firsts
  rw [List.range_succ, List.filter_append]
  by_cases h : firstB os n = true <;> simp [h]
theorem firstB_iff (os : List ByteArray) (i : Nat) : firstB os i = true ↔ ∀ j, j < i → ow os j ≠ ow os i := by
  simp [firstB]
theorem places_mem {os : List ByteArray} {n i : Nat} {o : ByteArray} : i ∈ places os n o ↔ i < n ∧ ow os i = o := by simp [places]
theorem firsts_mem {os : List ByteArray} {n i : Nat} : i ∈ firsts os n ↔ i < n ∧ firstB os i = true := by simp [firsts]
theorem places_none {os : List ByteArray} {n : Nat} (h : firstB os n = true) : places os n (ow os n) = [] := by
  rw [List.eq_nil_iff_forall_not_mem]
  intro i hi
  obtain ⟨h1, h2⟩ := places_mem.1 hi
  exact (firstB_iff os n).1 h i h1 h2
theorem firsts_ow {os : List ByteArray} {n i j : Nat} (hi : i ∈ firsts os n) (hj : j ∈ firsts os n) (h : ow os i = ow os j) : i = j := by
  obtain ⟨_, b1⟩ := firsts_mem.1 hi
  obtain ⟨_, b2⟩ := firsts_mem.1 hj
  rcases Nat.lt_trichotomy i j with h1 | h1 | h1
  · exact absurd h ((firstB_iff os j).1 b2 i h1)
  · exact h1
  · exact absurd h.symm ((firstB_iff os i).1 b1 j h1)
theorem first_ex {os : List ByteArray} : ∀ n, ∃ i, i ≤ n ∧ firstB os i = true ∧ ow os i = ow os n := by
  intro n
  induction n using Nat.strongRecOn with
  | ind n ih =>
    by_cases h : firstB os n = true
    · exact ⟨n, Nat.le_refl _, h, rfl⟩
    · have h' := mt (firstB_iff os n).2 h
      simp only [Classical.not_forall, Classical.not_not] at h'
      obtain ⟨j, hj, e⟩ := h'
      obtain ⟨i, hi, hb, he⟩ := ih j hj
      exact ⟨i, by omega, hb, he.trans e⟩
theorem firsts_nodup (os : List ByteArray) (n : Nat) : (firsts os n).Nodup := List.nodup_range.filter _
/-- The place of an owner among the parts. -/
theorem at_ex {os : List ByteArray} {n : Nat} (h : ¬ firstB os n = true) : ∃ p, p < (firsts os n).length ∧ ow os ((firsts os n).getD p 0) = ow os n ∧ ∀ q, q < (firsts os n).length → ow os ((firsts os n).getD q 0) = ow os n → q = p := by
  obtain ⟨i, hi, hb, he⟩ := first_ex (os := os) n
  have hin : i < n := by
    rcases Nat.lt_or_eq_of_le hi with h1 | h1
    · exact h1
    · rw [h1] at hb; exact absurd hb h
  have hm : i ∈ firsts os n := firsts_mem.2 ⟨hin, hb⟩
  obtain ⟨p, hp, e⟩ := List.mem_iff_getElem.1 hm
  refine ⟨p, hp, ?_, fun q hq e2 => ?_⟩
  · simp only [List.getD_eq_getElem?_getD, List.getElem?_eq_getElem hp, Option.getD_some, e]; exact he
  · simp only [List.getD_eq_getElem?_getD, List.getElem?_eq_getElem hq, Option.getD_some] at e2
    have := firsts_ow (List.getElem_mem hq) hm (e2.trans he.symm)
    rw [← e] at this
    exact (List.getElem_inj (firsts_nodup os n)).1 this
theorem parts_len (os ks : List ByteArray) (n : Nat) : (parts os ks n).length = (firsts os n).length := by simp [parts]
theorem firsts_le (os : List ByteArray) (n : Nat) : (firsts os n).length ≤ n := by
  have := List.length_filter_le (firstB os) (List.range n)
  simpa [firsts] using this
theorem places_le (os : List ByteArray) (n : Nat) (o : ByteArray) : (places os n o).length ≤ n := by
  have := List.length_filter_le (fun i => decide (ow os i = o)) (List.range n)
  simpa [places] using this
theorem parts_get {os ks : List ByteArray} {n p : Nat} (h : p < (firsts os n).length) : (parts os ks n).getD p zeroP = partAt os ks n ((firsts os n).getD p 0) := by
  simp [parts, List.getD_eq_getElem?_getD, List.getElem?_eq_getElem h]
theorem parts_first {os ks : List ByteArray} {n : Nat} (h : firstB os n = true) : parts os ks (n + 1) = parts os ks n ++ [⟨ow os n, [ow ks n]⟩] := by
  unfold parts
  rw [firsts_succ, if_pos h, List.map_append]
  have e1 : (firsts os n).map (partAt os ks (n + 1)) = (firsts os n).map (partAt os ks n) := by
    apply List.map_congr_left
    intro i hi
    obtain ⟨hin, _⟩ := firsts_mem.1 hi
    have hne := (firstB_iff os n).1 h i hin
    unfold partAt
    rw [places_succ, if_neg (fun e => hne e.symm), List.append_nil]
  have e2 : partAt os ks (n + 1) n = ⟨ow os n, [ow ks n]⟩ := by
    unfold partAt
    rw [places_succ, places_none h, if_pos rfl]; rfl
  rw [e1]; simp [e2]
theorem parts_more {os ks : List ByteArray} {n p : Nat} (h : ¬ firstB os n = true) (hp : p < (firsts os n).length) (ho : ow os ((firsts os n).getD p 0) = ow os n) (hu : ∀ q, q < (firsts os n).length → ow os ((firsts os n).getD q 0) = ow os n → q = p) :
    parts os ks (n + 1) = (parts os ks n).set p ⟨ow os n, ((parts os ks n).getD p zeroP).keys ++ [ow ks n]⟩ := by
  apply List.ext_getElem?
  intro q
  have hf : firsts os (n + 1) = firsts os n := by rw [firsts_succ, if_neg h, List.append_nil]
  have hl : (parts os ks (n + 1)).length = (parts os ks n).length := by rw [parts_len, parts_len, hf]
  by_cases hq : q < (firsts os n).length
  · rw [List.getElem?_set]
    have e0 : (parts os ks (n + 1))[q]? = some (partAt os ks (n + 1) ((firsts os n).getD q 0)) := by
      unfold parts; rw [hf]; simp [List.getD_eq_getElem?_getD, List.getElem?_eq_getElem hq]
    have e1 : (parts os ks n)[q]? = some (partAt os ks n ((firsts os n).getD q 0)) := by
      unfold parts; simp [List.getD_eq_getElem?_getD, List.getElem?_eq_getElem hq]
    rw [e0]
    by_cases hqp : p = q
    · subst hqp
      rw [if_pos rfl, if_pos (by rw [parts_len]; exact hq), parts_get hq]
      unfold partAt
      rw [ho, places_succ, if_pos rfl]; simp
    · rw [if_neg hqp, e1]
      unfold partAt
      rw [places_succ, if_neg (fun e => hqp (hu q hq e.symm).symm), List.append_nil]
  · rw [List.getElem?_eq_none (by rw [hl, parts_len]; omega), List.getElem?_eq_none (by simp [parts_len]; omega)]
end Split
end Go.Proofs.YtghckjmpcokhcaaGreatDoor
/-
  The owners of keys, and what SplitKeys tells, as plain data. No Go function is spoken of here.
-/
namespace Go.Proofs.YtghckjmpcokhcaaGreatDoor
namespace Split
open Go.RowKit Base Ring KeysS
set_option linter.unusedVariables false

def owners (l : List Nodes.D) (ks : List ByteArray) : List ByteArray := ks.map (ownK l)
theorem owners_len (l : List Nodes.D) (ks : List ByteArray) : (owners l ks).length = ks.length := by simp [owners]
theorem owners_at {l : List Nodes.D} {ks : List ByteArray} {i : Nat} (h : i < ks.length) : ow (owners l ks) i = ownK l (ks.getD i ByteArray.empty) := by
  simp [ow, owners, List.getD_eq_getElem?_getD, List.getElem?_eq_getElem h]
def okB (l : List Nodes.D) (ks : List ByteArray) : Bool := NodesM.gnB l && kB ks
def outL (l : List Nodes.D) (ks : List ByteArray) : List Part := if okB l ks then parts (owners l ks) ks ks.length else []
end Split
end Go.Proofs.YtghckjmpcokhcaaGreatDoor
