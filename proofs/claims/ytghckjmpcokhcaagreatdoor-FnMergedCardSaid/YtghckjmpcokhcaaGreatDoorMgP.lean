/-
  What FnMerged hands to each node, and what is put together: plain. No Go function is spoken of here.
-/
import Derived.Test.YtghckjmpcokhcaaGreatDoorMergeX
import Derived.Test.YtghckjmpcokhcaaGreatDoorKeyZ
namespace Go.Proofs.YtghckjmpcokhcaaGreatDoor
namespace Merge
open Go.RowKit Base Items Split Rd Vals GoodKey KeysS
set_option linter.unusedVariables false

/-- What is kept of a key: an item, where its length is even. -/
def evI (k : ByteArray) : Option Itm := if k.size % 2 = 0 then some ⟨k, 0, k, 0, ((1 + k.size : Nat) : Int)⟩ else none
def evL (L : List ByteArray) : List Itm := L.filterMap evI
theorem evI_key {k : ByteArray} {x : Itm} (h : evI k = some x) : x.key = k ∧ k.size % 2 = 0 := by
  unfold evI at h
  split at h
  · rename_i h0
    rw [← Option.some.inj h]; exact ⟨rfl, h0⟩
  · simp at h
theorem evI_none {k : ByteArray} (h : evI k = none) : k.size % 2 ≠ 0 := by
  unfold evI at h
  split at h
  · simp at h
  · assumption
theorem evL_snoc (L : List ByteArray) (k : ByteArray) : evL (L ++ [k]) = evL L ++ (evI k).toList := by
  unfold evL
  rw [List.filterMap_append]
  congr 1
theorem evL_len (L : List ByteArray) : (evL L).length ≤ L.length := List.length_filterMap_le _ _
/-- What a node's keys from the k-th on keep. -/
def rest (os ks : List ByteArray) (n : Nat) (o : ByteArray) (k : Nat) : List Itm := ((List.range' k (n - k)).filter (fun i => decide (ow os i = o))).filterMap (fun i => evI (ow ks i))
theorem rest_zero (os ks : List ByteArray) (n : Nat) (o : ByteArray) : rest os ks n o 0 = evL ((places os n o).map (ow ks)) := by
  unfold rest evL places
  rw [List.filterMap_map, Nat.sub_zero, ← List.range_eq_range']
  rfl
theorem rest_cut {os ks : List ByteArray} {n k : Nat} {o : ByteArray} (hk : k < n) : rest os ks n o k = (if ow os k = o then (evI (ow ks k)).toList else []) ++ rest os ks n o (k + 1) := by
  unfold rest
  rw [show n - k = (n - (k + 1)) + 1 by omega, List.range'_succ, List.filter_cons]
  by_cases h : ow os k = o
  · rw [if_pos (by simpa using h), if_pos h]
    cases he : evI (ow ks k) with
    | none => rw [List.filterMap_cons_none (f := fun i => evI (ow ks i)) he]; rfl
    | some x => rw [List.filterMap_cons_some (f := fun i => evI (ow ks i)) he]; rfl
  · rw [if_neg (by simpa using h), if_neg h]; rfl
theorem rest_end (os ks : List ByteArray) (n : Nat) (o : ByteArray) : rest os ks n o n = [] := by unfold rest; rw [Nat.sub_self]; rfl
theorem rest_even {os ks : List ByteArray} {n k : Nat} {o : ByteArray} {x : Itm} (h : x ∈ rest os ks n o k) : x.key.size % 2 = 0 := by
  unfold rest at h
  obtain ⟨i, _, hi⟩ := List.mem_filterMap.1 h
  obtain ⟨h1, h2⟩ := evI_key hi
  rw [h1]; exact h2
theorem step_odd {ks : List ByteArray} {L : List Itm} {k : Nat} (h : ∀ x ∈ L, x.key.size % 2 = 0) (hk : (ow ks k).size % 2 ≠ 0) : step ks L k = L ∧ hit ks L k = none := by
  cases L with
  | nil => exact ⟨rfl, rfl⟩
  | cons x r =>
    have hne : x.key ≠ ow ks k := fun e => hk (by rw [← e]; exact h x (by simp))
    unfold step hit
    dsimp only
    rw [if_neg hne, if_neg hne]
    exact ⟨rfl, rfl⟩
theorem step_even {ks : List ByteArray} {r : List Itm} {x : Itm} {k : Nat} (h : x.key = ow ks k) : step ks (x :: r) k = r ∧ hit ks (x :: r) k = some x := by
  unfold step hit
  dsimp only
  rw [if_pos h, if_pos h]
  exact ⟨rfl, rfl⟩
theorem rm_rest (os ks : List ByteArray) (n : Nat) (o : ByteArray) : ∀ k, k ≤ n → rm os ks o (rest os ks n o 0) k = rest os ks n o k
  | 0, _ => rm_zero _ _ _ _
  | k + 1, h => by
    have ih := rm_rest os ks n o k (by omega)
    have hc := rest_cut (os := os) (ks := ks) (n := n) (k := k) (o := o) (by omega)
    by_cases ho : ow os k = o
    · rw [rm_own ho, ih]
      rw [if_pos ho] at hc
      cases he : evI (ow ks k) with
      | none =>
        rw [he] at hc
        have hc' : rest os ks n o k = rest os ks n o (k + 1) := hc
        rw [hc']
        exact (step_odd (fun x hx => rest_even hx) (evI_none he)).1
      | some x =>
        rw [he] at hc
        have hc' : rest os ks n o k = x :: rest os ks n o (k + 1) := hc
        rw [hc']
        exact (step_even (evI_key he).1).1
    · rw [rm_other ho, ih]
      rw [if_neg ho] at hc
      exact hc
theorem em_rest {os ks : List ByteArray} {n k : Nat} (h : k < n) : em os ks (rest os ks n (ow os k) 0) k = evI (ow ks k) := by
  unfold em
  rw [rm_rest os ks n (ow os k) k (by omega)]
  have hc := rest_cut (os := os) (ks := ks) (n := n) (k := k) (o := ow os k) h
  rw [if_pos rfl] at hc
  cases he : evI (ow ks k) with
  | none =>
    rw [he] at hc
    have hc' : rest os ks n (ow os k) k = rest os ks n (ow os k) (k + 1) := hc
    rw [hc']
    exact (step_odd (fun x hx => rest_even hx) (evI_none he)).2
  | some x =>
    rw [he] at hc
    have hc' : rest os ks n (ow os k) k = x :: rest os ks n (ow os k) (k + 1) := hc
    rw [hc']
    exact (step_even (evI_key he).1).2
/-- The rows of all parts. -/
def rowsE (os ks : List ByteArray) (n : Nat) : List (List Itm) := (firsts os n).map (fun i => evL (Split.partAt os ks n i).keys)
theorem rowsE_get {os ks : List ByteArray} {n p : Nat} (hp : p < (firsts os n).length) : (rowsE os ks n).getD p [] = rest os ks n (nd os n p) 0 := by
  unfold rowsE nd
  rw [rest_zero]
  simp only [List.getD_eq_getElem?_getD, List.getElem?_map, List.getElem?_eq_getElem hp, Option.map_some, Option.getD_some]
  rfl
theorem all_taken (os ks : List ByteArray) (n : Nat) : AllTaken os ks n (rowsE os ks n) := fun p hp => by
  rw [rowsE_get hp, rm_rest os ks n _ n (Nat.le_refl _), rest_end]
theorem filterMap_ow (ks : List ByteArray) : (List.range ks.length).filterMap (fun k => evI (ow ks k)) = evL ks := by
  have e : ks = (List.range ks.length).map (ow ks) := by
    apply List.ext_getElem
    · simp
    · intro i h1 h2
      simp [ow, List.getD_eq_getElem?_getD, List.getElem?_eq_getElem h1]
  conv => rhs; rw [e]
  unfold evL
  rw [List.filterMap_map]
  rfl
theorem fm_congr {α β : Type} {f g : α → Option β} : ∀ {l : List α}, (∀ a ∈ l, f a = g a) → l.filterMap f = l.filterMap g
  | [], _ => rfl
  | a :: r, h => by
    rw [List.filterMap_cons, List.filterMap_cons, h a (by simp), fm_congr (fun b hb => h b (by simp [hb]))]
theorem outs_all (os ks : List ByteArray) : outs os ks (rowOf os ks.length (rowsE os ks ks.length)) ks.length = evL ks := by
  rw [← filterMap_ow]
  unfold outs
  refine fm_congr (fun k hk => ?_)
  have hk' : k < ks.length := List.mem_range.1 hk
  obtain ⟨p, hp, e⟩ := nd_ex (os := os) hk'
  rw [← e, rowOf_nd hp, rowsE_get hp, e]
  exact em_rest hk'
theorem ev_okay {L : List ByteArray} (h : ∀ s ∈ L, GoodCmd.gkb s = true) : Okay true (evL L) := by
  intro x hx
  obtain ⟨k, hk, he⟩ := List.mem_filterMap.1 hx
  have hg : gk k.data.toList = true := h k hk
  have hs : k.size ≤ 30 := by
    have e1 := hg
    simp only [gk, inB, Bool.and_eq_true, decide_eq_true_eq] at e1
    have el : k.data.toList.length = k.size := by simp
    omega
  unfold evI at he
  split at he
  · obtain rfl := Option.some.inj he
    refine ⟨?_, rfl, fun h => by simp at h⟩
    simp only [goodV, inB, hg, Bool.and_eq_true, decide_eq_true_eq, Bool.not_true, Bool.false_or]
    refine ⟨⟨⟨trivial, by omega, by omega⟩, by omega⟩, by omega, by omega⟩
  · simp at he
theorem ev_reads {L : List ByteArray} (h : ∀ s ∈ L, GoodCmd.gkb s = true) (hl : L.length ≤ 60) : Reads (told true (evL L) ++ lastS) true (evL L) := ⟨Nat.le_trans (evL_len L) hl, ev_okay h, rfl⟩
theorem ev_text {L : List ByteArray} (h : ∀ s ∈ L, GoodCmd.gkb s = true) (hl : L.length ≤ 60) : vtR (evL L) true = ⟨told true (evL L) ++ lastS, true⟩ := by
  have := evL_len L
  exact vt_ok (by omega) (List.all_eq_true.2 (fun x hx => (ev_okay h x hx).1))
/-- The answer of each part. -/
def ansE (os ks : List ByteArray) (n : Nat) : List ByteArray := (firsts os n).map (fun i => told true (evL (Split.partAt os ks n i).keys) ++ lastS)
theorem part_good {os ks : List ByteArray} (h : ∀ s ∈ ks, GoodCmd.gkb s = true) (i : Nat) : ∀ s ∈ (Split.partAt os ks ks.length i).keys, GoodCmd.gkb s = true := by
  intro s hs
  obtain ⟨j, hj, rfl⟩ := List.mem_map.1 hs
  have := (places_mem.1 hj).1
  apply h
  unfold ow
  rw [List.getD_eq_getElem?_getD, List.getElem?_eq_getElem this]
  exact List.getElem_mem _
theorem part_len (os ks : List ByteArray) (n i : Nat) : (Split.partAt os ks n i).keys.length ≤ n := by
  show ((places os n (ow os i)).map (ow ks)).length ≤ n
  rw [List.length_map]; exact places_le _ _ _
/-- What is put together is what one would tell. -/
theorem merged_all {os ks : List ByteArray} (h : ∀ s ∈ ks, GoodCmd.gkb s = true) (hl : ks.length ≤ 60) : mgR os ks ks.length (ansE os ks ks.length) true = some (told true (evL ks) ++ lastS) := by
  have hm : Merges os ks ks.length (ansE os ks ks.length) true (rowsE os ks ks.length) := by
    refine ⟨by simp [ansE], ⟨by simp [ansE, rowsE], fun i hi => ?_⟩, all_taken _ _ _⟩
    have hi' : i < (firsts os ks.length).length := by simpa [ansE] using hi
    have e1 : ow (ansE os ks ks.length) i = told true (evL (Split.partAt os ks ks.length (firsts os ks.length)[i]).keys) ++ lastS := by
      simp [ow, ansE, List.getD_eq_getElem?_getD, List.getElem?_eq_getElem hi']
    have e2 : (rowsE os ks ks.length).getD i [] = evL (Split.partAt os ks ks.length (firsts os ks.length)[i]).keys := by
      simp [rowsE, List.getD_eq_getElem?_getD, List.getElem?_eq_getElem hi']
    rw [e1, e2]
    exact ev_reads (part_good h _) (Nat.le_trans (part_len _ _ _ _) hl)
  rw [mgR_some hm, outs_all]
end Merge
end Go.Proofs.YtghckjmpcokhcaaGreatDoor
