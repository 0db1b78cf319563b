/-
  Items as plain data, and how a slice of them lies in memory. No Go function is spoken of here.
-/
import Derived.Test.YtghckjmpcokhcaaGreatDoorBase
import Derived.Test.YtghckjmpcokhcaaGreatDoorSplitA
namespace Go.Proofs.YtghckjmpcokhcaaGreatDoor
namespace Items
open Go.RowKit Base

structure Itm where
  key : ByteArray
  flags : Int
  data : ByteArray
  upto : Int
  token : Int
def zero : Itm := ⟨ByteArray.empty, 0, ByteArray.empty, 0, 0⟩
theorem Itm.ext' {x y : Itm} (h1 : x.key = y.key) (h2 : x.flags = y.flags) (h3 : x.data = y.data) (h4 : x.upto = y.upto) (h5 : x.token = y.token) : x = y := by
  cases x; cases y; simp_all

/-- Five cells from a place on hold an item. -/
def At (w : World) (b o : Nat) (x : Itm) : Prop :=
  w.cell? ⟨b, o, none⟩ = some (.string x.key) ∧ w.cell? ⟨b, o + 1, none⟩ = some (.int .i64 x.flags) ∧ w.cell? ⟨b, o + 2, none⟩ = some (.string x.data) ∧
  w.cell? ⟨b, o + 3, none⟩ = some (.int .i64 x.upto) ∧ w.cell? ⟨b, o + 4, none⟩ = some (.int .i64 x.token)
theorem At.below {w w' : World} {b o : Nat} {x : Itm} {B : Nat} (h : At w b o x) (hb : Below B w w') (hB : b < B) : At w' b o x := by
  obtain ⟨h0, h1, h2, h3, h4⟩ := h
  refine ⟨?_, ?_, ?_, ?_, ?_⟩
  · rw [hb.cell (p := ⟨b, o, none⟩) hB]; exact h0
  · rw [hb.cell (p := ⟨b, o + 1, none⟩) hB]; exact h1
  · rw [hb.cell (p := ⟨b, o + 2, none⟩) hB]; exact h2
  · rw [hb.cell (p := ⟨b, o + 3, none⟩) hB]; exact h3
  · rw [hb.cell (p := ⟨b, o + 4, none⟩) hB]; exact h4
/-- A slice of items that lies in memory. -/
def ItemsAt (w : World) (a : Option Addr) (its : List Itm) : Prop :=
  its ≠ [] → ∃ b off, a = some ⟨b, off, none⟩ ∧ b < w.heap.size ∧ ∀ i, i < its.length → At w b (off + i * 5) (its.getD i zero)
theorem ItemsAt.below {w w' : World} {a : Option Addr} {its : List Itm} {B : Nat} (h : ItemsAt w a its) (hb : Below B w w') (hB : w.heap.size ≤ B) : ItemsAt w' a its := by
  intro hne
  obtain ⟨b, off, ha, hlt, hc⟩ := h hne
  exact ⟨b, off, ha, Nat.lt_of_lt_of_le hlt hb.size, fun i hi => (hc i hi).below hb (Nat.lt_of_lt_of_le hlt hB)⟩

/-- The row of a list of items: cell j. -/
def icell (its : List Itm) (j : Nat) : Value :=
  if j % 5 = 0 then .string (its.getD (j / 5) zero).key else if j % 5 = 1 then .int .i64 (its.getD (j / 5) zero).flags else
  if j % 5 = 2 then .string (its.getD (j / 5) zero).data else if j % 5 = 3 then .int .i64 (its.getD (j / 5) zero).upto else .int .i64 (its.getD (j / 5) zero).token
def half (its : List Itm) (k j : Nat) : Value := if j < k * 5 then icell its j else icell [] j
theorem half_step (its : List Itm) (k : Nat) (j : Nat) :
    (if j = k * 5 + 4 then Value.int .i64 (its.getD k zero).token else if j = k * 5 + 3 then .int .i64 (its.getD k zero).upto else if j = k * 5 + 2 then .string (its.getD k zero).data else
      if j = k * 5 + 1 then .int .i64 (its.getD k zero).flags else if j = k * 5 then .string (its.getD k zero).key else half its k j) = half its (k + 1) j := by
  unfold half
  by_cases h4 : j = k * 5 + 4
  · subst h4
    rw [if_pos rfl, if_pos (by omega), icell, show (k * 5 + 4) % 5 = 4 by omega, show (k * 5 + 4) / 5 = k by omega]
    simp
  rw [if_neg h4]
  by_cases h3 : j = k * 5 + 3
  · subst h3
    rw [if_pos rfl, if_pos (by omega), icell, show (k * 5 + 3) % 5 = 3 by omega, show (k * 5 + 3) / 5 = k by omega]
    simp
  rw [if_neg h3]
  by_cases h2 : j = k * 5 + 2
  · subst h2
    rw [if_pos rfl, if_pos (by omega), icell, show (k * 5 + 2) % 5 = 2 by omega, show (k * 5 + 2) / 5 = k by omega]
    simp
  rw [if_neg h2]
  by_cases h1 : j = k * 5 + 1
  · subst h1
    rw [if_pos rfl, if_pos (by omega), icell, show (k * 5 + 1) % 5 = 1 by omega, show (k * 5 + 1) / 5 = k by omega]
    simp
  rw [if_neg h1]
  by_cases h0 : j = k * 5
  · subst h0
    rw [if_pos rfl, if_pos (by omega), icell, show (k * 5) % 5 = 0 by omega, show (k * 5) / 5 = k by omega]
    simp
  rw [if_neg h0]
  by_cases h : j < k * 5
  · rw [if_pos h, if_pos (by omega)]
  · rw [if_neg h, if_neg (by omega)]
theorem at_row {w : World} {b : Nat} {t : TypeId} {its : List Itm} (h : w.rowIs b t (its.length * 5) (icell its)) (i : Nat) (hi : i < its.length) : At w b (0 + i * 5) (its.getD i zero) := by
  rw [Nat.zero_add]
  refine ⟨?_, ?_, ?_, ?_, ?_⟩
  · rw [h.cell (by omega), icell, show (i * 5) % 5 = 0 by omega, show (i * 5) / 5 = i by omega]; simp
  · rw [h.cell (by omega), icell, show (i * 5 + 1) % 5 = 1 by omega, show (i * 5 + 1) / 5 = i by omega]; simp
  · rw [h.cell (by omega), icell, show (i * 5 + 2) % 5 = 2 by omega, show (i * 5 + 2) / 5 = i by omega]; simp
  · rw [h.cell (by omega), icell, show (i * 5 + 3) % 5 = 3 by omega, show (i * 5 + 3) / 5 = i by omega]; simp
  · rw [h.cell (by omega), icell, show (i * 5 + 4) % 5 = 4 by omega, show (i * 5 + 4) / 5 = i by omega]; simp
theorem ItemsAt.row {w : World} {b : Nat} {t : TypeId} {its : List Itm} (h : w.rowIs b t (its.length * 5) (icell its)) : ItemsAt w (some ⟨b, 0, none⟩) its :=
  fun _ => ⟨b, 0, rfl, h.lt, at_row h⟩

theorem made_zero (i : Nat) : (#[Value.string ByteArray.empty, .int .i64 0, .string ByteArray.empty, .int .i64 0, .int .i64 0] : Array Value)[i % 5]! = icell [] i := by
  have h : i % 5 < 5 := Nat.mod_lt _ (by omega)
  unfold icell
  generalize i % 5 = m at h
  obtain rfl | rfl | rfl | rfl | rfl : m = 0 ∨ m = 1 ∨ m = 2 ∨ m = 3 ∨ m = 4 := by omega
  all_goals simp [zero]

/-- What szItem and szItemS reckon. -/
def szI (x : Itm) (left : Int) : Int := if left - x.key.size < 0 then -1 else if left - x.key.size - x.data.size < 0 then -1 else left - x.key.size - x.data.size
def szGo : List Itm → Int → Int
  | [], l => l
  | x :: r, l => if szI x l < 0 then -1 else szGo r (szI x l)
def szIs (its : List Itm) (left : Int) : Int := if left - its.length < 0 then -1 else szGo its (left - its.length)
theorem szI_bd (x : Itm) (l : Int) (h : 0 ≤ l) : -1 ≤ szI x l ∧ szI x l ≤ l := by
  unfold szI
  repeat' split
  all_goals omega
theorem szGo_drop (its : List Itm) (k : Nat) (h : k < its.length) (l : Int) : szGo (its.drop k) l = if szI (its.getD k zero) l < 0 then -1 else szGo (its.drop (k + 1)) (szI (its.getD k zero) l) := by
  rw [List.drop_eq_getElem_cons h, szGo]
  simp [h]
theorem szGo_bd (its : List Itm) (l : Int) (h : 0 ≤ l) : -1 ≤ szGo its l ∧ szGo its l ≤ l := by
  induction its generalizing l with
  | nil => simp [szGo]; omega
  | cons x r ih =>
    have := szI_bd x l h
    rw [szGo]
    split
    · omega
    · have := ih (szI x l) (by omega); omega
theorem szIs_bd (its : List Itm) (left : Int) (h0 : 0 ≤ left) : -1 ≤ szIs its left ∧ szIs its left ≤ left := by
  unfold szIs
  split
  · omega
  · have := szGo_bd its (left - its.length) (by omega); omega
theorem szIs_len {its : List Itm} {left : Int} (h : ¬ szIs its left < 0) : (its.length : Int) ≤ left := by
  unfold szIs at h
  split at h <;> omega

/-- What an item and a list of them must be to be handed in. -/
def Fits (x : Itm) : Prop := x.key.size ≤ maxLen ∧ x.data.size ≤ maxLen
theorem fits_getD {its : List Itm} (h : ∀ x ∈ its, Fits x) (k : Nat) (hk : k < its.length) : Fits (its.getD k zero) := by
  rw [List.getD_eq_getElem?_getD, List.getElem?_eq_getElem hk]
  exact h _ (List.getElem_mem _)
end Items
end Go.Proofs.YtghckjmpcokhcaaGreatDoor
/-
  Items merged in the order of the keys that asked for them, as plain data. No Go function is spoken of here.
-/
namespace Go.Proofs.YtghckjmpcokhcaaGreatDoor
namespace Merge
open Go.RowKit Base Items Split
set_option linter.unusedVariables false

/-- What a key leaves of the items that come next. -/
def step (ks : List ByteArray) (its : List Itm) (k : Nat) : List Itm :=
  match its with
  | [] => []
  | x :: r => if x.key = ow ks k then r else x :: r
/-- The item that a key takes. -/
def hit (ks : List ByteArray) (its : List Itm) (k : Nat) : Option Itm :=
  match its with
  | [] => none
  | x :: r => if x.key = ow ks k then some x else none
def tk (ks : List ByteArray) (L : List Nat) (its : List Itm) : List Itm := L.foldl (step ks) its
/-- What the first k keys leave of a node's items. -/
def rm (os ks : List ByteArray) (o : ByteArray) (row : List Itm) (k : Nat) : List Itm := tk ks (places os k o) row
/-- What the k-th key takes of its own node's items. -/
def em (os ks : List ByteArray) (row : List Itm) (k : Nat) : Option Itm := hit ks (rm os ks (ow os k) row k) k
/-- All that is taken by the first n keys, in their order; R: each node's items. -/
def outs (os ks : List ByteArray) (R : ByteArray → List Itm) (n : Nat) : List Itm := (List.range n).filterMap (fun k => em os ks (R (ow os k)) k)

theorem tk_snoc (ks : List ByteArray) (L : List Nat) (k : Nat) (its : List Itm) : tk ks (L ++ [k]) its = step ks (tk ks L its) k := by simp [tk]
theorem rm_zero (os ks : List ByteArray) (o : ByteArray) (row : List Itm) : rm os ks o row 0 = row := rfl
theorem rm_own {os ks : List ByteArray} {o : ByteArray} {row : List Itm} {k : Nat} (h : ow os k = o) : rm os ks o row (k + 1) = step ks (rm os ks o row k) k := by
  unfold rm; rw [places_succ, if_pos h, tk_snoc]
theorem rm_other {os ks : List ByteArray} {o : ByteArray} {row : List Itm} {k : Nat} (h : ow os k ≠ o) : rm os ks o row (k + 1) = rm os ks o row k := by
  unfold rm; rw [places_succ, if_neg h, List.append_nil]
theorem step_drop (ks : List ByteArray) (its : List Itm) (k : Nat) : ∃ d, d ≤ 1 ∧ step ks its k = its.drop d ∧ d ≤ its.length := by
  cases its with
  | nil => exact ⟨0, by omega, rfl, by simp⟩
  | cons x r =>
    unfold step
    dsimp only
    split
    · exact ⟨1, by omega, rfl, by simp⟩
    · exact ⟨0, by omega, rfl, by simp⟩
theorem tk_drop (ks : List ByteArray) (L : List Nat) : ∀ its : List Itm, ∃ d, tk ks L its = its.drop d ∧ d ≤ its.length := by
  induction L with
  | nil => intro its; exact ⟨0, rfl, Nat.zero_le _⟩
  | cons k L ih =>
    intro its
    obtain ⟨d1, _, e1, h1⟩ := step_drop ks its k
    obtain ⟨d2, e2, h2⟩ := ih (step ks its k)
    refine ⟨d1 + d2, ?_, ?_⟩
    · show tk ks L (step ks its k) = _
      rw [e2, e1, List.drop_drop]
    · rw [e1, List.length_drop] at h2; omega
/-- How many of a node's items the first k keys take. -/
def cnt (os ks : List ByteArray) (o : ByteArray) (row : List Itm) (k : Nat) : Nat := row.length - (rm os ks o row k).length
theorem rm_cnt (os ks : List ByteArray) (o : ByteArray) (row : List Itm) (k : Nat) : rm os ks o row k = row.drop (cnt os ks o row k) ∧ cnt os ks o row k ≤ row.length := by
  obtain ⟨d, e, h⟩ := tk_drop ks (places os k o) row
  have e' : rm os ks o row k = row.drop d := e
  have hc : cnt os ks o row k = d := by unfold cnt; rw [e', List.length_drop]; omega
  rw [hc]; exact ⟨e', h⟩
theorem cnt_zero (os ks : List ByteArray) (o : ByteArray) (row : List Itm) : cnt os ks o row 0 = 0 := by unfold cnt; rw [rm_zero]; omega
theorem cnt_other {os ks : List ByteArray} {o : ByteArray} {row : List Itm} {k : Nat} (h : ow os k ≠ o) : cnt os ks o row (k + 1) = cnt os ks o row k := by unfold cnt; rw [rm_other h]
/-- A key of the node finds its item next, or it doesn't. -/
theorem cnt_hit {os ks : List ByteArray} {row : List Itm} {k : Nat} (h1 : cnt os ks (ow os k) row k < row.length) (h2 : (row.getD (cnt os ks (ow os k) row k) zero).key = ow ks k) :
    cnt os ks (ow os k) row (k + 1) = cnt os ks (ow os k) row k + 1 ∧ em os ks row k = some (row.getD (cnt os ks (ow os k) row k) zero) := by
  obtain ⟨e, _⟩ := rm_cnt os ks (ow os k) row k
  have hd : row.drop (cnt os ks (ow os k) row k) = row.getD (cnt os ks (ow os k) row k) zero :: row.drop (cnt os ks (ow os k) row k + 1) := by
    rw [List.drop_eq_getElem_cons h1, List.getD_eq_getElem?_getD, List.getElem?_eq_getElem h1]; rfl
  rw [hd] at e
  constructor
  · have e2 : rm os ks (ow os k) row (k + 1) = row.drop (cnt os ks (ow os k) row k + 1) := by
      rw [rm_own rfl, e]; unfold step; dsimp only; rw [if_pos h2]
    show row.length - (rm os ks (ow os k) row (k + 1)).length = _
    rw [e2, List.length_drop]; omega
  · unfold em; rw [e]; unfold hit; dsimp only; rw [if_pos h2]
theorem cnt_miss {os ks : List ByteArray} {row : List Itm} {k : Nat} (h : ¬ (cnt os ks (ow os k) row k < row.length ∧ (row.getD (cnt os ks (ow os k) row k) zero).key = ow ks k)) :
    cnt os ks (ow os k) row (k + 1) = cnt os ks (ow os k) row k ∧ em os ks row k = none := by
  obtain ⟨e, hle⟩ := rm_cnt os ks (ow os k) row k
  by_cases h1 : cnt os ks (ow os k) row k < row.length
  · have h2 : ¬ (row.getD (cnt os ks (ow os k) row k) zero).key = ow ks k := fun q => h ⟨h1, q⟩
    have hd : row.drop (cnt os ks (ow os k) row k) = row.getD (cnt os ks (ow os k) row k) zero :: row.drop (cnt os ks (ow os k) row k + 1) := by
      rw [List.drop_eq_getElem_cons h1, List.getD_eq_getElem?_getD, List.getElem?_eq_getElem h1]; rfl
    rw [hd] at e
    constructor
    · have e2 : rm os ks (ow os k) row (k + 1) = rm os ks (ow os k) row k := by
        rw [rm_own rfl, e]; unfold step; dsimp only; rw [if_neg h2]
      show row.length - (rm os ks (ow os k) row (k + 1)).length = _
      rw [e2]; rfl
    · unfold em; rw [e]; unfold hit; dsimp only; rw [if_neg h2]
  · have hd : row.drop (cnt os ks (ow os k) row k) = [] := List.drop_eq_nil_of_le (by omega)
    rw [hd] at e
    constructor
    · have e2 : rm os ks (ow os k) row (k + 1) = rm os ks (ow os k) row k := by
        rw [rm_own rfl, e]; rfl
      show row.length - (rm os ks (ow os k) row (k + 1)).length = _
      rw [e2]; rfl
    · unfold em; rw [e]; rfl
/-- Nothing is left where all are taken. -/
theorem left_iff (os ks : List ByteArray) (o : ByteArray) (row : List Itm) (k : Nat) : rm os ks o row k = [] ↔ ¬ cnt os ks o row k < row.length := by
  obtain ⟨e, hle⟩ := rm_cnt os ks o row k
  rw [e, List.drop_eq_nil_iff]; omega
theorem outs_succ (os ks : List ByteArray) (R : ByteArray → List Itm) (n : Nat) : outs os ks R (n + 1) = outs os ks R n ++ (em os ks (R (ow os n)) n).toList := by
  unfold outs
  rw [List.range_succ, List.filterMap_append]
  congr 1
theorem outs_flat (os ks : List ByteArray) (R : ByteArray → List Itm) (n : Nat) : (List.range n).flatMap (fun k => (em os ks (R (ow os k)) k).toList) = outs os ks R n := by
  induction n with
  | zero => rfl
  | succ n ih => rw [outs_succ, List.range_succ, List.flatMap_append, ih]; simp
theorem outs_len (os ks : List ByteArray) (R : ByteArray → List Itm) (n : Nat) : (outs os ks R n).length ≤ n := by
  have := List.length_filterMap_le (fun k => em os ks (R (ow os k)) k) (List.range n)
  simpa [outs] using this
theorem hit_mem {ks : List ByteArray} {its : List Itm} {k : Nat} {x : Itm} (h : hit ks its k = some x) : x ∈ its := by
  cases its with
  | nil => simp [hit] at h
  | cons y r =>
    unfold hit at h
    dsimp only at h
    split at h
    · simp at h; simp [h]
    · simp at h
theorem em_mem {os ks : List ByteArray} {row : List Itm} {k : Nat} {x : Itm} (h : em os ks row k = some x) : x ∈ row := by
  have := hit_mem h
  rw [(rm_cnt os ks (ow os k) row k).1] at this
  exact List.mem_of_mem_drop this
theorem outs_mem {os ks : List ByteArray} {R : ByteArray → List Itm} {n : Nat} {x : Itm} (h : x ∈ outs os ks R n) : ∃ k, k < n ∧ x ∈ R (ow os k) := by
  unfold outs at h
  simp only [List.mem_filterMap, List.mem_range] at h
  obtain ⟨k, hk, e⟩ := h
  exact ⟨k, hk, em_mem e⟩
/-- The places ahead of a place are the first ones. -/
theorem places_take (os : List ByteArray) (o : ByteArray) : ∀ (n q : Nat) (h : q < (places os n o).length), (places os n o).take q = places os ((places os n o)[q]) o := by
  intro n
  induction n with
  | zero => intro q h; simp [places] at h
  | succ n ih =>
    intro q h
    by_cases e : ow os n = o
    · have e0 : places os (n + 1) o = places os n o ++ [n] := by rw [places_succ, if_pos e]
      rcases Nat.lt_or_ge q (places os n o).length with h1 | h1
      · have e1 : (places os (n + 1) o)[q] = (places os n o)[q] := by
          simp only [e0]; rw [List.getElem_append_left h1]
        rw [e1, ← ih q h1, e0, List.take_append_of_le_length (by omega)]
      · have hq : q = (places os n o).length := by rw [e0, List.length_append] at h; simp at h; omega
        have e1 : (places os (n + 1) o)[q] = n := by
          simp only [e0]; rw [List.getElem_append_right h1]; simp
        rw [e1, e0, hq]; simp
    · have e0 : places os (n + 1) o = places os n o := by rw [places_succ, if_neg e, List.append_nil]
      have h1 : q < (places os n o).length := by rw [e0] at h; exact h
      have e1 : (places os (n + 1) o)[q] = (places os n o)[q] := by simp only [e0]
      rw [e1, e0]; exact ih q h1
/-- What the program has left of a part's items ahead of its q-th place. -/
theorem tk_at {os ks : List ByteArray} {o : ByteArray} {row : List Itm} {n q : Nat} (h : q < (places os n o).length) : tk ks ((places os n o).take q) row = rm os ks o row ((places os n o)[q]) := by
  unfold rm; rw [places_take]
theorem tk_next {ks : List ByteArray} {L : List Nat} {its : List Itm} {q : Nat} (h : q < L.length) : tk ks (L.take (q + 1)) its = step ks (tk ks (L.take q) its) L[q] := by
  rw [List.take_succ_eq_append_getElem h, tk_snoc]
end Merge
end Go.Proofs.YtghckjmpcokhcaaGreatDoor
