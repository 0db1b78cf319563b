/-
  Items as plain data, and how a slice of them lies in memory. No Go function is spoken of here.
-/
import Derived.Test.YtghckjmpcokhcaaDoorBase
namespace Go.Proofs.YtghckjmpcokhcaaDoor
namespace Items
open Go.RowKit Base

structure Itm where
  key : ByteArray
  flags : Int
  data : ByteArray
  upto : Int
  token : Int
def zero : Itm := ⟨ByteArray.empty, 0, ByteArray.empty, 0, 0⟩
theorem Itm.ext' {x y : Itm} (h1 : x.key = y.key) (h2 : x.flags = y.flags) (h3 : x.data = y.data) (h4 : x.upto = y.upto) (h5 : x.token = y.token) : x = y := by
  cases x; cases y; simp_all

/-- Five cells from a place on hold an item. -/
def At (w : World) (b o : Nat) (x : Itm) : Prop :=
  w.cell? ⟨b, o, none⟩ = some (.string x.key) ∧ w.cell? ⟨b, o + 1, none⟩ = some (.int .i64 x.flags) ∧ w.cell? ⟨b, o + 2, none⟩ = some (.string x.data) ∧
  w.cell? ⟨b, o + 3, none⟩ = some (.int .i64 x.upto) ∧ w.cell? ⟨b, o + 4, none⟩ = some (.int .i64 x.token)
theorem At.below {w w' : World} {b o : Nat} {x : Itm} {B : Nat} (h : At w b o x) (hb : Below B w w') (hB : b < B) : At w' b o x := by
  obtain ⟨h0, h1, h2, h3, h4⟩ := h
  refine ⟨?_, ?_, ?_, ?_, ?_⟩
  · rw [hb.cell (p := ⟨b, o, none⟩) hB]; exact h0
  · rw [hb.cell (p := ⟨b, o + 1, none⟩) hB]; exact h1
  · rw [hb.cell (p := ⟨b, o + 2, none⟩) hB]; exact h2
  · rw [hb.cell (p := ⟨b, o + 3, none⟩) hB]; exact h3
  · rw [hb.cell (p := ⟨b, o + 4, none⟩) hB]; exact h4
/-- A slice of items that lies in memory. -/
def ItemsAt (w : World) (a : Option Addr) (its : List Itm) : Prop :=
  its ≠ [] → ∃ b off, a = some ⟨b, off, none⟩ ∧ b < w.heap.size ∧ ∀ i, i < its.length → At w b (off + i * 5) (its.getD i zero)
theorem ItemsAt.below {w w' : World} {a : Option Addr} {its : List Itm} {B : Nat} (h : ItemsAt w a its) (hb : Below B w w') (hB : w.heap.size ≤ B) : ItemsAt w' a its := by
  intro hne
  obtain ⟨b, off, ha, hlt, hc⟩ := h hne
  exact ⟨b, off, ha, Nat.lt_of_lt_of_le hlt hb.size, fun i hi => (hc i hi).below hb (Nat.lt_of_lt_of_le hlt hB)⟩

/-- The row of a list of items: cell j. -/
def icell (its : List Itm) (j : Nat) : Value :=
  if j % 5 = 0 then .string (its.getD (j / 5) zero).key else if j % 5 = 1 then .int .i64 (its.getD (j / 5) zero).flags else
  if j % 5 = 2 then .string (its.getD (j / 5) zero).data else if j % 5 = 3 then .int .i64 (its.getD (j / 5) zero).upto else .int .i64 (its.getD (j / 5) zero).token
def half (its : List Itm) (k j : Nat) : Value := if j < k * 5 then icell its j else icell [] j
theorem half_step (its : List Itm) (k : Nat) (j : Nat) :
    (if j = k * 5 + 4 then Value.int .i64 (its.getD k zero).token else if j = k * 5 + 3 then .int .i64 (its.getD k zero).upto else if j = k * 5 + 2 then .string (its.getD k zero).data else
      if j = k * 5 + 1 then .int .i64 (its.getD k zero).flags else if j = k * 5 then .string (its.getD k zero).key else half its k j) = half its (k + 1) j := by
  unfold half
  by_cases h4 : j = k * 5 + 4
  · subst h4
    rw [if_pos rfl, if_pos (by omega), icell, show (k * 5 + 4) % 5 = 4 by omega, show (k * 5 + 4) / 5 = k by omega]
    simp
  rw [if_neg h4]
  by_cases h3 : j = k * 5 + 3
  · subst h3
    rw [if_pos rfl, if_pos (by omega), icell, show (k * 5 + 3) % 5 = 3 by omega, show (k * 5 + 3) / 5 = k by omega]
    simp
  rw [if_neg h3]
  by_cases h2 : j = k * 5 + 2
  · subst h2
    rw [if_pos rfl, if_pos (by omega), icell, show (k * 5 + 2) % 5 = 2 by omega, show (k * 5 + 2) / 5 = k by omega]
    simp
  rw [if_neg h2]
  by_cases h1 : j = k * 5 + 1
  · subst h1
    rw [if_pos rfl, if_pos (by omega), icell, show (k * 5 + 1) % 5 = 1 by omega, show (k * 5 + 1) / 5 = k by omega]
    simp
  rw [if_neg h1]
  by_cases h0 : j = k * 5
  · subst h0
    rw [if_pos rfl, if_pos (by omega), icell, show (k * 5) % 5 = 0 by omega, show (k * 5) / 5 = k by omega]
    simp
  rw [if_neg h0]
  by_cases h : j < k * 5
  · rw [if_pos h, if_pos (by omega)]
  · rw [if_neg h, if_neg (by omega)]
theorem at_row {w : World} {b : Nat} {t : TypeId} {its : List Itm} (h : w.rowIs b t (its.length * 5) (icell its)) (i : Nat) (hi : i < its.length) : At w b (0 + i * 5) (its.getD i zero) := by
  rw [Nat.zero_add]
  refine ⟨?_, ?_, ?_, ?_, ?_⟩
  · rw [h.cell (by omega), icell, show (i * 5) % 5 = 0 by omega, show (i * 5) / 5 = i by omega]; simp
  · rw [h.cell (by omega), icell, show (i * 5 + 1) % 5 = 1 by omega, show (i * 5 + 1) / 5 = i by omega]; simp
  · rw [h.cell (by omega), icell, show (i * 5 + 2) % 5 = 2 by omega, show (i * 5 + 2) / 5 = i by omega]; simp
  · rw [h.cell (by omega), icell, show (i * 5 + 3) % 5 = 3 by omega, show (i * 5 + 3) / 5 = i by omega]; simp
  · rw [h.cell (by omega), icell, show (i * 5 + 4) % 5 = 4 by omega, show (i * 5 + 4) / 5 = i by omega]; simp
theorem ItemsAt.row {w : World} {b : Nat} {t : TypeId} {its : List Itm} (h : w.rowIs b t (its.length * 5) (icell its)) : ItemsAt w (some ⟨b, 0, none⟩) its :=
  fun _ => ⟨b, 0, rfl, h.lt, at_row h⟩

theorem made_zero (i : Nat) : (#[Value.string ByteArray.empty, .int .i64 0, .string ByteArray.empty, .int .i64 0, .int .i64 0] : Array Value)[i % 5]! = icell [] i := by
  have h : i % 5 < 5 := Nat.mod_lt _ (by omega)
  unfold icell
  generalize i % 5 = m at h
  obtain rfl | rfl | rfl | rfl | rfl : m = 0 ∨ m = 1 ∨ m = 2 ∨ m = 3 ∨ m = 4 := by omega
  all_goals simp [zero]

/-- What szItem and szItemS reckon. -/
def szI (x : Itm) (left : Int) : Int := if left - x.key.size < 0 then -1 else if left - x.key.size - x.data.size < 0 then -1 else left - x.key.size - x.data.size
def szGo : List Itm → Int → Int
  | [], l => l
  | x :: r, l => if szI x l < 0 then -1 else szGo r (szI x l)
def szIs (its : List Itm) (left : Int) : Int := if left - its.length < 0 then -1 else szGo its (left - its.length)
theorem szI_bd (x : Itm) (l : Int) (h : 0 ≤ l) : -1 ≤ szI x l ∧ szI x l ≤ l := by
  unfold szI
  repeat' split
  all_goals omega
theorem szGo_drop (its : List Itm) (k : Nat) (h : k < its.length) (l : Int) : szGo (its.drop k) l = if szI (its.getD k zero) l < 0 then -1 else szGo (its.drop (k + 1)) (szI (its.getD k zero) l) := by
  rw [List.drop_eq_getElem_cons h, szGo]
  simp [h]
theorem szGo_bd (its : List Itm) (l : Int) (h : 0 ≤ l) : -1 ≤ szGo its l ∧ szGo its l ≤ l := by
  induction its generalizing l with
  | nil => simp [szGo]; omega
  | cons x r ih =>
    have := szI_bd x l h
    rw [szGo]
    split
    · omega
    · have := ih (szI x l) (by omega); omega
theorem szIs_bd (its : List Itm) (left : Int) (h0 : 0 ≤ left) : -1 ≤ szIs its left ∧ szIs its left ≤ left := by
  unfold szIs
  split
  · omega
  · have := szGo_bd its (left - its.length) (by omega); omega
theorem szIs_len {its : List Itm} {left : Int} (h : ¬ szIs its left < 0) : (its.length : Int) ≤ left := by
  unfold szIs at h
  split at h <;> omega

/-- What an item and a list of them must be to be handed in. -/
def Fits (x : Itm) : Prop := x.key.size ≤ maxLen ∧ x.data.size ≤ maxLen
theorem fits_getD {its : List Itm} (h : ∀ x ∈ its, Fits x) (k : Nat) (hk : k < its.length) : Fits (its.getD k zero) := by
  rw [List.getD_eq_getElem?_getD, List.getElem?_eq_getElem hk]
  exact h _ (List.getElem_mem _)
end Items
end Go.Proofs.YtghckjmpcokhcaaDoor
