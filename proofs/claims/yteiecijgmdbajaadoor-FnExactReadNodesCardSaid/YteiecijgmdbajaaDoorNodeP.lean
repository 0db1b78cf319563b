/-
  Plain data of the struct Node, and how a slice of them lies in memory (written by a program of mine). No Go function is spoken of here.
-/
import Derived.Test.YteiecijgmdbajaaDoorBase
namespace Go.Proofs.YteiecijgmdbajaaDoor
namespace Nodes
open Go.RowKit Base
set_option linter.unusedVariables false

structure D where
  name : ByteArray
  weight : Int
def zero : D := ⟨ByteArray.empty, 0⟩
def At (w : World) (b o : Nat) (x : D) : Prop :=
  w.cell? ⟨b, o, none⟩ = some (.string x.name) ∧ w.cell? ⟨b, o + 1, none⟩ = some (.int .i64 x.weight)
theorem At.below {w w' : World} {b o : Nat} {x : D} {B : Nat} (h : At w b o x) (hb : Below B w w') (hB : b < B) : At w' b o x := by
  obtain ⟨h0, h1⟩ := h
  refine ⟨?_, ?_⟩
  · rw [hb.cell (p := ⟨b, o, none⟩) hB]; exact h0
  · rw [hb.cell (p := ⟨b, o + 1, none⟩) hB]; exact h1
def LAt (w : World) (a : Option Addr) (l : List D) : Prop :=
  l ≠ [] → ∃ b off, a = some ⟨b, off, none⟩ ∧ b < w.heap.size ∧ ∀ i, i < l.length → At w b (off + i * 2) (l.getD i zero)
theorem LAt.below {w w' : World} {a : Option Addr} {l : List D} {B : Nat} (h : LAt w a l) (hb : Below B w w') (hB : w.heap.size ≤ B) : LAt w' a l := by
  intro hne
  obtain ⟨b, off, ha, hlt, hc⟩ := h hne
  exact ⟨b, off, ha, Nat.lt_of_lt_of_le hlt hb.size, fun i hi => (hc i hi).below hb (Nat.lt_of_lt_of_le hlt hB)⟩
def icell (l : List D) (j : Nat) : Value := if j % 2 = 0 then .string (l.getD (j / 2) zero).name else .int .i64 (l.getD (j / 2) zero).weight
def half (l : List D) (k j : Nat) : Value := if j < k * 2 then icell l j else icell [] j
theorem half_step (l : List D) (k : Nat) (j : Nat) : (if j = k * 2 + 1 then (.int .i64 (l.getD k zero).weight : Value) else if j = k * 2 then (.string (l.getD k zero).name : Value) else half l k j) = half l (k + 1) j := by
  unfold half
  by_cases h1 : j = k * 2 + 1
  · subst h1
    rw [if_pos rfl, if_pos (by omega), icell, show (k * 2 + 1) % 2 = 1 by omega, show (k * 2 + 1) / 2 = k by omega]
    simp
  rw [if_neg h1]
  by_cases h0 : j = k * 2
  · subst h0
    rw [if_pos rfl, if_pos (by omega), icell, show (k * 2) % 2 = 0 by omega, show (k * 2) / 2 = k by omega]
    simp
  rw [if_neg h0]
  by_cases h : j < k * 2
  · rw [if_pos h, if_pos (by omega)]
  · rw [if_neg h, if_neg (by omega)]
theorem at_row {w : World} {b : Nat} {t : TypeId} {l : List D} (h : w.rowIs b t (l.length * 2) (icell l)) (i : Nat) (hi : i < l.length) : At w b (0 + i * 2) (l.getD i zero) := by
  rw [Nat.zero_add]
  refine ⟨?_, ?_⟩
  · rw [h.cell (by omega), icell, show (i * 2) % 2 = 0 by omega, show (i * 2) / 2 = i by omega]; simp
  · rw [h.cell (by omega), icell, show (i * 2 + 1) % 2 = 1 by omega, show (i * 2 + 1) / 2 = i by omega]; simp
theorem LAt.row {w : World} {b : Nat} {t : TypeId} {l : List D} (h : w.rowIs b t (l.length * 2) (icell l)) : LAt w (some ⟨b, 0, none⟩) l := fun _ => ⟨b, 0, rfl, h.lt, at_row h⟩
theorem made_zero (i : Nat) : (#[.string ByteArray.empty, .int .i64 0] : Array Value)[i % 2]! = icell [] i := by
  have h : i % 2 < 2 := Nat.mod_lt _ (by omega)
  unfold icell
  generalize i % 2 = m at h
  obtain rfl | rfl : m = 0 ∨ m = 1 := by omega
  all_goals simp [zero]
def szI (x : D) (left : Int) : Int := if left - x.name.size < 0 then -1 else left - x.name.size
def szGo : List D → Int → Int
  | [], l => l
  | x :: r, l => if szI x l < 0 then -1 else szGo r (szI x l)
def szL (l : List D) (left : Int) : Int := if left - l.length < 0 then -1 else szGo l (left - l.length)
theorem szI_bd (x : D) (l : Int) (h : 0 ≤ l) : -1 ≤ szI x l ∧ szI x l ≤ l := by
  unfold szI
  repeat' split
  all_goals omega
theorem szGo_drop (its : List D) (k : Nat) (h : k < its.length) (l : Int) : szGo (its.drop k) l = if szI (its.getD k zero) l < 0 then -1 else szGo (its.drop (k + 1)) (szI (its.getD k zero) l) := by
  rw [List.drop_eq_getElem_cons h, szGo]
  simp [h]
theorem szGo_bd (its : List D) (l : Int) (h : 0 ≤ l) : -1 ≤ szGo its l ∧ szGo its l ≤ l := by
  induction its generalizing l with
  | nil => simp [szGo]; omega
  | cons x r ih =>
    have := szI_bd x l h
    rw [szGo]
    split
    · omega
    · have := ih (szI x l) (by omega); omega
theorem szL_bd (l : List D) (left : Int) (h0 : 0 ≤ left) : -1 ≤ szL l left ∧ szL l left ≤ left := by
  unfold szL
  split
  · omega
  · have := szGo_bd l (left - l.length) (by omega); omega
theorem szL_len {l : List D} {left : Int} (h : ¬ szL l left < 0) : (l.length : Int) ≤ left := by
  unfold szL at h
  split at h <;> omega
def Fits (x : D) : Prop := x.name.size ≤ maxLen
theorem fits_getD {l : List D} (h : ∀ x ∈ l, Fits x) (k : Nat) (hk : k < l.length) : Fits (l.getD k zero) := by
  rw [List.getD_eq_getElem?_getD, List.getElem?_eq_getElem hk]
  exact h _ (List.getElem_mem _)
end Nodes
end Go.Proofs.YteiecijgmdbajaaDoor
