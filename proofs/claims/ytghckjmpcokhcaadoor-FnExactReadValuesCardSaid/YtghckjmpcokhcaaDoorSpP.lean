/-
  Words between blanks, as plain data; what the library's Split and Cut tell of them. No Go function is spoken of here.
-/
import Derived.Test.YtghckjmpcokhcaaDoorBase
import Derived.Lib.SplitLaws
import Derived.Lib.CutLaws
namespace Go.Proofs.YtghckjmpcokhcaaDoor
namespace Sp
open Go Go.Lib
set_option linter.unusedVariables false

def pre (c : UInt8) : List (List UInt8) → List (List UInt8)
  | [] => [[c]]
  | a :: r => (c :: a) :: r
/-- The words of a line. -/
def sp : List UInt8 → List (List UInt8)
  | [] => [[]]
  | c :: l => if c = 32 then [] :: sp l else pre c (sp l)
theorem sp_ne (l : List UInt8) : sp l ≠ [] := by
  cases l with
  | nil => simp [sp]
  | cons c l =>
    unfold sp
    split
    · simp
    · cases h : sp l <;> simp [pre]
theorem sp_word {a : List UInt8} (h : 32 ∉ a) : sp a = [a] := by
  induction a with
  | nil => rfl
  | cons c a ih =>
    simp only [List.mem_cons, not_or] at h
    unfold sp
    rw [if_neg (fun e => h.1 e.symm), ih h.2]; rfl
theorem sp_cons {a l : List UInt8} (h : 32 ∉ a) : sp (a ++ 32 :: l) = a :: sp l := by
  induction a with
  | nil => simp [sp]
  | cons c a ih =>
    simp only [List.mem_cons, not_or] at h
    rw [List.cons_append]
    conv => lhs; unfold sp
    rw [if_neg (fun e => h.1 e.symm), ih h.2]; rfl
def join : List (List UInt8) → List UInt8
  | [] => []
  | [a] => a
  | a :: b :: r => a ++ 32 :: join (b :: r)
theorem join_cons {a : List UInt8} {r : List (List UInt8)} (h : r ≠ []) : join (a :: r) = a ++ 32 :: join r := by
  cases r with
  | nil => exact absurd rfl h
  | cons b r => rfl
theorem join_pre (c : UInt8) (r : List (List UInt8)) : join (pre c r) = c :: join r := by
  match r with
  | [] => rfl
  | [a] => rfl
  | a :: b :: r => rfl
theorem join_sp (l : List UInt8) : join (sp l) = l := by
  induction l with
  | nil => rfl
  | cons c l ih =>
    unfold sp
    split
    · rename_i e
      rw [join_cons (sp_ne l), ih, e]; rfl
    · rw [join_pre, ih]
theorem pre_app (c : UInt8) (a : List UInt8) (r : List (List UInt8)) : pre c (a :: r) = (c :: a) :: r := rfl

/-! The library's index of one byte. -/
theorem idx_cons (b : UInt8) (l : List UInt8) : index (b :: l) [32] = if b = 32 then 0 else if index l [32] = -1 then -1 else index l [32] + 1 := by
  conv => lhs; unfold index
  by_cases h : b = 32
  · rw [if_pos h, h]; rfl
  · have e : List.isPrefixOf [32] (b :: l) = false := by
      simp only [List.isPrefixOf, Bool.and_true, beq_eq_false_iff_ne, ne_eq]
      exact fun e => h e.symm
    rw [e, if_neg h]
    by_cases h2 : index l [32] = -1 <;> simp [h2]
theorem idx_miss {l : List UInt8} (h : index l [32] = -1) : 32 ∉ l := by
  induction l with
  | nil => simp
  | cons b l ih =>
    rw [idx_cons] at h
    by_cases hb : b = 32
    · rw [if_pos hb] at h; exact absurd h (by decide)
    · rw [if_neg hb] at h
      have hg := index_ge l [32]
      by_cases h2 : index l [32] = -1
      · simp only [List.mem_cons, not_or]; exact ⟨fun e => hb e.symm, ih h2⟩
      · rw [if_neg h2] at h; omega
theorem idx_hit {l : List UInt8} {i : Nat} (h : index l [32] = i) : 32 ∉ l.take i ∧ l = l.take i ++ 32 :: l.drop (i + 1) := by
  induction l generalizing i with
  | nil => simp [index] at h
  | cons b l ih =>
    rw [idx_cons] at h
    by_cases hb : b = 32
    · rw [if_pos hb] at h
      obtain rfl : i = 0 := by omega
      simp [hb]
    · rw [if_neg hb] at h
      have hg := index_ge l [32]
      by_cases h2 : index l [32] = -1
      · rw [if_pos h2] at h; omega
      · rw [if_neg h2] at h
        obtain ⟨j, rfl⟩ : ∃ j, i = j + 1 := ⟨i - 1, by omega⟩
        obtain ⟨h3, h4⟩ := ih (i := j) (by omega)
        refine ⟨?_, ?_⟩
        · simp only [List.take_succ_cons, List.mem_cons, not_or]; exact ⟨fun e => hb e.symm, h3⟩
        · simp only [List.take_succ_cons, List.drop_succ_cons, List.cons_append]; rw [← h4]
theorem split_sp : ∀ (m : Nat) (l : List UInt8) (k : Nat), l.length ≤ m → count l [32] = k → splitK [32] 0 k l = sp l := by
  intro m
  induction m with
  | zero =>
    intro l k hl hk
    obtain rfl : l = [] := List.length_eq_zero_iff.1 (by omega)
    have : k = 0 := by rw [← hk]; rfl
    subst this; rfl
  | succ m ih =>
    intro l k hl hk
    by_cases h : index l [32] = -1
    · have h0 : k = 0 := by rw [← hk]; exact count_miss h
      subst h0
      rw [sp_word (idx_miss h)]; rfl
    · have hg := index_ge l [32]
      obtain ⟨i, hi⟩ : ∃ i : Nat, index l [32] = i := ⟨(index l [32]).toNat, by omega⟩
      obtain ⟨h1, h2⟩ := idx_hit hi
      have hc := count_hit (by simp) hi (s := l)
      rw [hk] at hc
      simp only [List.length_cons, List.length_nil] at hc
      subst hc
      rw [Nat.add_comm 1]
      have hne : ¬ (index l [32] == -1) = true := fun e => h (beq_iff_eq.1 e)
      unfold splitK
      rw [if_neg hne]
      have e : (index l [32]).toNat = i := by omega
      rw [e]
      simp only [Nat.add_zero, List.length_cons, List.length_nil, Nat.zero_add]
      have hd : (l.drop (i + 1)).length ≤ m := by
        have := congrArg List.length h2
        simp only [List.length_append, List.length_cons, List.length_take, List.length_drop] at this
        rw [List.length_drop]; omega
      rw [ih (l.drop (i + 1)) _ hd rfl]
      conv => rhs; rw [h2]
      rw [sp_cons h1]
/-- What strings.Split at a blank makes of a line. -/
theorem splitB_sp (s : ByteArray) : (splitB ⟨#[32]⟩ 0 (countB s ⟨#[32]⟩) s).map (·.data.toList) = sp s.data.toList := by
  rw [splitB_data]
  exact split_sp s.data.toList.length s.data.toList _ (Nat.le_refl _) rfl
end Sp
end Go.Proofs.YtghckjmpcokhcaaDoor
