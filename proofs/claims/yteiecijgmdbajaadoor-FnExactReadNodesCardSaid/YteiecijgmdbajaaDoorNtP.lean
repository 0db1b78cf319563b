/-
  The text of nodes, as plain data. No Go function is spoken of here.
-/
import Derived.Test.YteiecijgmdbajaaDoorNodesS
import Derived.Test.YteiecijgmdbajaaDoorNumP
import Derived.Lib.Join
namespace Go.Proofs.YteiecijgmdbajaaDoor
namespace Nt
open Go.RowKit Base Nodes NumText
set_option linter.unusedVariables false

def word (x : D) : ByteArray := (x.name ++ ⟨#[58]⟩) ++ txt x.weight.toNat
def textTo (l : List D) : Nat → ByteArray
  | 0 => ByteArray.empty
  | k + 1 => (if k = 0 then textTo l k else textTo l k ++ ⟨#[32]⟩) ++ word (l.getD k zero)
structure Res where
  s : ByteArray
  ok : Bool
def ntR (l : List D) : Res := if NodesM.gnB l then ⟨textTo l l.length, true⟩ else ⟨ByteArray.empty, false⟩
def ntV (r : Res) : Value := .tuple #[.string r.s, .bool r.ok]
theorem txt_size (n : Nat) (h : n < 18446744073709551616) : (txt n).size ≤ 20 := by
  have h1 := Lib.nDigits_le20 n h
  have e : (txt n).size = Lib.nDigits n := by
    show (Lib.decDigits n).toArray.size = _
    rw [Lib.decDigits_eq]; simp
  omega
theorem node_bd {x : D} (h : NodesM.nodeB x = true) : x.name.size ≤ 8 ∧ 1 ≤ x.name.size ∧ 1 ≤ x.weight ∧ x.weight ≤ 5 := by
  unfold NodesM.nodeB NodesM.nameB GoodKey.inB at h
  simp only [Bool.and_eq_true, decide_eq_true_eq] at h
  have el : x.name.data.toList.length = x.name.size := by simp
  rw [el] at h
  omega
theorem gn_node {l : List D} (h : NodesM.gnB l = true) (k : Nat) (hk : k < l.length) : NodesM.nodeB (l.getD k zero) = true := by
  unfold NodesM.gnB NodesM.goodTo at h
  rw [Bool.and_eq_true] at h
  have := List.all_eq_true.1 h.1 k (by simpa using hk)
  unfold NodesM.stepB at this
  rw [Bool.and_eq_true] at this
  exact this.1
theorem gn_lens {l : List D} (h : NodesM.gnB l = true) : 1 ≤ l.length ∧ l.length ≤ 8 := by
  unfold NodesM.gnB GoodKey.inB at h
  simp only [Bool.and_eq_true, decide_eq_true_eq] at h
  omega
theorem one58 : (⟨#[58]⟩ : ByteArray).size = 1 := rfl
theorem one32 : (⟨#[32]⟩ : ByteArray).size = 1 := rfl
theorem word_size {x : D} (h : NodesM.nodeB x = true) : (word x).size ≤ 29 := by
  obtain ⟨h1, h2, h3, h4⟩ := node_bd h
  have := txt_size x.weight.toNat (by omega)
  unfold word
  rw [ByteArray.size_append, ByteArray.size_append, one58]
  omega
theorem textTo_size {l : List D} (h : NodesM.gnB l = true) (k : Nat) (hk : k ≤ l.length) : (textTo l k).size ≤ 30 * k := by
  induction k with
  | zero => simp [textTo]
  | succ k ih =>
    have h1 := ih (by omega)
    have h2 := word_size (gn_node h k (by omega))
    rw [textTo]
    split
    · rw [ByteArray.size_append]; omega
    · rw [ByteArray.size_append, ByteArray.size_append, one32]; omega
def words (l : List D) : List ByteArray := l.map word
theorem join_snoc (xs : List (List UInt8)) (y sep : List UInt8) (h : xs ≠ []) : Lib.join (xs ++ [y]) sep = Lib.join xs sep ++ sep ++ y := by
  cases xs with
  | nil => exact absurd rfl h
  | cons x r =>
    induction r generalizing x with
    | nil => simp [Lib.join, List.intercalate]
    | cons z r ih =>
      have e1 : Lib.join (x :: z :: r ++ [y]) sep = x ++ (sep ++ Lib.join (z :: r ++ [y]) sep) := by simp [Lib.join, List.intercalate]
      have e2 : Lib.join (x :: z :: r) sep = x ++ (sep ++ Lib.join (z :: r) sep) := by simp [Lib.join, List.intercalate]
      rw [e1, ih z (by simp), e2]
      simp
theorem text_join (l : List D) (k : Nat) (hk : k ≤ l.length) : Lib.join (((words l).take k).map (·.data.toList)) [32] = (textTo l k).data.toList := by
  induction k with
  | zero => simp [textTo, Lib.join]
  | succ k ih =>
    have h1 := ih (by omega)
    have e : ((words l).take (k + 1)).map (·.data.toList) = ((words l).take k).map (·.data.toList) ++ [(word (l.getD k zero)).data.toList] := by
      rw [List.take_succ_eq_append_getElem (by simp [words]; omega)]
      simp [words, List.getD_eq_getElem?_getD, List.getElem?_eq_getElem (show k < l.length by omega)]
    rw [e, textTo]
    by_cases h0 : k = 0
    · subst h0; simp [textTo, Lib.join, List.intercalate]
    · rw [if_neg h0, join_snoc _ _ _ (by
        intro h; have := congrArg List.length h; rw [List.length_map, List.length_take] at this; simp only [words, List.length_map, List.length_nil] at this; omega), h1]
      simp
theorem text_all (l : List D) : Lib.join ((words l).map (·.data.toList)) [32] = (textTo l l.length).data.toList := by
  have := text_join l l.length (Nat.le_refl _)
  rwa [List.take_of_length_le (by simp [words])] at this
end Nt
end Go.Proofs.YteiecijgmdbajaaDoor
