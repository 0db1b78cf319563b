/-
  The points of a node and of a list of nodes, as plain data. No Go function is spoken of here.
-/
import Derived.Test.YtpihkjpnaefacaaGreatDoorRingP
import Derived.Test.YtpihkjpnaefacaaGreatDoorHash
import Derived.Test.YtpihkjpnaefacaaGreatDoorNumZ
import Derived.Test.YtpihkjpnaefacaaGreatDoorNodesS
namespace Go.Proofs.YtpihkjpnaefacaaGreatDoor
namespace Ring
open Go.RowKit Base Points NumText
set_option linter.unusedVariables false

/-- The point i of a name. -/
def ptN (name : ByteArray) (i : Nat) : D := ⟨Hash.hashN ((name ++ ⟨#[45]⟩) ++ txt i).data.toList, name⟩
/-- The points of a node. -/
def ptsN (name : ByteArray) (n : Nat) : List D := (List.range n).map (ptN name)
theorem ptsN_length (name : ByteArray) (n : Nat) : (ptsN name n).length = n := by simp [ptsN]
theorem ptsN_get (name : ByteArray) (n k : Nat) (h : k < n) : (ptsN name n).getD k zero = ptN name k := by
  simp [ptsN, List.getD_eq_getElem?_getD, h]
theorem ptsN_succ (name : ByteArray) (n : Nat) : ptsN name (n + 1) = ptsN name n ++ [ptN name n] := by simp [ptsN, List.range_succ]
def ptsOf (x : Nodes.D) : List D := ptsN x.name (8 * x.weight).toNat
/-- The points of all nodes, in their order. -/
def points (l : List Nodes.D) : List D := l.flatMap ptsOf
theorem points_take_succ (l : List Nodes.D) (k : Nat) (h : k < l.length) : points (l.take (k + 1)) = points (l.take k) ++ ptsOf (l.getD k Nodes.zero) := by
  have e : l.getD k Nodes.zero = l[k] := by simp [h]
  rw [e, List.take_succ_eq_append_getElem h]
  unfold points
  rw [List.flatMap_append]
  simp only [List.flatMap_cons, List.flatMap_nil, List.append_nil]
theorem txt_size (n : Nat) (h : n < 18446744073709551616) : (txt n).size ≤ 20 := by
  have h1 := Lib.nDigits_le20 n h
  have e : (txt n).size = Lib.nDigits n := by
    show (Lib.decDigits n).toArray.size = _
    rw [Lib.decDigits_eq]; simp
  omega

theorem mixN_bd (n : Nat) (h : Int) (h0 : 0 ≤ h) (h1 : h < 4294967296) : 0 ≤ Hash.mixN n h ∧ Hash.mixN n h < 4294967296 := by
  induction n with
  | zero => exact ⟨h0, h1⟩
  | succ n ih => exact Hash.mixE_bd _
theorem hashN_bd (l : List UInt8) : 0 ≤ Hash.hashN l ∧ Hash.hashN l < 4294967296 := by
  unfold Hash.hashN Hash.mixN
  exact Hash.mixE_bd _

/-- Good nodes: how many, how great. -/
theorem good_len {l : List Nodes.D} (h : NodesM.gnB l = true) : 1 ≤ l.length ∧ l.length ≤ 8 := by
  unfold NodesM.gnB GoodKey.inB at h
  simp only [Bool.and_eq_true, decide_eq_true_eq] at h
  omega
theorem good_at {l : List Nodes.D} (h : NodesM.gnB l = true) {k : Nat} (hk : k < l.length) : NodesM.nodeB (l.getD k Nodes.zero) = true := by
  unfold NodesM.gnB NodesM.goodTo at h
  simp only [Bool.and_eq_true, List.all_eq_true, List.mem_range] at h
  have := h.1 k hk
  unfold NodesM.stepB at this
  simp only [Bool.and_eq_true] at this
  exact this.1
theorem node_bd {x : Nodes.D} (h : NodesM.nodeB x = true) : x.name.size ≤ 8 ∧ 1 ≤ x.name.size ∧ 1 ≤ x.weight ∧ x.weight ≤ 5 := by
  unfold NodesM.nodeB NodesM.nameB GoodKey.inB at h
  simp only [Bool.and_eq_true, decide_eq_true_eq] at h
  have el : x.name.data.toList.length = x.name.size := by simp
  rw [el] at h
  omega
theorem ptsOf_length (x : Nodes.D) : (ptsOf x).length = (8 * x.weight).toNat := ptsN_length _ _
theorem points_le {l : List Nodes.D} (h : NodesM.gnB l = true) (k : Nat) (hk : k ≤ l.length) : (points (l.take k)).length ≤ k * 40 := by
  induction k with
  | zero => simp [points]
  | succ k ih =>
    rw [points_take_succ l k (by omega), List.length_append, ptsOf_length]
    have := ih (by omega)
    have := node_bd (good_at h (show k < l.length by omega))
    omega
theorem points_len {l : List Nodes.D} (h : NodesM.gnB l = true) : (points l).length ≤ 320 := by
  have h1 := points_le h l.length (Nat.le_refl _)
  have h2 := good_len h
  rw [List.take_length] at h1
  omega
theorem points_pos {l : List Nodes.D} (h : NodesM.gnB l = true) : 1 ≤ (points l).length := by
  have h2 := good_len h
  obtain ⟨x, r, rfl⟩ : ∃ x r, l = x :: r := by cases l with | nil => simp at h2 | cons x r => exact ⟨x, r, rfl⟩
  have := node_bd (good_at h (show 0 < (x :: r).length by simp))
  have e : (points (x :: r)).length = (ptsOf x).length + (points r).length := by simp [points]
  rw [e, ptsOf_length]
  simp at this
  omega
end Ring
end Go.Proofs.YtpihkjpnaefacaaGreatDoor
