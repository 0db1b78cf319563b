/-
  Which keys have another owner, and how many keys each node has: plain data. No Go function is spoken of here.
-/
import Derived.Test.YtoinbldoioffdaaDoorRingN
import Derived.Test.YtoinbldoioffdaaDoorKeysS
namespace Go.Proofs.YtoinbldoioffdaaDoor
namespace Ring
open Go.RowKit Base Points KeysS GoodCmd
set_option linter.unusedVariables false

def ownK (l : List Nodes.D) (key : ByteArray) : ByteArray := ownerN (ring (points l)) (Hash.hashN key.data.toList)
def movedB (la lb : List Nodes.D) (k : ByteArray) : Bool := !((ownK la k).toList == (ownK lb k).toList)
def movK (la lb : List Nodes.D) (ks : List ByteArray) : List ByteArray := ks.filter (movedB la lb)
def movOk (la lb : List Nodes.D) (ks : List ByteArray) : Bool := NodesM.gnB la && NodesM.gnB lb && kB ks
def movL (la lb : List Nodes.D) (ks : List ByteArray) : List ByteArray := if movOk la lb ks then movK la lb ks else []
theorem movK_step (la lb : List Nodes.D) (ks : List ByteArray) (k : Nat) (h : k < ks.length) : movK la lb (ks.take (k + 1)) = movK la lb (ks.take k) ++ (if movedB la lb (ks.getD k ByteArray.empty) then [ks.getD k ByteArray.empty] else []) := by
  have e : ks.getD k ByteArray.empty = ks[k] := by simp [h]
  rw [e, List.take_succ_eq_append_getElem h]
  unfold movK
  rw [List.filter_append]
  congr 1
  by_cases hm : movedB la lb ks[k] = true <;> simp [hm]
theorem movK_len (la lb : List Nodes.D) (ks : List ByteArray) (k : Nat) : (movK la lb (ks.take k)).length ≤ k := by
  unfold movK
  exact Nat.le_trans (List.length_filter_le _ _) (List.length_take_le _ _)
theorem movL_len (la lb : List Nodes.D) (ks : List ByteArray) : (movL la lb ks).length ≤ 60 := by
  unfold movL
  split
  · rename_i h
    unfold movOk at h
    simp only [Bool.and_eq_true] at h
    have h1 := (kB_len h.2).1
    unfold movK
    exact Nat.le_trans (List.length_filter_le _ _) h1
  · simp
theorem key_size {ks : List ByteArray} (h : kB ks = true) {k : Nat} (hk : k < ks.length) : (ks.getD k ByteArray.empty).size ≤ 30 := by
  have e : ks.getD k ByteArray.empty = ks[k] := by simp [hk]
  rw [e]
  exact gkb_size ((kB_len h).2 _ (List.getElem_mem _))
end Ring
end Go.Proofs.YtoinbldoioffdaaDoor
