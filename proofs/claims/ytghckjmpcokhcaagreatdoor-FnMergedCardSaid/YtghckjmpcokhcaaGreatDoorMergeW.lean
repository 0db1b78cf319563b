/-
  What MergeAnswers hands back. No Go function is spoken of here.
-/
import Derived.Test.YtghckjmpcokhcaaGreatDoorMergeX
import Derived.Test.YtghckjmpcokhcaaGreatDoorNodesZ
import Derived.Test.YtghckjmpcokhcaaGreatDoorKeyZ
import Derived.Test.YtghckjmpcokhcaaGreatDoorSplitA
namespace Go.Proofs.YtghckjmpcokhcaaGreatDoor
namespace Merge
open Go.RowKit Base Items Split KeysS Rd Vals
set_option linter.unusedVariables false

/-- What MergeAnswers hands back. -/
def mgW : Option ByteArray → Value
  | none => .tuple #[.string ⟨#[]⟩, .bool false]
  | some t => .tuple #[.string t, .bool true]
noncomputable def outM (l : List Nodes.D) (ks ans : List ByteArray) (token : Bool) : Option ByteArray := if NodesM.gnB l = true ∧ kB ks = true then mgR (owners l ks) ks ks.length ans token else none
theorem outM_yes {l : List Nodes.D} {ks ans : List ByteArray} {token : Bool} (hg : NodesM.gnB l = true) (hk : kB ks = true) : outM l ks ans token = mgR (owners l ks) ks ks.length ans token := if_pos ⟨hg, hk⟩
theorem outM_no {l : List Nodes.D} {ks ans : List ByteArray} {token : Bool} (h : ¬ (NodesM.gnB l = true ∧ kB ks = true)) : outM l ks ans token = none := if_neg h
theorem rdR_reads {s : ByteArray} {token : Bool} {l : List Itm} (h : rdR s token = some l) : Reads s token l := by
  unfold rdR at h
  split at h
  · rename_i hex
    rw [← Option.some.inj h]
    exact Classical.choose_spec hex
  · simp at h
end Merge
end Go.Proofs.YtghckjmpcokhcaaGreatDoor
