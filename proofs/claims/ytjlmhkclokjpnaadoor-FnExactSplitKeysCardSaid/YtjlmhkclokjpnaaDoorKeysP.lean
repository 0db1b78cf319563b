/-
  Lists of good keys, as plain data. No Go function is spoken of here.
-/
import Derived.Test.YtjlmhkclokjpnaaDoorInS
namespace Go.Proofs.YtjlmhkclokjpnaaDoor
namespace GoodCmd
open Go.RowKit Base GoodKey
def gkb (s : ByteArray) : Bool := gk s.data.toList
theorem all_step (ks : List ByteArray) (k : Nat) (h : k < ks.length) (ha : (ks.take k).all gkb = true) (hg : gkb (ks.getD k ByteArray.empty) = true) : (ks.take (k + 1)).all gkb = true := by
  rw [List.take_succ_eq_append_getElem h, List.all_append, ha]
  simp [List.getD_eq_getElem?_getD, List.getElem?_eq_getElem h] at hg
  simp [hg]
theorem all_bad (ks : List ByteArray) (k : Nat) (h : k < ks.length) (hg : gkb (ks.getD k ByteArray.empty) = false) : ks.all gkb = false := by
  rw [List.all_eq_false]
  refine ⟨ks[k], List.getElem_mem _, ?_⟩
  simp [List.getD_eq_getElem?_getD, List.getElem?_eq_getElem h] at hg
  simp [hg]
theorem all_whole (ks : List ByteArray) (k : Nat) (hk : k ≤ ks.length) (h : ¬ k < ks.length) (ha : (ks.take k).all gkb = true) : ks.all gkb = true := by
  rw [List.take_of_length_le (by omega)] at ha
  exact ha
end GoodCmd
end Go.Proofs.YtjlmhkclokjpnaaDoor
