/-
  How many keys each node has: plain data; a map that counts. No Go function is spoken of here.
-/
import Derived.Test.YtoinbldoioffdaaDoorMovedP
import Derived.Test.YtoinbldoioffdaaDoorMarkZ
import Derived.Maps.OwnSet
import Derived.Maps.OwnOps
namespace Go.Proofs.YtoinbldoioffdaaDoor
namespace Ring
open Go.RowKit Base Points KeysS GoodCmd Marks
set_option linter.unusedVariables false

/-- How many of the keys belong to a name. -/
def cnt (l : List Nodes.D) (ks : List ByteArray) (nm : ByteArray) : Nat := (ks.filter (fun k => (ownK l k).toList == nm.toList)).length
theorem cnt_step (l : List Nodes.D) (ks : List ByteArray) (k : Nat) (h : k < ks.length) (nm : ByteArray) : cnt l (ks.take (k + 1)) nm = cnt l (ks.take k) nm + (if ((ownK l (ks.getD k ByteArray.empty)).toList == nm.toList) = true then 1 else 0) := by
  have e : ks.getD k ByteArray.empty = ks[k] := by simp [h]
  rw [e, List.take_succ_eq_append_getElem h]
  unfold cnt
  rw [List.filter_append, List.length_append]
  congr 1
  by_cases hm : ((ownK l ks[k]).toList == nm.toList) = true
  · rw [if_pos hm]; simp [hm]
  · rw [if_neg hm]; simp only [List.filter_cons]; rw [if_neg hm]; rfl
theorem cnt_le (l : List Nodes.D) (ks : List ByteArray) (k : Nat) (nm : ByteArray) : cnt l (ks.take k) nm ≤ k := by
  unfold cnt
  exact Nat.le_trans (List.length_filter_le _ _) (List.length_take_le _ _)
def shOk (l : List Nodes.D) (ks : List ByteArray) : Bool := NodesM.gnB l && kB ks
def shK (l : List Nodes.D) (ks : List ByteArray) : List Int := l.map (fun x => (cnt l ks x.name : Int))
def shL (l : List Nodes.D) (ks : List ByteArray) : List Int := if shOk l ks then shK l ks else []
theorem shL_len (l : List Nodes.D) (ks : List ByteArray) : (shL l ks).length ≤ 8 := by
  unfold shL
  split
  · rename_i h
    unfold shOk at h
    simp only [Bool.and_eq_true] at h
    have := good_len h.1
    simp [shK]; omega
  · simp
/-- Cells of a row of numbers. -/
def ncell (l : List Int) (i : Nat) : Value := .int .i64 (l.getD i 0)
theorem shK_cell (l : List Nodes.D) (ks : List ByteArray) (i : Nat) (h : i < l.length) : ncell (shK l ks) i = .int .i64 (cnt l ks (l.getD i Nodes.zero).name) := by
  simp [ncell, shK, List.getD_eq_getElem?_getD, h]
/-- Where the numbers of the keys up to k stand, those of the node up to i one key further. -/
def mcount (l : List Nodes.D) (ks : List ByteArray) (k i j : Nat) : Value := .int .i64 (cnt l (ks.take (if j < i then k + 1 else k)) (l.getD j Nodes.zero).name)

def kk (k : ByteArray) : Lit := .string k.data.toList
theorem kk_key (k : ByteArray) : WideAt.IsKeyLit (kk k) := by simp [kk, WideAt.IsKeyLit]
theorem kk_inj {a b : ByteArray} (h : kk a = kk b) : a = b := by
  unfold kk at h
  simp only [Lit.string.injEq] at h
  exact Go.WideShapes.bytes_inj h
/-- A map that counts. -/
def CountIs (D : DataW Unit) (c : ByteArray → Nat) : Prop := ∀ nm, D.atKey (kk nm) (.lit (.int .i64 0)) = .lit (.int .i64 (c nm : Nat))
theorem countIs_new : CountIs (.map []) (fun _ => 0) := fun nm => rfl
theorem CountIs.put {D : DataW Unit} {c c' : ByteArray → Nat} (h : CountIs D c) (ht : Maps.Tidy D) (s : ByteArray) (hc : ∀ nm, c' nm = c nm + (if (s.toList == nm.toList) = true then 1 else 0)) : CountIs (D.put (kk s) (.lit (.int .i64 ((c s : Nat) + 1)))) c' := by
  intro nm
  by_cases e : s = nm
  · subst e
    rw [Maps.atKey_put_same ht.isMap (kk_key _) _ _, hc s]
    simp
  · have hne : kk nm ≠ kk s := fun e' => e (kk_inj e').symm
    rw [Maps.atKey_put_other (by first | exact hne | exact hne.symm), h nm, hc nm]
    have : (s.toList == nm.toList) = false := str_ne e
    rw [this]; simp
end Ring
end Go.Proofs.YtoinbldoioffdaaDoor
