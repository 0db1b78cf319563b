/-
  An item as it is told, as plain data. No Go function is spoken of here.
-/
import Derived.Test.YtghckjmpcokhcaaDoorStoreP
import Derived.Test.YtghckjmpcokhcaaDoorNumP
namespace Go.Proofs.YtghckjmpcokhcaaDoor
namespace Shelf
open Go.RowKit Base Items Store GoodKey NumText
set_option linter.unusedVariables false

def valueS : ByteArray := ⟨#[86, 65, 76, 85, 69, 32]⟩
def blankS : ByteArray := ⟨#[32]⟩
def endS : ByteArray := ⟨#[13, 10]⟩
/-- The line ahead of an item's data, without its token. -/
def lineR (x : Itm) : ByteArray := valueS ++ x.key ++ blankS ++ txt x.flags.toNat ++ blankS ++ txt x.data.size
def valueR (x : Itm) (token : Bool) : ByteArray := (if token then lineR x ++ (blankS ++ txt x.token.toNat) else lineR x) ++ endS ++ x.data ++ endS
theorem txt_le (n : Nat) (h : n < 18446744073709551616) : (txt n).size ≤ 20 := by
  have e : (txt n).size = Lib.nDigits n := by
    show (Lib.decDigits n).toArray.size = _
    rw [← Lib.decDigits_length n]; simp
  rw [e]; exact Lib.nDigits_le20 n h
theorem bx5' (w : World) (t : TypeId) (v0 v1 v2 v3 v4 : Value) : (w.alloc (.cells #[v0, v1, v2, v3, v4] t)).cell? ⟨w.heap.size, 0, none⟩ = some v0 ∧ (w.alloc (.cells #[v0, v1, v2, v3, v4] t)).cell? ⟨w.heap.size, 1, none⟩ = some v1 ∧
    (w.alloc (.cells #[v0, v1, v2, v3, v4] t)).cell? ⟨w.heap.size, 2, none⟩ = some v2 ∧ (w.alloc (.cells #[v0, v1, v2, v3, v4] t)).cell? ⟨w.heap.size, 3, none⟩ = some v3 ∧ (w.alloc (.cells #[v0, v1, v2, v3, v4] t)).cell? ⟨w.heap.size, 4, none⟩ = some v4 := by
  refine ⟨?_, ?_, ?_, ?_, ?_⟩ <;> (rw [World.cell?_alloc_new]; rfl)
end Shelf
end Go.Proofs.YtghckjmpcokhcaaDoor
