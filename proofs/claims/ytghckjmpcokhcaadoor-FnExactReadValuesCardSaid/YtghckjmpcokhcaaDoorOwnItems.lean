/-
  The same slice, as marks and looks ask for it. No Go function is spoken of here.
-/
import Derived.Test.YtghckjmpcokhcaaDoorOwnItemsA
import Derived.Test.YtghckjmpcokhcaaDoorMarkItemsA
namespace Go.Proofs.YtghckjmpcokhcaaDoor
namespace Own
open Go.RowKit Base Items Marks

theorem own_ours {w : World} {base : Nat} {a : Option Addr} {cap : Nat} {its : List Itm} (h : w.ownsRow base 32 5 (.slice a its.length cap) its.length (flat its)) :
    ∃ r, Ours w a its.length (icell its) r ∧ ∀ g, r = some g → base ≤ g := by
  rcases h.2 with ⟨_, h0⟩ | ⟨g, cap', cur, hv, hg, hh, hn, _, hsz, ht⟩
  · exact ⟨none, .inl ⟨h0, rfl⟩, fun g e => by simp at e⟩
  · simp only [Value.slice.injEq] at hv
    refine ⟨some g, .inr ⟨g, hv.1, rfl, cur, hh, by rw [hsz]; omega, fun i hi => ?_⟩, fun g' e => by simp at e; omega⟩
    rw [← flat_get its i hi, ← ht, List.getElem?_take_of_lt hi]
    simp
end Own
end Go.Proofs.YtghckjmpcokhcaaDoor
