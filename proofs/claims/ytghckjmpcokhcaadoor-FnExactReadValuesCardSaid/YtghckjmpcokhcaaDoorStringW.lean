/-
  A slice of strings that the call itself has made by append. No Go function is spoken of here.
-/
import Derived.Test.YtghckjmpcokhcaaDoorOwnR
import Derived.Test.YtghckjmpcokhcaaDoorStringV
namespace Go.Proofs.YtghckjmpcokhcaaDoor
namespace StringsW
open Go.RowKit Base Marks OwnR
set_option linter.unusedVariables false

def scell (ss : List ByteArray) (i : Nat) : Value := .string (ss.getD i ByteArray.empty)
def flat (ss : List ByteArray) : List Value := ss.map .string
theorem flat_append (a b : List ByteArray) : flat (a ++ b) = flat a ++ flat b := by simp [flat]
theorem flat_get (ss : List ByteArray) (j : Nat) (hj : j < ss.length) : (flat ss)[j]? = some (scell ss j) := by
  simp [flat, scell, hj]
theorem own_snoc {w : World} {base : Nat} {t : TypeId} {v : Value} {kept kept' : List ByteArray} {x : ByteArray} (h : w.ownsRow base t 1 v (kept.length + 1) (flat kept ++ [.string x])) (e : kept' = kept ++ [x]) : w.ownsRow base t 1 v kept'.length (flat kept') := by
  rw [e, flat_append, List.length_append]
  exact h
theorem news_one (x : ByteArray) (u : Value) (hu : u ∈ [Value.string x]) : u.oneCell' = true := by
  rw [List.mem_singleton.1 hu]; rfl
theorem own_ours {w : World} {base : Nat} {a : Option Addr} {cap : Nat} {ss : List ByteArray} (h : w.ownsRow base 9 1 (.slice a ss.length cap) ss.length (flat ss)) :
    ∃ r, StringsM.Ours w a ss.length (scell ss) r ∧ ∀ g, r = some g → base ≤ g := by
  rcases h.2 with ⟨_, h0⟩ | ⟨g, cap', cur, hv, hg, hh, hn, _, hsz, ht⟩
  · exact ⟨none, .inl ⟨h0, rfl⟩, fun g e => by simp at e⟩
  · simp only [Value.slice.injEq] at hv
    refine ⟨some g, .inr ⟨g, hv.1, rfl, cur, hh, by rw [hsz]; omega, fun i hi => ?_⟩, fun g' e => by simp at e; omega⟩
    rw [← flat_get ss i hi, ← ht, List.getElem?_take_of_lt (by omega)]
    simp
theorem ours_at {w : World} {a : Option Addr} {ss : List ByteArray} {r : Option Nat} (h : StringsM.Ours w a ss.length (scell ss) r) : StrsAt w a ss := by
  intro hne
  rcases h with ⟨h0, _⟩ | ⟨g, ha, _, hrow⟩
  · exact absurd (List.length_eq_zero_iff.1 h0) hne
  · refine ⟨g, 0, ha, hrow.lt, fun i hi => ?_⟩
    rw [Nat.zero_add, hrow.cell hi]
    rfl
end StringsW
end Go.Proofs.YtghckjmpcokhcaaDoor
