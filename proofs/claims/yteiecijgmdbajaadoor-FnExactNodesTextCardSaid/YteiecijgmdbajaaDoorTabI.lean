/-
  strconv.Itoa over what the library's table holds.
-/
import Derived.Test.YteiecijgmdbajaaDoorNumP
import Derived.Test.YteiecijgmdbajaaDoorItoaC
import Derived.Test.YteiecijgmdbajaaDoorRows
namespace Go.Proofs.YteiecijgmdbajaaDoor
namespace Tab
open Go.RowKit Base NumText
set_option linter.unusedVariables false

/-- What the library's table holds. -/
def Has (w : World) : Prop := Lib.TabIs Tryd.prog w "internal/strconv.uint64pow10" .u64 Lib.pow10Tab
theorem var_below {P : Program} {w w' : World} {name : String} {cs : Array Value} (h : w.var? P name = some cs) (hb : Below w.heap.size w w') : w'.var? P name = some cs := by
  unfold World.var? at *
  cases e : P.globalNamed name with
  | none => rw [e] at h; simp at h
  | some g =>
    rw [e] at h
    simp only [Option.bind_some] at h ⊢
    by_cases hg : g < w.heap.size
    · rw [hb.block g hg]; exact h
    · rw [Array.getElem?_eq_none (by omega)] at h; simp at h
theorem Has.below {w w' : World} (h : Has w) (hb : Below w.heap.size w w') : Has w' := var_below h hb
theorem grow_below (w : World) (k : Nat) (os : Array Obj) : Below w.heap.size w (Go.Sort.grow (w.drewN k) os) :=
  ⟨rfl, rfl, rfl, by show w.heap.size ≤ (w.heap ++ os).size; simp, fun i hi => by show (w.heap ++ os)[i]? = w.heap[i]?; rw [Array.getElem?_append_left hi]⟩
theorem itoa_any (n : Int) (w : World) (h0 : 0 ≤ n) (h1 : n ≤ 9223372036854775807) (hv : Has w) : Calls Tryd.prog 25 #[.int .i64 n] w fun e w' => e = .returned (.string (txt n.toNat)) ∧ Below w.heap.size w w' := by
  refine (Tryd.strconv_Itoa n (by omega) h1 w hv).mono ?_
  rintro e w' ⟨rfl, k, os, rfl⟩
  refine ⟨?_, grow_below w k os⟩
  have e1 : Lib.itoa n = Lib.decDigits n.toNat := by unfold Lib.itoa; rw [if_neg (by omega)]
  rw [e1]
  rfl
end Tab
end Go.Proofs.YteiecijgmdbajaaDoor
