/-
  BreakLane, plain; what a call of it leaves. No Go function is spoken of here.
-/
import Derived.Test.YtfbfnoofapgneaaLaneB
import Derived.Test.YtfbfnoofapgneaaIntO
namespace Go.Proofs.Ytfbfnoofapgneaa
namespace Lanes
open Go.RowKit Base GoodKey Waits Marks OwnR WaitsW
set_option linter.unusedVariables false

structure Broken where
  ep : Int
  fa : Int
  l : List D
  ids : List Int
  code : Int
def upB (fa : Int) : Int := if fa < 1000000 then fa + 1 else fa
def idsOf (l : List D) : List Int := l.map D.id
def breakR (ep fa : Int) (l : List D) : Broken :=
  if glB ep fa l = true then if ep = 1000000 then ⟨ep, fa, l, [], 2⟩ else ⟨ep + 1, upB fa, [], idsOf l, 0⟩ else ⟨0, 0, [], [], 1⟩
theorem break_1 {ep fa : Int} {l : List D} (h : glB ep fa l = false) : breakR ep fa l = ⟨0, 0, [], [], 1⟩ := by simp [breakR, h]
theorem break_2 {ep fa : Int} {l : List D} (h : glB ep fa l = true) (h2 : ep = 1000000) : breakR ep fa l = ⟨ep, fa, l, [], 2⟩ := by simp only [breakR, h, if_true, if_pos h2]
theorem break_3 {ep fa : Int} {l : List D} (h : glB ep fa l = true) (h2 : ¬ ep = 1000000) : breakR ep fa l = ⟨ep + 1, upB fa, [], idsOf l, 0⟩ := by simp only [breakR, h, if_true, if_neg h2]
theorem breakR_len (ep fa : Int) (l : List D) : (breakR ep fa l).l.length ≤ l.length ∧ (breakR ep fa l).ids.length ≤ l.length := by
  unfold breakR
  split
  · split
    · simp
    · simp [idsOf]
  · simp
theorem ids_len (l : List D) : (idsOf l).length = l.length := by simp [idsOf]
theorem ids_step (l : List D) (k : Nat) (hk : k < l.length) : idsOf (l.take (k + 1)) = idsOf (l.take k) ++ [(l.getD k zero).id] := by
  unfold idsOf
  rw [List.take_succ_eq_append_getElem hk, List.map_append]
  simp [List.getD_eq_getElem?_getD, List.getElem?_eq_getElem hk]
theorem ids_get (l : List D) (k : Nat) (hk : k < l.length) : (idsOf l).getD k 0 = (l.getD k zero).id := by
  simp [idsOf, List.getD_eq_getElem?_getD, List.getElem?_eq_getElem hk]
def halfI (l : List D) (k j : Nat) : Value := if j < k then Ints.ncell (idsOf l) j else .int .i64 0
theorem halfI_step (l : List D) (k j : Nat) (hk : k < l.length) : (if j = k then (.int .i64 (l.getD k zero).id : Value) else halfI l k j) = halfI l (k + 1) j := by
  unfold halfI
  by_cases h : j = k
  · subst h
    rw [if_pos rfl, if_pos (by omega), Ints.ncell, ids_get l j hk]
  · rw [if_neg h]
    by_cases h2 : j < k
    · rw [if_pos h2, if_pos (by omega)]
    · rw [if_neg h2, if_neg (by omega)]
def BreakEnd (T : Broken) (w : World) (e : Ending) (w' : World) : Prop :=
  ∃ a c i d, e = .returned (.tuple #[.agg #[.int .i64 T.ep, .int .i64 T.fa, .slice a T.l.length c], .slice i T.ids.length d, .int .i64 T.code]) ∧
    ∃ r q, WaitsM.Ours w' a T.l.length (icell T.l) r ∧ IntsM.Ours w' i T.ids.length (Ints.ncell T.ids) q ∧ (∀ g, r = some g → w.heap.size ≤ g) ∧ (∀ g, q = some g → w.heap.size ≤ g) ∧ (r = none ∨ q = none) ∧ Below w.heap.size w w'
end Lanes
end Go.Proofs.Ytfbfnoofapgneaa
