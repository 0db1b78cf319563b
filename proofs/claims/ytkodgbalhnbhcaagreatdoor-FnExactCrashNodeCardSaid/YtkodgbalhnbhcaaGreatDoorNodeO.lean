/-
  A slice of the struct Node among the arguments, opened (written by a program of mine). No Go function is spoken of here.
-/
import Derived.Test.YtkodgbalhnbhcaaGreatDoorZ37
import Derived.Test.YtkodgbalhnbhcaaGreatDoorZ11
namespace Go.Proofs.YtkodgbalhnbhcaaGreatDoor
namespace Nodes
open Go.ChangeShapes Go.WideShapes Go.RowKit Go.Deep Base
section
variable {H : Type} {enc : TypeId × Value → H} {P : Program} {w : World} {base : Nat} {spare : Nat → Bool} {held : Bool}
theorem open_of {t e : TypeId} {f0 f1 : Field} {n : Nat} {v : Value} {y : DataW H × List MemPlace} (ht : P.underlying t = some (.slice e)) (he : P.underlying e = some (.struct #[f0, f1])) (hone : oneCellFields P #[f0, f1] = true)
    (hsz : P.cellsOf e = 2) (h0 : P.underlying f0.type = some .string) (h1 : P.underlying f1.type = some (.int .i64))
    (h : DataW.trod enc P w base spare held n t [v] = some y) :
    ∃ (a : Option Addr) (cap : Nat) (l : List D), v = .slice a l.length cap ∧ LAt w a l ∧ l.length ≤ cap ∧ l.length ≤ maxLen ∧ ∀ x ∈ l, Fits x := by
  obtain ⟨a, len, cap, hv, hl, hm, hx⟩ := Open.rows_of ht he hone hsz (by simp) h
  by_cases hlen : len = 0
  · subst hlen
    exact ⟨a, cap, [], hv, fun h => absurd rfl h, Nat.zero_le _, Nat.zero_le _, by simp⟩
  · obtain ⟨b, off, ha, hb, hcell⟩ := hx (by omega)
    have hall : ∀ i, i < len → ∃ x : D, At w b (off + i * 2) x ∧ Fits x := by
      intro i hi
      obtain ⟨c0, m0, z0, e0, g0⟩ := hcell i hi 0 f0 rfl
      obtain ⟨c1, m1, z1, e1, g1⟩ := hcell i hi 1 f1 rfl
      obtain ⟨s0, q0, _, b0⟩ := DataW.trod_string h0 g0
      obtain ⟨s1, q1, _, _⟩ := DataW.trod_int h1 g1
      simp only [List.cons.injEq, and_true] at q0 q1
      subst q0 q1
      exact ⟨⟨s0, s1⟩, ⟨e0, e1⟩, b0⟩
    obtain ⟨V, hV⟩ := @choose_lt D ⟨zero⟩ len _ hall
    refine ⟨a, cap, (List.range len).map V, by simpa using hv, fun _ => ⟨b, off, ha, hb, fun i hi => ?_⟩, by simpa using hl, by simp; omega, fun x hx => ?_⟩
    · have hi' : i < len := by simpa using hi
      have e : ((List.range len).map V).getD i zero = V i := by simp [List.getD_eq_getElem?_getD, hi']
      rw [e]
      exact (hV i hi').1
    · obtain ⟨i, hi, rfl⟩ := List.mem_map.1 hx
      exact (hV i (by simpa using hi)).2
end
end Nodes
end Go.Proofs.YtkodgbalhnbhcaaGreatDoor
