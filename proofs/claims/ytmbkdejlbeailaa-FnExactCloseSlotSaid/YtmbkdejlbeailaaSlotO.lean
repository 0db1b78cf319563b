/-
  A slice of the struct Slot among the arguments, opened (written by a program of mine). No Go function is spoken of here.
-/
import Derived.Test.YtmbkdejlbeailaaOpen
import Derived.Test.YtmbkdejlbeailaaSlotP
namespace Go.Proofs.Ytmbkdejlbeailaa
namespace Slots
open Go.ChangeShapes Go.WideShapes Go.RowKit Go.Deep Base
theorem array2 {α : Type} {cs : Array α} (h : cs.size = 2) : ∃ c0 c1, cs = #[c0, c1] := by
  obtain ⟨l⟩ := cs
  match l, h with
  | [a, b], _ => exact ⟨a, b, rfl⟩
section
variable {H : Type} {enc : TypeId × Value → H} {P : Program} {w : World} {base : Nat} {spare : Nat → Bool} {held : Bool}
theorem open_of {t e : TypeId} {f0 f1 f2 : Field} {n : Nat} {v : Value} {y : DataW H × List MemPlace} (ht : P.underlying t = some (.slice e)) (he : P.underlying e = some (.struct #[f0, f1, f2])) (hone : oneCellFields P #[f0, f1, f2] = true)
    (hsz : P.cellsOf e = 3) (h0 : P.underlying f0.type = some (.int .i64)) (h1 : P.underlying f1.type = some .bool) (h2 : P.underlying f2.type = some .string)
    (h : DataW.trod enc P w base spare held n t [v] = some y) :
    ∃ (a : Option Addr) (cap : Nat) (l : List D), v = .slice a l.length cap ∧ LAt w a l ∧ l.length ≤ cap ∧ l.length ≤ maxLen ∧ ∀ x ∈ l, Fits x := by
  obtain ⟨a, len, cap, hv, hl, hm, hx⟩ := Open.rows_of ht he hone hsz (by simp) h
  by_cases hlen : len = 0
  · subst hlen
    exact ⟨a, cap, [], hv, fun h => absurd rfl h, Nat.zero_le _, Nat.zero_le _, by simp⟩
  · obtain ⟨b, off, ha, hb, hcell⟩ := hx (by omega)
    have hall : ∀ i, i < len → ∃ x : D, At w b (off + i * 3) x ∧ Fits x := by
      intro i hi
      obtain ⟨c0, m0, z0, e0, g0⟩ := hcell i hi 0 f0 rfl
      obtain ⟨c1, m1, z1, e1, g1⟩ := hcell i hi 1 f1 rfl
      obtain ⟨c2, m2, z2, e2, g2⟩ := hcell i hi 2 f2 rfl
      obtain ⟨s0, q0, _, _⟩ := DataW.trod_int h0 g0
      obtain ⟨s1, q1, _⟩ := DataW.trod_bool h1 g1
      obtain ⟨s2, q2, _, b2⟩ := DataW.trod_string h2 g2
      simp only [List.cons.injEq, and_true] at q0 q1 q2
      subst q0 q1 q2
      exact ⟨⟨s0, s1, s2⟩, ⟨e0, e1, e2⟩, b2⟩
    obtain ⟨V, hV⟩ := @choose_lt D ⟨zero⟩ len _ hall
    refine ⟨a, cap, (List.range len).map V, by simpa using hv, fun _ => ⟨b, off, ha, hb, fun i hi => ?_⟩, by simpa using hl, by simp; omega, fun x hx => ?_⟩
    · have hi' : i < len := by simpa using hi
      have e : ((List.range len).map V).getD i zero = V i := by simp [List.getD_eq_getElem?_getD, hi']
      rw [e]
      exact (hV i hi').1
    · obtain ⟨i, hi, rfl⟩ := List.mem_map.1 hx
      exact (hV i (by simpa using hi)).2
end
end Slots
end Go.Proofs.Ytmbkdejlbeailaa
