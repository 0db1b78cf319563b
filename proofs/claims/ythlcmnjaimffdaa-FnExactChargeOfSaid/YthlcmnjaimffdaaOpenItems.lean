/-
  A slice of items among the arguments, opened. No Go function is spoken of here.
-/
import Derived.Test.YthlcmnjaimffdaaOpen
import Derived.Test.YthlcmnjaimffdaaItemsP
namespace Go.Proofs.Ythlcmnjaimffdaa
namespace Open
open Go.ChangeShapes Go.WideShapes Go.RowKit Go.Deep Base Items
section
variable {H : Type} {enc : TypeId × Value → H} {P : Program} {w : World} {base : Nat} {spare : Nat → Bool} {held : Bool}
theorem items_of {t e : TypeId} {f0 f1 f2 f3 f4 : Field} {n : Nat} {v : Value} {y : DataW H × List MemPlace} (ht : P.underlying t = some (.slice e)) (he : P.underlying e = some (.struct #[f0, f1, f2, f3, f4])) (hone : oneCellFields P #[f0, f1, f2, f3, f4] = true)
    (hsz : P.cellsOf e = 5) (h0 : P.underlying f0.type = some .string) (h1 : P.underlying f1.type = some (.int .i64)) (h2 : P.underlying f2.type = some .string) (h3 : P.underlying f3.type = some (.int .i64)) (h4 : P.underlying f4.type = some (.int .i64))
    (h : DataW.trod enc P w base spare held n t [v] = some y) :
    ∃ (a : Option Addr) (cap : Nat) (its : List Itm), v = .slice a its.length cap ∧ ItemsAt w a its ∧ its.length ≤ cap ∧ its.length ≤ maxLen ∧ ∀ x ∈ its, Fits x := by
  obtain ⟨a, len, cap, hv, hl, hm, hx⟩ := rows_of ht he hone hsz (by simp) h
  by_cases hlen : len = 0
  · subst hlen
    exact ⟨a, cap, [], hv, fun h => absurd rfl h, Nat.zero_le _, Nat.zero_le _, by simp⟩
  · obtain ⟨b, off, ha, hb, hcell⟩ := hx (by omega)
    have hall : ∀ i, i < len → ∃ x : Itm, At w b (off + i * 5) x ∧ Fits x := by
      intro i hi
      obtain ⟨c0, m0, z0, e0, g0⟩ := hcell i hi 0 f0 rfl
      obtain ⟨c1, m1, z1, e1, g1⟩ := hcell i hi 1 f1 rfl
      obtain ⟨c2, m2, z2, e2, g2⟩ := hcell i hi 2 f2 rfl
      obtain ⟨c3, m3, z3, e3, g3⟩ := hcell i hi 3 f3 rfl
      obtain ⟨c4, m4, z4, e4, g4⟩ := hcell i hi 4 f4 rfl
      obtain ⟨s0, q0, _, b0⟩ := DataW.trod_string h0 g0
      obtain ⟨i1, q1, _, _⟩ := DataW.trod_int h1 g1
      obtain ⟨s2, q2, _, b2⟩ := DataW.trod_string h2 g2
      obtain ⟨i3, q3, _, _⟩ := DataW.trod_int h3 g3
      obtain ⟨i4, q4, _, _⟩ := DataW.trod_int h4 g4
      simp only [List.cons.injEq, and_true] at q0 q1 q2 q3 q4
      subst q0 q1 q2 q3 q4
      exact ⟨⟨s0, i1, s2, i3, i4⟩, ⟨e0, e1, e2, e3, e4⟩, b0, b2⟩
    obtain ⟨V, hV⟩ := @choose_lt Itm ⟨zero⟩ len _ hall
    refine ⟨a, cap, (List.range len).map V, by simpa using hv, fun _ => ⟨b, off, ha, hb, fun i hi => ?_⟩, by simpa using hl, by simp; omega, fun x hx => ?_⟩
    · have hi' : i < len := by simpa using hi
      have e : ((List.range len).map V).getD i zero = V i := by simp [List.getD_eq_getElem?_getD, hi']
      rw [e]
      exact (hV i hi').1
    · obtain ⟨i, hi, rfl⟩ := List.mem_map.1 hx
      exact (hV i (by simpa using hi)).2
end
end Open
end Go.Proofs.Ythlcmnjaimffdaa
