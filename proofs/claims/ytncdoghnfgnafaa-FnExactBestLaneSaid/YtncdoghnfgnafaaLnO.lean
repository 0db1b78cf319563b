/-
  A slice of lanes among the arguments, opened. No Go function is spoken of here.
-/
import Derived.Test.YtncdoghnfgnafaaLnP
import Derived.Test.YtncdoghnfgnafaaOpen
namespace Go.Proofs.Ytncdoghnfgnafaa
namespace Lanes
open Go.ChangeShapes Go.WideShapes Go.RowKit Go.Deep Base
section
variable {H : Type} {enc : TypeId × Value → H} {P : Program} {w : World} {base : Nat} {spare : Nat → Bool} {held : Bool}
theorem open_of {t e e2 : TypeId} {f0 f1 f2 g0 g1 : Field} {n : Nat} {v : Value} {y : DataW H × List MemPlace} (ht : P.underlying t = some (.slice e)) (he : P.underlying e = some (.struct #[f0, f1, f2])) (hone : oneCellFields P #[f0, f1, f2] = true)
    (hsz : P.cellsOf e = 3) (h0 : P.underlying f0.type = some (.int .i64)) (h1 : P.underlying f1.type = some (.int .i64))
    (h2 : P.underlying f2.type = some (.slice e2)) (he2 : P.underlying e2 = some (.struct #[g0, g1])) (hone2 : oneCellFields P #[g0, g1] = true) (hsz2 : P.cellsOf e2 = 2) (k0 : P.underlying g0.type = some (.int .i64)) (k1 : P.underlying g1.type = some (.int .i64))
    (h : DataW.trod enc P w base spare held n t [v] = some y) :
    ∃ (a : Option Addr) (cap : Nat) (L : List Ln), v = .slice a L.length cap ∧ LsAt w a L ∧ L.length ≤ cap ∧ L.length ≤ maxLen ∧ ∀ x ∈ L, x.ws.length ≤ maxLen := by
  obtain ⟨a, len, cap, hv, hl, hm, hx⟩ := Open.rows_of ht he hone hsz (by simp) h
  by_cases hlen : len = 0
  · subst hlen
    exact ⟨a, cap, [], hv, fun h => absurd rfl h, Nat.zero_le _, Nat.zero_le _, by simp⟩
  · obtain ⟨b, off, ha, hb, hcell⟩ := hx (by omega)
    have hall : ∀ i, i < len → ∃ x : Ln, (LnAt w b (off + i * 3) x ∧ Waits.LAt w x.a x.ws) ∧ x.ws.length ≤ maxLen := by
      intro i hi
      obtain ⟨c0, m0, z0, e0, q0⟩ := hcell i hi 0 f0 rfl
      obtain ⟨c1, m1, z1, e1, q1⟩ := hcell i hi 1 f1 rfl
      obtain ⟨c2, m2, z2, e2', q2⟩ := hcell i hi 2 f2 rfl
      obtain ⟨s0, r0, _, _⟩ := DataW.trod_int h0 q0
      obtain ⟨s1, r1, _, _⟩ := DataW.trod_int h1 q1
      obtain ⟨wa, wc, ws, hv2, hla, _, hwl, _⟩ := Waits.open_of h2 he2 hone2 hsz2 k0 k1 q2
      simp only [List.cons.injEq, and_true] at r0 r1
      subst r0 r1 hv2
      exact ⟨⟨s0, s1, wa, wc, ws⟩, ⟨⟨e0, e1, e2'⟩, hla⟩, hwl⟩
    obtain ⟨V, hV⟩ := @choose_lt Ln ⟨zeroL⟩ len _ hall
    refine ⟨a, cap, (List.range len).map V, by simpa using hv, fun _ => ⟨b, off, ha, hb, fun i hi => ?_⟩, by simpa using hl, by simp; omega, fun x hx => ?_⟩
    · have hi' : i < len := by simpa using hi
      have e : ((List.range len).map V).getD i zeroL = V i := by simp [List.getD_eq_getElem?_getD, hi']
      rw [e]
      exact (hV i hi').1
    · obtain ⟨i, hi, rfl⟩ := List.mem_map.1 hx
      exact (hV i (by simpa using hi)).2
end
end Lanes
end Go.Proofs.Ytncdoghnfgnafaa
