/-
  The slice behind a row's first wait. (Plain.)
-/
import Derived.Test.YtfbfnoofapgneaaLaneB
namespace Go.Proofs.Ytfbfnoofapgneaa
namespace Lanes
open Go.RowKit Base GoodKey Waits Marks OwnR WaitsW
set_option linter.unusedVariables false

def tadr (g c : Nat) : Addr := if c = 1 then ⟨g, 0, none⟩ else ⟨g, 2, none⟩
set_option maxRecDepth 10000 in
theorem slice_one (b n c : Nat) (hs : 1 ≤ n) (w : World) :
    (Instr.slice 23 (.slice (some ⟨b, 0, none⟩) n c) (some (.int .i64 1)) none none).run Try.prog w = .ok (.slice (some (tadr b c)) (n - 1) (c - 1)) w := by
  have ht : Try.prog.underlying 23 = some (.slice (Try.prog.elem 23)) := by kernel_rfl
  have hz : (sizeOf (Try.prog.elem 23)).run Try.prog w = .ok 2 w := Try.sizeOf36 w
  have h := run_slice_l w 23 (some ⟨b, 0, none⟩) n c ht .i64 (1 : Nat) (by omega) (by omega)
  rw [show ((1 : Nat) : Int) = 1 from rfl] at h
  rw [h, hz]
  simp only [Result.andThen_ok, sliced, tadr]
  by_cases h : c = 1
  · rw [if_pos h]; simp [h]
  · rw [if_neg h]
    simp [h, Go.WideShapes.add_plain]
theorem own_rest {w : World} {B g cap : Nat} {l : List D} (h : Own w B (some ⟨g, 0, none⟩) l cap) (h0 : 0 < l.length) {w0 : World} (hB : w0.heap.size ≤ B) (hb : Below w0.heap.size w0 w) : Left w0 w (some (tadr g cap)) (l.drop 1) := by
  have hlen : (l.drop 1).length = l.length - 1 := List.length_drop
  have hcap : l.length ≤ cap := by
    rcases h.2 with ⟨hv, _⟩ | ⟨g', cap', cur, hv, hg, hh, hn, _⟩
    · simp at hv
    · simp only [Value.slice.injEq] at hv
      omega
  by_cases hc : cap = 1
  · refine ⟨none, .inl ⟨by omega, rfl⟩, fun g e => by simp at e, hb⟩
  · obtain ⟨h1, h2⟩ := own_tail h h0
    refine ⟨some g, ?_, fun g' e => by simp at e; omega, hb⟩
    unfold tadr
    rw [if_neg hc]
    exact h1
end Lanes
end Go.Proofs.Ytfbfnoofapgneaa
