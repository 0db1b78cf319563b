/-
  slices.Clone at the points, and the program's sortedBy: the ring of a list of points, in a row of its own.
-/
import Derived.Test.YtjlmhkclokjpnaaDoorRingI
import Derived.Test.YtjlmhkclokjpnaaDoorPointZ
import Derived.WalkSpells
import Derived.Lib.SliceRun
namespace Go.Proofs.YtjlmhkclokjpnaaDoor
namespace Ring
open Go.RowKit Base Points NumText Marks OwnR PointsW
set_option linter.unusedVariables false

theorem info_ex : ∃ i, Tryd.prog.info? 115 = some i ∧ i.zero = some (.agg #[.int .u32 0, .string ByteArray.empty]) ∧ i.size = 2 ∧ i.bytes = 24 := by
  obtain ⟨i, hi, hz⟩ := Option.map_eq_some_iff.1 infoP
  simp only [Prod.mk.injEq] at hz
  exact ⟨i, hi, hz.1, hz.2.1, hz.2.2⟩
theorem own_empty (w : World) (t : TypeId) (size : Nat) : (w.alloc (.cells #[] t)).ownsRow w.heap.size t size (.slice (some ⟨w.heap.size, 0, none⟩) 0 0) 0 [] :=
  ⟨by simp, .inr ⟨w.heap.size, 0, #[], rfl, Nat.le_refl _, heap_alloc_new w _, Nat.le_refl _, Nat.zero_le _, by simp, by simp⟩⟩

set_option maxRecDepth 10000 in
set_option maxHeartbeats 1000000 in
theorem clone_pts (f cap : Nat) (l : List D) (w : World) (hr : RowAt w f 115 (l.length * 2) (icell l)) (h0 : 0 < l.length) (h1 : l.length ≤ 1000) :
    Calls Tryd.prog 94 #[.slice (some ⟨f, 0, none⟩) l.length cap] w fun e w' =>
      ∃ g c, e = .returned (.slice (some ⟨g, 0, none⟩) l.length c) ∧ w.heap.size ≤ g ∧ l.length ≤ c ∧ RowAt w' g 115 (l.length * 2) (icell l) ∧ Below w.heap.size w w' := by
  obtain ⟨i0, hi, hz0, hz1, hz2⟩ := info_ex
  have HI := hide hi
  have HZ0 := hide hz0
  have HZ1 := hide hz1
  have HZ2 := hide hz2
  have HR := hide hr
  have HFL := hide (flat_length l)
  have HFO := hide (flat_oneCell l)
  have hnil : ∀ w, (binOp .eql 93 (.slice (some ⟨f, 0, none⟩) l.length cap) (.slice none 0 0)).run Tryd.prog w = .ok (.bool false) w := fun w => Lib.run_eql_slice_nil w _ _ _ _ _ _ _ Tryd.underlying93
  clear hi hz0 hz1 hz2 hr
  go_enter Tryd.func94, Tryd.ntmps94
  go_wp2_with (at_builtin; go_loud (refine wpList_append_own _ rfl _ _ 93 rfl w.heap.size 115 i0 _ 2 24 Tryd.underlying93 (unhide HI) (unhide HZ0) (unhide HZ1) (unhide HZ2) rfl (by decide) _ _ _ rfl (own_empty w _ _) ⟨f, 0, none⟩ l.length cap (flat l) rfl (unhide HFL) ?c1 (unhide HFO) ?c3 ?c4 ?c5 ?_))
  case c1 => exact news_at ((unhide HR).below (bel1 w _) (unhide HR).lt) (Nat.le_refl _)
  case c3 => unfold maxLen; omega
  case c4 => omega
  case c5 => simp
  intro v' w2 hown' hgrow _
  obtain ⟨g, c, rfl, hg, hc, -⟩ := own_some hown' h0
  obtain ⟨r, hours, -⟩ := own_ours hown'
  have hrow : RowAt w2 g 115 (l.length * 2) (icell l) := by
    rcases hours with ⟨h, _⟩ | ⟨g', he, _, h⟩
    · omega
    · simp at he; rw [he]; exact h
  have HB := hide ((bel1 w (.cells #[] 115)).grown hgrow (by simp) (fun k e => by simp [Value.ownBlock] at e; omega))
  have HROW := hide hrow
  clear hown' hgrow hrow hours
  go_wp2
  go_ret
  exact ⟨g, c, rfl, hg, hc, unhide HROW, unhide HB⟩
end Ring
end Go.Proofs.YtjlmhkclokjpnaaDoor
