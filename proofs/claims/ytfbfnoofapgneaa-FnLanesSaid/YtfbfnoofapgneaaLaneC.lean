/-
  The copies of a lane: the model's l4Own and the program's copyOfLane: the waits in a row of the call's own.
-/
import Derived.Test.YtfbfnoofapgneaaRows
import Derived.Test.YtfbfnoofapgneaaWaitW
import Derived.Laws.AppendOwn
import Derived.WalkSpells
import Derived.Lib.SliceRun
namespace Go.Proofs.Ytfbfnoofapgneaa
namespace Lanes
open Go.RowKit Base Waits Marks OwnR WaitsW
set_option linter.unusedVariables false

/-- A slice of waits in a row that the call has made, above B. -/
def Own (w : World) (B : Nat) (a : Option Addr) (l : List D) (cap : Nat) : Prop := w.ownsRow B 36 2 (.slice a l.length cap) l.length (flat l)
def laneV (ep fa : Int) (a : Option Addr) (n cap : Nat) : Value := .agg #[.int .i64 ep, .int .i64 fa, .slice a n cap]
theorem info_ex : ∃ i, Try.prog.info? 36 = some i ∧ i.zero = some (.agg #[.int .i64 0, .int .i64 0]) ∧ i.size = 2 ∧ i.bytes = 16 := by
  have h : (Try.prog.info? 36).map (fun i => (i.zero, i.size, i.bytes)) = some (some (.agg #[.int .i64 0, .int .i64 0]), 2, 16) := by kernel_rfl
  obtain ⟨i, hi, hz⟩ := Option.map_eq_some_iff.1 h
  simp only [Prod.mk.injEq] at hz
  exact ⟨i, hi, hz.1, hz.2.1, hz.2.2⟩
theorem own_empty (w : World) (t : TypeId) (size B : Nat) (hB : B ≤ w.heap.size) : (w.alloc (.cells #[] t)).ownsRow B t size (.slice (some ⟨w.heap.size, 0, none⟩) 0 0) 0 [] :=
  ⟨by simp, .inr ⟨w.heap.size, 0, #[], rfl, hB, heap_alloc_new w _, Nat.le_refl _, Nat.zero_le _, by simp, by simp⟩⟩
theorem news_lat {w : World} {b off : Nat} {l : List D} (h : ∀ i, i < l.length → At w b (off + i * 2) (l.getD i zero)) (j : Nat) (u : Value) (hj : (flat l)[j]? = some u) : w.cell? ((⟨b, off, none⟩ : Addr).add j) = some u := by
  have hlt : j < l.length * 2 := by rw [← flat_length]; exact (List.getElem?_eq_some_iff.1 hj).1
  rw [flat_get l j hlt] at hj
  rw [Go.WideShapes.add_plain, ← hj]
  have hi := h (j / 2) (by omega)
  unfold icell
  by_cases h2 : j % 2 = 0
  · rw [if_pos h2, show off + j = off + j / 2 * 2 by omega]; exact hi.1
  · rw [if_neg h2, show off + j = off + j / 2 * 2 + 1 by omega]; exact hi.2

set_option maxRecDepth 10000 in
set_option maxHeartbeats 1000000 in
theorem l4Own_some (ep fa : Int) (b off cap : Nat) (l : List D) (w : World) (hb : b < w.heap.size) (hc : ∀ i, i < l.length → At w b (off + i * 2) (l.getD i zero)) (hl : l.length ≤ 1000) :
    Calls Try.prog 15 #[.agg #[.int .i64 ep, .int .i64 fa, .slice (some ⟨b, off, none⟩) l.length cap]] w fun e w' =>
      ∃ a c, e = .returned (.agg #[.int .i64 ep, .int .i64 fa, .slice a l.length c]) ∧ Own w' w.heap.size a l c ∧ Below w.heap.size w w' := by
  obtain ⟨i0, hi, hz0, hz1, hz2⟩ := info_ex
  have HI := hide hi
  have HZ0 := hide hz0
  have HZ1 := hide hz1
  have HZ2 := hide hz2
  have HC := hide (fun w' (h : Below w.heap.size w w') i hi => (hc i hi).below h hb)
  have HFL := hide (flat_length l)
  have HFO := hide (flat_oneCell l)
  clear hi hz0 hz1 hz2 hc
  have HE : Hid ((((w.alloc (.cells #[.int .i64 ep, .int .i64 fa, .slice (some ⟨b, off, none⟩) l.length cap] 25)).alloc (.cells #[.int .i64 0, .int .i64 0, .slice none 0 0] 25)).alloc (.cells #[] 36)).ownsRow (w.heap.size + 2) 36 2 (.slice (some ⟨w.heap.size + 1 + 1, 0, none⟩) 0 0) 0 []) := by
    have h := own_empty ((w.alloc (.cells #[.int .i64 ep, .int .i64 fa, .slice (some ⟨b, off, none⟩) l.length cap] 25)).alloc (.cells #[.int .i64 0, .int .i64 0, .slice none 0 0] 25)) 36 2 (w.heap.size + 2) (by simp)
    simp only [World.size_alloc] at h
    exact h
  go_enter Try.func15, Try.ntmps15
  go_wp2_with (at_builtin; go_loud (refine wpList_append_own _ rfl _ _ 23 rfl (w.heap.size + 2) 36 i0 _ 2 16 Try.underlying23 (unhide HI) (unhide HZ0) (unhide HZ1) (unhide HZ2) rfl (by decide) _ _ _ rfl (unhide HE) ⟨b, off, none⟩ l.length cap (flat l) rfl (unhide HFL) ?c1 (unhide HFO) ?c3 ?c4 ?c5 ?_))
  case c1 => exact news_lat (unhide HC _ (bel3 w _ _ _))
  case c3 => unfold maxLen; omega
  case c4 => omega
  case c5 => simp
  intro v' w2 hown' hgrow _
  try simp only [Nat.zero_add, List.nil_append] at hown'
  obtain ⟨a', c', rfl⟩ := own_form hown'
  have HB : Hid (Below (w.heap.size + 2) ((w.alloc (.cells #[.int .i64 ep, .int .i64 fa, .slice (some ⟨b, off, none⟩) l.length cap] 25)).alloc (.cells #[.int .i64 0, .int .i64 0, .slice none 0 0] 25)) w2) :=
    ((bel1 ((w.alloc _).alloc _) _).mono (by simp)).grown hgrow (by simp) (fun k e => by simp [Value.ownBlock] at e; omega)
  have HO := hide hown'
  have hs0 := fun o => (unhide HB).cell (p := ⟨w.heap.size, o, none⟩) (by simp)
  have hs1 := fun o => (unhide HB).cell (p := ⟨w.heap.size + 1, o, none⟩) (by simp)
  have hf0 := fun o => (unhide HB).frozen (p := ⟨w.heap.size, o, none⟩) (by simp)
  have hf1 := fun o => (unhide HB).frozen (p := ⟨w.heap.size + 1, o, none⟩) (by simp)
  have hz : w.heap.size + 2 ≤ w2.heap.size := by have := (unhide HB).size; simp at this; omega
  clear hown' hgrow
  go_wp2
  refine bodyPost_ret (v := .agg #[.int .i64 ep, .int .i64 fa, .slice a' l.length c']) (by simp [results, Try.results15, go_sem, hs1]) rfl ⟨a', c', rfl, ?_, ?_⟩
  · refine own_le (base := w.heap.size + 2) ?_ (by omega)
    repeat (refine ownsRow_setCell_below ?_ (by first | (simp; done) | (simp; omega)) _)
    exact unhide HO
  · repeat (refine Below.setCell ?_ (by first | (simp; done) | (simp; omega)) _)
    exact (bel2 w _ _).trans ((unhide HB).mono (by omega))

set_option maxRecDepth 10000 in
set_option maxHeartbeats 1000000 in
theorem copyOf_some (ep fa : Int) (b off cap : Nat) (l : List D) (w : World) (hb : b < w.heap.size) (hc : ∀ i, i < l.length → At w b (off + i * 2) (l.getD i zero)) (hl : l.length ≤ 1000) :
    Calls Try.prog 13 #[.agg #[.int .i64 ep, .int .i64 fa, .slice (some ⟨b, off, none⟩) l.length cap]] w fun e w' =>
      ∃ a c, e = .returned (.agg #[.int .i64 ep, .int .i64 fa, .slice a l.length c]) ∧ Own w' w.heap.size a l c ∧ Below w.heap.size w w' := by
  obtain ⟨i0, hi, hz0, hz1, hz2⟩ := info_ex
  have HI := hide hi
  have HZ0 := hide hz0
  have HZ1 := hide hz1
  have HZ2 := hide hz2
  have HC := hide (fun w' (h : Below w.heap.size w w') i hi => (hc i hi).below h hb)
  have HFL := hide (flat_length l)
  have HFO := hide (flat_oneCell l)
  clear hi hz0 hz1 hz2 hc
  go_enter Try.func13, Try.ntmps13
  go_wp2_with (at_builtin; go_loud (refine wpList_append_own _ rfl _ _ 23 rfl (w.heap.size + 2) 36 i0 _ 2 16 Try.underlying23 (unhide HI) (unhide HZ0) (unhide HZ1) (unhide HZ2) rfl (by decide) _ _ _ rfl (World.ownsRow_nil _ _ _ _) ⟨b, off, none⟩ l.length cap (flat l) rfl (unhide HFL) ?c1 (unhide HFO) ?c3 ?c4 ?c5 ?_))
  case c1 => exact news_lat (unhide HC _ (bel2 w _ _))
  case c3 => unfold maxLen; omega
  case c4 => omega
  case c5 => simp
  intro v' w2 hown' hgrow _
  try simp only [Nat.zero_add, List.nil_append] at hown'
  obtain ⟨a', c', rfl⟩ := own_form hown'
  have HB : Hid (Below (w.heap.size + 2) ((w.alloc (.cells #[.int .i64 ep, .int .i64 fa, .slice (some ⟨b, off, none⟩) l.length cap] 25)).alloc (.cells #[.int .i64 0, .int .i64 0, .slice none 0 0] 25)) w2) :=
    (Below.refl _ _).grown hgrow (by simp) (fun k e => by simp [Value.ownBlock] at e)
  have HO := hide hown'
  have hs0 := fun o => (unhide HB).cell (p := ⟨w.heap.size, o, none⟩) (by simp)
  have hs1 := fun o => (unhide HB).cell (p := ⟨w.heap.size + 1, o, none⟩) (by simp)
  have hf0 := fun o => (unhide HB).frozen (p := ⟨w.heap.size, o, none⟩) (by simp)
  have hf1 := fun o => (unhide HB).frozen (p := ⟨w.heap.size + 1, o, none⟩) (by simp)
  have hz : w.heap.size + 2 ≤ w2.heap.size := by have := (unhide HB).size; simp at this; omega
  clear hown' hgrow
  go_wp2
  refine bodyPost_ret (v := .agg #[.int .i64 ep, .int .i64 fa, .slice a' l.length c']) (by simp [results, Try.results13, go_sem, hs1]) rfl ⟨a', c', rfl, ?_, ?_⟩
  · refine own_le (base := w.heap.size + 2) ?_ (by omega)
    repeat (refine ownsRow_setCell_below ?_ (by first | (simp; done) | (simp; omega)) _)
    exact unhide HO
  · repeat (refine Below.setCell ?_ (by first | (simp; done) | (simp; omega)) _)
    exact (bel2 w _ _).trans ((unhide HB).mono (by omega))
end Lanes
end Go.Proofs.Ytfbfnoofapgneaa
