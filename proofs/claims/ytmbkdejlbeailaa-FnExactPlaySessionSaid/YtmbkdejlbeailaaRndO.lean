/-
  The program's roundOf: a round of a session's slots.
-/
import Derived.Test.YtmbkdejlbeailaaRndM
import Derived.BigQuiet
import Derived.Deep.QuietTactic
import Derived.Deep.RegionWith
import Derived.WalkLawsBesides
import Derived.Deep.DeepCutAuto
namespace Go.Proofs.Ytmbkdejlbeailaa
namespace Rnd
open Go.RowKit Base Slots Sess Marks
set_option linter.unusedVariables false

theorem zero_fact : (Try.prog.info? 73).bind (fun i => i.zero.bind (fun z => match z with | .agg Z => some (Z.size, Z[1]?) | _ => none)) = some (93, some (.int .i64 0)) := by kernel_rfl
theorem zero_ex : ∃ Z : Array Value, (∀ w, (zeroValue 73).run Try.prog w = .ok (.agg Z) w) ∧ Z.size = 93 ∧ Z[1]? = some (.int .i64 0) := by
  have h := zero_fact
  cases hq : Try.prog.info? 73 with
  | none => rw [hq] at h; simp at h
  | some i =>
    rw [hq] at h
    cases hz : i.zero with
    | none => rw [Option.bind_some, hz] at h; simp at h
    | some z =>
      rw [Option.bind_some, hz, Option.bind_some] at h
      cases z with
      | agg Z =>
        simp only [Option.some.injEq, Prod.mk.injEq] at h
        exact ⟨Z, fun w => by simp [zeroValue, typeInfo, hq, hz], h.1, h.2⟩
      | _ => simp at h

def Part (f : Nat → Value) (nx : Int) (l : List D) (k : Nat) : Prop := f 0 = .int .i64 nx ∧ f 1 = .int .i64 0 ∧ f 2 = .int .i64 l.length ∧ ∀ i, i < k → Cells f (3 + i * 3) (l.getD i zero)
theorem part_start (w : World) (Z : Array Value) (nx : Int) (l : List D) (hzs : Z.size = 93) (hz1 : Z[1]? = some (.int .i64 0)) :
    ∃ f, RowAt (w.alloc (.cells ((Z.setIfInBounds 0 (.int .i64 nx)).setIfInBounds 2 (.int .i64 l.length)) 73)) w.heap.size 73 93 f ∧ Part f nx l 0 := by
  have hget : ∀ j, j < 93 → ((Z.setIfInBounds 0 (.int .i64 nx)).setIfInBounds 2 (.int .i64 l.length))[j]? = some (((Z.setIfInBounds 0 (.int .i64 nx)).setIfInBounds 2 (.int .i64 l.length)).getD j default) := fun j hj => by
    have hs : j < ((Z.setIfInBounds 0 (.int .i64 nx)).setIfInBounds 2 (.int .i64 l.length)).size := by simp; omega
    rw [Array.getElem?_eq_getElem hs, Array.getD, dif_pos hs]
    rfl
  have hval : ∀ j v, j < 93 → ((Z.setIfInBounds 0 (.int .i64 nx)).setIfInBounds 2 (.int .i64 l.length))[j]? = some v → ((Z.setIfInBounds 0 (.int .i64 nx)).setIfInBounds 2 (.int .i64 l.length)).getD j default = v := fun j v hj hv => by
    rw [hget j hj] at hv
    exact Option.some.inj hv
  refine ⟨fun j => ((Z.setIfInBounds 0 (.int .i64 nx)).setIfInBounds 2 (.int .i64 l.length)).getD j default, ⟨_, heap_alloc_new w _, by simp [hzs], fun i hi => ?_⟩, ?_, ?_, ?_, fun i hi => absurd hi (by omega)⟩
  · exact hget i hi
  · exact hval 0 _ (by omega) (by simp [hzs])
  · exact hval 1 _ (by omega) (by simp [hz1])
  · exact hval 2 _ (by omega) (by simp [hzs])
theorem part_step {w : World} {g : Nat} {f : Nat → Value} {nx : Int} {l : List D} {k : Nat} (h : RowAt w g 73 93 f) (hp : Part f nx l k) (x : D) (hx : x = l.getD k zero) :
    ∃ f', RowAt (((w.setCell ⟨g, 3 + k * 3, none⟩ (.int .i64 x.id)).setCell ⟨g, 3 + k * 3 + 1, none⟩ (.bool x.done)).setCell ⟨g, 3 + k * 3 + 2, none⟩ (.string x.answer)) g 73 93 f' ∧ Part f' nx l (k + 1) := by
  obtain ⟨p0, p1, p2, p3⟩ := hp
  refine ⟨_, ((h.set (3 + k * 3) (.int .i64 x.id)).set (3 + k * 3 + 1) (.bool x.done)).set (3 + k * 3 + 2) (.string x.answer), ?_, ?_, ?_, fun i hi => ?_⟩
  · dsimp only
    rw [if_neg (by omega), if_neg (by omega), if_neg (by omega)]; exact p0
  · dsimp only
    rw [if_neg (by omega), if_neg (by omega), if_neg (by omega)]; exact p1
  · dsimp only
    rw [if_neg (by omega), if_neg (by omega), if_neg (by omega)]; exact p2
  · by_cases e : i = k
    · subst e
      rw [← hx]
      refine ⟨?_, ?_, ?_⟩
      · dsimp only
        rw [if_neg (by omega), if_neg (by omega), if_pos rfl]
      · dsimp only
        rw [if_neg (by omega), if_pos rfl]
      · dsimp only
        rw [if_pos rfl]
    · obtain ⟨q0, q1, q2⟩ := p3 i (by omega)
      refine ⟨?_, ?_, ?_⟩
      · dsimp only
        rw [if_neg (by omega), if_neg (by omega), if_neg (by omega)]; exact q0
      · dsimp only
        rw [if_neg (by omega), if_neg (by omega), if_neg (by omega)]; exact q1
      · dsimp only
        rw [if_neg (by omega), if_neg (by omega), if_neg (by omega)]; exact q2
theorem part_end {w : World} {g : Nat} {f : Nat → Value} {nx : Int} {l : List D} (h : RowAt w g 73 93 f) (hp : Part f nx l l.length) (hl : l.length ≤ 30) : RAt w g nx 0 l := by
  obtain ⟨p0, p1, p2, p3⟩ := hp
  refine ⟨f, h, p0, p1, p2, by omega, hl, fun i hi => ?_⟩
  have e : pos 0 i = 3 + i * 3 := by unfold pos; omega
  rw [e]
  exact p3 i hi

set_option maxRecDepth 100000 in
set_option maxHeartbeats 4000000 in
theorem roundOf_some (nx : Int) (b off cap : Nat) (l : List D) (w : World) (hb : b < w.heap.size) (hc : ∀ i, i < l.length → At w b (off + i * 3) (l.getD i zero)) (hl : l.length ≤ 30) (hcap : l.length ≤ cap) :
    Calls Try.prog 36 #[.agg #[.int .i64 nx, .slice (some ⟨b, off, none⟩) l.length cap]] w fun e w' =>
      ∃ g, e = .returned (.pointer (some ⟨g, 0, none⟩)) ∧ w.heap.size ≤ g ∧ RAt w' g nx 0 l ∧ Below w.heap.size w w' := by
  have hcs := hide hc
  clear hc
  obtain ⟨Z, hz, hzs, hz1⟩ := zero_ex
  have n1 : ¬ Z = #[] := fun e => by rw [e] at hzs; simp at hzs
  have n2 : ¬ Z.size < 3 := by omega
  go_enter Try.func36, Try.ntmps36
  go_wp2
  have HP := hide (part_start (w.alloc (.cells #[.int .i64 nx, .slice (some ⟨b, off, none⟩) l.length cap] 29)) Z nx l hzs hz1)
  go_loopw [16] (fun i wr => ∃ (k : Nat), k ≤ l.length ∧ i = .int .i64 k ∧ Hid (∃ f, RowAt wr (w.heap.size + 1) 73 93 f ∧ Part f nx l k) ∧ Hid (Below w.heap.size w wr)) (fun i _ => l.length - (intOf i).toNat)
  case atStart => exact ⟨0, Nat.zero_le _, rfl, hide (by have := unhide HP; rw [World.size_alloc] at this; exact this), hide (bel2 w _ _)⟩
  case round =>
    obtain ⟨k, hk, rfl, hrow, hbel⟩ := hrel
    have hbw : b < wr.heap.size := Nat.lt_of_lt_of_le hb (unhide hbel).size
    by_cases hlt : k < l.length
    · obtain ⟨c0, c1, c2⟩ := (unhide hcs k hlt).below (unhide hbel) hb
      obtain ⟨f, hr, hpt⟩ := unhide hrow
      have d0 := hr.cell (i := 3 + k * 3) (by omega)
      have d1 := hr.cell (i := 3 + k * 3 + 1) (by omega)
      have d2 := hr.cell (i := 3 + k * 3 + 2) (by omega)
      have ff := hr.frozen
      have hg := hr.lt
      have hgne : ¬ wr.heap.size = w.heap.size + 1 := by omega
      have hgne' : ¬ w.heap.size + 1 = wr.heap.size := by omega
      generalize hx : l.getD k zero = x at c0 c1 c2
      have hr' := hr.below (bel1 wr (.cells #[.int .i64 x.id, .bool x.done, .string x.answer] 55)) hg
      have HB0 := hide ((unhide hbel).alloc (by have := (unhide hbel).size; omega) (.cells #[.int .i64 x.id, .bool x.done, .string x.answer] 55))
      have e0 : (wr.alloc (.cells #[.int .i64 x.id, .bool x.done, .string x.answer] 55)).cell? ⟨wr.heap.size, 0, none⟩ = some (.int .i64 x.id) := by go_simp
      have e1 : (wr.alloc (.cells #[.int .i64 x.id, .bool x.done, .string x.answer] 55)).cell? ⟨wr.heap.size, 1, none⟩ = some (.bool x.done) := by go_simp
      have e2 : (wr.alloc (.cells #[.int .i64 x.id, .bool x.done, .string x.answer] 55)).cell? ⟨wr.heap.size, 2, none⟩ = some (.string x.answer) := by go_simp
      clear d0 d1 d2 ff
      go_upto_region 5 with fail
      generalize wr.alloc (.cells #[.int .i64 x.id, .bool x.done, .string x.answer] 55) = wa at hr' HB0 e0 e1 e2 ⊢
      have d0 := hr'.cell (i := 3 + k * 3) (by omega)
      have d1 := hr'.cell (i := 3 + k * 3 + 1) (by omega)
      have d2 := hr'.cell (i := 3 + k * 3 + 2) (by omega)
      have ff := hr'.frozen
      generalize f (3 + k * 3) = u0 at d0
      generalize f (3 + k * 3 + 1) = u1 at d1
      generalize f (3 + k * 3 + 2) = u2 at d2
      have HS := hide (fun n => part_step (w := wa.drewN n) (hr'.of_block rfl) hpt x hx.symm)
      have HB : Hid (∀ n v0 v1 v2, Below w.heap.size w ((((wa.drewN n).setCell ⟨w.heap.size + 1, 3 + k * 3, none⟩ v0).setCell ⟨w.heap.size + 1, 3 + k * 3 + 1, none⟩ v1).setCell ⟨w.heap.size + 1, 3 + k * 3 + 2, none⟩ v2)) := fun n v0 v1 v2 =>
        (((bel_draws (unhide HB0) n).setCell (by simp) _).setCell (by simp) _).setCell (by simp) _
      clear hr hr' hpt hx hrow HB0 c0 c1 c2
      go_region
      all_goals
        go_wp2
        go_roundw
        case rel => exact ⟨k + 1, by omega, by go_num, hide (unhide HS 1), hide (unhide HB 1 _ _ _)⟩
        case measure => simp [intOf]; omega
    · obtain rfl : k = l.length := by omega
      obtain ⟨f, hr, hpt⟩ := unhide hrow
      have HE := hide (part_end hr hpt hl)
      clear hr hpt hrow
      go_wp2
      go_ret
      exact ⟨w.heap.size + 1, rfl, by omega, unhide HE, unhide hbel⟩
end Rnd
end Go.Proofs.Ytmbkdejlbeailaa
