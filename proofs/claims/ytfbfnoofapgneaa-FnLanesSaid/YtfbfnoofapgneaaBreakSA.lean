/-
  The model's BreakLane below the last epoch: nobody waits any more; for every lane, wherever its waits lie.
-/
import Derived.Test.YtfbfnoofapgneaaBreakP
import Derived.Test.YtfbfnoofapgneaaLaneN
namespace Go.Proofs.Ytfbfnoofapgneaa
namespace Lanes
open Go.RowKit Base GoodKey Waits Marks OwnR WaitsW
set_option linter.unusedVariables false

/-- What such a call leaves. -/
def BreakNil (T : Broken) (w : World) (e : Ending) (w' : World) : Prop :=
  ∃ i d, e = .returned (.tuple #[.agg #[.int .i64 T.ep, .int .i64 T.fa, .slice none 0 0], .slice i T.ids.length d, .int .i64 T.code]) ∧ T.l = [] ∧ Below w.heap.size w w'
set_option maxRecDepth 10000 in
set_option maxHeartbeats 2000000 in
theorem breakS_nil (ep fa : Int) (a : Option Addr) (cap : Nat) (l : List D) (w : World) (hc : LAt w a l)
    (hl : l.length ≤ 1048576) (hcap : l.length ≤ cap) (g2 : ¬ ep = 1000000) :
    Calls Try.prog 20 #[.agg #[.int .i64 ep, .int .i64 fa, .slice a l.length cap]] w (BreakNil (breakR ep fa l) w) := by
  have hgood := fun w' (hb' : Below w.heap.size w w') => goodS_any ep fa a cap l w' (hc.below hb' (Nat.le_refl _)) hl hcap
  have HC := hide hc
  clear hc
  cases g1 : glB ep fa l
  · rw [break_1 g1]
    rw [g1] at hgood
    have HG := hide hgood
    clear hgood g1 HC
    go_enter Try.func20, Try.ntmps20
    go_wp2_with fail
    refine (unhide HG _ (bel2 w _ _)).mono ?_
    rintro e w1 ⟨rfl, hb1⟩
    simp only [World.size_alloc] at hb1
    have X1 := hide ((bl_new w ep fa _).below hb1 (Nat.le_refl _))
    have B1 := hide ((bel2 w _ _).trans (hb1.mono (by omega)))
    have z1 : w.heap.size + 2 ≤ w1.heap.size := (unhide X1).2.2.2.2
    clear hb1
    obtain ⟨⟨x0, x1, x2⟩, ⟨y0, y1, y2⟩, f0, f1, -⟩ := unhide X1
    go_wp2
    refine bodyPost_ret (v := .tuple #[.agg #[.int .i64 0, .int .i64 0, .slice none 0 0], .slice none 0 0, .int .i64 1]) (by simp [results, Try.results20, go_sem, y0, y1, y2]) rfl ⟨none, 0, rfl, rfl, ?_⟩
    repeat (refine Below.setCell ?_ (by first | (simp; done) | (simp; omega)) _)
    exact unhide B1
  have hl20 := glB_len g1
  have hef := glB_ep g1
  have G1 := hide g1
  rw [g1] at hgood
  have HG := hide hgood
  clear hgood g1
  rw [break_3 (unhide G1) g2]
  have q1 : (ep == 1000000) = false := by simp [g2]
  have q3 : decide (ep = 1000000) = false := by simp [g2]
  have hw1 : IntKind.i64.wrap (ep + 1) = ep + 1 := by rw [IntKind.wrap_i64]; omega
  have hw2 : IntKind.i64.wrap (fa + 1) = fa + 1 := by rw [IntKind.wrap_i64]; omega
  have HIL := hide (ids_len l)
  clear g2
  obtain ⟨i0, hi, hz0, hz1, hz2⟩ := Ints.info_ex
  have HI := hide hi
  have HZ0 := hide hz0
  have HZ1 := hide hz1
  have HZ2 := hide hz2
  clear hi hz0 hz1 hz2
  go_enter Try.func20, Try.ntmps20
  go_wp2_with fail
  refine (unhide HG _ (bel2 w _ _)).mono ?_
  rintro e w1 ⟨rfl, hb1⟩
  simp only [World.size_alloc] at hb1
  have X1 := hide ((bl_new w ep fa _).below hb1 (Nat.le_refl _))
  have B1 := hide ((bel2 w _ _).trans (hb1.mono (by omega)))
  have z1 : w.heap.size + 2 ≤ w1.heap.size := (unhide X1).2.2.2.2
  clear hb1
  obtain ⟨⟨x0, x1, x2⟩, ⟨y0, y1, y2⟩, f0, f1, -⟩ := unhide X1
  go_wp2_with fail
  go_loopw [5, 21] (fun v i wr => ∃ (k : Nat), k ≤ l.length ∧ i = .int .i64 k ∧ Hid (wr.ownsRow w1.heap.size 3 1 v (idsOf (l.take k)).length (Ints.cells (idsOf (l.take k)))) ∧ Hid (Below w1.heap.size w1 wr)) (fun _ i _ => l.length - (intOf i).toNat)
  case atStart => exact ⟨0, Nat.zero_le _, rfl, hide (World.ownsRow_nil _ _ _ _), hide (Below.refl _ _)⟩
  case round =>
    obtain ⟨k, hk, rfl, hown, hbr⟩ := hrel
    clear x0 x1 x2 y0 y1 y2 f0 f1
    have XR := hide ((unhide X1).below (unhide hbr) z1)
    have BR := hide ((unhide B1).trans ((unhide hbr).mono (by omega)))
    have zr : w1.heap.size ≤ wr.heap.size := (unhide hbr).size
    have zx : w.heap.size < wr.heap.size := by omega
    have zy : w.heap.size + 1 < wr.heap.size := by omega
    obtain ⟨⟨x0, x1, x2⟩, ⟨y0, y1, y2⟩, f0, f1, -⟩ := unhide XR
    by_cases hlt : k < l.length
    · obtain ⟨b, off, hab, hb, hcc⟩ := unhide HC (by intro h; simp [h] at hlt)
      subst hab
      obtain ⟨c0, c1⟩ := (hcc k hlt).below (unhide BR) hb
      clear hcc
      have hst := hide (ids_step l k hlt)
      have hkl : (idsOf (l.take k)).length ≤ 20 := by rw [ids_len, List.length_take]; omega
      generalize l.getD k zero = x at c0 c1 hst
      generalize idsOf (l.take k) = kept at hown hst hkl
      have O1 := hide (own_below (unhide hown) (bel1 wr (.cells #[.int .i64 x.id, .int .i64 x.since] 36)) (Nat.le_refl _))
      have HA : Hid (Below w1.heap.size w1 (wr.alloc (.cells #[.int .i64 x.id, .int .i64 x.since] 36))) := (unhide hbr).alloc zr _
      go_wp2_with (at_builtin; go_loud (refine wpList_append_own _ rfl _ _ 32 rfl w1.heap.size 3 i0 _ 1 8 Try.underlying32 (unhide HI) (unhide HZ0) (unhide HZ1) (unhide HZ2) rfl (by decide) _ _ _ rfl ((unhide O1).alloc _) ⟨wr.heap.size + 1, 0, none⟩ 1 1 [.int .i64 x.id] rfl rfl ?c1 ?c2 ?c3 ?c4 ?c5 ?_))
      case c1 =>
        have h := Ints.news_cells (wr.alloc (.cells #[.int .i64 x.id, .int .i64 x.since] 36)) x.id 3
        rw [World.size_alloc] at h
        exact h
      case c2 => exact Ints.news_one x.id
      case c3 => unfold maxLen; omega
      case c4 => omega
      case c5 => simp; omega
      intro v' w6 hown' hgrow _
      have O6 := hide (Ints.own_snoc hown' (unhide hst))
      have B6 := hide (((unhide HA).alloc (by simp; omega) _).grown hgrow (by simp; omega) (own_block (unhide O1)))
      clear hown' hgrow
      go_wp2
      go_roundw
      case rel => exact ⟨k + 1, by omega, by go_num, O6, B6⟩
      case measure => simp [intOf]; omega
    · obtain rfl : k = l.length := by omega
      rw [List.take_length] at hown
      obtain ⟨va, vc, hv⟩ := own_form (unhide hown)
      rw [hv] at hown ⊢
      clear hv
      have HQ : Hid (∃ q, IntsM.Ours wr va (idsOf l).length (Ints.ncell (idsOf l)) q ∧ ∀ g, q = some g → w1.heap.size ≤ g) := Ints.own_ints (unhide hown)
      clear hown
      by_cases g4 : fa < 1000000
      · have U : Hid (upB fa = fa + 1) := by show upB fa = fa + 1; unfold upB; rw [if_pos g4]
        go_wp2
        refine bodyPost_ret (v := .tuple #[.agg #[.int .i64 (ep + 1), .int .i64 (fa + 1), .slice none 0 0], .slice va (idsOf l).length vc, .int .i64 0]) (by simp [results, Try.results20, go_sem, y0, y1, y2, zy]) rfl ?_
        refine ⟨va, vc, (by rw [unhide U] : Ending.returned (.tuple #[.agg #[.int .i64 (ep + 1), .int .i64 (fa + 1), .slice none 0 0], .slice va (idsOf l).length vc, .int .i64 0]) = .returned (.tuple #[.agg #[.int .i64 (ep + 1), .int .i64 (upB fa), .slice none 0 0], .slice va (idsOf l).length vc, .int .i64 0])), rfl, ?_⟩
        · refine Below.alloc ?_ (by simp [World.setCell]; omega) _
          repeat (refine Below.setCell ?_ (by first | (simp; done) | (simp; omega)) _)
          exact unhide BR
      · have U : Hid (upB fa = fa) := by show upB fa = fa; unfold upB; rw [if_neg g4]
        go_wp2
        refine bodyPost_ret (v := .tuple #[.agg #[.int .i64 (ep + 1), .int .i64 fa, .slice none 0 0], .slice va (idsOf l).length vc, .int .i64 0]) (by simp [results, Try.results20, go_sem, y0, y1, y2, zy]) rfl ?_
        refine ⟨va, vc, (by rw [unhide U] : Ending.returned (.tuple #[.agg #[.int .i64 (ep + 1), .int .i64 fa, .slice none 0 0], .slice va (idsOf l).length vc, .int .i64 0]) = .returned (.tuple #[.agg #[.int .i64 (ep + 1), .int .i64 (upB fa), .slice none 0 0], .slice va (idsOf l).length vc, .int .i64 0])), rfl, ?_⟩
        · refine Below.alloc ?_ (by simp [World.setCell]; omega) _
          repeat (refine Below.setCell ?_ (by first | (simp; done) | (simp; omega)) _)
          exact unhide BR
end Lanes
end Go.Proofs.Ytfbfnoofapgneaa
