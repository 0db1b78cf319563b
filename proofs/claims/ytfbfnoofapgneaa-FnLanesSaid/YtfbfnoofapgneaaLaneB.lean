/-
  The two boxes of a call that takes a lane and hands one back; what such a call leaves. No Go function is spoken of here.
-/
import Derived.Test.YtfbfnoofapgneaaLaneC
import Derived.Test.YtfbfnoofapgneaaLaneP
import Derived.Deep.AppendLies
namespace Go.Proofs.Ytfbfnoofapgneaa
namespace Lanes
open Go.RowKit Base GoodKey Waits Marks OwnR WaitsW
set_option linter.unusedVariables false

/-- The box of the lane that came in, and that of the lane to hand back. -/
def Bl (w : World) (H : Nat) (ep fa : Int) (v : Value) : Prop :=
  (w.cell? ⟨H, 0, none⟩ = some (.int .i64 ep) ∧ w.cell? ⟨H, 1, none⟩ = some (.int .i64 fa) ∧ w.cell? ⟨H, 2, none⟩ = some v) ∧
  (w.cell? ⟨H + 1, 0, none⟩ = some (.int .i64 0) ∧ w.cell? ⟨H + 1, 1, none⟩ = some (.int .i64 0) ∧ w.cell? ⟨H + 1, 2, none⟩ = some (.slice none 0 0)) ∧
  (∀ o, w.frozen? ⟨H, o, none⟩ = false) ∧ (∀ o, w.frozen? ⟨H + 1, o, none⟩ = false) ∧ H + 2 ≤ w.heap.size
theorem Bl.same {w w' : World} {H : Nat} {ep fa : Int} {v : Value} (h : Bl w H ep fa v) (hc : ∀ b o, H ≤ b → b < H + 2 → w'.cell? ⟨b, o, none⟩ = w.cell? ⟨b, o, none⟩ ∧ w'.frozen? ⟨b, o, none⟩ = w.frozen? ⟨b, o, none⟩) (hz : w.heap.size ≤ w'.heap.size) : Bl w' H ep fa v := by
  obtain ⟨⟨s0, s1, s2⟩, ⟨y0, y1, y2⟩, f0, f1, z⟩ := h
  have c := fun b o h1 h2 => (hc b o h1 h2).1
  refine ⟨⟨?_, ?_, ?_⟩, ⟨?_, ?_, ?_⟩, fun o => (hc H o (by omega) (by omega)).2.trans (f0 o), fun o => (hc (H + 1) o (by omega) (by omega)).2.trans (f1 o), by omega⟩
  · rw [c H 0 (by omega) (by omega)]; exact s0
  · rw [c H 1 (by omega) (by omega)]; exact s1
  · rw [c H 2 (by omega) (by omega)]; exact s2
  · rw [c (H + 1) 0 (by omega) (by omega)]; exact y0
  · rw [c (H + 1) 1 (by omega) (by omega)]; exact y1
  · rw [c (H + 1) 2 (by omega) (by omega)]; exact y2
theorem Bl.below {w w' : World} {H C : Nat} {ep fa : Int} {v : Value} (h : Bl w H ep fa v) (hb : Below C w w') (hC : H + 2 ≤ C) : Bl w' H ep fa v :=
  h.same (fun b o h1 h2 => ⟨hb.cell (p := ⟨b, o, none⟩) (show b < C by omega), hb.frozen (p := ⟨b, o, none⟩) (show b < C by omega)⟩) hb.size
theorem Bl.gb {w w' : World} {H : Nat} {ep fa : Int} {v : Value} {r : Option Nat} (h : Bl w H ep fa v) (hg : w.grownBy w' r) (hne : ∀ g, r = some g → H + 2 ≤ g) : Bl w' H ep fa v := by
  have hz := h.2.2.2.2
  exact h.same (fun b o h1 h2 => ⟨hg.cell_far ⟨b, o, none⟩ (show b < w.heap.size by omega) (fun e => by have := hne b e.symm; omega), hg.frozen_far ⟨b, o, none⟩ (show b < w.heap.size by omega) (fun e => by have := hne b e.symm; omega)⟩) hg.size
theorem frozen_set (w : World) (p q : Addr) (u : Value) : (w.setCell p u).frozen? q = w.frozen? q := by simp
theorem Bl.set0 {w : World} {H : Nat} {ep fa : Int} {v : Value} (h : Bl w H ep fa v) (u : Int) : Bl (w.setCell ⟨H, 0, none⟩ (.int .i64 u)) H u fa v := by
  obtain ⟨⟨s0, s1, s2⟩, ⟨y0, y1, y2⟩, f0, f1, z⟩ := h
  refine ⟨⟨?_, ?_, ?_⟩, ⟨?_, ?_, ?_⟩, fun o => (frozen_set _ _ _ _).trans (f0 o), fun o => (frozen_set _ _ _ _).trans (f1 o), by simpa [World.setCell] using z⟩
  all_goals go_simp
theorem Bl.set1 {w : World} {H : Nat} {ep fa : Int} {v : Value} (h : Bl w H ep fa v) (u : Int) : Bl (w.setCell ⟨H, 1, none⟩ (.int .i64 u)) H ep u v := by
  obtain ⟨⟨s0, s1, s2⟩, ⟨y0, y1, y2⟩, f0, f1, z⟩ := h
  refine ⟨⟨?_, ?_, ?_⟩, ⟨?_, ?_, ?_⟩, fun o => (frozen_set _ _ _ _).trans (f0 o), fun o => (frozen_set _ _ _ _).trans (f1 o), by simpa [World.setCell] using z⟩
  all_goals go_simp
theorem Bl.set2 {w : World} {H : Nat} {ep fa : Int} {v : Value} (h : Bl w H ep fa v) (u : Value) : Bl (w.setCell ⟨H, 2, none⟩ u) H ep fa u := by
  obtain ⟨⟨s0, s1, s2⟩, ⟨y0, y1, y2⟩, f0, f1, z⟩ := h
  refine ⟨⟨?_, ?_, ?_⟩, ⟨?_, ?_, ?_⟩, fun o => (frozen_set _ _ _ _).trans (f0 o), fun o => (frozen_set _ _ _ _).trans (f1 o), by simpa [World.setCell] using z⟩
  all_goals go_simp
theorem bl_new (w : World) (ep fa : Int) (v : Value) : Bl ((w.alloc (.cells #[.int .i64 ep, .int .i64 fa, v] 25)).alloc (.cells #[.int .i64 0, .int .i64 0, .slice none 0 0] 25)) w.heap.size ep fa v := by
  refine ⟨⟨?_, ?_, ?_⟩, ⟨?_, ?_, ?_⟩, fun o => ?_, fun o => ?_, ?_⟩
  all_goals go_simp
theorem Own.below {w w' : World} {B C : Nat} {a : Option Addr} {l : List D} {cap : Nat} (h : Own w B a l cap) (hb : Below C w w') (hC : w.heap.size ≤ C) : Own w' B a l cap := own_below h hb hC
theorem Own.set {w : World} {B : Nat} {a : Option Addr} {l : List D} {cap : Nat} (h : Own w B a l cap) {p : Addr} (hp : p.block < B) (u : Value) : Own (w.setCell p u) B a l cap := ownsRow_setCell_below h hp u
theorem Own.at {w : World} {B : Nat} {a : Option Addr} {l : List D} {cap : Nat} (h : Own w B a l cap) : LAt w a l := by
  obtain ⟨r, h1, _⟩ := own_ours h
  exact ours_at h1
/-- What a call leaves of a lane: its waits in a row of its own. -/
def Left (w w' : World) (a : Option Addr) (l : List D) : Prop := ∃ r, WaitsM.Ours w' a l.length (icell l) r ∧ (∀ g, r = some g → w.heap.size ≤ g) ∧ Below w.heap.size w w'
theorem Own.left {w w' : World} {B : Nat} {a : Option Addr} {l : List D} {cap : Nat} (h : Own w' B a l cap) (hB : w.heap.size ≤ B) (hb : Below w.heap.size w w') : Left w w' a l := by
  obtain ⟨r, h1, h2⟩ := own_ours h
  exact ⟨r, h1, fun g e => Nat.le_trans hB (h2 g e), hb⟩
theorem left_none {w w' : World} (hb : Below w.heap.size w w') : Left w w' none [] := ⟨none, WaitsM.ours_none _ _ _, fun g e => by simp at e, hb⟩

/-- SendOn, plain: the lane's fields and the code. -/
structure Sent where
  ep : Int
  fa : Int
  l : List D
  code : Int
def sendR (ep fa : Int) (l : List D) (x : D) : Sent :=
  if glB ep fa l = true then if mayB l x = true then if l.length = 20 then ⟨ep, fa, l, 2⟩ else ⟨ep, fa, l ++ [x], 0⟩ else ⟨ep, fa, l, 1⟩ else ⟨0, 0, [], 1⟩
theorem send_1 {ep fa : Int} {l : List D} {x : D} (h : glB ep fa l = false) : sendR ep fa l x = ⟨0, 0, [], 1⟩ := by simp [sendR, h]
theorem send_2 {ep fa : Int} {l : List D} {x : D} (h : glB ep fa l = true) (h2 : mayB l x = false) : sendR ep fa l x = ⟨ep, fa, l, 1⟩ := by simp [sendR, h, h2]
theorem send_3 {ep fa : Int} {l : List D} {x : D} (h : glB ep fa l = true) (h2 : mayB l x = true) (h3 : l.length = 20) : sendR ep fa l x = ⟨ep, fa, l, 2⟩ := by simp [sendR, h, h2, h3]
theorem send_4 {ep fa : Int} {l : List D} {x : D} (h : glB ep fa l = true) (h2 : mayB l x = true) (h3 : ¬ l.length = 20) : sendR ep fa l x = ⟨ep, fa, l ++ [x], 0⟩ := by simp [sendR, h, h2, h3]
theorem sendR_len (ep fa : Int) (l : List D) (x : D) : (sendR ep fa l x).l.length ≤ l.length + 1 := by
  unfold sendR
  split
  · split
    · split
      · simp
      · simp
    · simp
  · simp
def SendEnd (T : Sent) (w : World) (e : Ending) (w' : World) : Prop := ∃ a c, e = .returned (.tuple #[.agg #[.int .i64 T.ep, .int .i64 T.fa, .slice a T.l.length c], .int .i64 T.code]) ∧ Left w w' a T.l

/-- AnswerOn, plain. -/
structure Answered where
  ep : Int
  fa : Int
  l : List D
  id : Int
  code : Int
def answerR (ep fa : Int) (l : List D) (at_ : Int) : Answered :=
  if glB ep fa l = true then if at_ = ep then if l.length = 0 then ⟨ep, fa, l, 0, 4⟩ else ⟨ep, 0, l.drop 1, (l.getD 0 zero).id, 0⟩ else ⟨ep, fa, l, 0, 3⟩ else ⟨0, 0, [], 0, 1⟩
theorem answer_1 {ep fa : Int} {l : List D} {x : Int} (h : glB ep fa l = false) : answerR ep fa l x = ⟨0, 0, [], 0, 1⟩ := by simp [answerR, h]
theorem answer_2 {ep fa : Int} {l : List D} {x : Int} (h : glB ep fa l = true) (h2 : ¬ x = ep) : answerR ep fa l x = ⟨ep, fa, l, 0, 3⟩ := by simp [answerR, h, h2]
theorem answer_3 {ep fa : Int} {l : List D} (h : glB ep fa l = true) (h3 : l.length = 0) : answerR ep fa l ep = ⟨ep, fa, l, 0, 4⟩ := by simp [answerR, h, h3]
theorem answer_4 {ep fa : Int} {l : List D} (h : glB ep fa l = true) (h3 : ¬ l.length = 0) : answerR ep fa l ep = ⟨ep, 0, l.drop 1, (l.getD 0 zero).id, 0⟩ := by simp only [answerR, h, if_true, if_neg h3]
theorem answerR_len (ep fa : Int) (l : List D) (x : Int) : (answerR ep fa l x).l.length ≤ l.length := by
  unfold answerR
  split
  · split
    · split
      · simp
      · simp
    · simp
  · simp
def AnswerEnd (T : Answered) (w : World) (e : Ending) (w' : World) : Prop := ∃ a c, e = .returned (.tuple #[.agg #[.int .i64 T.ep, .int .i64 T.fa, .slice a T.l.length c], .int .i64 T.id, .int .i64 T.code]) ∧ Left w w' a T.l
end Lanes
end Go.Proofs.Ytfbfnoofapgneaa
