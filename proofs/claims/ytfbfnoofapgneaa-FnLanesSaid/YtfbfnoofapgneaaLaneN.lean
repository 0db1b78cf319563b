/-
  The lane's functions, the program's and the model's, at a lane on which nobody waits, wherever its slice lies.
-/
import Derived.Test.YtfbfnoofapgneaaLaneB
import Derived.Test.YtfbfnoofapgneaaLaneI
import Derived.Test.YtfbfnoofapgneaaLaneS
import Derived.Test.YtfbfnoofapgneaaAnswerP
namespace Go.Proofs.Ytfbfnoofapgneaa
namespace Lanes
open Go.RowKit Base GoodKey Waits Marks OwnR WaitsW
set_option linter.unusedVariables false

theorem gl_nil (ep fa : Int) : glB ep fa [] = (inB ep 1 1000000 && inB fa 0 1000000) := by simp [glB, goodTo]

set_option maxRecDepth 10000 in
set_option maxHeartbeats 1000000 in
theorem goodS_nil (ep fa : Int) (a : Option Addr) (c : Nat) (w : World) :
    Calls Try.prog 7 #[.agg #[.int .i64 ep, .int .i64 fa, .slice a 0 c]] w fun e w' => e = .returned (.bool (glB ep fa [])) ∧ Below w.heap.size w w' := by
  rw [gl_nil]
  cases g1 : inB ep 1 1000000
  · go_enter Try.func7, Try.ntmps7
    go_wp2_with (go_at_call 17; refine (l1In_any _ _ _ _).mono ?_; rintro e w1 ⟨rfl, rfl⟩)
    go_ret
    exact ⟨rfl, bel1 w _⟩
  cases g2 : inB fa 0 1000000
  · go_enter Try.func7, Try.ntmps7
    go_wp2_with (go_at_call 17; refine (l1In_any _ _ _ _).mono ?_; rintro e w1 ⟨rfl, rfl⟩)
    go_ret
    exact ⟨rfl, bel1 w _⟩
  go_enter Try.func7, Try.ntmps7
  go_wp2_with (go_at_call 17; refine (l1In_any _ _ _ _).mono ?_; rintro e w1 ⟨rfl, rfl⟩)
  go_loop [26] (fun i => i = .int .i64 0) (fun _ => 0)
  case atStart => exact rfl
  case round =>
    obtain rfl := hrel
    go_wp2
    go_ret
    exact ⟨rfl, bel1 _ _⟩

set_option maxRecDepth 10000 in
set_option maxHeartbeats 1000000 in
theorem goodI_nil (ep fa : Int) (a : Option Addr) (c : Nat) (w : World) :
    Calls Try.prog 10 #[.agg #[.int .i64 ep, .int .i64 fa, .slice a 0 c]] w fun e w' => e = .returned (.bool (glB ep fa [])) ∧ Below w.heap.size w w' := by
  rw [gl_nil]
  by_cases g1 : ep < 1
  · have g1' : decide (ep < 1) = true := decide_eq_true g1
    go_enter Try.func10, Try.ntmps10
    go_wp2
    go_ret
    exact ⟨ret_bool (by simp [inB]; omega), bel1 w _⟩
  have g1' : decide (ep < 1) = false := decide_eq_false g1
  by_cases g2 : 1000000 < ep
  · have g2' : decide (1000000 < ep) = true := decide_eq_true g2
    go_enter Try.func10, Try.ntmps10
    go_wp2
    go_ret
    exact ⟨ret_bool (by simp [inB]; omega), bel1 w _⟩
  have g2' : decide (1000000 < ep) = false := decide_eq_false g2
  by_cases g3 : fa < 0
  · have g3' : decide (fa < 0) = true := decide_eq_true g3
    go_enter Try.func10, Try.ntmps10
    go_wp2
    go_ret
    exact ⟨ret_bool (by simp [inB]; omega), bel1 w _⟩
  have g3' : decide (fa < 0) = false := decide_eq_false g3
  by_cases g4 : 1000000 < fa
  · have g4' : decide (1000000 < fa) = true := decide_eq_true g4
    go_enter Try.func10, Try.ntmps10
    go_wp2
    go_ret
    exact ⟨ret_bool (by simp [inB]; omega), bel1 w _⟩
  have g4' : decide (1000000 < fa) = false := decide_eq_false g4
  have HT : Hid (true = (inB ep 1 1000000 && inB fa 0 1000000)) := by
    show true = _
    rw [show inB ep 1 1000000 = true by simp [inB]; omega, show inB fa 0 1000000 = true by simp [inB]; omega]; rfl
  go_enter Try.func10, Try.ntmps10
  go_wp2
  go_loop [30] (fun i => i = .int .i64 0) (fun _ => 0)
  case atStart => exact rfl
  case round =>
    obtain rfl := hrel
    go_wp2
    go_ret
    exact ⟨ret_bool (unhide HT), bel1 w _⟩

set_option maxRecDepth 10000 in
set_option maxHeartbeats 1000000 in
theorem ownS_nil (ep fa : Int) (a : Option Addr) (c : Nat) (w : World) :
    Calls Try.prog 15 #[.agg #[.int .i64 ep, .int .i64 fa, .slice a 0 c]] w fun e w' => ∃ a c, e = .returned (.agg #[.int .i64 ep, .int .i64 fa, .slice a 0 c]) ∧ Own w' w.heap.size a [] c ∧ Below w.heap.size w w' := by
  cases a
  all_goals
    go_enter Try.func15, Try.ntmps15
    go_wp2
    refine bodyPost_ret (v := .agg #[.int .i64 ep, .int .i64 fa, .slice (some ⟨w.heap.size + 1 + 1, 0, none⟩) 0 0]) (by simp [results, Try.results15, go_sem]) rfl ⟨some ⟨w.heap.size + 1 + 1, 0, none⟩, 0, rfl, ?_, bel3 w _ _ _⟩
    have h := fun o1 o2 => own_empty ((w.alloc o1).alloc o2) 36 2 w.heap.size (by simp; omega)
    simp only [World.size_alloc] at h
    exact h _ _
set_option maxRecDepth 10000 in
set_option maxHeartbeats 1000000 in
theorem copyI_nil (ep fa : Int) (a : Option Addr) (c : Nat) (w : World) :
    Calls Try.prog 13 #[.agg #[.int .i64 ep, .int .i64 fa, .slice a 0 c]] w fun e w' => ∃ a c, e = .returned (.agg #[.int .i64 ep, .int .i64 fa, .slice a 0 c]) ∧ Own w' w.heap.size a [] c ∧ Below w.heap.size w w' := by
  cases a
  all_goals
    go_enter Try.func13, Try.ntmps13
    go_wp2
    refine bodyPost_ret (v := .agg #[.int .i64 ep, .int .i64 fa, .slice none 0 0]) (by simp [results, Try.results13, go_sem]) rfl ⟨none, 0, rfl, World.ownsRow_nil _ _ _ _, bel2 w _ _⟩
theorem goodS_any (ep fa : Int) (a : Option Addr) (cap : Nat) (l : List D) (w : World) (hc : LAt w a l) (hl : l.length ≤ 1048576) (hcap : l.length ≤ cap) :
    Calls Try.prog 7 #[.agg #[.int .i64 ep, .int .i64 fa, .slice a l.length cap]] w fun e w' => e = .returned (.bool (glB ep fa l)) ∧ Below w.heap.size w w' := by
  by_cases hne : l = []
  · subst hne; exact goodS_nil ep fa a cap w
  · obtain ⟨b, off, rfl, hb, hcc⟩ := hc hne
    exact spec_some ep fa b off cap l w hb hcc (by unfold maxLen; omega) hcap
theorem goodI_any (ep fa : Int) (a : Option Addr) (cap : Nat) (l : List D) (w : World) (hc : LAt w a l) (hl : l.length ≤ 1048576) (hcap : l.length ≤ cap) :
    Calls Try.prog 10 #[.agg #[.int .i64 ep, .int .i64 fa, .slice a l.length cap]] w fun e w' => e = .returned (.bool (glB ep fa l)) ∧ Below w.heap.size w w' := by
  by_cases hne : l = []
  · subst hne; exact goodI_nil ep fa a cap w
  · obtain ⟨b, off, rfl, hb, hcc⟩ := hc hne
    exact impl_some ep fa b off cap l w hb hcc hl hcap
theorem ownS_any (ep fa : Int) (a : Option Addr) (cap : Nat) (l : List D) (w : World) (hc : LAt w a l) (hl : l.length ≤ 1000) :
    Calls Try.prog 15 #[.agg #[.int .i64 ep, .int .i64 fa, .slice a l.length cap]] w fun e w' => ∃ a c, e = .returned (.agg #[.int .i64 ep, .int .i64 fa, .slice a l.length c]) ∧ Own w' w.heap.size a l c ∧ Below w.heap.size w w' := by
  by_cases hne : l = []
  · subst hne; exact ownS_nil ep fa a cap w
  · obtain ⟨b, off, rfl, hb, hcc⟩ := hc hne
    exact l4Own_some ep fa b off cap l w hb hcc hl
theorem copyI_any (ep fa : Int) (a : Option Addr) (cap : Nat) (l : List D) (w : World) (hc : LAt w a l) (hl : l.length ≤ 1000) :
    Calls Try.prog 13 #[.agg #[.int .i64 ep, .int .i64 fa, .slice a l.length cap]] w fun e w' => ∃ a c, e = .returned (.agg #[.int .i64 ep, .int .i64 fa, .slice a l.length c]) ∧ Own w' w.heap.size a l c ∧ Below w.heap.size w w' := by
  by_cases hne : l = []
  · subst hne; exact copyI_nil ep fa a cap w
  · obtain ⟨b, off, rfl, hb, hcc⟩ := hc hne
    exact copyOf_some ep fa b off cap l w hb hcc hl
/-- A slice whose cells all lie above B, its spare room with them. -/
def Room (w : World) (B : Nat) (a : Option Addr) (c : Nat) : Prop :=
  (a = none ∧ c = 0) ∨ ∃ g o, a = some ⟨g, o, none⟩ ∧ B ≤ g ∧ g < w.heap.size ∧ ∀ j, j < c * 2 → (w.cell? ⟨g, o + j, none⟩).isSome = true ∧ w.frozen? ⟨g, o + j, none⟩ = false
theorem own_cells {w : World} {B g cap n : Nat} {xs : List Value} (h : w.ownsRow B 36 2 (.slice (some ⟨g, 0, none⟩) n cap) n xs) (j : Nat) (hj : j < cap * 2) : B ≤ g ∧ g < w.heap.size ∧ (w.cell? ⟨g, j, none⟩).isSome = true ∧ w.frozen? ⟨g, j, none⟩ = false := by
  rcases h.2 with ⟨hv, _⟩ | ⟨g', cap', cur, hv, hg, hh, hn, _, hsz, _⟩
  · simp at hv
  · simp only [Value.slice.injEq, Option.some.injEq, Addr.mk.injEq, and_true] at hv
    obtain ⟨rfl, _, rfl⟩ := hv
    refine ⟨hg, (Array.getElem?_eq_some_iff.1 hh).1, ?_, ?_⟩
    · have hjs : j < cur.size := by omega
      simp [World.cell?, hh, hjs]
    · simp [World.frozen?, hh]
theorem own_lt {w : World} {B g cap n : Nat} {xs : List Value} (h : w.ownsRow B 36 2 (.slice (some ⟨g, 0, none⟩) n cap) n xs) : B ≤ g ∧ g < w.heap.size := by
  rcases h.2 with ⟨hv, _⟩ | ⟨g', cap', cur, hv, hg, hh, hn, _, hsz, _⟩
  · simp at hv
  · simp only [Value.slice.injEq, Option.some.injEq, Addr.mk.injEq, and_true] at hv
    obtain ⟨rfl, _, rfl⟩ := hv
    exact ⟨hg, (Array.getElem?_eq_some_iff.1 hh).1⟩
theorem Own.room {w : World} {B : Nat} {a : Option Addr} {l : List D} {cap : Nat} (h : Own w B a l cap) : Room w B a cap := by
  have h0 := h
  rcases h.2 with ⟨hv, _⟩ | ⟨g, cap', cur, hv, _⟩
  · simp only [Value.slice.injEq] at hv
    exact .inl ⟨hv.1, hv.2.2⟩
  · simp only [Value.slice.injEq] at hv
    obtain ⟨rfl, _, rfl⟩ := hv
    have hb := own_lt h0
    exact .inr ⟨g, 0, rfl, hb.1, hb.2, fun j hj => by rw [Nat.zero_add]; exact (own_cells h0 j hj).2.2⟩
/-- What a call leaves of a lane, with its slice's room. -/
def Full (w w' : World) (a : Option Addr) (c : Nat) (l : List D) : Prop := Left w w' a l ∧ l.length ≤ c ∧ Room w' w.heap.size a c
theorem own_room {w : World} {B : Nat} {a : Option Addr} {l : List D} {cap : Nat} (h : Own w B a l cap) : l.length ≤ cap := by
  rcases h.2 with ⟨hv, h0⟩ | ⟨g', cap', cur, hv, hg, hh, hn, _⟩
  · omega
  · simp only [Value.slice.injEq] at hv
    omega
theorem Room.le {w : World} {B C : Nat} {a : Option Addr} {c : Nat} (h : Room w B a c) (hC : C ≤ B) : Room w C a c := by
  rcases h with h | ⟨g, o, h1, h2, h3⟩
  · exact .inl h
  · exact .inr ⟨g, o, h1, Nat.le_trans hC h2, h3⟩
theorem Own.full {w w' : World} {B : Nat} {a : Option Addr} {l : List D} {cap : Nat} (h : Own w' B a l cap) (hB : w.heap.size ≤ B) (hb : Below w.heap.size w w') : Full w w' a cap l := ⟨h.left hB hb, own_room h, h.room.le hB⟩
theorem full_none {w w' : World} (hb : Below w.heap.size w w') : Full w w' none 0 [] := ⟨left_none hb, by simp, .inl ⟨rfl, rfl⟩⟩
theorem full_rest {w : World} {B g cap : Nat} {l : List D} (h : Own w B (some ⟨g, 0, none⟩) l cap) (h0 : 0 < l.length) {w0 : World} (hB : w0.heap.size ≤ B) (hb : Below w0.heap.size w0 w) : Full w0 w (some (tadr g cap)) (cap - 1) (l.drop 1) := by
  refine ⟨own_rest h h0 hB hb, by have := own_room h; rw [List.length_drop]; omega, ?_⟩
  have hl := own_lt h
  have hc := own_room h
  unfold tadr
  by_cases h1 : cap = 1
  · rw [if_pos h1]
    exact .inr ⟨g, 0, rfl, Nat.le_trans hB hl.1, hl.2, fun j hj => by omega⟩
  · rw [if_neg h1]
    exact .inr ⟨g, 2, rfl, Nat.le_trans hB hl.1, hl.2, fun j hj => (own_cells h (2 + j) (by omega)).2.2⟩
theorem Full.lat {w w' : World} {a : Option Addr} {c : Nat} {l : List D} (h : Full w w' a c l) : LAt w' a l := by
  obtain ⟨⟨r, h1, _⟩, _⟩ := h
  exact ours_at h1
theorem Full.bel {w w' : World} {a : Option Addr} {c : Nat} {l : List D} (h : Full w w' a c l) : Below w.heap.size w w' := by
  obtain ⟨⟨r, _, _, hb⟩, _⟩ := h
  exact hb
def SendFull (T : Sent) (w : World) (e : Ending) (w' : World) : Prop := ∃ a c, e = .returned (.tuple #[.agg #[.int .i64 T.ep, .int .i64 T.fa, .slice a T.l.length c], .int .i64 T.code]) ∧ Full w w' a c T.l
def AnswerFull (T : Answered) (w : World) (e : Ending) (w' : World) : Prop := ∃ a c, e = .returned (.tuple #[.agg #[.int .i64 T.ep, .int .i64 T.fa, .slice a T.l.length c], .int .i64 T.id, .int .i64 T.code]) ∧ Full w w' a c T.l
end Lanes
end Go.Proofs.Ytfbfnoofapgneaa
