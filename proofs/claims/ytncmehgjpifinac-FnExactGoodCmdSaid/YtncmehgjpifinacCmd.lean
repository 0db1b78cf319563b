/-
  Contracts of the law files' helpers over commands: szCmd, toCmd, eqCmd, for every command (toCmd: of at most 1048576 keys).
-/
import Derived.Test.YtncmehgjpifinacStrs
namespace Go.Proofs.Ytncmehgjpifinac
namespace CmdC
open Go.RowKit Base
set_option linter.unusedVariables false

def szC (nm : ByteArray) (ks : List ByteArray) (dt : ByteArray) (left : Int) : Int :=
  if left - nm.size < 0 then -1 else if szS ks (left - nm.size) < 0 then -1 else if szS ks (left - nm.size) - dt.size < 0 then -1 else szS ks (left - nm.size) - dt.size

theorem szC_len {nm : ByteArray} {ks : List ByteArray} {dt : ByteArray} {left : Int} (h : ¬ szC nm ks dt left < 0) : (ks.length : Int) ≤ left := by
  unfold szC at h
  split at h
  · omega
  · split at h
    · omega
    · have := (szS_len ks (left - nm.size) (by omega)).1
      omega

set_option maxHeartbeats 400000 in
theorem sz_any (nm : ByteArray) (a : Option Addr) (cap : Nat) (ks : List ByteArray) (f x n : Int) (dt : ByteArray) (q : Bool) (left : Int) (w : World) (hc : StrsAt w a ks)
    (hnm : nm.size ≤ maxLen) (hdt : dt.size ≤ maxLen) (hl : ks.length ≤ maxLen) (hs : ∀ s ∈ ks, s.size ≤ maxLen) (h0 : 0 ≤ left) (h1 : left ≤ 1048576) :
    Calls Try.prog 6 #[.agg #[.string nm, .slice a ks.length cap, .int .i64 f, .int .i64 x, .int .i64 n, .string dt, .bool q], .int .i64 left] w fun e w' =>
      e = .returned (.int .i64 (szC nm ks dt left)) ∧ Below w.heap.size w w' := by
  unfold maxLen at hnm hdt
  have hbel : ∀ o, Below w.heap.size w (w.alloc o) := fun o => (Below.refl _ _).alloc (Nat.le_refl _) o
  by_cases g1 : left - nm.size < 0
  · have H : Hid (szC nm ks dt left = -1) := by show szC nm ks dt left = -1; unfold szC; rw [if_pos g1]
    go_enter Try.func6, Try.ntmps6
    go_wp2
    go_ret
    exact ⟨ret_int (unhide H).symm, hbel _⟩
  have hz := szS_bd ks (left - nm.size) (by omega)
  have HE : Hid (szC nm ks dt left = if szS ks (left - nm.size) < 0 then -1 else if szS ks (left - nm.size) - dt.size < 0 then -1 else szS ks (left - nm.size) - dt.size) := by
    show szC nm ks dt left = _; unfold szC; rw [if_neg g1]
  have hcal := fun o => Strs.sz_any a cap ks (left - nm.size) (w.alloc o) (hc.below ((Below.refl _ _).alloc (Nat.le_refl _) o) (Nat.le_refl _)) hl hs (by omega) (by omega)
  generalize szS ks (left - nm.size) = z at hz HE hcal
  have HC := hide hcal
  clear hcal
  by_cases g2 : z < 0
  · have H : Hid (szC nm ks dt left = -1) := by show szC nm ks dt left = -1; rw [unhide HE, if_pos g2]
    go_enter Try.func6, Try.ntmps6
    go_wp2_with fail
    refine (unhide HC _).mono ?_
    rintro e w' ⟨rfl, rfl⟩
    go_wp2
    go_ret
    exact ⟨ret_int (unhide H).symm, hbel _⟩
  by_cases g3 : z - dt.size < 0
  · have H : Hid (szC nm ks dt left = -1) := by show szC nm ks dt left = -1; rw [unhide HE, if_neg g2, if_pos g3]
    go_enter Try.func6, Try.ntmps6
    go_wp2_with fail
    refine (unhide HC _).mono ?_
    rintro e w' ⟨rfl, rfl⟩
    go_wp2
    go_ret
    exact ⟨ret_int (unhide H).symm, hbel _⟩
  have H : Hid (szC nm ks dt left = z - dt.size) := by show szC nm ks dt left = z - dt.size; rw [unhide HE, if_neg g2, if_neg g3]
  go_enter Try.func6, Try.ntmps6
  go_wp2_with fail
  refine (unhide HC _).mono ?_
  rintro e w' ⟨rfl, rfl⟩
  go_wp2
  go_ret
  exact ⟨ret_int (unhide H).symm, hbel _⟩

set_option maxHeartbeats 400000 in
theorem to_any (nm : ByteArray) (a : Option Addr) (cap : Nat) (ks : List ByteArray) (f x n : Int) (dt : ByteArray) (q : Bool) (w : World) (hc : StrsAt w a ks) (hl : ks.length ≤ 1048576) :
    Calls Try.prog 8 #[.agg #[.string nm, .slice a ks.length cap, .int .i64 f, .int .i64 x, .int .i64 n, .string dt, .bool q]] w fun e w' =>
      ∃ b, e = .returned (.agg #[.string nm, .slice (some ⟨b, 0, none⟩) ks.length ks.length, .int .i64 f, .int .i64 x, .int .i64 n, .string dt, .bool q]) ∧
        w.heap.size ≤ b ∧ w'.rowIs b 9 ks.length (fun i => .string (ks.getD i ByteArray.empty)) ∧ Below w.heap.size w w' := by
  have HC := hide hc
  clear hc
  go_enter Try.func8, Try.ntmps8
  go_wp2_with fail
  refine (Strs.to_any a cap ks _ ?_ hl).mono ?_
  · refine (unhide HC).below (B := w.heap.size) ?_ (Nat.le_refl _)
    exact bel3 w _ _ _
  rintro e w1 ⟨rfl, hrow, hsz, hbel⟩
  obtain ⟨hcw, hfw⟩ := bcell hbel (Nat.le_refl _)
  have hrow3 : Hid (w1.rowIs (w.heap.size + 3) 9 ks.length (fun i => .string (ks.getD i ByteArray.empty))) := by
    simp only [World.size_alloc] at hrow; exact hrow
  have hbel3 : Hid (Below w.heap.size w w1) := (bel3 w _ _ _).trans (hbel.mono (by simp; omega))
  clear hrow hbel
  have hz : w.heap.size + 3 < w1.heap.size := by simp at hsz; omega
  clear hsz
  go_wp2
  refine bodyPost_ret (v := .agg #[.string nm, .slice (some ⟨w.heap.size + 3, 0, none⟩) ks.length ks.length, .int .i64 f, .int .i64 x, .int .i64 n, .string dt, .bool q]) (by simp [results, Try.results8, go_sem, hcw]) rfl ⟨w.heap.size + 3, rfl, by omega, ?_, ?_⟩
  · repeat (refine World.rowIs.setOther ?_ (by first | (simp; done) | (simp; omega)) _)
    exact unhide hrow3
  · repeat (refine Below.setCell ?_ (by first | (simp; done) | (simp; omega)) _)
    exact unhide hbel3

set_option maxHeartbeats 400000 in
theorem eq_same (nm : ByteArray) (a a' : Option Addr) (cap cap' : Nat) (ks : List ByteArray) (f x n : Int) (dt : ByteArray) (q : Bool) (w : World) (hc : StrsAt w a ks) (hc' : StrsAt w a' ks) (hl : ks.length ≤ maxLen) :
    Calls Try.prog 10 #[.agg #[.string nm, .slice a ks.length cap, .int .i64 f, .int .i64 x, .int .i64 n, .string dt, .bool q],
      .agg #[.string nm, .slice a' ks.length cap', .int .i64 f, .int .i64 x, .int .i64 n, .string dt, .bool q]] w fun e w' => e = .returned (.bool true) ∧ Below w.heap.size w w' := by
  have HC := hide hc
  have HC' := hide hc'
  clear hc hc'
  go_enter Try.func10, Try.ntmps10
  go_wp2_with fail
  refine (Strs.eq_any a cap ks a' cap' ks _ ?_ ?_ hl hl).mono ?_
  · exact (unhide HC).below (bel2 w _ _) (Nat.le_refl _)
  · exact (unhide HC').below (bel2 w _ _) (Nat.le_refl _)
  rintro e w1 ⟨rfl, m, rfl⟩
  rw [decide_eq_true rfl]
  go_wp2
  go_ret
  exact ⟨rfl, bel_draws (bel2 w _ _) _⟩
end CmdC
end Go.Proofs.Ytncmehgjpifinac
