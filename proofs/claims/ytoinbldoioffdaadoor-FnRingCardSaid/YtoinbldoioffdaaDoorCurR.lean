/-
  The model's DrawSharesOf: some nodes, some keys, in bounds.
-/
import Derived.Test.YtoinbldoioffdaaDoorCurM
namespace Go.Proofs.YtoinbldoioffdaaDoor
namespace Cur
open Go.RowKit Base Marks OwnR Nodes NodesW
set_option linter.unusedVariables false

theorem Cu.newR (w : World) (t : TypeId) (a : Option Addr) (n cap : Nat) : Cu w (w.alloc (.cells #[.slice a n cap, .int .i64 0, .int .u64 0] t)) w.heap.size a n cap 0 := by
  refine ⟨⟨0, 0, ?_, ?_, ?_, Nat.le_refl _⟩, fun o => by simp, by simp, Nat.le_refl _, (Below.refl _ _).alloc (Nat.le_refl _) _⟩
  all_goals rw [World.cell?_alloc_new]; rfl
theorem nlat_gb {w w' : World} {a : Option Addr} {l : List Nodes.D} {c : Nat} (h : Nodes.LAt w a l) (hg : w.grownBy w' (some c)) (hne : ∀ b o, a = some ⟨b, o, none⟩ → b ≠ c) : Nodes.LAt w' a l := by
  intro hn
  obtain ⟨b, off, rfl, hlt, hc⟩ := h hn
  have e := hg.block b hlt (fun e => hne b off rfl (by simpa using e))
  refine ⟨b, off, rfl, Nat.lt_of_lt_of_le hlt hg.size, fun i hi => ?_⟩
  obtain ⟨c0, c1⟩ := hc i hi
  exact ⟨(World.cell?_of_block (w := w) (a := ⟨b, off + i * 2, none⟩) e).trans c0, (World.cell?_of_block (w := w) (a := ⟨b, off + i * 2 + 1, none⟩) e).trans c1⟩
/-- What is drawn. -/
def SharesDrawn (w : World) (e : Ending) (w' : World) : Prop :=
  ∃ (l : List Nodes.D) (b : Option Addr) (cb : Nat) (ts : List ByteArray) (d : Option Addr) (cd : Nat), e = .returned (.tuple #[.slice b l.length cb, .slice d ts.length cd]) ∧ (l.length ≤ 6 ∧ l.length ≤ cb) ∧ (∀ x ∈ l, x.name.size ≤ 9) ∧ Nodes.LAt w' b l ∧ ts.length ≤ 61 ∧ (∀ x ∈ ts, x.size ≤ 100) ∧ StrsAt w' d ts ∧ Below w.heap.size w w'

set_option maxRecDepth 10000 in
set_option maxHeartbeats 1000000 in
theorem drawShares_any (a : Option Addr) (n cap : Nat) (z : Nat → Int) (w : World) (hz : BAt w a n z) (hn : n ≤ 1048576) :
    Calls Tryd.prog 4 #[.slice a n cap] w (SharesDrawn w) := by
  have HN := hide (fun w' h => nodes_any w w' w.heap.size a n cap 0 z hz hn (by omega) h)
  have HK := hide (fun w' h => keys_any w w' w.heap.size a n cap 50 z hz hn (by omega) h)
  clear hz
  go_enter Tryd.func4, Tryd.ntmps4
  go_wp2_with fail
  refine (unhide HN _ (Cu.newR w _ a n cap)).mono ?_
  rintro e w1 ⟨l, b, cb, rfl, h1, h2, h3, h4, hcu, hg⟩
  rw [World.size_alloc] at h4
  have C1 := hide hcu
  have L1 := hide h3
  have N1 := hide h4
  have S1 := hide h2
  clear hcu hg h2 h3 h4
  go_wp2_with fail
  refine (unhide HK _ (unhide C1)).mono ?_
  rintro e w2 ⟨ts, d, cd, rfl, q1, q2, q3, hcu, hg⟩
  have HD : Hid (SharesDrawn w (.returned (.tuple #[.slice b l.length cb, .slice d ts.length cd])) w2) := ⟨l, b, cb, ts, d, cd, rfl, h1, unhide S1, nlat_gb (unhide L1) hg (fun g o e => by have := unhide N1 g o e; omega), q1, q2, (StrN.own_strs q3).1, hcu.bel⟩
  clear hcu hg q2 q3
  go_wp2
  go_ret2
  exact unhide HD
end Cur
end Go.Proofs.YtoinbldoioffdaaDoor
