/-
  The model's cursor l1Cur: among. Only bounds of what is drawn are told.
-/
import Derived.Test.YtoinbldoioffdaaDoorCurZ
namespace Go.Proofs.YtoinbldoioffdaaDoor
namespace Cur
open Go.RowKit Base Marks
set_option linter.unusedVariables false

set_option maxHeartbeats 400000 in
theorem among_any (w0 w : World) (c : Nat) (a : Option Addr) (n cap k lb lc : Nat) (l : List Int) (z : Nat → Int) (hz : BAt w0 a n z) (hn : n ≤ 1048576) (hk : k ≤ 1000000000) (h : Cu w0 w c a n cap k) (hl : 1 ≤ l.length ∧ l.length ≤ 200) (hlb : lb < w.heap.size) (hne : lb ≠ c)
    (hc : ∀ i, i < l.length → w.cell? ⟨lb, i, none⟩ = some (.int .i64 (l.getD i 0))) :
    Calls Tryd.prog 24 #[.pointer (some ⟨c, 0, none⟩), .slice (some ⟨lb, 0, none⟩) l.length lc] w fun e w' => ∃ i : Nat, e = .returned (.int .i64 (l.getD i 0)) ∧ i < l.length ∧ Cu w0 w' c a n cap (k + 1) ∧ w.grownBy w' (some c) := by
  have HN := hide (pick_any w0 w c a n cap k l.length z hz hn hk h hl)
  have HC := hide hc
  clear hz h hc
  generalize hll : l.length = m at *
  go_enter Tryd.func24, Tryd.ntmps24
  go_wp2_with fail
  refine (unhide HN).mono ?_
  rintro e w1 ⟨x, rfl, hx, hcu, hgb⟩
  have hcx := (gb_cell hgb hlb hne x).trans (unhide HC x hx)
  have hlb1 : lb < w1.heap.size := Nat.lt_of_lt_of_le hlb hgb.size
  have HCU := hide hcu
  have HGB := hide hgb
  clear hcu hgb
  have hx0 : (x : Int) < (m : Int) := by omega
  generalize hs : l.getD x 0 = s at hcx
  have HSS := hide hs
  clear hs
  go_wp2
  go_ret
  exact ⟨x, by rw [unhide HSS]; rfl, hx, unhide HCU, unhide HGB⟩

end Cur
end Go.Proofs.YtoinbldoioffdaaDoor
