/-
  The program's ringOf and RingOf: the ring of good nodes, in a row of its own; nothing of others.
-/
import Derived.Test.YtpihkjpnaefacaaGreatDoorRingT
import Derived.Test.YtpihkjpnaefacaaGreatDoorNodesZ
namespace Go.Proofs.YtpihkjpnaefacaaGreatDoor
namespace Ring
open Go.RowKit Base Points NumText Marks OwnR PointsW
set_option linter.unusedVariables false

theorem rowAt_own {w : World} {base : Nat} {v : Value} {l : List D} (h : w.ownsRow base 104 2 v l.length (flat l)) (h0 : 0 < l.length) : ∃ g c, v = .slice (some ⟨g, 0, none⟩) l.length c ∧ base ≤ g ∧ l.length ≤ c ∧ RowAt w g 104 (l.length * 2) (icell l) := by
  obtain ⟨g, c, rfl, hg, hc, -⟩ := own_some h h0
  obtain ⟨r, hours, -⟩ := own_ours h
  refine ⟨g, c, rfl, hg, hc, ?_⟩
  rcases hours with ⟨h, _⟩ | ⟨g', he, _, h⟩
  · omega
  · simp at he; rw [he]; exact h

set_option maxRecDepth 10000 in
set_option maxHeartbeats 4000000 in
theorem ringOf_some (b off cap : Nat) (l : List Nodes.D) (w : World) (hb : b < w.heap.size) (hc : ∀ i, i < l.length → Nodes.At w b (off + i * 2) (l.getD i Nodes.zero)) (hg : NodesM.gnB l = true) (hv : Vars w) :
    Calls Tryz.prog 105 #[.slice (some ⟨b, off, none⟩) l.length cap] w fun e w' =>
      ∃ g c, e = .returned (.slice (some ⟨g, 0, none⟩) (points l).length c) ∧ w.heap.size ≤ g ∧ RowAt w' g 104 ((points l).length * 2) (icell (ring (points l))) ∧ Below w.heap.size w w' := by
  obtain ⟨i0, hi, hz0, hz1, hz2⟩ := info_ex
  have HI := hide hi
  have HZ0 := hide hz0
  have HZ1 := hide hz1
  have HZ2 := hide hz2
  have hcs := hide hc
  have HG := hide hg
  have HV := hide hv
  have hl8 := (good_len hg).2
  have hp1 := points_pos hg
  have hp2 := points_len hg
  clear hi hz0 hz1 hz2 hc hg hv
  go_enter Tryz.func105, Tryz.ntmps105
  go_wp2
  go_loopw [3, 8] (fun v iv wr => ∃ k : Nat, k ≤ l.length ∧ iv = .int .i64 (k : Int) ∧ Hid (wr.ownsRow w.heap.size 104 2 v (points (l.take k)).length (flat (points (l.take k)))) ∧ Hid (Below w.heap.size w wr)) (fun _ iv _ => l.length - (intOf iv).toNat)
  case atStart => exact ⟨0, Nat.zero_le _, rfl, hide (World.ownsRow_nil _ _ _ _), hide (Below.refl _ _)⟩
  case round =>
    obtain ⟨k, hk, rfl, hown, hbel⟩ := hrel
    by_cases hlt : k < l.length
    · obtain ⟨c0, c1⟩ := (unhide hcs k hlt).below (unhide hbel) hb
      have hx := good_at (unhide HG) hlt
      have hpl := points_le (unhide HG) k hk
      have hst := hide (points_take_succ l k hlt)
      have hzw := (unhide hbel).size
      generalize l.getD k Nodes.zero = x at c0 c1 hx hst
      generalize points (l.take k) = P at hown hst hpl
      obtain ⟨-, -, hw1, hw2⟩ := node_bd hx
      obtain ⟨n, hn⟩ : ∃ n : Nat, 8 * x.weight = (n : Int) := ⟨(8 * x.weight).toNat, by omega⟩
      have hn40 : n ≤ 40 := by omega
      have hcal := fun w hv => pointsOf_some x n w hx hn hv
      have hsz : Hid (ptsOf x = ptsN x.name n) := by show ptsN x.name (8 * x.weight).toNat = _; rw [hn]; rfl
      have HC := hide hcal
      clear hcal hx hn
      go_wp2_with fail
      refine (unhide HC _ ((unhide HV).below ((unhide hbel).alloc hzw _))).mono ?_
      rintro e w1 ⟨bb, rfl, hbb, hrow, hb1⟩
      simp only [World.size_alloc] at hbb hb1
      have B1 := hide (((unhide hbel).alloc hzw _).trans (hb1.mono (by omega)))
      have O1 := hide (own_below (unhide hown) ((bel1 wr _).trans (hb1.mono (by omega))) (Nat.le_refl _))
      have hz1 : wr.heap.size < w1.heap.size := by have := hb1.size; simp at this; omega
      have HNW := hide (hrow.congr (g := icell (ptsN x.name n)) (fun _ _ => rfl))
      have HFL := hide ((flat_length (ptsN x.name n)).trans (by rw [ptsN_length]))
      have HFO := hide (flat_oneCell (ptsN x.name n))
      clear hb1 hrow
      go_wp2_with (at_builtin; go_loud (refine wpList_append_own _ rfl _ _ 105 rfl w.heap.size 104 i0 _ 2 24 Tryz.underlying105 (unhide HI) (unhide HZ0) (unhide HZ1) (unhide HZ2) rfl (by decide) _ _ _ rfl (unhide O1) ⟨bb, 0, none⟩ n n (flat (ptsN x.name n)) rfl (unhide HFL) ?c1 (unhide HFO) ?c3 ?c4 ?c5 ?_))
      case c1 => exact news_row (by rw [ptsN_length]; exact unhide HNW)
      case c3 => unfold maxLen; omega
      case c4 => omega
      case c5 => omega
      intro v' w2 hown' hgrow _
      have O2 : Hid (w2.ownsRow w.heap.size 104 2 v' (points (l.take (k + 1))).length (flat (points (l.take (k + 1))))) := by
        show w2.ownsRow _ _ _ _ _ _
        rw [unhide hst, unhide hsz, flat_append, List.length_append, ptsN_length]
        exact hown'
      have B2 := hide ((unhide B1).grown hgrow (by omega) (own_block (unhide O1)))
      clear hown' hgrow
      go_wp2
      go_roundw
      case rel => exact ⟨k + 1, by omega, by go_num, O2, B2⟩
      case measure => simp [intOf]; omega
    · obtain rfl : k = l.length := by omega
      rw [List.take_length] at hown
      obtain ⟨g, c, rfl, hg0, hgc, hrow⟩ := rowAt_own (unhide hown) hp1
      have HS := hide (sorted_some g c (points l).length (points l) wr hrow rfl hp1 (by omega))
      have hzw := (unhide hbel).size
      clear hrow
      go_wp2_with fail
      refine (unhide HS).mono ?_
      rintro e w1 ⟨g1, c1, rfl, hg1, hrow1, hb1⟩
      have HR1 := hide hrow1
      have HB1 := hide ((unhide hbel).trans (hb1.mono hzw))
      clear hrow1 hb1
      go_wp2
      go_ret
      exact ⟨g1, c1, rfl, by omega, unhide HR1, unhide HB1⟩

/-- What RingOf answers of a list of nodes. -/
def ringL (l : List Nodes.D) : List D := if NodesM.gnB l then ring (points l) else []
end Ring
end Go.Proofs.YtpihkjpnaefacaaGreatDoor
